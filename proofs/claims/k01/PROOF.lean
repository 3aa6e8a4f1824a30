import PyProof.Rows.All
import Wide.All
import OpenK.AllK
import Wide.FinOn
import Lean
import PyProof.EqAt
import PyProof.EqKinds
import PyProof.TupleCall
import PySem.Challenge.RW_partproof_k01_fractions
set_option Elab.async false
set_option linter.all false
set_option maxRecDepth 100000
namespace L2
open PySem PySem.Spec PyProof.Rows
abbrev Key := Sum Int Str
def keyIs : Key → Value → Bool
  | .inl k, v => Value.isInt k v
  | .inr x, v => Value.isStrOf x v
def keyH (w : World) : Key → Int
  | .inl k => hashInt k
  | .inr x => hashStr w x
theorem keyIs_shape : ∀ {k : Key} {v : Value}, keyIs k v = true → (∃ i t, k = Sum.inl i ∧ v = Value.int i t) ∨ (∃ x t, k = Sum.inr x ∧ v = Value.str x t)
  | .inl i, v, h => by
    obtain ⟨t, e⟩ := Value.isInt_shape (k := i) (v := v) h
    exact .inl ⟨i, t, rfl, e⟩
  | .inr x, v, h => by
    obtain ⟨t, e⟩ := Value.isStrOf_shape (x := x) (v := v) h
    exact .inr ⟨x, t, rfl, e⟩
theorem key_ll (a b : Int) : decide ((Sum.inl a : Key) = Sum.inl b) = (a == b) := by
  by_cases e : a = b
  · subst e; simp
  · have h : ¬ (Sum.inl a : Key) = Sum.inl b := fun q => e (Sum.inl.inj q)
    rw [decide_eq_false h]
    exact (beq_eq_false_iff_ne.mpr e).symm
theorem key_rr (a b : Str) : decide ((Sum.inr a : Key) = Sum.inr b) = decide (a = b) := by
  by_cases e : a = b
  · subst e; simp
  · have h : ¬ (Sum.inr a : Key) = Sum.inr b := fun q => e (Sum.inr.inj q)
    rw [decide_eq_false h, decide_eq_false e]
theorem key_lr (a : Int) (b : Str) : decide ((Sum.inl a : Key) = Sum.inr b) = false := decide_eq_false (fun q => nomatch q)
theorem key_rl (a : Str) (b : Int) : decide ((Sum.inr a : Key) = Sum.inl b) = false := decide_eq_false (fun q => nomatch q)
def mixKind (prog : Program) (w : World) : PySem.KeyKind prog w Key where
  is := keyIs
  hash := keyH w
  inj := fun v a b ha hb => by
    rcases keyIs_shape ha with ⟨i, t, rfl, rfl⟩ | ⟨x, t, rfl, rfl⟩
    · rcases keyIs_shape hb with ⟨j, u, rfl, e⟩ | ⟨y, u, rfl, e⟩
      · injection e with e1 _; rw [e1]
      · exact nomatch e
    · rcases keyIs_shape hb with ⟨j, u, rfl, e⟩ | ⟨y, u, rfl, e⟩
      · exact nomatch e
      · injection e with e1 _; rw [e1]
  byValue := fun k v h => by
    rcases keyIs_shape h with ⟨i, t, rfl, rfl⟩ | ⟨x, t, rfl, rfl⟩ <;> rfl
  pyHash := fun hv h => by
    rcases keyIs_shape hv with ⟨i, t, rfl, rfl⟩ | ⟨x, t, rfl, rfl⟩
    · exact wpAny_pyHash_int h
    · exact wpAny_pyHash_str h
  eqBool := fun hu hv h => by
    rcases keyIs_shape hu with ⟨i, t, rfl, rfl⟩ | ⟨x, t, rfl, rfl⟩
    · rcases keyIs_shape hv with ⟨j, u, rfl, rfl⟩ | ⟨y, u, rfl, rfl⟩
      · rw [key_ll] at h; exact wpAny_eqBool_int h
      · rw [key_lr] at h; exact SeqAt.EqAt.int_str i t y u _ _ _ _ h
    · rcases keyIs_shape hv with ⟨j, u, rfl, rfl⟩ | ⟨y, u, rfl, rfl⟩
      · rw [key_rl] at h; exact SeqAt.EqAt.str_int x t j u _ _ _ _ h
      · rw [key_rr] at h; exact wpAny_eqBool_str h
  «strs» := fun k x t v h => by
    rcases keyIs_shape h with ⟨i, u, rfl, e⟩ | ⟨y, u, rfl, e⟩
    · exact nomatch e
    · injection e with e1 _
      subst e1
      cases v <;> rfl
end L2
namespace L2
open PySem PySem.Spec PyProof.Rows
inductive V where
  | non | bl (b : Bool) | int (i : Int) | str (x : Str) | byt (b : Array UInt8) | flt (b : UInt64) | ref (a : Addr) | ty (n : String)
  deriving DecidableEq
def RelV : V → Value → Prop
  | .non, u => u = Value.none
  | .bl b, u => u = Value.bool b
  | .int i, u => ∃ t, u = Value.int i t
  | .str x, u => ∃ t, u = Value.str x t
  | .byt b, u => ∃ t, u = Value.bytes b t
  | .flt b, u => ∃ t, u = Value.float b t
  | .ref a, u => u = Value.ref a
  | .ty n, u => u = Value.type n
abbrev Vals : List V → List Value → Prop := Paired RelV
theorem Vals.length {xs : List V} {us : List Value} (r : Vals xs us) : xs.length = us.length := Paired.length r
theorem Vals.get : ∀ {xs : List V} {us : List Value} {i : Nat} {x : V}, Vals xs us → xs[i]? = some x → ∃ u, us[i]? = some u ∧ RelV x u
  | _, _, _, _, .nil, e => by simp at e
  | _, _, 0, _, .cons r _, e => by simp at e; subst e; exact ⟨_, rfl, r⟩
  | _, _, i + 1, x, .cons _ t, e => by
    obtain ⟨u, h1, h2⟩ := Vals.get (i := i) (x := x) t (by simpa using e)
    exact ⟨u, by simpa using h1, h2⟩
theorem Vals.set {x : V} {u : Value} (r : RelV x u) : ∀ {xs : List V} {us : List Value} (i : Nat), Vals xs us → Vals (xs.set i x) (us.set i u)
  | _, _, _, .nil => .nil
  | _, _, 0, .cons _ t => .cons r t
  | _, _, i + 1, .cons q t => .cons q (Vals.set r i t)
theorem Vals.append : ∀ {xs ys : List V} {us ws : List Value}, Vals xs us → Vals ys ws → Vals (xs ++ ys) (us ++ ws)
  | _, _, _, _, .nil, s => s
  | _, _, _, _, .cons r t, s => .cons r (Vals.append t s)
theorem Vals.take : ∀ {xs : List V} {us : List Value} (n : Nat), Vals xs us → Vals (xs.take n) (us.take n)
  | _, _, 0, _ => .nil
  | _, _, _ + 1, .nil => .nil
  | _, _, n + 1, .cons r t => .cons r (Vals.take n t)
theorem Vals.drop : ∀ {xs : List V} {us : List Value} (n : Nat), Vals xs us → Vals (xs.drop n) (us.drop n)
  | _, _, 0, r => r
  | _, _, _ + 1, .nil => .nil
  | _, _, n + 1, .cons _ t => Vals.drop n t
def RelO : Option V → Option Value → Prop
  | some v, some u => RelV v u
  | none, none => True
  | _, _ => False
def KV {κ : Type} : List (κ × V) → List (κ × Value) → Prop := Paired fun (p : κ × V) (q : κ × Value) => p.1 = q.1 ∧ RelV p.2 q.2
def kV : Key → V
  | .inl i => .int i
  | .inr x => .str x
inductive HO where
  | lst (xs : List V)
  | tup (xs : List V)
  | dK (kvs : List (Key × V)) | dT (kvs : List (List Key × V))
  | set (S : Int → Bool) (n : Nat)
  | ins (C dx : Addr) (fs : List (Str × V))
  | own (x : Addr)
  | xd (fs : List (Str × V))
  | met (f x : Addr)
  | rng (lo hi : Int)
  | frz (o : Obj) (u : HO)
  | tbl (ps : Array Value)
  | ext (φ : Heap → Prop)
abbrev Hp := Addr → Option HO
def upd (H : Hp) (a : Addr) (o : HO) : Hp := fun b => if b = a then some o else H b
theorem upd_same {H : Hp} {a : Addr} {o : HO} : upd H a o a = some o := by unfold upd; rw [if_pos rfl]
theorem upd_ne {H : Hp} {a b : Addr} {o : HO} (h : b ≠ a) : upd H a o b = H b := by unfold upd; rw [if_neg h]
theorem ne_of {H : Hp} {a b : Addr} {o u : HO} (h : H a = some o) (h' : H b = some u) (d : o ≠ u) : a ≠ b := by
  intro e; subst e; rw [h] at h'; exact d (Option.some.inj h')
theorem ne_of_none {H : Hp} {a b : Addr} {o : HO} (h : H a = some o) (h' : H b = none) : a ≠ b := by
  intro e; subst e; rw [h] at h'; cases h'
section
variable (P : Program) (w : World)
def ObjOk (H : Hp) (h : Heap) (a : Addr) : HO → Prop
  | .lst xs => xs.length ≤ sizeLine ∧ ∃ (its : List Value) (n : Nat), Vals xs its ∧ h.get? a = some { cls := .type "list", data := .seq its.toArray n }
  | .tup xs => xs.length ≤ sizeLine ∧ ∃ its : List Value, Vals xs its ∧ IsTup h a its.toArray
  | .dK kvs => kvs.length ≤ sizeLine ∧ (a == sysModules) = false ∧ ∃ vs, KV kvs vs ∧ h.DictOf (mixKind P w) a vs
  | .dT kvs => kvs.length ≤ sizeLine ∧ (a == sysModules) = false ∧ ∃ xs : List (List Key × Addr × Value),
      Paired (fun (p : List Key × V) (q : List Key × Addr × Value) => p.1 = q.1 ∧ H q.2.1 = some (.tup (p.1.map kV)) ∧ RelV p.2 q.2.2) kvs xs ∧
      ∃ o es ep, h.get? a = some o ∧ o.ExactDict ∧ o.data = .dict es ep ∧ es.toList = xs.map (entryOfKey (tupleKind (mixKind P w))) ∧ (xs.map (·.1)).Nodup
  | .set S n => h.SetOf (intKind P w) a S n
  | .ins C dx fs => H dx = some (.own a) ∧ fs.length ≤ 1000 ∧ dx ≠ a ∧ h.get? a = some (PySem.W.instObj C dx) ∧
      ∃ mA, h.Ns1 dx mA ∧ (∀ f, RelO (fs.lookup f) (mA f)) ∧ PySem.Within mA (fs.map (·.1))
  | .own _ => ∃ o, h.get? a = some o
  | .xd fs => ∃ mA, h.Ns1 a mA ∧ ∀ f, RelO (fs.lookup f) (mA f)
  | .rng lo hi => ∃ t u v, h.get? a = some { cls := .type "range", data := .fields #[.int lo t, .int hi u, .int 1 v] }
  | .frz o u => h.get? a = some o ∧ ObjOk H h a u
  | .tbl ps => h.get? a = some { cls := .none, data := .fields ps }
  | .met f x => h.get? a = some (PySem.W.methodObj (.ref f) (.ref x))
  | .ext φ => φ h ∧ (∃ o, h.get? a = some o) ∧ ∀ h1 h2 : Heap, φ h1 → (∀ o, h1.get? a = some o → h2.get? a = some o) → φ h2
def HOk (H : Hp) (h : Heap) : Prop := ∀ a o, H a = some o → ObjOk P w H h a o
end
section
variable {P : Program} {w : World} {H H' : Hp} {h h' : Heap} {a : Addr} {o : HO}
theorem ObjOk.lt (x : ObjOk P w H h a o) : a < h.objs.size := by
  cases o with
  | lst xs => obtain ⟨_, _, _, _, e⟩ := x; exact Heap.lt_size e
  | tup xs => obtain ⟨_, _, _, p⟩ := x; exact p.lt
  | dK kvs => obtain ⟨_, _, _, _, o, _, _, e, _⟩ := x; exact Heap.lt_size e
  | dT kvs => obtain ⟨_, _, _, _, o, _, _, e, _⟩ := x; exact Heap.lt_size e
  | set S n => obtain ⟨o, _, _, _, e, _⟩ := x; exact Heap.lt_size e
  | ins C dx fs => obtain ⟨_, _, _, e, _⟩ := x; exact Heap.lt_size e
  | own y => obtain ⟨_, e⟩ := x; exact Heap.lt_size e
  | xd fs => obtain ⟨_, ⟨_, _, _, e, _⟩, _⟩ := x; exact Heap.lt_size e
  | rng lo hi => obtain ⟨_, _, _, e⟩ := x; exact Heap.lt_size e
  | frz ob u => obtain ⟨e, _⟩ := x; exact Heap.lt_size e
  | tbl ps => exact Heap.lt_size (show h.get? a = some _ from x)
  | met f y => exact Heap.lt_size (show h.get? a = some _ from x)
  | ext φ => obtain ⟨_, ⟨_, e⟩, _⟩ := x; exact Heap.lt_size e
theorem Paired.mapP {α β : Type} {F G : α → β → Prop} : ∀ {l₁ : List α} {l₂ : List β}, Paired F l₁ l₂ → (∀ a b, F a b → G a b) → Paired G l₁ l₂
  | _, _, .nil, _ => .nil
  | _, _, .cons r t, f => .cons (f _ _ r) (Paired.mapP t f)
theorem ObjOk.stay (x : ObjOk P w H h a o) (k : ∀ b u, (b = a ∨ H b = some (.own a)) → h.get? b = some u → h'.get? b = some u)
    (ho : ∀ b, H b = some (.own a) → H' b = some (.own a)) (ht : ∀ b xs, H b = some (.tup xs) → H' b = some (.tup xs)) : ObjOk P w H' h' a o := by
  induction o with
  | lst xs => obtain ⟨z, its, n, r, e⟩ := x; exact ⟨z, its, n, r, k _ _ (.inl rfl) e⟩
  | tup xs => obtain ⟨z, its, r, ob, e, c⟩ := x; exact ⟨z, its, r, ob, k _ _ (.inl rfl) e, c⟩
  | dK kvs => obtain ⟨z, y, vs, r, ob, es, ep, e, c⟩ := x; exact ⟨z, y, vs, r, ob, es, ep, k _ _ (.inl rfl) e, c⟩
  | dT kvs =>
    obtain ⟨z, y, xs, r, ob, es, ep, e, c⟩ := x
    exact ⟨z, y, xs, Paired.mapP r fun p q z => ⟨z.1, ht _ _ z.2.1, z.2.2⟩, ob, es, ep, k _ _ (.inl rfl) e, c⟩
  | set S n => obtain ⟨ob, es, ep, t, e, c⟩ := x; exact ⟨ob, es, ep, t, k _ _ (.inl rfl) e, c⟩
  | ins C dx fs =>
    obtain ⟨d, z, ne, e, mA, ⟨od, es, ep, e2, c⟩, r⟩ := x
    exact ⟨ho _ d, z, ne, k _ _ (.inl rfl) e, mA, ⟨od, es, ep, k _ _ (.inr d) e2, c⟩, r⟩
  | own y => obtain ⟨ob, e⟩ := x; exact ⟨ob, k _ _ (.inl rfl) e⟩
  | xd fs => obtain ⟨mA, ⟨od, es, ep, e, c⟩, r⟩ := x; exact ⟨mA, ⟨od, es, ep, k _ _ (.inl rfl) e, c⟩, r⟩
  | rng lo hi => obtain ⟨t, u, v, e⟩ := x; exact ⟨t, u, v, k _ _ (.inl rfl) e⟩
  | frz ob u ih => obtain ⟨e, q⟩ := x; exact ⟨k _ _ (.inl rfl) e, ih q⟩
  | tbl ps =>
    have e : h.get? a = some { cls := .none, data := .fields ps } := x
    show h'.get? a = some { cls := .none, data := .fields ps }
    exact k a _ (.inl rfl) e
  | met f y =>
    have e : h.get? a = some (PySem.W.methodObj (.ref f) (.ref y)) := x
    show h'.get? a = some (PySem.W.methodObj (.ref f) (.ref y))
    exact k a _ (.inl rfl) e
  | ext φ => obtain ⟨p, ⟨o, e⟩, st⟩ := x; exact ⟨st _ _ p fun o q => k _ _ (.inl rfl) q, ⟨o, k _ _ (.inl rfl) e⟩, st⟩
theorem HOk.lt (x : HOk P w H h) (e : H a = some o) : a < h.objs.size := (x a o e).lt
theorem HOk.fresh (x : HOk P w H h) (e : h.objs.size ≤ a) : H a = none := by
  cases q : H a with
  | none => rfl
  | some u => exact absurd (Nat.lt_of_lt_of_le (x.lt q) e) (Nat.lt_irrefl _)
theorem HOk.kept (x : HOk P w H h) (k : ∀ b u, h.get? b = some u → h'.get? b = some u) : HOk P w H h' := fun a o e =>
  (x a o e).stay (fun b u _ q => k b u q) (fun _ q => q) fun _ _ q => q
theorem HOk.laid (x : HOk P w H h) (k : ∀ b u, h.get? b = some u → h'.get? b = some u) (hp : h.objs.size ≤ a) (new : ObjOk P w (upd H a o) h' a o) : HOk P w (upd H a o) h' := fun b u e => by
  have hn := x.fresh hp
  by_cases hb : b = a
  · subst hb; rw [upd_same] at e; cases e; exact new
  · rw [upd_ne hb] at e
    exact (x b u e).stay (fun c v _ q => k c v q) (fun c q => by rw [upd_ne (ne_of_none q hn)]; exact q) fun c xs q => by rw [upd_ne (ne_of_none q hn)]; exact q
end
def Rd (H : Hp) (a : Addr) (u : HO) : Prop := H a = some u ∨ ∃ o, H a = some (.frz o u)
theorem Rd.of {H : Hp} {a : Addr} {u : HO} (h : H a = some u) : Rd H a u := .inl h
theorem Rd.ok {P : Program} {w : World} {H : Hp} {h : Heap} {a : Addr} {u : HO} (r : Rd H a u) (x : HOk P w H h) : ObjOk P w H h a u := by
  rcases r with r | ⟨o, r⟩
  · exact x a u r
  · obtain ⟨_, q⟩ := x a _ r
    exact q
def Mut : Option HO → Prop
  | some (.lst _) => True
  | some (.dK _) => True
  | some (.dT _) => True
  | some (.set _ _) => True
  | some (.ins _ _ _) => True
  | some (.ext _) => True
  | _ => False
section
variable {P : Program} {w : World} {H : Hp} {h h' : Heap} {x e : Addr} {o' : HO}
theorem HOk.write (ok : HOk P w H h) (mu : Mut (H x)) (he : e = x ∨ H e = some (.own x)) (k : ∀ b u, b ≠ e → h.get? b = some u → h'.get? b = some u) (heo : ∃ u, h'.get? e = some u)
    (new : ObjOk P w (upd H x o') h' x o') : HOk P w (upd H x o') h' := fun b u q => by
  have nown : ∀ c y, H c = some (.own y) → c ≠ x := fun c y r z => by subst z; rw [r] at mu; exact mu
  have ntup : ∀ c xs, H c = some (.tup xs) → c ≠ x := fun c xs r z => by subst z; rw [r] at mu; exact mu
  by_cases hb : b = x
  · subst hb; rw [upd_same] at q; cases q; exact new
  · rw [upd_ne hb] at q
    by_cases hbe : b = e
    · have q' : H b = some (.own x) := by
        rcases he with z | z
        · exact absurd (hbe.trans z) hb
        · rw [hbe]; exact z
      rw [q] at q'; cases q'
      obtain ⟨v, hv⟩ := heo
      exact ⟨v, by rw [hbe]; exact hv⟩
    · refine (ok b u q).stay (fun c v hc r => k c v ?_ r) (fun c r => by rw [upd_ne (nown c b r)]; exact r) fun c xs r => by rw [upd_ne (ntup c xs r)]; exact r
      rcases hc with rfl | hc
      · exact hbe
      · rintro rfl
        rcases he with z | z
        · exact nown c b hc z
        · rw [hc] at z; cases z; exact hb rfl
end
structure Un (fs ex : List Addr) (H H' : Hp) (h h' : Heap) : Prop where
  keep : ∀ b o, h.get? b = some o → H b = none → b ∉ fs → b ∉ ex → h'.get? b = some o
  slot : ∀ b o, h.get? b = some o → H b = none → b ∈ fs → b ∉ ex → ∃ sl, h'.get? b = some { o with slots := sl }
  free : ∀ b o, h.get? b = some o → H b = none → b ∉ ex → H' b = none
  there : ∀ b o, h.get? b = some o → b ∉ ex → ∃ o', h'.get? b = some o'
  tups : ∀ b xs, H b = some (.tup xs) → H' b = some (.tup xs)
  frzs : ∀ b o u, H b = some (.frz o u) → H' b = some (.frz o u)
  tbls : ∀ b ps, H b = some (.tbl ps) → ∃ more, H' b = some (.tbl (ps ++ more))
section
variable {fs fs' ex ex' : List Addr} {H H1 H2 : Hp} {h h1 h2 h' : Heap} {a x e : Addr} {o : HO}
theorem Un.any (u : Un fs ex H H1 h h1) {b : Addr} {ob : Obj} (q : h.get? b = some ob) (n : H b = none) (hx : b ∉ ex) : ∃ sl, h1.get? b = some { ob with slots := sl } := by
  by_cases hb : b ∈ fs
  · exact u.slot b ob q n hb hx
  · exact ⟨ob.slots, u.keep b ob q n hb hx⟩
theorem Un.trans (a : Un fs ex H H1 h h1) (b : Un fs ex H1 H2 h1 h2) : Un fs ex H H2 h h2 where
  keep := fun c ob q n hc hx => b.keep c ob (a.keep c ob q n hc hx) (a.free c ob q n hx) hc hx
  slot := fun c ob q n hc hx => by
    obtain ⟨sl, e1⟩ := a.slot c ob q n hc hx
    obtain ⟨sl', e2⟩ := b.slot c _ e1 (a.free c ob q n hx) hc hx
    exact ⟨sl', e2⟩
  free := fun c ob q n hx => by
    obtain ⟨o', e1⟩ := a.there c ob q hx
    exact b.free c o' e1 (a.free c ob q n hx) hx
  there := fun c ob q hx => by
    obtain ⟨o', e1⟩ := a.there c ob q hx
    exact b.there c o' e1 hx
  tups := fun c xs q => b.tups c xs (a.tups c xs q)
  frzs := fun c ob xs q => b.frzs c ob xs (a.frzs c ob xs q)
  tbls := fun c ps q => by
    obtain ⟨m1, e1⟩ := a.tbls c ps q
    obtain ⟨m2, e2⟩ := b.tbls c _ e1
    exact ⟨m1 ++ m2, by rw [e2, Array.append_assoc]⟩
theorem Un.kept (k : ∀ b u, h.get? b = some u → h'.get? b = some u) : Un fs ex H H h h' :=
  ⟨fun b ob q _ _ _ => k b ob q, fun b ob q _ _ _ => ⟨ob.slots, k b ob q⟩, fun _ _ _ n _ => n, fun b ob q _ => ⟨ob, k b ob q⟩, fun _ _ q => q, fun _ _ _ q => q, fun _ ps q => ⟨#[], by rw [q]; simp⟩⟩
theorem Un.refl : Un fs ex H H h h := Un.kept fun _ _ q => q
theorem Un.laid (k : ∀ b u, h.get? b = some u → h'.get? b = some u) (hp : h.objs.size ≤ a) (hn : H a = none) : Un fs ex H (upd H a o) h h' where
  keep := fun b u q _ _ _ => k b u q
  slot := fun b u q _ _ _ => ⟨u.slots, k b u q⟩
  free := fun b u q n _ => by rw [upd_ne (Nat.ne_of_lt (Nat.lt_of_lt_of_le (Heap.lt_size q) hp))]; exact n
  there := fun b u q _ => ⟨u, k b u q⟩
  tups := fun b xs q => by rw [upd_ne (ne_of_none q hn)]; exact q
  frzs := fun b u xs q => by rw [upd_ne (ne_of_none q hn)]; exact q
  tbls := fun b ps q => ⟨#[], by rw [upd_ne (ne_of_none q hn), q]; simp⟩
theorem Un.write (mu : Mut (H x)) (he : e = x ∨ H e = some (.own x)) (k : ∀ b u, b ≠ e → h.get? b = some u → h'.get? b = some u) (heo : ∃ u, h'.get? e = some u) : Un fs ex H (upd H x o) h h' := by
  have hx : ∀ b, H b = none → b ≠ x := fun b n z => by subst z; rw [n] at mu; exact mu
  have hb : ∀ b, H b = none → b ≠ e := fun b n z => by
    subst z
    rcases he with r | r
    · exact hx b n r
    · rw [n] at r; cases r
  have hm : ∀ b u, H b = some u → ¬ Mut (some u) → b ≠ x := fun b u q nm z => by subst z; rw [q] at mu; exact nm mu
  refine ⟨fun b u q n _ _ => k b u (hb b n) q, fun b u q n _ _ => ⟨u.slots, k b u (hb b n) q⟩, fun b u q n _ => by rw [upd_ne (hx b n)]; exact n, fun b u q _ => ?_,
    fun b xs q => by rw [upd_ne (hm b _ q fun z => z)]; exact q, fun b u xs q => by rw [upd_ne (hm b _ q fun z => z)]; exact q, fun b ps q => ⟨#[], by rw [upd_ne (hm b _ q fun z => z), q]; simp⟩⟩
  by_cases hbe : b = e
  · subst hbe; exact heo
  · exact ⟨u, k b u hbe q⟩
theorem Un.mono (u : Un fs ex H H1 h h1) (hs : ∀ b ∈ fs, b ∈ fs') (hx : ∀ b ∈ ex, b ∈ ex') : Un fs' ex' H H1 h h1 :=
  ⟨fun b ob q n hb he => u.keep b ob q n (fun z => hb (hs b z)) fun z => he (hx b z), fun _ _ q n _ he => u.any q n fun z => he (hx _ z), fun b ob q n he => u.free b ob q n fun z => he (hx b z), fun b ob q he => u.there b ob q fun z => he (hx b z), u.tups, u.frzs, u.tbls⟩
end
def trk (h : Heap) (H : Hp) : List Addr := (List.range h.objs.size).filter fun a => (H a).isSome
def hidT (h : Heap) (H : Hp) : Heap := PySem.W.hideAll h (trk h H)
theorem hidT_size (h : Heap) (H : Hp) : (hidT h H).objs.size = h.objs.size := PySem.W.hideAll_size _ _
theorem hidT_get {h : Heap} {H : Hp} {b : Addr} {o : Obj} (e : h.get? b = some o) (n : H b = none) : (hidT h H).get? b = some o :=
  PySem.W.hideAll_get _ e fun hm => by
    have q : (H b).isSome = true := (List.mem_filter.mp hm).2
    rw [n] at q; simp at q
theorem of_hidT {h : Heap} {H : Hp} {b : Addr} {o : Obj} (e : (hidT h H).get? b = some o) : h.get? b = some o ∧ H b = none := by
  have e' : h.get? b = some o := PySem.W.of_hideAll (trk h H) e
  refine ⟨e', ?_⟩
  cases q : H b with
  | none => rfl
  | some x =>
    have hm : b ∈ trk h H := List.mem_filter.mpr ⟨List.mem_range.mpr (Heap.lt_size e'), by simp [q]⟩
    have z : (hidT h H).get? b = none := PySem.W.hideAll_none (trk h H) hm
    rw [z] at e; cases e
def allNews (g h : Heap) (L : Addr) : List (Addr × Obj) := (List.range h.objs.size).filterMap fun a => if a = L ∨ (g.get? a).isSome = true then none else (h.get? a).map fun o => (a, o)
def rest (g h : Heap) (L d : Addr) : List (Addr × Obj) := (allNews g h L).filter fun p => decide (p.1 ≠ d)
end L2
namespace L2
open PySem PySem.Spec PyProof.Rows
structure Mod (K : PySem.W.Frag) (mg : Str → Option Value) (base : Heap) : Prop where
  kin : K.In base
  glob : base.Ns mainGlobals mg
  blt : ∃ mb, base.Ns builtinsNs mb ∧ ∀ x : Str, x ≠ "__name__" → mb x = bootBuiltins x
  nolimit : base.NoLimit
structure Cx where
  prog : Program
  w : World
  K : PySem.W.Frag
  mg : Str → Option Value
  base : Heap
  A : Around
  N : List Str
  s₀ : Shared
  H₀ : Hp
  env : Env
  outer : List Env
  stack : List Env
  ex : List Addr
  fn : Str → Bool
  calm : Bool
  pn : List (Addr × Obj)
  xe : Value → Shared → Prop
def frs (l : List Env) : List Addr := l.filterMap (·.frame)
abbrev Cx.fs (X : Cx) : List Addr := frs X.outer
def Vis (sc : Scope) (x : Str) : Prop := sc.names.lookup x = some .local ∨ sc.names.lookup x = some .cell ∨ sc.names.lookup x = some .free
def Loc (sc : Scope) (x : Str) : Prop := sc.names.lookup x = some .local ∨ sc.names.lookup x = some .cell
def Look (env : Env) (h : Heap) (m : Str → Option Value) (x : Str) (u : Value) : Prop :=
  (env.kindOf x = some .local ∧ m x = some u) ∨ ((env.kindOf x = some .cell ∨ env.kindOf x = some .free) ∧ ∃ c, env.cells.lookup x = some c ∧ h.IsCell c (some u))
structure Cx.Ok (X : Cx) : Prop where
  mod : Mod X.K X.mg X.base
  kind : X.env.scope.kind = .function
  glob : X.env.globals = mainGlobals
  blt : X.env.builtins = builtinsNs
  above : X.s₀.heap.objs.size ≤ X.env.locals
  inj : ∀ x y c, X.env.cells.lookup x = some c → X.env.cells.lookup y = some c → x = y
  has : ∀ x, (X.env.kindOf x = some .cell ∨ X.env.kindOf x = some .free) → ∃ c, X.env.cells.lookup x = some c
  cab : ∀ x c, X.fn x = true → X.env.cells.lookup x = some c → X.s₀.heap.objs.size ≤ c
  hd : X.calm = true → X.A.handled = none
  frames : X.A.frames = some X.stack
  stk : X.stack = X.outer ∨ (X.stack = X.env :: X.outer ∧ X.env.frame = some X.env.locals)
  exf : ∀ b ∈ X.ex, b ≠ X.env.locals ∧ ∀ x c, X.env.cells.lookup x = some c → c ≠ b
  bs : ∀ b o, X.base.get? b = some o → X.s₀.heap.get? b = some o ∧ X.H₀ b = none
  bsz : X.base.objs.size ≤ X.s₀.heap.objs.size
  noex : ∀ b o, X.base.get? b = some o → b ∉ X.ex
  exfs : ∀ b ∈ X.ex, b ∉ X.fs
  funs : X.s₀.heap.FunFrames X.base X.outer
  frf : ∀ b ∈ X.fs, X.H₀ b = none
structure Inv (X : Cx) (pins : List (Addr × Obj)) (σ : List (Option V)) (H : Hp) (s : Shared) : Prop where
  ok : X.Ok
  os : s.os = X.s₀.os
  bare : AllBare s.gens
  base : Un X.fs X.ex X.H₀ H X.s₀.heap s.heap
  loc : ∃ m, s.heap.Ns X.env.locals m ∧ ∀ (i : Nat) (x : Str) (v : V), X.N[i]? = some x → σ[i]? = some (some v) → Vis X.env.scope x → ∃ u, RelV v u ∧ Look X.env s.heap m x u
  cell : ∀ x c, X.env.cells.lookup x = some c → ∃ v, s.heap.IsCell c v
  free : H X.env.locals = none
  freeC : ∀ x c, X.env.cells.lookup x = some c → H c = none
  pin : ∀ p ∈ X.pn ++ pins, s.heap.get? p.1 = some p.2 ∧ H p.1 = none ∧ p.1 ≠ X.env.locals ∧ p.1 ∉ X.fs ∧ ∀ v, p.2.data ≠ .cell v
  hok : HOk X.prog X.w H s.heap
  len : σ.length = X.N.length
section
variable {X : Cx} {pins : List (Addr × Obj)} {σ : List (Option V)} {H H' : Hp} {s : Shared} {h' : Heap}
theorem Cx.Ok.nofr (ok : X.Ok) {b : Addr} {o : Obj} (e : X.base.get? b = some o) : b ∉ X.fs := fun hb => by
  have := (ok.funs.mem hb).1
  rw [e] at this; cases this
theorem Inv.bs (I : Inv X pins σ H s) : ∀ b o, X.base.get? b = some o → s.heap.get? b = some o ∧ H b = none := fun b o e =>
  ⟨I.base.keep b o (I.ok.bs b o e).1 (I.ok.bs b o e).2 (I.ok.nofr e) (I.ok.noex b o e), I.base.free b o (I.ok.bs b o e).1 (I.ok.bs b o e).2 (I.ok.noex b o e)⟩
theorem Inv.bk (I : Inv X pins σ H s) : ∀ b o, X.base.get? b = some o → s.heap.get? b = some o := fun b o e => (I.bs b o e).1
theorem Inv.mod (I : Inv X pins σ H s) : Mod X.K X.mg X.base := I.ok.mod
theorem Inv.kIn (I : Inv X pins σ H s) : X.K.In s.heap := I.ok.mod.kin.keeps I.bk
theorem Inv.nolimit (I : Inv X pins σ H s) : s.heap.NoLimit := I.ok.mod.nolimit.keeps I.bk
theorem Inv.fr (I : Inv X pins σ H s) : ∃ m, Fr X.base X.env.locals s.heap m :=
  let ⟨m, hn, _⟩ := I.loc
  ⟨m, hn, I.bk, Nat.le_trans I.ok.bsz I.ok.above⟩
theorem Inv.lt (I : Inv X pins σ H s) : X.env.locals < s.heap.objs.size := let ⟨_, hn, _⟩ := I.loc; hn.lt
theorem Inv.sz (I : Inv X pins σ H s) : X.s₀.heap.objs.size ≤ s.heap.objs.size := Nat.le_trans I.ok.above (Nat.le_of_lt I.lt)
theorem Inv.nofs (I : Inv X pins σ H s) {a : Addr} (h : s.heap.objs.size ≤ a) : a ∉ X.fs := fun hb => by
  obtain ⟨_, o, ho, _⟩ := I.ok.funs.mem hb
  exact absurd (Nat.lt_of_lt_of_le (Heap.lt_size ho) (Nat.le_trans I.sz h)) (Nat.lt_irrefl _)
theorem Inv.cne (I : Inv X pins σ H s) : ∀ x c, X.env.cells.lookup x = some c → c ≠ X.env.locals := fun x c e z => by
  obtain ⟨v, o, ho, hd⟩ := I.cell x c e
  obtain ⟨m, ⟨o', es, ep, ho', hd', _⟩, _⟩ := I.loc
  rw [z, ho'] at ho; cases ho; rw [hd'] at hd; cases hd
theorem Inv.funs (I : Inv X pins σ H s) : s.heap.FunFrames X.base X.outer := by
  have all : ∀ (l : List Env), (∀ b ∈ frs l, b ∈ X.fs) → X.s₀.heap.FunFrames X.base l → s.heap.FunFrames X.base l := by
    intro l
    induction l with
    | nil => intro _ _; trivial
    | cons env r ih =>
      intro hs hl
      obtain ⟨hk, ⟨L, o, hf, hn, ho, hd⟩, hr⟩ := hl
      have hL : L ∈ X.fs := hs L (by unfold frs; rw [List.filterMap_cons, hf]; exact List.mem_cons_self)
      obtain ⟨sl, e⟩ := I.base.slot L o ho (I.ok.frf L hL) hL fun z => I.ok.exfs L z hL
      exact ⟨hk, ⟨L, _, hf, hn, e, hd⟩, ih (fun b hb => hs b (by unfold frs; rw [List.filterMap_cons, hf]; exact List.mem_cons_of_mem _ hb)) hr⟩
  exact all X.outer (fun _ hb => hb) I.ok.funs
theorem Inv.stack (I : Inv X pins σ H s) : s.heap.FunFrames X.base X.stack := by
  rcases I.ok.stk with e | ⟨e, hf⟩
  · rw [e]; exact I.funs
  · rw [e]
    obtain ⟨m, hn, _⟩ := I.loc
    refine .cons (by rw [I.ok.kind]; decide) hf hn ?_ I.funs
    exact Heap.get?_none_of_le (Nat.le_trans I.ok.bsz I.ok.above)
theorem Inv.stkSub (I : Inv X pins σ H s) : ∀ b ∈ frs X.stack, b ∈ X.env.locals :: X.fs := fun b hb => by
  rcases I.ok.stk with e | ⟨e, hf⟩
  · rw [e] at hb; exact List.mem_cons_of_mem _ hb
  · rw [e] at hb
    unfold frs at hb
    rw [List.filterMap_cons, hf] at hb
    exact hb
theorem Inv.stkFree (I : Inv X pins σ H s) : ∀ b ∈ frs X.stack, H b = none := fun b hb => by
  rcases List.mem_cons.mp (I.stkSub b hb) with e | hb
  · rw [e]; exact I.free
  · obtain ⟨_, o, ho, _⟩ := I.ok.funs.mem hb
    exact I.base.free b o ho (I.ok.frf b hb) fun z => I.ok.exfs b z hb
theorem Inv.step {g' : Array GenState} {t' : Nat} {d' : Drawn} {ch : List Addr} (I : Inv X pins σ H s)
    (hch : ∀ b ∈ ch, (b ∈ X.ex ∨ X.s₀.heap.objs.size ≤ b) ∧ b ≠ X.env.locals ∧ (∀ x c, X.env.cells.lookup x = some c → c ≠ b) ∧ ∀ p ∈ X.pn ++ pins, p.1 ≠ b)
    (keep : ∀ b o, b ≠ X.env.locals → b ∉ X.fs → b ∉ ch → s.heap.get? b = some o → H b = none → h'.get? b = some o)
    (slot : ∀ b o, b ≠ X.env.locals → b ∈ X.fs → b ∉ ch → s.heap.get? b = some o → H b = none → ∃ sl, h'.get? b = some { o with slots := sl }) (free : ∀ b o, b ∉ ch → s.heap.get? b = some o → H b = none → H' b = none)
    (there : ∀ b o, b ∉ ch → s.heap.get? b = some o → ∃ o', h'.get? b = some o')
    (tups : ∀ b xs, H b = some (.tup xs) → H' b = some (.tup xs)) (frzs : ∀ b o u, H b = some (.frz o u) → H' b = some (.frz o u)) (tbls : ∀ b ps, H b = some (.tbl ps) → ∃ more, H' b = some (.tbl (ps ++ more)))
    (ns : ∀ m, s.heap.Ns X.env.locals m → h'.Ns X.env.locals m) (hok : HOk X.prog X.w H' h') (hg : AllBare g') :
    Inv X pins σ H' { s with heap := h', gens := g', drawn := d', toks := t' } := by
  have neL : ∀ b o, X.s₀.heap.get? b = some o → b ≠ X.env.locals := fun b o e => Nat.ne_of_lt (Nat.lt_of_lt_of_le (Heap.lt_size e) I.ok.above)
  have neC : ∀ b o, X.s₀.heap.get? b = some o → b ∉ X.ex → b ∉ ch := fun b o e hx hb => by
    rcases (hch b hb).1 with z | z
    · exact hx z
    · exact absurd (Nat.lt_of_lt_of_le (Heap.lt_size e) z) (Nat.lt_irrefl _)
  have cellK : ∀ x c, X.env.cells.lookup x = some c → ∀ v, s.heap.IsCell c v → h'.IsCell c v := fun x c e v ⟨o, ho, hd⟩ => by
    have nch : c ∉ ch := fun z => (hch c z).2.2.1 x c e rfl
    by_cases hc : c ∈ X.fs
    · obtain ⟨sl, q⟩ := slot c o (I.cne x c e) hc nch ho (I.freeC x c e)
      exact ⟨_, q, hd⟩
    · exact ⟨o, keep c o (I.cne x c e) hc nch ho (I.freeC x c e), hd⟩
  refine ⟨I.ok, I.os, hg, ⟨fun b o e n hb hx => ?_, fun b o e n hb hx => ?_, fun b o e n hx => ?_, fun b o e hx => ?_, fun b xs e => tups b xs (I.base.tups b xs e), fun b o xs e => frzs b o xs (I.base.frzs b o xs e), fun b ps e => ?_⟩, ?_, fun x c e => ?_, ?_, fun x c e => ?_, fun p hp => ?_, hok, I.len⟩
  · exact keep b o (neL b o e) hb (neC b o e hx) (I.base.keep b o e n hb hx) (I.base.free b o e n hx)
  · obtain ⟨sl, e1⟩ := I.base.slot b o e n hb hx
    obtain ⟨sl', e2⟩ := slot b _ (neL b o e) hb (neC b o e hx) e1 (I.base.free b o e n hx)
    exact ⟨sl', e2⟩
  · obtain ⟨o', e1⟩ := I.base.there b o e hx
    exact free b o' (neC b o e hx) e1 (I.base.free b o e n hx)
  · obtain ⟨o', e1⟩ := I.base.there b o e hx
    exact there b o' (neC b o e hx) e1
  · obtain ⟨m1, e1⟩ := I.base.tbls b ps e
    obtain ⟨m2, e2⟩ := tbls b _ e1
    exact ⟨m1 ++ m2, by rw [e2, Array.append_assoc]⟩
  · obtain ⟨m, hn, hl⟩ := I.loc
    refine ⟨m, ns m hn, fun i x v e1 e2 e3 => ?_⟩
    obtain ⟨u, r, l⟩ := hl i x v e1 e2 e3
    refine ⟨u, r, ?_⟩
    rcases l with l | ⟨k, c, e, z⟩
    · exact .inl l
    · exact .inr ⟨k, c, e, cellK x c e _ z⟩
  · obtain ⟨v, z⟩ := I.cell x c e
    exact ⟨v, cellK x c e v z⟩
  · obtain ⟨m, ⟨o, _, _, ho, _⟩, _⟩ := I.loc
    exact free _ o (fun z => (hch _ z).2.1 rfl) ho I.free
  · obtain ⟨v, o, ho, hd⟩ := I.cell x c e
    exact free c o (fun z => (hch c z).2.2.1 x c e rfl) ho (I.freeC x c e)
  · obtain ⟨e, n, ne, nf, d⟩ := I.pin p hp
    have nch : p.1 ∉ ch := fun z => (hch p.1 z).2.2.2 p hp rfl
    exact ⟨keep p.1 p.2 ne nf nch e n, free p.1 p.2 nch e n, ne, nf, d⟩
theorem Inv.un {t' : Nat} (I : Inv X pins σ H s) (u : Un X.fs [] H H' s.heap h') (hok : HOk X.prog X.w H' h') : Inv X pins σ H' { s with heap := h', toks := t' } := by
  obtain ⟨m, ⟨o, es, ep, ho, r⟩, _⟩ := id I.loc
  obtain ⟨sl, hL⟩ := u.any ho I.free (by simp)
  exact I.step (g' := s.gens) (d' := s.drawn) (ch := []) (fun _ z => nomatch z) (fun b o _ hb _ e n => u.keep b o e n hb (by simp)) (fun b o _ hb _ e n => u.slot b o e n hb (by simp)) (fun b o _ e n => u.free b o e n (by simp)) (fun b o _ e => u.there b o e (by simp)) u.tups u.frzs u.tbls (fun m' hm => by
    obtain ⟨o', es', ep', ho', r'⟩ := hm
    rw [ho] at ho'; cases ho'
    exact ⟨_, es', ep', hL, r'⟩) hok I.bare
theorem Inv.call {g' : Array GenState} {t' : Nat} {d' : Drawn} {ch : List Addr} (I : Inv X pins σ H s) (u : Un (frs X.stack) ch H H' s.heap h') (hok : HOk X.prog X.w H' h') (hg : AllBare g')
    (hch : ∀ b ∈ ch, (b ∈ X.ex ∨ X.s₀.heap.objs.size ≤ b) ∧ b ≠ X.env.locals ∧ (∀ x c, X.env.cells.lookup x = some c → c ≠ b) ∧ ∀ p ∈ X.pn ++ pins, p.1 ≠ b) :
    Inv X pins σ H' { s with heap := h', gens := g', drawn := d', toks := t' } := by
  obtain ⟨m, ⟨o, es, ep, ho, r⟩, _⟩ := id I.loc
  obtain ⟨sl, hL⟩ := u.any ho I.free fun z => (hch _ z).2.1 rfl
  exact I.step (ch := ch) hch (fun b o hL hb hc e n => u.keep b o e n (fun z => (List.mem_cons.mp (I.stkSub b z)).elim hL hb) hc) (fun b o _ _ hc e n => u.any e n hc) (fun b o hc e n => u.free b o e n hc) (fun b o hc e => u.there b o e hc) u.tups u.frzs u.tbls (fun m' hm => by
    obtain ⟨o', es', ep', ho', r'⟩ := hm
    rw [ho] at ho'; cases ho'
    exact ⟨_, es', ep', hL, r'⟩) hok hg
theorem Inv.turned {t' : Nat} {it : Addr} (I : Inv X pins σ H s) (k : ∀ b o, b ≠ it → s.heap.get? b = some o → h'.get? b = some o) (hn : H it = none) (hL : it ≠ X.env.locals)
    (h1 : it ∈ X.ex ∨ X.s₀.heap.objs.size ≤ it) (h2 : ∀ x c, X.env.cells.lookup x = some c → c ≠ it) (h3 : ∀ p ∈ X.pn ++ pins, p.1 ≠ it) : Inv X pins σ H { s with heap := h', toks := t' } := by
  have nit : ∀ b u, H b = some u → b ≠ it := fun b u e z => by rw [z, hn] at e; cases e
  refine I.step (g' := s.gens) (d' := s.drawn) (ch := [it]) (fun b hb => ?_) (fun b o _ _ hc e _ => k b o (fun z => hc (by simp [z])) e) (fun b o _ _ hc e _ => ⟨o.slots, k b o (fun z => hc (by simp [z])) e⟩) (fun _ _ _ _ n => n)
    (fun b o hc e => ⟨o, k b o (fun z => hc (by simp [z])) e⟩) (fun _ _ e => e) (fun _ _ _ e => e) (fun b ps e => ⟨#[], by rw [e]; simp⟩) (fun m hm => ?_) (fun b u e => ?_) I.bare
  · have e : b = it := by simpa using hb
    subst e
    exact ⟨h1, hL, h2, h3⟩
  · obtain ⟨o, es, ep, ho, r⟩ := hm
    exact ⟨o, es, ep, k _ o (Ne.symm hL) ho, r⟩
  · refine (I.hok b u e).stay (fun c v hc q => k c v ?_ q) (fun _ q => q) fun _ _ q => q
    rcases hc with z | z
    · rw [z]; exact nit b u e
    · exact nit c _ z
theorem Inv.tok (I : Inv X pins σ H s) (t : Nat) : Inv X pins σ H { s with toks := t } := I.un (h' := s.heap) (t' := t) Un.refl I.hok
theorem Inv.kept {t' : Nat} (I : Inv X pins σ H s) (k : ∀ b u, s.heap.get? b = some u → h'.get? b = some u) : Inv X pins σ H { s with heap := h', toks := t' } := I.un (Un.kept k) (I.hok.kept k)
theorem Inv.laid {a : Addr} {o : HO} {t' : Nat} (I : Inv X pins σ H s) (k : ∀ b u, s.heap.get? b = some u → h'.get? b = some u) (hp : s.heap.objs.size ≤ a) (new : ObjOk X.prog X.w (upd H a o) h' a o) :
    Inv X pins σ (upd H a o) { s with heap := h', toks := t' } := I.un (Un.laid k hp (I.hok.fresh hp)) (I.hok.laid k hp new)
theorem Inv.write {x e : Addr} {o : HO} {t' : Nat} (I : Inv X pins σ H s) (mu : Mut (H x)) (he : e = x ∨ H e = some (.own x)) (k : ∀ b u, b ≠ e → s.heap.get? b = some u → h'.get? b = some u) (heo : ∃ u, h'.get? e = some u)
    (new : ObjOk X.prog X.w (upd H x o) h' x o) : Inv X pins σ (upd H x o) { s with heap := h', toks := t' } := I.un (Un.write mu he k heo) (I.hok.write mu he k heo new)
theorem Inv.pins_of {pins' : List (Addr × Obj)} (I : Inv X pins σ H s) (h : ∀ p ∈ pins', s.heap.get? p.1 = some p.2 ∧ H p.1 = none ∧ p.1 ≠ X.env.locals ∧ p.1 ∉ X.fs ∧ ∀ v, p.2.data ≠ .cell v) : Inv X pins' σ H s :=
  ⟨I.ok, I.os, I.bare, I.base, I.loc, I.cell, I.free, I.freeC, fun p hp => (List.mem_append.mp hp).elim (fun z => I.pin p (List.mem_append_left _ z)) (h p), I.hok, I.len⟩
theorem nodup_ix {N : List Str} (hN : N.Nodup) {i j : Nat} {x : Str} (a : N[i]? = some x) (b : N[j]? = some x) : i = j := by
  obtain ⟨h1, e1⟩ := List.getElem?_eq_some_iff.mp a
  obtain ⟨h2, e2⟩ := List.getElem?_eq_some_iff.mp b
  exact (List.getElem_inj hN).mp (e1.trans e2.symm)
theorem store_ok2 {M : Model} {A : Around} {E : Value → Shared → Prop} {i : Nat} {x : Str} {v : V} {u : Value} {Q : Unit → Shared → Prop} (I : Inv X pins σ H s) (hN : X.N.Nodup) (hi : X.N[i]? = some x) (hx : Loc X.env.scope x) (r : RelV v u)
    (h : ∀ s', Inv X pins (σ.set i (some v)) H s' → (∃ a, Heap.SameBut a s.heap s'.heap ∧ (a = X.env.locals ∨ X.env.cells.lookup x = some a)) → Q () s') (hf : X.fn x = true ∨ X.env.scope.names.lookup x = some .local := by first | exact .inl rfl | exact .inr rfl | assumption) : wpAny M A (storeName X.env x u) Q E s := by
  obtain ⟨m, hn, hl⟩ := id I.loc
  have hcls : (X.env.scope.kind == .class || (X.env.scope.kind == .module && X.env.locals != X.env.globals)) = false := by rw [I.ok.kind]; rfl
  have hiσ : i < σ.length := by rw [I.len]; exact (List.getElem?_eq_some_iff.mp hi).1
  have cne := I.cne
  have tracked : ∀ {a : Addr} {h' : Heap}, (∃ o, s.heap.get? a = some o ∧ H a = none) → Heap.SameBut a s.heap h' → HOk X.prog X.w H h' := fun {a h'} ha hs b ob e => by
    obtain ⟨_, _, hfree⟩ := ha
    refine (I.hok b ob e).stay (fun c w' hc q => (hs.2 c ?_).trans q) (fun _ q => q) fun _ _ q => q
    rintro rfl
    rcases hc with rfl | hc
    · rw [hfree] at e; cases e
    · rw [hfree] at hc; cases hc
  rcases hx with hk | hk
  · refine wpAny_storeName_local hk hn (fun h' hn' hs => ?_) hcls
    obtain ⟨oL, _, _, hoL, _⟩ := id hn
    refine h _ ⟨I.ok, I.os, I.bare, ⟨fun b o e n hb hx => ?_, fun b o e n hb hx => ?_, I.base.free, fun b o e hx => ?_, I.base.tups, I.base.frzs, I.base.tbls⟩, ⟨_, hn', fun j y v' e1 e2 e3 => ?_⟩, fun y c e => ?_, I.free, I.freeC, fun p hp => ?_, tracked ⟨oL, hoL, I.free⟩ hs, by simpa using I.len⟩ ⟨_, hs, .inl rfl⟩
    · exact (hs.2 b (Nat.ne_of_lt (Nat.lt_of_lt_of_le (Heap.lt_size e) I.ok.above))).trans (I.base.keep b o e n hb hx)
    · obtain ⟨sl, e1⟩ := I.base.slot b o e n hb hx
      exact ⟨sl, (hs.2 b (Nat.ne_of_lt (Nat.lt_of_lt_of_le (Heap.lt_size e) I.ok.above))).trans e1⟩
    · obtain ⟨o', e1⟩ := I.base.there b o e hx
      exact ⟨o', (hs.2 b (Nat.ne_of_lt (Nat.lt_of_lt_of_le (Heap.lt_size e) I.ok.above))).trans e1⟩
    · by_cases hj : j = i
      · subst hj
        rw [hi] at e1; cases e1
        rw [List.getElem?_set_self hiσ] at e2
        cases e2
        exact ⟨u, r, .inl ⟨hk, by simp⟩⟩
      · rw [List.getElem?_set_ne (Ne.symm hj)] at e2
        obtain ⟨u', r', q⟩ := hl j y v' e1 e2 e3
        refine ⟨u', r', ?_⟩
        rcases q with ⟨k, e⟩ | ⟨k, c, e, z⟩
        · refine .inl ⟨k, ?_⟩
          have : y ≠ x := fun e => hj (nodup_ix hN e1 (e ▸ hi))
          simp [this, e]
        · exact .inr ⟨k, c, e, z.sameBut hs (cne y c e)⟩
    · obtain ⟨w', z⟩ := I.cell y c e
      exact ⟨w', z.sameBut hs (cne y c e)⟩
    · obtain ⟨e, n, ne, nf, d⟩ := I.pin p hp
      exact ⟨(hs.2 p.1 ne).trans e, n, ne, nf, d⟩
  · have hfn : X.fn x = true := by
      rcases hf with z | z
      · exact z
      · rw [z] at hk; cases hk
    obtain ⟨c, hc⟩ := I.ok.has x (.inl hk)
    obtain ⟨w', z⟩ := I.cell x c hc
    refine wpAny_storeName_cell I.ok.kind hk hc z (fun h' hc' hs => ?_)
    obtain ⟨oc, hoc, hocd⟩ := id z
    refine h { s with heap := h' } ⟨I.ok, I.os, I.bare, ⟨fun b o e n hb hx => ?_, fun b o e n hb hx => ?_, I.base.free, fun b o e hx => ?_, I.base.tups, I.base.frzs, I.base.tbls⟩, ⟨m, hn.sameBut hs (Ne.symm (cne x c hc)), fun j y v' e1 e2 e3 => ?_⟩, fun y c' e => ?_, I.free, I.freeC, fun p hp => ?_, tracked ⟨oc, hoc, I.freeC x c hc⟩ hs, by simpa using I.len⟩ ⟨c, hs, .inr hc⟩
    · exact (hs.2 b (Nat.ne_of_lt (Nat.lt_of_lt_of_le (Heap.lt_size e) (I.ok.cab x c hfn hc)))).trans (I.base.keep b o e n hb hx)
    · obtain ⟨sl, e1⟩ := I.base.slot b o e n hb hx
      exact ⟨sl, (hs.2 b (Nat.ne_of_lt (Nat.lt_of_lt_of_le (Heap.lt_size e) (I.ok.cab x c hfn hc)))).trans e1⟩
    · obtain ⟨o', e1⟩ := I.base.there b o e hx
      exact ⟨o', (hs.2 b (Nat.ne_of_lt (Nat.lt_of_lt_of_le (Heap.lt_size e) (I.ok.cab x c hfn hc)))).trans e1⟩
    · by_cases hj : j = i
      · subst hj
        rw [hi] at e1; cases e1
        rw [List.getElem?_set_self hiσ] at e2
        cases e2
        exact ⟨u, r, .inr ⟨.inl hk, c, hc, hc'⟩⟩
      · rw [List.getElem?_set_ne (Ne.symm hj)] at e2
        obtain ⟨u', r', q⟩ := hl j y v' e1 e2 e3
        refine ⟨u', r', ?_⟩
        rcases q with q | ⟨k, c', e, z'⟩
        · exact .inl q
        · refine .inr ⟨k, c', e, z'.sameBut hs ?_⟩
          rintro rfl
          exact hj (nodup_ix hN e1 (I.ok.inj _ _ _ e hc ▸ hi))
    · by_cases hcc : c' = c
      · subst hcc; exact ⟨_, hc'⟩
      · obtain ⟨w2, z2⟩ := I.cell y c' e
        exact ⟨w2, z2.sameBut hs hcc⟩
    · obtain ⟨e, n, ne, nf, d⟩ := I.pin p hp
      refine ⟨(hs.2 p.1 ?_).trans e, n, ne, nf, d⟩
      intro q
      rw [q, hoc] at e
      have q' : oc = p.2 := Option.some.inj e
      exact d w' (by rw [← q']; exact hocd)
theorem store_ok {M : Model} {A : Around} {E : Value → Shared → Prop} {i : Nat} {x : Str} {v : V} {u : Value} {Q : Unit → Shared → Prop} (I : Inv X pins σ H s) (hN : X.N.Nodup) (hi : X.N[i]? = some x) (hx : Loc X.env.scope x) (r : RelV v u)
    (h : ∀ s', Inv X pins (σ.set i (some v)) H s' → Q () s') (hf : X.fn x = true ∨ X.env.scope.names.lookup x = some .local := by first | exact .inl rfl | exact .inr rfl | assumption) : wpAny M A (storeName X.env x u) Q E s :=
  store_ok2 I hN hi hx r (fun s' I' _ => h s' I') hf
theorem Inv.call' {s' : Shared} {ch : List Addr} (I : Inv X pins σ H s) (ho : s'.os = s.os) (u : Un (frs X.stack) ch H H' s.heap s'.heap) (hok : HOk X.prog X.w H' s'.heap) (hg : AllBare s'.gens)
    (hch : ∀ b ∈ ch, (b ∈ X.ex ∨ X.s₀.heap.objs.size ≤ b) ∧ b ≠ X.env.locals ∧ (∀ x c, X.env.cells.lookup x = some c → c ≠ b) ∧ ∀ p ∈ X.pn ++ pins, p.1 ≠ b) : Inv X pins σ H' s' := by
  obtain ⟨h', g', d', t', o'⟩ := s'
  have e : o' = s.os := ho
  subst e
  exact I.call (g' := g') (t' := t') (d' := d') u hok hg hch
end
abbrev XK := Value → Option Addr → Hp → Prop
abbrev St := List (Option V)
abbrev VK := V → Hp → Prop
abbrev TE := St → Hp → VK → Prop
abbrev TT := St → Hp → (Bool → Hp → Prop) → Prop
abbrev TA := St → Hp → (List V → Hp → Prop) → Prop
structure Ends where
  nx : St → Hp → Prop
  rt : VK
  bk : St → Hp → Prop := fun _ _ => False
  ct : St → Hp → Prop := fun _ _ => False
abbrev TS := Ends → St → Hp → Prop
def EP (X : Cx) (pins : List (Addr × Obj)) (σ : St) (Q : VK) (u : Value) (s' : Shared) : Prop := ∃ v H', Inv X pins σ H' s' ∧ RelV v u ∧ Q v H'
def TP (X : Cx) (pins : List (Addr × Obj)) (σ : St) (Q : Bool → Hp → Prop) (b : Bool) (s' : Shared) : Prop := ∃ H', Inv X pins σ H' s' ∧ Q b H'
def AP (X : Cx) (pins : List (Addr × Obj)) (σ : St) (Q : List V → Hp → Prop) (us : List Value) (s' : Shared) : Prop := ∃ vs H', Inv X pins σ H' s' ∧ Vals vs us ∧ Q vs H'
def SP (X : Cx) (pins : List (Addr × Obj)) (D : Ends) (f : Flow) (s' : Shared) : Prop :=
  match f with
  | .next => ∃ σ' H', Inv X pins σ' H' s' ∧ D.nx σ' H'
  | .brk => ∃ σ' H', Inv X pins σ' H' s' ∧ D.bk σ' H'
  | .cont => ∃ σ' H', Inv X pins σ' H' s' ∧ D.ct σ' H'
  | .ret u => ∃ v σ' H', Inv X pins σ' H' s' ∧ RelV v u ∧ D.rt v H'
def PE (X : Cx) (e : Expr) (t : TE) : Prop :=
  ∀ (pins : List (Addr × Obj)) (s : Shared) (σ : St) (H : Hp) (Q : VK), Inv X pins σ H s → t σ H Q → wpAny (model X.prog X.w) X.A (eval e X.env) (EP X pins σ Q) X.xe s
def PT (X : Cx) (e : Expr) (t : TT) : Prop :=
  ∀ (pins : List (Addr × Obj)) (s : Shared) (σ : St) (H : Hp) (Q : Bool → Hp → Prop), Inv X pins σ H s → t σ H Q → wpAny (model X.prog X.w) X.A (isTrue e X.env (eval e X.env)) (TP X pins σ Q) X.xe s
def PW (X : Cx) (e : Expr) (t : TT) : Prop :=
  ∀ (whole : Sem Value) (pins : List (Addr × Obj)) (s : Shared) (σ : St) (H : Hp) (Q : Bool → Hp → Prop), Inv X pins σ H s → t σ H Q → wpAny (model X.prog X.w) X.A (isTrue e X.env whole) (TP X pins σ Q) X.xe s
theorem PW.pt {X : Cx} {e : Expr} {t : TT} (h : PW X e t) : PT X e t := h _
def PA (X : Cx) (es : List Expr) (t : TA) : Prop :=
  ∀ (pos : Pos) (pins : List (Addr × Obj)) (s : Shared) (σ : St) (H : Hp) (Q : List V → Hp → Prop), Inv X pins σ H s → t σ H Q → wpAny (model X.prog X.w) X.A (spliced (backTo pos (starEach es X.env))) (AP X pins σ Q) X.xe s
def PS (X : Cx) (st : Stmt) (t : TS) : Prop :=
  ∀ (pins : List (Addr × Obj)) (s : Shared) (σ : St) (H : Hp) (D : Ends), Inv X pins σ H s → t D σ H → wpAny (model X.prog X.w) X.A (exec st X.env) (SP X pins D) X.xe s
def PSs (X : Cx) (st : List Stmt) (t : TS) : Prop :=
  ∀ (pins : List (Addr × Obj)) (s : Shared) (σ : St) (H : Hp) (D : Ends), Inv X pins σ H s → t D σ H → wpAny (model X.prog X.w) X.A (execs st X.env) (SP X pins D) X.xe s
theorem thn {α : Type} {t : Sem α} {Q Q' : α → Shared → Prop} {M : Model} {A : Around} {E : Value → Shared → Prop} {s : Shared} (h : wpAny M A t Q E s) (hQ : ∀ a s, Q a s → Q' a s) : wpAny M A t Q' E s := wpAny_mono h hQ fun _ _ x => x
end L2
namespace L2
open PySem PySem.Spec PyProof.Rows
section
variable {X : Cx}
def tVar (i : Nat) : TE := fun σ H Q => ∃ v, σ[i]? = some (some v) ∧ Q v H
def tC (v : V) : TE := fun _ H Q => Q v H
theorem pe_var {i : Nat} {x : Str} {pos : Pos} (hN : X.N[i]? = some x) (hv : Vis X.env.scope x) (hd : (x == ("__debug__" : Str)) = false := by decide) (hcd : (x == ("__classdict__" : Str)) = false := by decide) : PE X (.Name x pos) (tVar i) := by
  intro pins s σ H Q I h
  obtain ⟨v, e, h⟩ := h
  obtain ⟨m, hn, hl⟩ := I.loc
  obtain ⟨u, r, l⟩ := hl i x v hN e hv
  have fin : EP X pins σ Q u s := ⟨v, H, I, r, h⟩
  rcases l with ⟨hk, hm⟩ | ⟨hk, c, hc, hcell⟩
  · exact wpAny_Name (wpAny_loadName_local I.ok.kind hk hn hm fin) hd
  · rcases hk with hk | hk
    · exact wpAny_Name (wpAny_loadName_cell I.ok.kind hk hc hcell fin) hd
    · exact wpAny_Name (wpAny_loadName_free I.ok.kind hk hc hcell fin hcd) hd
theorem pe_int {i j pos} : PE X (.Constant (.int i) j pos) (tC (.int i)) := fun _ _ _ H _ I h => wpAny_Constant_int ⟨.int i, H, I.tok _, ⟨_, rfl⟩, h⟩
theorem pe_bl {b j pos} : PE X (.Constant (.bool b) j pos) (tC (.bl b)) := fun _ _ _ H _ I h => Constant_bool ⟨.bl b, H, I, rfl, h⟩
theorem pe_non {j pos} : PE X (.Constant .none j pos) (tC .non) := fun _ _ _ H _ I h => Constant_none ⟨.non, H, I, rfl, h⟩
theorem pe_str {x j pos} : PE X (.Constant (.str x) j pos) (tC (.str x)) := fun _ _ _ H _ I h => Calls.Constant_str ⟨.str x, H, I.tok _, ⟨_, rfl⟩, h⟩
def Gl (X : Cx) (x : Str) : Prop := X.env.kindOf x = some .globalImplicit
theorem ld_glob {E : Value → Shared → Prop} {pins : List (Addr × Obj)} {s : Shared} {σ : St} {H : Hp} {x : Str} {u : Value} {pos : Pos} {Q : Value → Shared → Prop} (I : Inv X pins σ H s) (hg : Gl X x) (hm : X.mg x = some u) (h : Q u s)
    (hd : (x == ("__debug__" : Str)) = false := by decide) : wpAny (model X.prog X.w) X.A (eval (.Name x pos) X.env) Q E s :=
  Calls.Name_function_global I.ok.kind hg (Calls.loadGlobal_global (by rw [I.ok.glob]; exact I.mod.glob.keeps I.bk) hm h) hd
theorem ld_blt {E : Value → Shared → Prop} {pins : List (Addr × Obj)} {s : Shared} {σ : St} {H : Hp} {x : Str} {u : Value} {pos : Pos} {Q : Value → Shared → Prop} (I : Inv X pins σ H s) (hg : Gl X x) (hm : X.mg x = none) (hv : bootBuiltins x = some u) (h : Q u s)
    (hn : x ≠ "__name__" := by decide) (hd : (x == ("__debug__" : Str)) = false := by decide) : wpAny (model X.prog X.w) X.A (eval (.Name x pos) X.env) Q E s := by
  obtain ⟨mb, h1, h2⟩ := I.mod.blt
  exact Calls.Name_function_global I.ok.kind hg (Calls.loadGlobal_builtin (by rw [I.ok.glob]; exact I.mod.glob.keeps I.bk) hm (by rw [I.ok.blt]; exact h1.keeps I.bk) ((h2 x hn).trans hv) h) hd
theorem pe_glob {x : Str} {v : V} {u : Value} {pos : Pos} (hg : Gl X x) (hm : X.mg x = some u) (r : RelV v u) (hd : (x == ("__debug__" : Str)) = false := by decide) : PE X (.Name x pos) (tC v) :=
  fun _ _ _ H _ I h => ld_glob I hg hm ⟨v, H, I, r, h⟩ hd
theorem pe_bltn {x : Str} {v : V} {u : Value} {pos : Pos} (hg : Gl X x) (hm : X.mg x = none) (hv : bootBuiltins x = some u) (r : RelV v u) (hn : x ≠ "__name__" := by decide) (hd : (x == ("__debug__" : Str)) = false := by decide) : PE X (.Name x pos) (tC v) :=
  fun _ _ _ H _ I h => ld_blt I hg hm hv ⟨v, H, I, r, h⟩ hn hd
variable {a b : Expr} {ta tb : TE} {pos : Pos}
variable {tA tB' : TT} {rest : List Expr}
def tAnd (t u : TT) : TT := fun σ H Q => t σ H fun c H1 => if c = true then u σ H1 Q else Q false H1
def tOr (t u : TT) : TT := fun σ H Q => t σ H fun c H1 => if c = true then Q true H1 else u σ H1 Q
def tNot (t : TT) : TT := fun σ H Q => t σ H fun c H1 => Q (!c) H1
theorem pw_and1 (ha : PT X a tA) : PW X (.BoolOp .And [a] pos) tA := by
  intro wh pins s σ H Q I h
  refine isTrue_and (thn (ha pins s σ H Q I h) fun c s1 e => ?_)
  cases c with
  | true => exact isTrue_and_nil e
  | false => exact e
theorem pw_or1 (ha : PT X a tA) : PW X (.BoolOp .Or [a] pos) tA := by
  intro wh pins s σ H Q I h
  refine isTrue_or (thn (ha pins s σ H Q I h) fun c s1 e => ?_)
  cases c with
  | false => exact isTrue_or_nil e
  | true => exact e
theorem pw_and (ha : PT X a tA) (hb : PW X (.BoolOp .And (b :: rest) pos) tB') : PW X (.BoolOp .And (a :: b :: rest) pos) (tAnd tA tB') := by
  intro wh pins s σ H Q I h
  refine isTrue_and (thn (ha pins s σ H _ I h) fun c s1 ⟨H1, I1, q1⟩ => ?_)
  cases c with
  | true => exact hb wh pins s1 σ H1 Q I1 q1
  | false => exact ⟨H1, I1, q1⟩
theorem pw_or (ha : PT X a tA) (hb : PW X (.BoolOp .Or (b :: rest) pos) tB') : PW X (.BoolOp .Or (a :: b :: rest) pos) (tOr tA tB') := by
  intro wh pins s σ H Q I h
  refine isTrue_or (thn (ha pins s σ H _ I h) fun c s1 ⟨H1, I1, q1⟩ => ?_)
  cases c with
  | true => exact ⟨H1, I1, q1⟩
  | false => exact hb wh pins s1 σ H1 Q I1 q1
theorem pt_not (ha : PT X a tA) : PT X (.UnaryOp .Not a pos) (tNot tA) := by
  intro pins s σ H Q I h
  exact isTrue_not (ha pins s σ H (fun c H1 => Q (!c) H1) I h)
def tAndV (ta tb : TE) : TE := fun σ H Q => ta σ H fun x H1 => ∃ c, x = .bl c ∧ if c = true then tb σ H1 Q else Q (.bl false) H1
def tNotV (ta : TE) : TE := fun σ H Q => ta σ H fun x H1 => ∃ c, x = .bl c ∧ Q (.bl (!c)) H1
theorem pe_one {op} {t : TE} (h : PE X a t) : PE X (.BoolOp op [a] pos) t := fun pins s σ H Q I hw => BoolOp_one (h pins s σ H Q I hw)
theorem pe_and (ha : PE X a ta) (hb : PE X (.BoolOp .And (b :: rest) pos) tb) : PE X (.BoolOp .And (a :: b :: rest) pos) (tAndV ta tb) := by
  intro pins s σ H Q I h
  refine BoolOp_and (thn (ha pins s σ H _ I h) fun v s1 ⟨x, H1, I1, r1, q1⟩ => ?_)
  obtain ⟨c, rfl, q1⟩ := q1
  cases r1
  refine wpAny_truthy_bool ?_
  cases c with
  | true => exact hb pins s1 σ H1 Q I1 q1
  | false => exact ⟨.bl false, H1, I1, rfl, q1⟩
theorem pe_not (ha : PE X a ta) : PE X (.UnaryOp .Not a pos) (tNotV ta) := by
  intro pins s σ H Q I h
  refine UnaryOp_ (thn (ha pins s σ H _ I h) fun v s1 ⟨x, H1, I1, r1, q1⟩ => ?_)
  obtain ⟨c, rfl, q1⟩ := q1
  cases r1
  exact not_of (wpAny_truthy_bool ⟨.bl (!c), H1, I1, rfl, q1⟩)
end
end L2
namespace L2
open PySem PySem.Spec PyProof.Rows
def SqL (K : PySem.W.Frag) (H : Hp) (a : Addr) (xs : List V) : Prop :=
  Rd H a (.lst xs) ∨
    ∃ (o : Obj) (its : Array Value) (n : Nat), K.lookup a = some o ∧ o.cls = .type "list" ∧ o.dict = none ∧ o.data = .seq its n ∧ its.size ≤ sizeLine ∧ Vals xs its.toList
def SqT (K : PySem.W.Frag) (H : Hp) (a : Addr) (xs : List V) : Prop :=
  Rd H a (.tup xs) ∨
    ∃ (o : Obj) (its : Array Value) (n : Nat), K.lookup a = some o ∧ o.cls = .type "tuple" ∧ o.data = .seq its n ∧ its.size ≤ sizeLine ∧ Vals xs its.toList
def absV : Value → Option V
  | .none => some .non
  | .bool b => some (.bl b)
  | .int i _ => some (.int i)
  | .str x _ => some (.str x)
  | .bytes b _ => some (.byt b)
  | .float b _ => some (.flt b)
  | .ref a => some (.ref a)
  | .type n => some (.ty n)
  | _ => none
theorem RelV.abs {x : V} {u : Value} (r : RelV x u) : absV u = some x := by
  cases x with
  | non => cases r; rfl
  | bl _ => cases r; rfl
  | int _ => obtain ⟨t, rfl⟩ := r; rfl
  | str _ => obtain ⟨t, rfl⟩ := r; rfl
  | byt _ => obtain ⟨t, rfl⟩ := r; rfl
  | flt _ => obtain ⟨t, rfl⟩ := r; rfl
  | ref _ => cases r; rfl
  | ty _ => cases r; rfl
theorem RelV.inj {x y : V} {u : Value} (r : RelV x u) (q : RelV y u) : x = y := Option.some.inj (r.abs.symm.trans q.abs)
theorem Vals.inj : ∀ {xs ys : List V} {us : List Value}, Vals xs us → Vals ys us → xs = ys
  | _, _, _, .nil, .nil => rfl
  | _, _, _, .cons r t, .cons r' t' => by rw [r.inj r', Vals.inj t t']
section
variable {X : Cx} {pins : List (Addr × Obj)} {σ : St} {H : Hp} {s : Shared} {a : Addr} {xs ys : List V}
theorem SqL.of {K : PySem.W.Frag} (h : H a = some (.lst xs)) : SqL K H a xs := .inl (.inl h)
theorem SqT.of {K : PySem.W.Frag} (h : H a = some (.tup xs)) : SqT K H a xs := .inl (.inl h)
theorem Inv.list (I : Inv X pins σ H s) (h : SqL X.K H a xs) : ∃ its : List Value, Vals xs its ∧ PlainL s.heap a its.toArray ∧ xs.length ≤ sizeLine := by
  rcases h with h | ⟨o, its, n, hk, hc, hd, hs, hz, r⟩
  · obtain ⟨z, its, n, r, e⟩ := h.ok I.hok
    exact ⟨its, r, ⟨_, n, e, rfl, rfl, rfl⟩, z⟩
  · refine ⟨its.toList, r, ⟨o, n, I.kIn a o hk, hc, hd, by simpa using hs⟩, ?_⟩
    have e := r.length
    simp only [Array.length_toList] at e
    omega
theorem Inv.tuple (I : Inv X pins σ H s) (h : SqT X.K H a xs) : ∃ its : List Value, Vals xs its ∧ IsTup s.heap a its.toArray ∧ xs.length ≤ sizeLine := by
  rcases h with h | ⟨o, its, n, hk, hc, hs, hz, r⟩
  · obtain ⟨z, its, r, p⟩ := h.ok I.hok
    exact ⟨its, r, p, z⟩
  · refine ⟨its.toList, r, ⟨o, I.kIn a o hk, hc, n, by simpa using hs⟩, ?_⟩
    have e := r.length
    simp only [Array.length_toList] at e
    omega
theorem Inv.list_inj (I : Inv X pins σ H s) (h : SqL X.K H a xs) (h' : SqL X.K H a ys) : xs = ys := by
  obtain ⟨its, r, ⟨o, n, e, _, _, d⟩, _⟩ := I.list h
  obtain ⟨its', r', ⟨o', n', e', _, _, d'⟩, _⟩ := I.list h'
  rw [e] at e'; cases e'
  rw [d] at d'
  injection d' with d1 _
  have : its = its' := by simpa using congrArg Array.toList d1
  subst this
  exact r.inj r'
end
abbrev Cx.wish (X : Cx) (E : Value → Shared → Prop) : Cx := { X with xe := E }
abbrev Cx.nox (X : Cx) : Cx := X.wish fun _ _ => False
theorem Cx.Ok.wish {X : Cx} (ok : X.Ok) (E : Value → Shared → Prop) : (X.wish E).Ok :=
  ⟨ok.mod, ok.kind, ok.glob, ok.blt, ok.above, ok.inj, ok.has, ok.cab, ok.hd, ok.frames, ok.stk, ok.exf, ok.bs, ok.bsz, ok.noex, ok.exfs, ok.funs, ok.frf⟩
theorem Cx.Ok.unwish {X : Cx} {E : Value → Shared → Prop} (ok : (X.wish E).Ok) : X.Ok :=
  ⟨ok.mod, ok.kind, ok.glob, ok.blt, ok.above, ok.inj, ok.has, ok.cab, ok.hd, ok.frames, ok.stk, ok.exf, ok.bs, ok.bsz, ok.noex, ok.exfs, ok.funs, ok.frf⟩
section
variable {X : Cx} {pins : List (Addr × Obj)} {σ : St} {H : Hp} {s : Shared} {E : Value → Shared → Prop}
theorem Inv.wish (I : Inv X pins σ H s) (E : Value → Shared → Prop) : Inv (X.wish E) pins σ H s := ⟨I.ok.wish E, I.os, I.bare, I.base, I.loc, I.cell, I.free, I.freeC, I.pin, I.hok, I.len⟩
theorem Inv.unwish (I : Inv (X.wish E) pins σ H s) : Inv X pins σ H s := ⟨I.ok.unwish, I.os, I.bare, I.base, I.loc, I.cell, I.free, I.freeC, I.pin, I.hok, I.len⟩
theorem SP.unwish {D : Ends} {f : Flow} {s' : Shared} (h : SP (X.wish E) pins D f s') : SP X pins D f s' := by
  cases f with
  | next => obtain ⟨σ', H', I, q⟩ := h; exact ⟨σ', H', I.unwish, q⟩
  | brk => obtain ⟨σ', H', I, q⟩ := h; exact ⟨σ', H', I.unwish, q⟩
  | cont => obtain ⟨σ', H', I, q⟩ := h; exact ⟨σ', H', I.unwish, q⟩
  | ret u => obtain ⟨v, σ', H', I, r, q⟩ := h; exact ⟨v, σ', H', I.unwish, r, q⟩
theorem PE.nox {e : Expr} {t : TE} (h : PE X.nox e t) : PE X e t := fun pins s σ H Q I hw =>
  wpAny_mono (h pins s σ H Q (I.wish _) hw) (fun _ _ ⟨v, H', I', r, q⟩ => ⟨v, H', I'.unwish, r, q⟩) fun _ _ z => False.elim z
theorem PT.nox {e : Expr} {t : TT} (h : PT X.nox e t) : PT X e t := fun pins s σ H Q I hw =>
  wpAny_mono (h pins s σ H Q (I.wish _) hw) (fun _ _ ⟨H', I', q⟩ => ⟨H', I'.unwish, q⟩) fun _ _ z => False.elim z
theorem PSs.nox {st : List Stmt} {t : TS} (h : PSs X.nox st t) : PSs X st t := fun pins s σ H D I hw =>
  wpAny_mono (h pins s σ H D (I.wish _) hw) (fun _ _ q => q.unwish) fun _ _ z => False.elim z
end
section
variable {X : Cx} {st : Stmt} {rest : List Stmt} {t u : TS} {e : Expr} {te : TE} {pos : Pos}
def tNext : TS := fun D σ H => D.nx σ H
def tSeq (t u : TS) : TS := fun D σ H => t { D with nx := u D } σ H
theorem pss_nil : PSs X [] tNext := fun _ _ σ H _ I h => wpAny_execs_nil ⟨σ, H, I, h⟩
theorem pss_cons (h1 : PS X st t) (h2 : PSs X rest u) : PSs X (st :: rest) (tSeq t u) := by
  intro pins s σ H D I h
  refine wpAny_execs_cons (thn (h1 pins s σ H { D with nx := u D } I h) fun f s1 q => ?_)
  cases f with
  | next =>
    obtain ⟨σ', H', I', q⟩ := q
    exact h2 pins s1 σ' H' D I' q
  | ret v => exact q
  | brk => exact q
  | cont => exact q
theorem Inv.quiet {pins : List (Addr × Obj)} {σ : St} {H : Hp} {s : Shared} (I : Inv X pins σ H s) : interactive X.env = false := by simp [interactive, I.ok.kind]
def tDrop (te : TE) : TS := fun D σ H => te σ H fun _ H1 => D.nx σ H1
theorem ps_expr (he : PE X e te) (hs : swapsWith e none pos.line X.env = pure false := by rfl) : PS X (.Expr e pos) (tDrop te) := by
  intro pins s σ H D I h
  exact wpAny_Expr_any (thn (he pins s σ H _ I h) fun v s1 ⟨x, H1, I1, r1, q1⟩ => ⟨σ, H1, I1, q1⟩) I.quiet hs
def tRet (te : TE) : TS := fun D σ H => te σ H D.rt
theorem ps_ret (he : PE X e te) : PS X (.Return (some e) pos) (tRet te) := by
  intro pins s σ H D I h
  exact wpAny_Return_some (thn (he pins s σ H _ I h) fun v s1 ⟨x, H1, I1, r1, q1⟩ => ⟨x, σ, H1, I1, r1, q1⟩)
def tIfS (c : TT) (t u : TS) : TS := fun D σ H => c σ H fun b H1 => if b = true then t D σ H1 else u D σ H1
theorem ps_if {c : Expr} {a b : List Stmt} {tc : TT} (hc : PT X c tc) (ha : PSs X a t) (hb : PSs X b u) : PS X (.If c a b pos) (tIfS tc t u) := by
  intro pins s σ H D I h
  refine wpAny_If (thn (hc pins s σ H _ I h) fun d s1 ⟨H1, I1, q1⟩ => ?_)
  cases d with
  | true => exact ha pins s1 σ H1 D I1 q1
  | false => exact hb pins s1 σ H1 D I1 q1
end
abbrev TG := V → St → Hp → (St → Hp → Prop) → Prop
abbrev TGs := List V → St → Hp → (St → Hp → Prop) → Prop
def PG (X : Cx) (target : Expr) (t : TG) : Prop :=
  ∀ (pins : List (Addr × Obj)) (s : Shared) (σ : St) (H : Hp) (v : V) (u : Value) (Q : St → Hp → Prop), Inv X pins σ H s → RelV v u → t v σ H Q →
    wpAny (model X.prog X.w) X.A (assign target X.env u) (fun _ s' => ∃ σ' H', Inv X pins σ' H' s' ∧ Q σ' H') X.xe s
def PGs (X : Cx) (ts : List Expr) (t : TGs) : Prop :=
  ∀ (pins : List (Addr × Obj)) (s : Shared) (σ : St) (H : Hp) (vs : List V) (us : List Value) (Q : St → Hp → Prop), Inv X pins σ H s → Vals vs us → t vs σ H Q →
    wpAny (model X.prog X.w) X.A (assignInOrder ((assignEach ts X.env).map (·.2)) us) (fun _ s' => ∃ σ' H', Inv X pins σ' H' s' ∧ Q σ' H') X.xe s
section
variable {X : Cx} {pos : Pos}
def gName (i : Nat) : TG := fun v σ H Q => Q (σ.set i (some v)) H
theorem pg_name {i : Nat} {x : Str} (hN : X.N.Nodup) (hi : X.N[i]? = some x) (hx : Loc X.env.scope x) (hf : X.fn x = true ∨ X.env.scope.names.lookup x = some .local := by first | exact .inl rfl | exact .inr rfl | assumption) : PG X (.Name x pos) (gName i) := by
  intro pins s σ H v u Q I r h
  exact wpAny_assign_Name (store_ok I hN hi hx r (fun s' I' => ⟨_, H, I', h⟩) hf)
def gNil : TGs := fun vs σ H Q => vs = [] ∧ Q σ H
def gCons (t : TG) (u : TGs) : TGs := fun vs σ H Q => ∃ v r, vs = v :: r ∧ t v σ H fun σ' H' => u r σ' H' Q
theorem pgs_nil : PGs X [] gNil := by
  intro pins s σ H vs us Q I r h
  obtain ⟨e, h⟩ := h
  subst e
  cases r
  exact assignInOrder_nil ⟨σ, H, I, h⟩
theorem pgs_cons {e : Expr} {es : List Expr} {t : TG} {u : TGs} (h1 : PG X e t) (h2 : PGs X es u)
    (hs : (assignEach (e :: es) X.env).map (·.2) = assign e X.env :: (assignEach es X.env).map (·.2) := by rfl) : PGs X (e :: es) (gCons t u) := by
  intro pins s σ H vs us Q I r h
  obtain ⟨v, vr, e1, h⟩ := h
  subst e1
  cases r with
  | cons r rr =>
    rw [hs]
    refine assignInOrder_cons (thn (h1 pins s σ H _ _ _ I r h) fun _ s1 ⟨σ1, H1, I1, q1⟩ => ?_)
    exact h2 pins s1 σ1 H1 _ _ Q I1 rr q1
def gTup (K : PySem.W.Frag) (n : Nat) (t : TGs) : TG := fun v σ H Q => ∃ a xs, v = .ref a ∧ SqT K H a xs ∧ xs.length = n ∧ t xs σ H Q
theorem pg_tup {es : List Expr} {k : Nat} {t : TGs} {n : Nat} (hc : X.calm = true) (h : PGs X es t)
    (hn : (assignEach es X.env).length = n := by rfl) (hst : (assignEach es X.env).findIdx? (·.1) = none := by rfl) : PG X (.Tuple es k pos) (gTup X.K n t) := by
  intro pins s σ H v u Q I r hw
  obtain ⟨a, xs, e1, hq, hl, hw⟩ := hw
  subst e1
  cases r
  obtain ⟨its, rv, ht, hz⟩ := I.tuple hq
  refine assign_Tuple_tuple (I.ok.hd hc) ht (by simp [hn, ← hl, rv.length]) hst fun h' hx => ?_
  have I1 : Inv X pins σ H { s with heap := h' } := I.kept (t' := s.toks) fun b o e => hx b o (Nat.ne_of_lt (Heap.lt_size e)) e
  exact h pins _ σ H xs _ Q I1 (by simpa using rv) hw
def tAsg (te : TE) (g : TG) : TS := fun D σ H => te σ H fun x H1 => g x σ H1 D.nx
theorem ps_asg {tg e : Expr} {te : TE} {g : TG} (he : PE X e te) (hg : PG X tg g) (hs : swapsWithSole [tg] e pos.line X.env = pure false := by rfl) (hw : swappedStores [tg] e X.env = pure none := by rfl)
    (h1 : (assignEach [tg] X.env).map (·.2) = [assign tg X.env] := by rfl) : PS X (.Assign [tg] e pos) (tAsg te g) := by
  intro pins s σ H D I h
  refine wpAny_Assign_stores (thn (he pins s σ H _ I h) fun v s1 ⟨x, H1, I1, r1, q1⟩ => ?_) hs hw
  rw [h1]
  exact thn (hg pins s1 σ H1 x v _ I1 r1 q1) fun _ s2 q => q
theorem ps_set {i : Nat} {x : Str} {e : Expr} {te : TE} {pos' : Pos} (hN : X.N.Nodup) (hi : X.N[i]? = some x) (hx : Loc X.env.scope x) (he : PE X e te) (hs : swapsWith e (some (.Name x pos')) pos.line X.env = pure false := by rfl) (hf : X.fn x = true ∨ X.env.scope.names.lookup x = some .local := by first | exact .inl rfl | exact .inr rfl | assumption) :
    PS X (.Assign [.Name x pos'] e pos) (tAsg te (gName i)) := by
  intro pins s σ H D I h
  refine wpAny_Assign_Name (thn (he pins s σ H _ I h) fun v s1 ⟨y, H1, I1, r1, q1⟩ => ?_) hs
  exact store_ok I1 hN hi hx r1 (fun s2 I2 => ⟨_, H1, I2, q1⟩) hf
def tPar (i j : Nat) (ta : TA) : TS := fun D σ H => ta σ H fun vs H1 => ∃ v w, vs = [v, w] ∧ D.nx ((σ.set i (some v)).set j (some w)) H1
theorem ps_par {i j : Nat} {x y : Str} {a b : Expr} {ta : TA} {px py pt : Pos} {kt k2 pt2} (hc : X.calm = true) (hN : X.N.Nodup) (hi : X.N[i]? = some x) (hj : X.N[j]? = some y) (hij : i ≠ j)
    (hx : X.env.scope.names.lookup x = some .local) (hy : X.env.scope.names.lookup y = some .local) (ha : PA X [a, b] ta)
    (hw : swappedStores [.Tuple [.Name x px, .Name y py] kt pt] (.Tuple [a, b] k2 pt2) X.env = pure (some [x, y]))
    (hs : swapsWithSole [.Tuple [.Name x px, .Name y py] kt pt] (.Tuple [a, b] k2 pt2) pos.line X.env = pure false := by rfl) :
    PS X (.Assign [.Tuple [.Name x px, .Name y py] kt pt] (.Tuple [a, b] k2 pt2) pos) (tPar i j ta) := by
  intro pins s σ H D I h
  rw [exec_Assign_arm]
  refine wpAny_bind (wpAny_standAt ?_)
  rw [hs]
  refine wpAny_bind (wpAny_pure ?_)
  rw [if_neg (by decide)]
  refine wpAny_bind (Tuple_ (thn (ha _ pins s σ H _ I h) fun us s1 ⟨vs, H1, I1, r1, q1⟩ => ?_))
  obtain ⟨v, w, e1, q1⟩ := q1
  subst e1
  obtain ⟨u1, u2, rfl, rv, rw'⟩ : ∃ u1 u2, us = [u1, u2] ∧ RelV v u1 ∧ RelV w u2 := by
    cases r1 with
    | cons p q =>
      cases q with
      | cons p' q' =>
        cases q'
        exact ⟨_, _, rfl, p, p'⟩
  refine wpAny_newObj_type ?_ (by show 2 ≤ sizeLine; decide)
  have I2 : Inv X pins σ H1 { s1 with heap := s1.heap.push { cls := .type "tuple", data := .seq [u1, u2].toArray } } := I1.kept (t' := s1.toks) fun b o e => Heap.get?_push_of_some _ e
  rw [hw]
  refine wpAny_bind (wpAny_pure ?_)
  show wpAny (model X.prog X.w) X.A (do rule "assign.swapped-stores"; let items ← unpackItems (.ref s1.heap.objs.size) 2 none; assignInOrder [fun v => bindName X.env y v, fun v => bindName X.env x v] items.reverse; pure Flow.next) _ _ _
  refine wpAny_bind (wpAny_rule (wpAny_bind (unpackItems_tuple (items := #[u1, u2]) (I.ok.hd hc) (IsTup.new s1.heap _) fun h' hx' => ?_)))
  have I3 := I2.kept (h' := h') (t' := s1.toks) fun b o e => hx' b o (Nat.ne_of_lt (Heap.lt_size e)) e
  show wpAny _ _ (assignInOrder [fun v => bindName X.env y v, fun v => bindName X.env x v] [u2, u1] >>= fun _ => pure Flow.next) _ _ _
  refine wpAny_bind (assignInOrder_cons (wpAny_bindName (store_ok I3 hN hj (.inl hy) rw' (fun s2 I4 => ?_) (.inr hy))))
  refine assignInOrder_cons (wpAny_bindName (store_ok I4 hN hi (.inl hx) rv (fun s3 I5 => assignInOrder_nil (wpAny_pure ?_)) (.inr hx)))
  rw [List.set_comm _ _ (Ne.symm hij)] at I5
  exact ⟨_, H1, I5, q1⟩
end
section
variable {X : Cx} {pos : Pos}
def tWhile (c : TT) (tb : TS) : TS := fun D σ H => ∃ W : Nat → St → Hp → Prop, (∃ m, W m σ H) ∧ ∀ m σ H, W m σ H →
  c σ H fun b H1 => if b = true then ∃ N : St → Hp → Prop, (∀ σ' H', N σ' H' → ∃ m', m' < m ∧ W m' σ' H') ∧ tb { D with nx := N, ct := N, bk := D.nx } σ H1 else D.nx σ H1
theorem ps_while {c : Expr} {body : List Stmt} {tc : TT} {tb : TS} (hp : PassesOwn (model X.prog X.w) X.A X.env X.xe) (hc : PT X c tc) (hb : PSs X body tb) : PS X (.While c body [] pos) (tWhile tc tb) := by
  intro pins s σ H D I h
  obtain ⟨W, ⟨m0, w0⟩, turn⟩ := h
  refine wpAny_While (codeAny_whileLoop (fun n s' => ∃ σ' H', Inv X pins σ' H' s' ∧ W n σ' H') ?_ m0 ⟨σ, H, I, w0⟩)
  rintro n s1 ⟨σ1, H1, I1, w1⟩
  refine wpAny_passesOwn hp (thn (hc pins s1 σ1 H1 _ I1 (turn n σ1 H1 w1)) fun b s2 ⟨H2, I2, q2⟩ => ?_)
  cases b with
  | true =>
    obtain ⟨N, hN, q2⟩ := q2
    rw [if_pos rfl]
    refine wpAny_passesOwn hp (thn (hb pins s2 σ1 H2 _ I2 q2) fun f s3 q3 => ?_)
    cases f with
    | next =>
      obtain ⟨σ3, H3, I3, n3⟩ := q3
      obtain ⟨m', hm, w3⟩ := hN σ3 H3 n3
      exact ⟨m', hm, σ3, H3, I3, w3⟩
    | cont =>
      obtain ⟨σ3, H3, I3, n3⟩ := q3
      obtain ⟨m', hm, w3⟩ := hN σ3 H3 n3
      exact ⟨m', hm, σ3, H3, I3, w3⟩
    | brk => exact q3
    | ret v => exact q3
  | false =>
    rw [if_neg Bool.false_ne_true]
    exact wpAny_execs_nil ⟨σ1, H2, I2, q2⟩
end
structure It where
  go : Nat → Hp → Prop
  yld : Nat → Hp → V → Hp → Prop
  stop : Nat → Hp → Prop
def FpOk (X : Cx) (pins : List (Addr × Obj)) (H : Hp) (b : Addr) : Prop :=
  H b = none ∧ b ≠ X.env.locals ∧ b ∉ X.fs ∧ (b ∈ X.ex ∨ X.s₀.heap.objs.size ≤ b) ∧ (∀ x c, X.env.cells.lookup x = some c → c ≠ b) ∧ ∀ p ∈ X.pn ++ pins, p.1 ≠ b
theorem Inv.fpOk {X : Cx} {pins : List (Addr × Obj)} {σ : St} {H H' : Hp} {s : Shared} {b : Addr} (I : Inv X pins σ H s) (hb : s.heap.objs.size ≤ b) (hn : H' b = none) : FpOk X pins H' b := by
  refine ⟨hn, Nat.ne_of_gt (Nat.lt_of_lt_of_le I.lt hb), I.nofs hb, .inr (Nat.le_trans I.sz hb), fun x c e z => ?_, fun p hp z => ?_⟩
  · obtain ⟨v, q⟩ := I.cell x c e
    exact absurd (Nat.lt_of_lt_of_le q.lt (by rw [z]; exact hb)) (Nat.lt_irrefl _)
  · exact absurd (Nat.lt_of_lt_of_le (Heap.lt_size (I.pin p hp).1) (by rw [z]; exact hb)) (Nat.lt_irrefl _)
structure Turn (P : Program) (w : World) (K : PySem.W.Frag) (tg : Expr) (J : It) (fp : List Addr) (it : Addr) (tn : Nat → Heap → Prop) : Prop where
  mem : it ∈ fp
  obj : ∀ i h, tn i h → ∀ b ∈ fp, ∃ o, h.get? b = some o ∧ ∀ v, o.data ≠ .cell v
  keep : ∀ i h h', tn i h → (∀ b ∈ fp, ∀ o, h.get? b = some o → h'.get? b = some o) → tn i h'
  item : ∀ (X : Cx), X.prog = P → X.w = w → X.K = K → X.calm = true → ∀ (i : Nat) (pins : List (Addr × Obj)) (s : Shared) (σ : St) (H : Hp) (E : Value → Shared → Prop), Inv X pins σ H s → (∀ b ∈ fp, FpOk X pins H b) → tn i s.heap → J.go i H →
    wpAny (model P w) X.A (pyNext (.ref it)) (fun r s1 => ∃ u, r = some u ∧
      wpAny (model P w) X.A (letOwnedTupleGo tg (.ref it) u) (fun _ s2 => ∃ x H', Inv X pins σ H' s2 ∧ RelV x u ∧ J.yld i H x H' ∧ tn (i + 1) s2.heap ∧ ∀ b ∈ fp, H' b = none) E s1) E s
  done : ∀ (X : Cx), X.prog = P → X.w = w → X.K = K → X.calm = true → ∀ (i : Nat) (pins : List (Addr × Obj)) (s : Shared) (σ : St) (H : Hp) (E : Value → Shared → Prop), Inv X pins σ H s → (∀ b ∈ fp, FpOk X pins H b) → tn i s.heap → J.stop i H →
    wpAny (model P w) X.A (pyNext (.ref it)) (fun r s1 => r = none ∧ Inv X pins σ H s1) E s
  self : ∀ (A : Around) (i : Nat) (s : Shared) (Q : Value → Shared → Prop) (E : Value → Shared → Prop), tn i s.heap → Q (.ref it) s → wpAny (model P w) A (pyIter (.ref it)) Q E s
abbrev TI := St → Hp → (It → Hp → Prop) → Prop
def PIE (X : Cx) (pins : List (Addr × Obj)) (σ : St) (tg : Expr) (R : It → Hp → Prop) (itv : Value) (s2 : Shared) : Prop :=
  ∃ (it : Addr) (fp : List Addr) (tn : Nat → Heap → Prop) (J : It) (H' : Hp), itv = .ref it ∧ Inv X pins σ H' s2 ∧ Turn X.prog X.w X.K tg J fp it tn ∧ tn 0 s2.heap ∧ (∀ b ∈ fp, FpOk X pins H' b) ∧ R J H'
def PI (X : Cx) (tg iter : Expr) (wi : TI) : Prop :=
  ∀ (pins : List (Addr × Obj)) (s : Shared) (σ : St) (H : Hp) (R : It → Hp → Prop), Inv X pins σ H s → wi σ H R →
    wpAny (model X.prog X.w) X.A (eval iter X.env) (fun v s1 => wpAny (model X.prog X.w) X.A (pyIter v) (PIE X pins σ tg R) X.xe s1) X.xe s
theorem go_of {M : Model} {A : Around} {E : Value → Shared → Prop} {s : Shared} {tg : Expr} {it : Addr} {u : Value} {o : Obj} {n : String} {vs : Array Value} {Q : Unit → Shared → Prop} (ho : s.heap.get? it = some o) (hc : o.cls = .type n) (hd : o.data = .fields vs)
    (hn : ["enumerate", "zip", "dict_itemiterator", "dict_reverseitemiterator", "odict_iterator", "itertools.zip_longest", "itertools.pairwise"].contains n = false) (hQ : Q () s) : wpAny M A (letOwnedTupleGo tg (.ref it) u) Q E s := by
  unfold letOwnedTupleGo
  cases tg <;> first
    | exact wpAny_pure hQ
    | (cases u <;> first
        | exact wpAny_pure hQ
        | (refine wpAny_bind (wpAny_load ho ?_)
           rw [hc, hd]
           show wpAny M A (if (["enumerate", "zip", "dict_itemiterator", "dict_reverseitemiterator", "odict_iterator", "itertools.zip_longest", "itertools.pairwise"].contains n && vs[0]? == some (rawInt _)) = true then _ else _) Q E s
           rw [if_neg (by intro h; rw [hn, Bool.false_and] at h; cases h)]
           exact wpAny_pure hQ))
def Itl (K : PySem.W.Frag) (a : Addr) : It :=
  ⟨fun i H => ∃ xs x, SqL K H a xs ∧ xs[i]? = some x, fun i H x H' => H' = H ∧ ∀ xs, SqL K H a xs → xs[i]? = some x, fun i H => ∃ xs, SqL K H a xs ∧ xs.length ≤ i⟩
def Itr (lo : Int) (n : Nat) : It := ⟨fun i _ => i < n, fun i H x H' => H' = H ∧ x = .int (lo + i), fun i _ => n ≤ i⟩
theorem turn_list {P : Program} {w : World} {K : PySem.W.Frag} {tg : Expr} (a it : Addr) : Turn P w K tg (Itl K a) [it] it (fun i h => h.IsListIter it a i) where
  mem := by simp
  obj := fun i h st b hb => by
    have e : b = it := by simpa using hb
    subst e
    obtain ⟨o, e, c, d⟩ := st
    exact ⟨o, e, fun v z => by rw [d] at z; cases z⟩
  keep := fun i h h' st k => st.at fun o e => k it (by simp) o e
  item := by
    intro X hP hw hK hc i pins s σ H E I hf st hg
    subst hP hw hK
    obtain ⟨xs, x, hq, hx⟩ := hg
    obtain ⟨its, rv, p, hz⟩ := I.list hq
    obtain ⟨u, hu, ru⟩ := rv.get hx
    obtain ⟨f0, f1, f2, f3, f4, f5⟩ := hf it (by simp)
    refine wpAny_pyNext_list_item st p.isList (x := u) (by simpa using hu) fun h' st' sb => ?_
    have I1 : Inv X pins σ H { s with heap := h' } := I.turned (t' := s.toks) (fun b o hb e => (sb.2 b hb).trans e) f0 f1 f3 f4 f5
    obtain ⟨o, e, c, d⟩ := id st'
    exact ⟨u, rfl, go_of (s := { s with heap := h' }) e c d (by decide) ⟨x, H, I1, ru, ⟨rfl, fun ys hy => by rw [I.list_inj hy hq]; exact hx⟩, st', fun b hb => (hf b hb).1⟩⟩
  done := by
    intro X hP hw hK hc i pins s σ H E I hf st hg
    subst hP hw hK
    obtain ⟨xs, hq, hx⟩ := hg
    obtain ⟨its, rv, p, hz⟩ := I.list hq
    obtain ⟨f0, f1, f2, f3, f4, f5⟩ := hf it (by simp)
    have hl := rv.length
    exact wpAny_pyNext_list_end (I.ok.hd hc) st p.isList (by simp; omega) fun h' eb => ⟨rfl, I.turned (t' := s.toks) (fun b o hb e => eb b o hb e) f0 f1 f3 f4 f5⟩
  self := fun _ _ _ _ _ st h => wpAny_pyIter_listiter st h
theorem turn_range {P : Program} {w : World} {K : PySem.W.Frag} {tg : Expr} (it : Addr) (lo : Int) (n : Nat) : Turn P w K tg (Itr lo n) [it] it (fun i h => IsRangeIter h it (lo + (i : Nat) * 1) ((n : Int) - (i : Nat)) 1) where
  mem := by simp
  obj := fun i h st b hb => by
    have e : b = it := by simpa using hb
    subst e
    exact ⟨_, st, fun v z => by
      have z' : Data.fields _ = Data.cell v := z
      cases z'⟩
  keep := fun i h h' st k => k it (by simp) _ st
  item := by
    intro X hP hw hK hc i pins s σ H E I hf st hg
    subst hP hw hK
    obtain ⟨f0, f1, f2, f3, f4, f5⟩ := hf it (by simp)
    have W := Walks.range (prog := X.prog) (w := X.w) (I.ok.hd hc) it lo 1 n
    refine W.item i s _ _ hg st fun v h' tk hv st' kk => ?_
    obtain ⟨t, rfl⟩ := hv
    have I1 : Inv X pins σ H { s with heap := h', toks := tk } := I.turned (fun b o hb e => kk b o (by simpa using hb) e) f0 f1 f3 f4 f5
    refine ⟨_, rfl, go_of (s := { s with heap := h', toks := tk }) (n := "range_iterator") st' rfl rfl (by decide) ⟨.int (lo + i), H, I1, ⟨t, ?_⟩, ⟨rfl, rfl⟩, st', fun b hb => (hf b hb).1⟩⟩
    rw [Int.mul_one]
  done := by
    intro X hP hw hK hc i pins s σ H E I hf st hg
    subst hP hw hK
    obtain ⟨f0, f1, f2, f3, f4, f5⟩ := hf it (by simp)
    exact wpAny_pyNext_range_end (I.ok.hd hc) st (by have : n ≤ i := hg; omega) fun h' eb => ⟨rfl, I.turned (t' := s.toks) (fun b o hb e => eb b o hb e) f0 f1 f3 f4 f5⟩
  self := fun _ _ _ _ _ st h => wpAny_pyIter_rangeiter st h
end L2
namespace L2
open PySem PySem.Spec PyProof.Rows
section
variable {X : Cx} {tg : Expr}
def iList (K : PySem.W.Frag) (tl : TE) : TI := fun σ H R => tl σ H fun x H1 => ∃ a, x = .ref a ∧ (∃ xs, SqL K H1 a xs) ∧ R (Itl K a) H1
theorem pi_list {l : Expr} {tl : TE} (hl : PE X l tl) : PI X tg l (iList X.K tl) := by
  intro pins s σ H R I h
  refine thn (hl pins s σ H _ I h) fun v s1 ⟨x, H1, I1, r1, q1⟩ => ?_
  obtain ⟨a, e, ⟨xs, hq⟩, q⟩ := q1
  subst e
  cases r1
  obtain ⟨its, rv, p, hz⟩ := I1.list hq
  refine wpAny_pyIter_list p.isList ?_
  refine ⟨s1.heap.objs.size, [s1.heap.objs.size], _, _, H1, rfl, I1.kept (t' := s1.toks) fun b o e => Heap.get?_push_of_some _ e, turn_list a _, ⟨_, Heap.get?_push_size _ rfl, rfl, rfl⟩, fun b hb => ?_, q⟩
  have e : b = s1.heap.objs.size := by simpa using hb
  subst e
  exact I1.fpOk (Nat.le_refl _) (I1.hok.fresh (Nat.le_refl _))
theorem range_it {pins : List (Addr × Obj)} {σ : St} {H : Hp} {s : Shared} {R : It → Hp → Prop} {E : Value → Shared → Prop} {lo hi : Int} {t u v : Tok} {tk : Nat} (I : Inv X pins σ H s) (h1 : -(2 ^ 62) ≤ lo) (h2 : lo < 2 ^ 62) (h3 : -(2 ^ 62) ≤ hi) (h4 : hi < 2 ^ 62)
    (q : R (Itr lo (hi - lo).toNat) H) : wpAny (model X.prog X.w) X.A (pyIter (.ref s.heap.objs.size)) (PIE X pins σ tg R) E { s with heap := s.heap.push { cls := .type "range", data := .fields #[.int lo t, .int hi u, .int 1 v] }, toks := tk } := by
  refine wpAny_pyIter_range (IsRange.new ..) (small_one h1 h2 h3 h4) ?_
  have I1 : Inv X pins σ H { s with heap := s.heap.push { cls := .type "range", data := .fields #[.int lo t, .int hi u, .int 1 v] }, toks := tk } := I.kept fun b o e => Heap.get?_push_of_some _ e
  refine ⟨(s.heap.push { cls := .type "range", data := .fields #[.int lo t, .int hi u, .int 1 v] }).objs.size, [(s.heap.push { cls := .type "range", data := .fields #[.int lo t, .int hi u, .int 1 v] }).objs.size], _, _, H, rfl,
    I1.kept (t' := tk) fun b o e => Heap.get?_push_of_some _ e, turn_range _ lo (hi - lo).toNat, ?_, fun b hb => ?_, q⟩
  · have e1 : lo + ((0 : Nat) : Int) * 1 = lo := by simp
    have e2 : (((hi - lo).toNat : Nat) : Int) - ((0 : Nat) : Int) = Builtin.Range.rangeSize lo hi 1 := by rw [rangeSize_one]; split <;> omega
    show IsRangeIter _ _ (lo + ((0 : Nat) : Int) * 1) ((((hi - lo).toNat : Nat) : Int) - ((0 : Nat) : Int)) 1
    rw [e1, e2]
    exact Heap.get?_push_size _ rfl
  · have e : b = (s.heap.push { cls := .type "range", data := .fields #[.int lo t, .int hi u, .int 1 v] }).objs.size := by simpa using hb
    subst e
    exact I1.fpOk (Nat.le_refl _) (I1.hok.fresh (Nat.le_refl _))
def iRng1 (ta : TA) : TI := fun σ H R => ta σ H fun vs H1 => ∃ j : Int, vs = [.int j] ∧ -(2 ^ 62) ≤ j ∧ j < 2 ^ 62 ∧ R (Itr 0 j.toNat) H1
theorem pi_range1 {a : Expr} {ta : TA} {p pos : Pos} (hg : Gl X "range") (hm : X.mg "range" = none) (ha : PA X [a] ta) (hs : starEach [a] X.env = [(false, eval a X.env)] := by rfl) : PI X tg (.Call (.Name "range" p) [a] [] pos) (iRng1 ta) := by
  intro pins s σ H R I h
  refine Call_ (ld_blt I hg hm boot_range (PyProof.Rows.callWith_type1 (thn (ha pos pins s σ H _ I h) fun us s1 ⟨vs, H1, I1, r1, q1⟩ => ?_) hs rfl))
  obtain ⟨j, e, q1, q2, q⟩ := q1
  subst e
  cases r1 with
  | cons r rr =>
    cases rr
    obtain ⟨t, rfl⟩ := r
    exact call_range_1 (range_it I1 (by omega) (by omega) q1 q2 (by simpa using q))
def tFor (wi : TI) (g : TG) (tb : TS) : TS := fun D σ H => wi σ H fun J H1 => ∃ W : Nat → Nat → St → Hp → Prop, (∃ m, W 0 m σ H1) ∧ ∀ i m σ H, W i m σ H →
  (J.stop i H ∧ D.nx σ H) ∨ (J.go i H ∧ ∃ N : St → Hp → Prop, (∀ σ' H', N σ' H' → ∃ m', m' < m ∧ W (i + 1) m' σ' H') ∧ ∀ x H', J.yld i H x H' → g x σ H' fun σ2 H2 => tb { D with nx := N, ct := N, bk := D.nx } σ2 H2)
def pinsAt (fp : List Addr) (h : Heap) : List (Addr × Obj) := fp.filterMap fun b => (h.get? b).map fun o => (b, o)
theorem mem_pinsAt {fp : List Addr} {h : Heap} {b : Addr} {o : Obj} (hb : b ∈ fp) (e : h.get? b = some o) : (b, o) ∈ pinsAt fp h := List.mem_filterMap.mpr ⟨b, hb, by rw [e]; rfl⟩
theorem of_pinsAt {fp : List Addr} {h : Heap} {p : Addr × Obj} (hp : p ∈ pinsAt fp h) : p.1 ∈ fp ∧ h.get? p.1 = some p.2 := by
  obtain ⟨b, hb, e⟩ := List.mem_filterMap.mp hp
  cases q : h.get? b with
  | none => rw [q] at e; cases e
  | some o =>
    rw [q] at e
    have e' : (b, o) = p := Option.some.inj e
    subst e'
    exact ⟨hb, q⟩
theorem Inv.pinned {pins : List (Addr × Obj)} {σ : St} {H : Hp} {s : Shared} {fp : List Addr} (I : Inv X pins σ H s) (hf : ∀ b ∈ fp, FpOk X pins H b) (ho : ∀ b ∈ fp, ∃ o, s.heap.get? b = some o ∧ ∀ v, o.data ≠ .cell v) : Inv X (pins ++ pinsAt fp s.heap) σ H s :=
  I.pins_of fun p hp => (List.mem_append.mp hp).elim (fun z => I.pin p (List.mem_append_right _ z)) fun z => by
    obtain ⟨hb, e⟩ := of_pinsAt z
    obtain ⟨f0, f1, f2, _⟩ := hf p.1 hb
    obtain ⟨o, e', d⟩ := ho p.1 hb
    rw [e] at e'; cases e'
    exact ⟨e, f0, f1, f2, d⟩
theorem Inv.unpinned {pins pl : List (Addr × Obj)} {σ : St} {H : Hp} {s : Shared} (I : Inv X (pins ++ pl) σ H s) : Inv X pins σ H s := I.pins_of fun p hp => I.pin p (List.mem_append_right _ (List.mem_append_left _ hp))
theorem ps_for {iter : Expr} {body : List Stmt} {wi : TI} {g : TG} {tb : TS} {pos : Pos} (hp : PassesOwn (model X.prog X.w) X.A X.env X.xe) (hc : X.calm = true) (hi : PI X tg iter wi) (hg : PG X tg g) (hb : PSs X body tb)
    (hs : ∀ x, foldedSetIterable iter X.env x = pure x := by intro _; rfl) : PS X (.For tg iter body [] pos) (tFor wi g tb) := by
  intro pins s σ H D I h
  refine wpAny_For (thn (hi pins s σ H _ I h) fun v s1 h1 => thn h1 fun itv s2 h2 => ?_) hs
  obtain ⟨it, fp, tn, J, H2, e, I2, T, st2, f2, W, ⟨m0, w0⟩, turn⟩ := h2
  subst e
  have stat : ∀ {H' : Hp}, (∀ b ∈ fp, H' b = none) → ∀ b ∈ fp, FpOk X pins H' b := fun hn b hb => ⟨hn b hb, (f2 b hb).2⟩
  refine codeAny_forLoop_any (fun n s' => ∃ i σ' H', Inv X pins σ' H' s' ∧ tn i s'.heap ∧ (∀ b ∈ fp, H' b = none) ∧ W i n σ' H') ?_ m0 ⟨0, σ, H2, I2, st2, fun b hb => (f2 b hb).1, w0⟩
  rintro n s3 ⟨i, σ3, H3, I3, st3, fr3, w3⟩
  rcases turn i n σ3 H3 w3 with ⟨stop, qn⟩ | ⟨go, N, hN, step⟩
  · refine wpAny_passesOwn hp (thn (T.done X rfl rfl rfl hc i pins s3 σ3 H3 X.xe I3 (stat fr3) st3 stop) fun r s4 ⟨hr, I4⟩ => ?_)
    subst hr
    exact wpAny_execs_nil ⟨σ3, H3, I4, qn⟩
  · refine wpAny_passesOwn hp (thn (T.item X rfl rfl rfl hc i pins s3 σ3 H3 X.xe I3 (stat fr3) st3 go) fun r s4 ⟨u, hr, h4⟩ => ?_)
    subst hr
    refine wpAny_passesOwn hp (thn h4 fun _ s5 ⟨x, H5, I5, r5, y5, st5, fr5⟩ => ?_)
    have I5' := I5.pinned (stat fr5) (T.obj _ _ st5)
    refine wpAny_passesOwn hp (thn (hg _ s5 σ3 H5 x u _ I5' r5 (step x H5 y5)) fun _ s6 ⟨σ6, H6, I6, q6⟩ => ?_)
    refine wpAny_passesOwn hp (thn (hb _ s6 σ6 H6 _ I6 q6) fun f s7 q7 => ?_)
    have again : ∀ {σ7 : St} {H7 : Hp}, Inv X (pins ++ pinsAt fp s5.heap) σ7 H7 s7 → N σ7 H7 → ∃ m, m < n ∧ ∃ i σ' H', Inv X pins σ' H' s7 ∧ tn i s7.heap ∧ (∀ b ∈ fp, H' b = none) ∧ W i m σ' H' := fun {σ7 H7} I7 n7 => by
      obtain ⟨m', hm, w7⟩ := hN σ7 H7 n7
      refine ⟨m', hm, i + 1, σ7, H7, I7.unpinned, T.keep _ _ _ st5 fun b hb o e => (I7.pin (b, o) (List.mem_append_right _ (List.mem_append_right _ (mem_pinsAt hb e)))).1, fun b hb => ?_, w7⟩
      obtain ⟨o, e, d⟩ := T.obj _ _ st5 b hb
      exact (I7.pin (b, o) (List.mem_append_right _ (List.mem_append_right _ (mem_pinsAt hb e)))).2.1
    cases f with
    | next => obtain ⟨σ7, H7, I7, n7⟩ := q7; exact again I7 n7
    | cont => obtain ⟨σ7, H7, I7, n7⟩ := q7; exact again I7 n7
    | brk => obtain ⟨σ7, H7, I7, q7⟩ := q7; exact ⟨σ7, H7, I7.unpinned, q7⟩
    | ret v => obtain ⟨x7, σ7, H7, I7, r7, q7⟩ := q7; exact ⟨x7, σ7, H7, I7.unpinned, r7, q7⟩
end
end L2
namespace L2
open PySem PySem.Spec PyProof.Rows
abbrev R2 := V → V → Hp → VK → Prop
def OpR (X : Cx) (f : Value → Value → Sem Value) (r : R2) : Prop :=
  ∀ (pins : List (Addr × Obj)) (s : Shared) (σ : St) (H : Hp) (x y : V) (v u : Value) (Q : VK), Inv X pins σ H s → RelV x v → RelV y u → r x y H Q →
    wpAny (model X.prog X.w) X.A (f v u) (EP X pins σ Q) X.xe s
def UnR (X : Cx) (f : Value → Sem Value) (r : V → Hp → VK → Prop) : Prop :=
  ∀ (pins : List (Addr × Obj)) (s : Shared) (σ : St) (H : Hp) (x : V) (v : Value) (Q : VK), Inv X pins σ H s → RelV x v → r x H Q →
    wpAny (model X.prog X.w) X.A (f v) (EP X pins σ Q) X.xe s
def CallR (X : Cx) (f : Value) (r : List V → Hp → VK → Prop) : Prop :=
  ∀ (pins : List (Addr × Obj)) (s : Shared) (σ : St) (H : Hp) (xs : List V) (us : List Value) (Q : VK), Inv X pins σ H s → Vals xs us → r xs H Q →
    wpAny (model X.prog X.w) X.A (call f us) (EP X pins σ Q) X.xe s
def TruR (X : Cx) (r : V → Hp → (Bool → Hp → Prop) → Prop) : Prop :=
  ∀ (pins : List (Addr × Obj)) (s : Shared) (σ : St) (H : Hp) (x : V) (v : Value) (Q : Bool → Hp → Prop), Inv X pins σ H s → RelV x v → r x H Q →
    wpAny (model X.prog X.w) X.A (truthy v) (TP X pins σ Q) X.xe s
def tOp (r : R2) (ta tb : TE) : TE := fun σ H Q => ta σ H fun x H1 => tb σ H1 fun y H2 => r x y H2 Q
def tUn (r : V → Hp → VK → Prop) (ta : TE) : TE := fun σ H Q => ta σ H fun x H1 => r x H1 Q
def rI (C : Int → Int → Prop) (g : Int → Int → V) : R2 := fun x y H Q => ∃ i j, x = .int i ∧ y = .int j ∧ C i j ∧ Q (g i j) H
def rI0 (g : Int → Int → V) : R2 := fun x y H Q => ∃ i j, x = .int i ∧ y = .int j ∧ Q (g i j) H
def rU (g : Int → V) : V → Hp → VK → Prop := fun x H Q => ∃ i, x = .int i ∧ Q (g i) H
section
variable {X : Cx} {a b c : Expr} {ta tb tc : TE} {pos : Pos}
theorem binT (ha : PE X a ta) (hb : PE X b tb) {pins : List (Addr × Obj)} {s : Shared} {σ : St} {H : Hp} {R : V → V → Hp → Prop} (I : Inv X pins σ H s)
    (h : ta σ H fun x H1 => tb σ H1 fun y H2 => R x y H2) {Q : Value → Shared → Prop} {f : Value → Value → Sem Value}
    (hf : ∀ v u s2 x y H2, Inv X pins σ H2 s2 → RelV x v → RelV y u → R x y H2 → wpAny (model X.prog X.w) X.A (f v u) Q X.xe s2) :
    wpAny (model X.prog X.w) X.A (eval a X.env) (fun v s₁ => wpAny (model X.prog X.w) X.A (eval b X.env) (fun u s₂ => wpAny (model X.prog X.w) X.A (f v u) Q X.xe s₂) X.xe s₁) X.xe s := by
  refine thn (ha pins s σ H _ I h) fun v s1 ⟨x, H1, I1, r1, q1⟩ => ?_
  refine thn (hb pins s1 σ H1 _ I1 q1) fun u s2 ⟨y, H2, I2, r2, q2⟩ => ?_
  exact hf v u s2 x y H2 I2 r1 r2 q2
theorem pe_op {op : Operator} {r : R2} (ho : OpR X (binaryOp op) r) (ha : PE X a ta) (hb : PE X b tb) : PE X (.BinOp a op b pos) (tOp r ta tb) := by
  intro pins s σ H Q I h
  exact wpAny_BinOp (binT ha hb I h fun v u s2 x y H2 I2 rx ry q => ho pins s2 σ H2 x y v u Q I2 rx ry q)
theorem pe_un {op : UnaryOp} {r : V → Hp → VK → Prop} (ho : UnR X (unaryOp op) r) (ha : PE X a ta) : PE X (.UnaryOp op a pos) (tUn r ta) := by
  intro pins s σ H Q I h
  exact UnaryOp_ (thn (ha pins s σ H _ I h) fun v s1 ⟨x, H1, I1, r1, q1⟩ => ho pins s1 σ H1 x v Q I1 r1 q1)
theorem opI {f : Value → Value → Sem Value} {C : Int → Int → Prop} {g : Int → Int → Int}
    (rule : ∀ (i j : Int) (t u : Tok) (s : Shared) (Q : Value → Shared → Prop) (E : Value → Shared → Prop), C i j → Q (.int (g i j) s.toks) { s with toks := s.toks + 1 } → wpAny (model X.prog X.w) X.A (f (.int i t) (.int j u)) Q E s) :
    OpR X f (rI C fun i j => .int (g i j)) := by
  intro pins s σ H x y v u Q I rx ry h
  obtain ⟨i, j, rfl, rfl, hc, q⟩ := h
  obtain ⟨t, rfl⟩ := rx
  obtain ⟨t', rfl⟩ := ry
  exact rule i j t t' s _ _ hc ⟨.int (g i j), H, I.tok _, ⟨_, rfl⟩, q⟩
theorem opI0 {f : Value → Value → Sem Value} {g : Int → Int → Int}
    (rule : ∀ (i j : Int) (t u : Tok) (s : Shared) (Q : Value → Shared → Prop) (E : Value → Shared → Prop), Q (.int (g i j) s.toks) { s with toks := s.toks + 1 } → wpAny (model X.prog X.w) X.A (f (.int i t) (.int j u)) Q E s) :
    OpR X f (rI0 fun i j => .int (g i j)) := by
  intro pins s σ H x y v u Q I rx ry h
  obtain ⟨i, j, rfl, rfl, q⟩ := h
  obtain ⟨t, rfl⟩ := rx
  obtain ⟨t', rfl⟩ := ry
  exact rule i j t t' s _ _ ⟨.int (g i j), H, I.tok _, ⟨_, rfl⟩, q⟩
theorem opB0 {f : Value → Value → Sem Value} {g : Int → Int → Bool}
    (rule : ∀ (i j : Int) (t u : Tok) (s : Shared) (Q : Value → Shared → Prop) (E : Value → Shared → Prop), Q (.bool (g i j)) s → wpAny (model X.prog X.w) X.A (f (.int i t) (.int j u)) Q E s) :
    OpR X f (rI0 fun i j => .bl (g i j)) := by
  intro pins s σ H x y v u Q I rx ry h
  obtain ⟨i, j, rfl, rfl, q⟩ := h
  obtain ⟨t, rfl⟩ := rx
  obtain ⟨t', rfl⟩ := ry
  exact rule i j t t' s _ _ ⟨.bl (g i j), H, I, rfl, q⟩
def CPow (i j : Int) : Prop := 0 ≤ j ∧ j ≤ 1000000 ∧ i.natAbs < 2 ^ 64
def CMul (i j : Int) : Prop := (-(2 ^ 64) < i ∧ i < 2 ^ 64) ∨ (-(2 ^ 64) < j ∧ j < 2 ^ 64)
theorem CMul.ok {i j : Int} (h : CMul i j) : IntMulOk i j := by
  rcases h with ⟨h1, h2⟩ | ⟨h1, h2⟩
  · exact .of_left (intBits_le_64 h1 h2)
  · exact .of_right (intBits_le_64 h1 h2)
theorem op_add : OpR X (binaryOp .Add) (rI0 fun i j => .int (i + j)) := opI0 fun _ _ _ _ _ _ _ q => add_int q
theorem op_sub : OpR X (binaryOp .Sub) (rI0 fun i j => .int (i - j)) := opI0 fun _ _ _ _ _ _ _ q => sub_int q
theorem op_modN : OpR X (binaryOp .Mod) (rI (fun _ j => j ≠ 0) fun i j => .int (i.fmod j)) := opI fun _ _ _ _ _ _ _ hc q => mod_int' hc q
theorem op_pow : OpR X (binaryOp .Pow) (rI CPow fun i j => .int (i ^ j.toNat)) := opI fun _ _ _ _ _ _ _ hc q => pow_int_small hc.1 hc.2.1 hc.2.2 q
theorem unI {f : Value → Sem Value} {g : Int → Int}
    (rule : ∀ (i : Int) (t : Tok) (s : Shared) (Q : Value → Shared → Prop) (E : Value → Shared → Prop), Q (.int (g i) s.toks) { s with toks := s.toks + 1 } → wpAny (model X.prog X.w) X.A (f (.int i t)) Q E s) :
    UnR X f (rU fun i => .int (g i)) := by
  intro pins s σ H x v Q I rx h
  obtain ⟨i, rfl, q⟩ := h
  obtain ⟨t, rfl⟩ := rx
  exact rule i t s _ _ ⟨.int (g i), H, I.tok _, ⟨_, rfl⟩, q⟩
theorem un_neg : UnR X (unaryOp .USub) (rU fun i => .int (-i)) := unI fun _ _ _ _ _ q => neg_int q
end
section
variable {X : Cx} {a b c : Expr} {ta tb tc : TE} {pos : Pos}
theorem op_lt : OpR X (compareOp .Lt) (rI0 fun i j => .bl (decide (i < j))) := opB0 fun _ _ _ _ _ _ _ q => lt_int q
theorem op_ge : OpR X (compareOp .GtE) (rI0 fun i j => .bl (decide (j ≤ i))) := opB0 fun _ _ _ _ _ _ _ q => ge_int q
theorem OpR.or {f : Value → Value → Sem Value} {r r' : R2} (h : OpR X f r) (h' : OpR X f r') : OpR X f (fun x y H Q => r x y H Q ∨ r' x y H Q) := by
  intro pins s σ H x y v u Q I rx ry q
  rcases q with q | q
  · exact h pins s σ H x y v u Q I rx ry q
  · exact h' pins s σ H x y v u Q I rx ry q
theorem nomark (b : Expr) {op : CmpOp} (h : op ≠ .In := by decide) (h2 : op ≠ .NotIn := by decide) : behindInMarks op b = false := by
  have e1 : (op == CmpOp.In) = false := by cases op <;> first | rfl | exact absurd rfl h
  have e2 : (op == CmpOp.NotIn) = false := by cases op <;> first | rfl | exact absurd rfl h2
  cases b <;> simp [behindInMarks, e1, e2]
theorem pe_cmpR {op : CmpOp} {r : R2} (ho : OpR X (compareOp op) r) (ha : PE X a ta) (hb : PE X b tb) (hm : behindInMarks op b = false) : PE X (.Compare a [op] [b] pos) (tOp r ta tb) := by
  intro pins s σ H Q I h
  exact wpAny_Compare1 (binT ha hb I h fun v u s2 x y H2 I2 rx ry q => ho pins s2 σ H2 x y v u Q I2 rx ry q) hm
def tTest (t : TE) : TT := fun σ H Q => t σ H fun x H' => ∃ k, x = .bl k ∧ Q k H'
theorem pt_cmpR {op : CmpOp} {r : R2} (ho : OpR X (compareOp op) r) (ha : PE X a ta) (hb : PE X b tb) (hm : behindInMarks op b = false) : PT X (.Compare a [op] [b] pos) (tTest (tOp r ta tb)) := by
  intro pins s σ H Q I h
  refine wpAny_isTrue_Compare1 (thn (ha pins s σ H _ I h) fun v s1 ⟨x, H1, I1, r1, q1⟩ => thn (hb pins s1 σ H1 _ I1 q1) fun u s2 ⟨y, H2, I2, r2, q2⟩ =>
    thn (ho pins s2 σ H2 x y v u _ I2 r1 r2 q2) fun c s3 ⟨z, H3, I3, r3, k, e, q3⟩ => ?_) hm
  subst e
  cases r3
  exact wpAny_truthy_bool ⟨H3, I3, q3⟩
def TruV (K : PySem.W.Frag) (x : V) (H : Hp) (k : Bool) : Prop :=
  match x with
  | .non => k = false
  | .bl b => k = b
  | .int i => k = (i != 0)
  | .str y => y.length ≤ sizeLine ∧ k = ((y.length : Int) != 0)
  | .byt y => y.size ≤ sizeLine ∧ k = ((y.size : Int) != 0)
  | .ref p => (∃ xs, SqL K H p xs ∧ k = !xs.isEmpty) ∨ (∃ xs, SqT K H p xs ∧ k = !xs.isEmpty) ∨ ∃ kvs, H p = some (.dK kvs) ∧ k = !kvs.isEmpty
  | _ => False
theorem isEmpty_kv {κ : Type} {kvs : List (κ × V)} {vs : List (κ × Value)} (r : KV kvs vs) : (!vs.isEmpty) = !kvs.isEmpty := by
  cases r <;> rfl
theorem isEmpty_of {xs : List V} {its : List Value} (r : Vals xs its) : (!its.toArray.isEmpty) = !xs.isEmpty := by
  cases r <;> simp
theorem line63 : (sizeLine : Nat) < 2 ^ 63 := by rw [sizeLine_eq]; decide
theorem tru_ok : TruR X (fun x H Q => ∃ k, TruV X.K x H k ∧ Q k H) := by
  intro pins s σ H x v Q I rx h
  obtain ⟨k, e, q⟩ := h
  have hl := line63
  have hs : sizeLine = 16777216 := sizeLine_eq
  cases x with
  | non =>
    cases rx
    have e' : k = false := e
    subst e'
    exact truthy_none ⟨H, I, q⟩
  | bl b =>
    cases rx
    have e' : k = b := e
    subst e'
    exact wpAny_truthy_bool ⟨H, I, q⟩
  | int i =>
    obtain ⟨t, rfl⟩ := rx
    have e' : k = (i != 0) := e
    subst e'
    exact PySem.P.truthy_int ⟨H, I, q⟩
  | str y =>
    obtain ⟨t, rfl⟩ := rx
    obtain ⟨hy, e'⟩ : y.length ≤ sizeLine ∧ k = ((y.length : Int) != 0) := e
    subst e'
    exact PySem.P.truthy_str (by omega) ⟨H, I.tok _, q⟩
  | byt y =>
    obtain ⟨t, rfl⟩ := rx
    obtain ⟨hy, e'⟩ : y.size ≤ sizeLine ∧ k = ((y.size : Int) != 0) := e
    subst e'
    exact PySem.W.truthy_bytes (by omega) ⟨H, I.tok _, q⟩
  | ref p =>
    cases rx
    have e' : (∃ xs, SqL X.K H p xs ∧ k = !xs.isEmpty) ∨ (∃ xs, SqT X.K H p xs ∧ k = !xs.isEmpty) ∨ ∃ kvs, H p = some (.dK kvs) ∧ k = !kvs.isEmpty := e
    rcases e' with ⟨xs, hx, e'⟩ | ⟨xs, hx, e'⟩ | ⟨kvs, hx, e'⟩
    · subst e'
      obtain ⟨its, r, pl, hz⟩ := I.list hx
      have hlen := r.length
      exact wpAny_truthy_list pl.isList (by simp only [List.size_toArray]; omega) ⟨H, I.tok _, by rw [isEmpty_of r]; exact q⟩
    · subst e'
      obtain ⟨its, r, pl, hz⟩ := I.tuple hx
      have hlen := r.length
      exact truthy_tuple pl (by simp only [List.size_toArray]; omega) ⟨H, I.tok _, by rw [isEmpty_of r]; exact q⟩
    · subst e'
      obtain ⟨hz, hS, vs, r, m⟩ : kvs.length ≤ sizeLine ∧ (p == sysModules) = false ∧ ∃ vs, KV kvs vs ∧ s.heap.DictOf (mixKind X.prog X.w) p vs := I.hok p _ hx
      have hlen : kvs.length = vs.length := Paired.length r
      exact wpAny_truthy_dict hS m (by omega) ⟨H, I.tok _, by rw [isEmpty_kv r]; exact q⟩
  | _ => exact (show False from e).elim
theorem pt_truth (ha : PE X a ta) (he : ∀ whole, isTrue a X.env whole = (do let v ← whole; standAt a.pos; holding [v] (truthy v))) :
    PT X a (fun σ H Q => ta σ H fun x H' => ∃ k, TruV X.K x H' k ∧ Q k H') := by
  intro pins s σ H Q I h
  exact isTrue_plain (thn (ha pins s σ H _ I h) fun v s1 ⟨x, H1, I1, r1, q1⟩ => tru_ok pins s1 σ H1 x v Q I1 r1 q1) (he _)
theorem vals1 {x : V} {us : List Value} (r : Vals [x] us) : ∃ u, us = [u] ∧ RelV x u := by
  cases r with
  | cons r1 r2 => cases r2; exact ⟨_, rfl, r1⟩
theorem vals2 {x y : V} {us : List Value} (r : Vals [x, y] us) : ∃ u w', us = [u, w'] ∧ RelV x u ∧ RelV y w' := by
  cases r with
  | cons r1 r2 =>
    cases r2 with
    | cons r3 r4 => cases r4; exact ⟨_, _, rfl, r1, r3⟩
theorem call_abs : CallR X (.builtin "abs") (fun xs H Q => ∃ i, xs = [.int i] ∧ Q (.int (if i < 0 then -i else i)) H) := by
  intro pins s σ H xs us Q I r h
  obtain ⟨i, rfl, q⟩ := h
  obtain ⟨u, rfl, t, rfl⟩ := vals1 r
  exact call_abs_int fun u tk => ⟨.int (if i < 0 then -i else i), H, I.tok _, ⟨_, rfl⟩, q⟩
theorem call_int1 : CallR X (.type "int") (fun xs H Q => (∃ i, xs = [.int i] ∧ Q (.int i) H) ∨ ∃ k, xs = [.bl k] ∧ Q (.int (if k then 1 else 0)) H) := by
  intro pins s σ H xs us Q I r h
  rcases h with ⟨i, rfl, q⟩ | ⟨k, rfl, q⟩
  · obtain ⟨u, rfl, t, rfl⟩ := vals1 r
    exact call_int_int ⟨.int i, H, I, ⟨_, rfl⟩, q⟩
  · obtain ⟨u, rfl, r1⟩ := vals1 r
    cases r1
    exact call_int_bool ⟨.int (if k then 1 else 0), H, I.tok _, ⟨_, rfl⟩, q⟩
end
end L2
namespace L2
open PySem PySem.Spec PyProof.Rows
section
variable {prog : Program} {w : World} {A : Around} {E : Value → Shared → Prop} {s : Shared} {K : PySem.W.Frag} {x dx C f : Addr} {mA : Str → Option Value} {name : Str} {v : Value}
end
section
variable {P : Program} {w : World} {H H' : Hp} {h h' : Heap} {a C dx : Addr} {fs fs' : List (Str × V)}
end
structure Cls (K : PySem.W.Frag) (C : Addr) : Prop where
  pg : PySem.W.plainGet K C Str.empty = true
  hd : PySem.W.hasDictIn K C = true
  po : PySem.W.plainOver K C = true
  sa : PySem.W.findIn K (.ref C) "__setattr__" = some (some (.builtin "object.__setattr__"))
theorem Cls.get {K : PySem.W.Frag} {C : Addr} (c : Cls K C) (f : Str) : PySem.W.plainGet K C f = true := c.pg
section
variable {X : Cx} {pins : List (Addr × Obj)} {σ : St} {H : Hp} {s : Shared} {a C dx : Addr} {fs : List (Str × V)} {f : Str} {v : V} {A : Around} {E : Value → Shared → Prop}
end
section
variable {X : Cx} {o e value : Expr} {f : Str} {pos pos' tpos : Pos} {ta tv : TE}
end
section
variable {X : Cx} {pins : List (Addr × Obj)} {σ : St} {H : Hp} {s : Shared} {A : Around} {E : Value → Shared → Prop} {Q : Value → Shared → Prop} {c : Value} {b : Bool}
end
end L2
namespace L2
open PySem PySem.Spec PyProof.Rows
structure Room (k : Nat) (A : Around) : Prop where
  hd : A.handled = none
  dp : A.depth + 3 * k + 5 < recursionLimit
  un : A.units + 16 * k + 200 < cLine
theorem Room.mono {j k : Nat} {A : Around} (r : Room k A) (h : j ≤ k) : Room j A := ⟨r.hd, by have := r.dp; omega, by have := r.un; omega⟩
theorem Room.deeper {k : Nat} {A : Around} (r : Room (k + 1) A) (env : Env) : Room k (A.deeper env) :=
  ⟨r.hd, by have := r.dp; show A.depth + 1 + 3 * k + 5 < _; omega, by have := r.un; show A.units + 3 + 16 * k + 200 < _; omega⟩
theorem Room.depth {k : Nat} {A : Around} (r : Room k A) : A.depth < recursionLimit := by have := r.dp; omega
theorem Room.units {k : Nat} {A : Around} (r : Room k A) : A.units + 64 < cLine := by have := r.un; omega
def tNil : TA := fun _ H Q => Q [] H
def tCons (ta : TE) (tr : TA) : TA := fun σ H Q => ta σ H fun x H1 => tr σ H1 fun xs H2 => Q (x :: xs) H2
section
variable {X : Cx} {e : Expr} {es : List Expr} {te : TE} {t : TA} {pos : Pos}
theorem pa_nil : PA X [] tNil := fun _ _ _ _ H Q I h => Calls.spliced_nil ⟨[], H, I, .nil, h⟩
theorem pa_cons (ha : PE X e te) (hr : PA X es t) (hs : starEach (e :: es) X.env = (false, eval e X.env) :: starEach es X.env := by rfl) : PA X (e :: es) (tCons te t) := by
  intro pos pins s σ H Q I h
  rw [hs]
  show wpAny _ _ (spliced ((false, eval e X.env) :: backTo pos (starEach es X.env))) _ _ s
  refine Calls.spliced_cons (thn (ha pins s σ H _ I h) fun u s1 ⟨x, H1, I1, r1, q1⟩ => ?_)
  exact thn (hr pos pins s1 σ H1 _ I1 q1) fun us s2 ⟨xs, H2, I2, r2, q2⟩ => ⟨x :: xs, H2, I2, .cons r1 r2, q2⟩
def tTup (t : TA) : TE := fun σ H Q => t σ H fun xs H1 => xs.length ≤ sizeLine ∧ ∀ p, H1 p = none → Q (.ref p) (upd H1 p (.tup xs))
def tLst (t : TA) : TE := fun σ H Q => t σ H fun xs H1 => xs.length ≤ sizeLine ∧ ∀ p, H1 p = none → Q (.ref p) (upd H1 p (.lst xs))
theorem pe_tup {x1} (h : PA X es t) : PE X (.Tuple es x1 pos) (tTup t) := by
  intro pins s σ H Q I hq
  refine wpAny_Tuple_spliced (thn (h pos pins s σ H _ I hq) fun us s1 ⟨xs, H1, I1, r, z, q⟩ => ⟨by rw [← r.length]; exact z, ?_⟩)
  have hf : H1 s1.heap.objs.size = none := I1.hok.fresh (Nat.le_refl _)
  refine ⟨.ref s1.heap.objs.size, upd H1 s1.heap.objs.size (.tup xs), I1.laid (t' := s1.toks) (fun b u e => Heap.get?_push_of_some _ e) (Nat.le_refl _) ?_, rfl, q _ hf⟩
  exact ⟨z, us, r, ⟨_, Heap.get?_push_size _ rfl, rfl, _, rfl⟩⟩
theorem pe_lst (h : PA X es t) : PE X (.List es pos) (tLst t) := by
  intro pins s σ H Q I hq
  refine wpAny_List_spliced (thn (h pos pins s σ H _ I hq) fun us s1 ⟨xs, H1, I1, r, z, q⟩ => ⟨by rw [← r.length]; exact z, ?_⟩)
  have hf : H1 s1.heap.objs.size = none := I1.hok.fresh (Nat.le_refl _)
  refine ⟨.ref s1.heap.objs.size, upd H1 s1.heap.objs.size (.lst xs), I1.laid (t' := s1.toks) (fun b u e => Heap.get?_push_of_some _ e) (Nat.le_refl _) ?_, rfl, q _ hf⟩
  exact ⟨z, us, 0, r, Heap.get?_push_size _ rfl⟩
end
abbrev Sp := List V → Hp → VK → XK → Prop
abbrev CXT := List Env → Hp → Shared → XK → Value → Shared → Prop
structure Env0 (P : Program) (w : World) (K : PySem.W.Frag) (mg : Str → Option Value) (base : Heap) (A : Around) (outer : List Env) (s : Shared) (H : Hp) : Prop where
  frames : A.frames = some outer
  mod : Mod K mg base
  bs : ∀ b o, base.get? b = some o → s.heap.get? b = some o ∧ H b = none
  bsz : base.objs.size ≤ s.heap.objs.size
  funs : s.heap.FunFrames base outer
  frf : ∀ b ∈ frs outer, H b = none
  hok : HOk P w H s.heap
  bare : AllBare s.gens
def CE (outer : List Env) (P : Program) (w : World) (H : Hp) (s : Shared) (Q : VK) (u : Value) (s' : Shared) : Prop :=
  ∃ v H', s'.os = s.os ∧ AllBare s'.gens ∧ Un (frs outer) [] H H' s.heap s'.heap ∧ HOk P w H' s'.heap ∧ RelV v u ∧ Q v H'
def CR (CX : CXT) (outer : List Env) (P : Program) (w : World) (H : Hp) (s : Shared) (Q : VK) (E : XK) (r : Result) (s' : Shared) : Prop :=
  match r with
  | .ok (.ret u) => CE outer P w H s Q u s'
  | .ok _ => False
  | .error e => CX outer H s E e s'
structure FnOk (P : Program) (w : World) (K : PySem.W.Frag) (mg : Str → Option Value) (base : Heap) (CX : CXT) (k : Nat) (f : Addr) (fd : FuncData) (ps : List Str) (sp : Sp) : Prop where
  len : ∀ vs H Q E, sp vs H Q E → vs.length = ps.length
  run : ∀ (A : Around) (outer : List Env) (s : Shared) (H : Hp) (args : Args) (us : List Value) (vs : List V) (Q : VK) (E : XK), Room k A → Env0 P w K mg base A outer s H → BindsTo s fd args (ps.zip us) → Vals vs us → sp vs H Q E →
    codeAny (model P w) A (.call (.ref f) args) (CR CX outer P w H s Q E) s
theorem FnOk.mono {P : Program} {w : World} {K : PySem.W.Frag} {mg : Str → Option Value} {base : Heap} {CX : CXT} {j k : Nat} {f : Addr} {fd : FuncData} {ps : List Str} {sp : Sp} (F : FnOk P w K mg base CX j f fd ps sp) (h : j ≤ k) :
    FnOk P w K mg base CX k f fd ps sp := ⟨F.len, fun A outer s H args us vs Q E hr => F.run A outer s H args us vs Q E (hr.mono h)⟩
section
variable {X : Cx} {pins : List (Addr × Obj)} {σ : St} {H : Hp} {s s' : Shared}
theorem Inv.env0 (I : Inv X pins σ H s) : Env0 X.prog X.w X.K X.mg X.base X.A X.stack s H :=
  ⟨I.ok.frames, I.ok.mod, I.bs, Nat.le_trans I.ok.bsz I.sz, I.stack, I.stkFree, I.hok, I.bare⟩
theorem Inv.after {Q : VK} {u : Value} (I : Inv X pins σ H s) (h : CE X.stack X.prog X.w H s Q u s') : EP X pins σ Q u s' := by
  obtain ⟨v, H', os, bare, un, hok, r, q⟩ := h
  obtain ⟨hh, g, d, t, os'⟩ := s'
  obtain rfl : os' = s.os := os
  exact ⟨v, H', I.call (h' := hh) (g' := g) (d' := d) (t' := t) (ch := []) un hok bare (fun b z => absurd z (by simp)), r, q⟩
end
def tCall (sp : Sp) (dvs : List V) (E : XK) (t : TA) : TE := fun σ H Q => t σ H fun vs H1 => sp (vs ++ dvs) H1 Q E
def Binds (K : PySem.W.Frag) (fd : FuncData) (ps : List Str) (ds : List Value) : Prop :=
  ∀ (s : Shared) (us : List Value), K.In s.heap → (us ++ ds).length = ps.length → BindsTo s fd ⟨us, []⟩ (ps.zip (us ++ ds))
theorem Binds.all {K : PySem.W.Frag} {fd : FuncData} {ps : List Str} (h : ∀ us : List Value, us.length = ps.length → bindArgs fd ⟨us, []⟩ = pure (ps.zip us)) : Binds K fd ps [] := fun s us _ hl => by
  rw [List.append_nil] at hl ⊢
  exact .of_eq (h us hl)
def Passes (CX : CXT) (X : Cx) (E : XK) : Prop := ∀ (pins : List (Addr × Obj)) (σ : St) (H : Hp) (s : Shared) (e : Value) (s' : Shared), Inv X pins σ H s → CX X.stack H s E e s' → X.xe e s'
section
variable {X : Cx} {CX : CXT} {k : Nat} {f C : Addr} {fd : FuncData} {ps : List Str} {sp : Sp} {dvs : List V} {ds : List Value} {E : XK} {x m : Str} {p pos apos : Pos} {e o : Expr} {es : List Expr} {ta : TE} {t : TA}
theorem run_fn {pins : List (Addr × Obj)} {σ : St} {H : Hp} {s : Shared} {Q : VK} {us : List Value} {vs : List V} (F : FnOk X.prog X.w X.K X.mg X.base CX k f fd ps sp) (hr : Room k X.A) (hb : Binds X.K fd ps ds) (hd : Vals dvs ds) (hx : Passes CX X E)
    (I : Inv X pins σ H s) (r : Vals vs us) (h : sp (vs ++ dvs) H Q E) : wpAny (model X.prog X.w) X.A (call (.ref f) us) (EP X pins σ Q) X.xe s := by
  have r2 : Vals (vs ++ dvs) (us ++ ds) := r.append hd
  have hl : (us ++ ds).length = ps.length := by rw [← r2.length]; exact F.len _ _ _ _ h
  refine wpAny_call (codeAny_mono (F.run X.A X.stack s H ⟨us, []⟩ (us ++ ds) (vs ++ dvs) Q E hr I.env0 (hb s us I.kIn hl) r2 h) fun r s' hq => ?_)
  cases r with
  | error e => exact hx pins σ H s e s' I hq
  | ok fl =>
    cases fl with
    | ret u => exact I.after hq
    | next => exact False.elim hq
    | brk => exact False.elim hq
    | cont => exact False.elim hq
theorem pe_call (F : FnOk X.prog X.w X.K X.mg X.base CX k f fd ps sp) (hr : Room k X.A) (hg : Gl X x) (hm : X.mg x = some (.ref f)) (hk : PySem.W.keepIn X.K (.ref f) = true) (hb : Binds X.K fd ps ds) (hd : Vals dvs ds) (hx : Passes CX X E)
    (ha : PA X (e :: es) t) (hdb : (x == ("__debug__" : Str)) = false := by decide) (he : starEach (e :: es) X.env = (false, eval e X.env) :: starEach es X.env := by rfl) (hpl : (backTo pos (starEach es X.env)).any (·.1) = false := by rfl) :
    PE X (.Call (.Name x p) (e :: es) [] pos) (tCall sp dvs E t) := by
  intro pins s σ H Q I h
  refine wpAny_Call_Name_kw (ld_glob I hg hm ?_ hdb)
  refine PySem.W.callWith_K (h₀ := X.base) I.ok.mod.kin hk (thn (ha pos pins s σ H _ I h) fun us s1 ⟨vs, H1, I1, r, q⟩ => ⟨I1.kIn, ?_⟩) he hpl
  exact run_fn F hr hb hd hx I1 r q
end
section
variable {X : Cx} {CX : CXT} {k : Nat} {f C : Addr} {fd : FuncData} {ps ks : List Str} {sp : Sp} {E : XK} {x m : Str} {p pos apos kpos : Pos} {e o : Expr} {es : List Expr} {kws : List Keyword} {te ta : TE} {t tk : TA} {nm : Option Str}
variable {g : List Value → List Value → List Value} {gV : List V → List V → List V}
end
structure FnScope (N P : List Str) (sc : Scope) : Prop where
  kind : sc.kind = .function
  co : sc.isCoroutine = false
  gen : sc.isGenerator = false
  nd : N.Nodup
  pre : N.take P.length = P
  par : ∀ x ∈ P, sc.names.lookup x = some .local ∨ sc.names.lookup x = some .cell
  nofree : ∀ y ∈ sc.names, y.2 ≠ .free
theorem bindL_out {kindOf : Str → Option NameKind} {x : Str} : ∀ {binds : List (Str × Value)} {m : Str → Option Value}, (∀ v, (x, v) ∉ binds) → bindL kindOf binds m x = m x
  | [], _, _ => rfl
  | (n, v) :: r, m, h => by
    unfold bindL
    rw [bindL_out fun w hw => h w (List.mem_cons_of_mem _ hw)]
    split
    · have : x ≠ n := by rintro rfl; exact h v List.mem_cons_self
      simp [this]
    · rfl
theorem bindC_out {kindOf : Str → Option NameKind} {x : Str} : ∀ {binds : List (Str × Value)} {m : Str → Option Value}, (∀ v, (x, v) ∉ binds) → bindC kindOf binds m x = m x
  | [], _, _ => rfl
  | (n, v) :: r, m, h => by
    unfold bindC
    rw [bindC_out fun w hw => h w (List.mem_cons_of_mem _ hw)]
    split
    · rfl
    · have : x ≠ n := by rintro rfl; exact h v List.mem_cons_self
      simp [this]
theorem bindL_get {kindOf : Str → Option NameKind} {x : Str} {v : Value} : ∀ {P : List Str} {vs : List Value} {i : Nat} {m : Str → Option Value}, P.Nodup → P[i]? = some x → vs[i]? = some v → kindOf x = some .local →
    bindL kindOf (P.zip vs) m x = some v
  | [], _, _, _, _, h, _, _ => by simp at h
  | _ :: _, [], _, _, _, _, h, _ => by simp at h
  | p :: P, w :: vs, 0, m, nd, h1, h2, hk => by
    simp at h1 h2; subst h1; subst h2
    show bindL kindOf ((p, w) :: P.zip vs) m p = _
    unfold bindL
    rw [bindL_out fun v hv => (List.nodup_cons.mp nd).1 (List.of_mem_zip hv).1, if_pos hk]
    simp
  | p :: P, w :: vs, i + 1, m, nd, h1, h2, hk => by
    show bindL kindOf ((p, w) :: P.zip vs) m x = _
    unfold bindL
    exact bindL_get (i := i) (List.nodup_cons.mp nd).2 (by simpa using h1) (by simpa using h2) hk
theorem bindC_get {kindOf : Str → Option NameKind} {x : Str} {v : Value} : ∀ {P : List Str} {vs : List Value} {i : Nat} {m : Str → Option Value}, P.Nodup → P[i]? = some x → vs[i]? = some v → kindOf x ≠ some .local →
    bindC kindOf (P.zip vs) m x = some v
  | [], _, _, _, _, h, _, _ => by simp at h
  | _ :: _, [], _, _, _, _, h, _ => by simp at h
  | p :: P, w :: vs, 0, m, nd, h1, h2, hk => by
    simp at h1 h2; subst h1; subst h2
    show bindC kindOf ((p, w) :: P.zip vs) m p = _
    unfold bindC
    rw [bindC_out fun v hv => (List.nodup_cons.mp nd).1 (List.of_mem_zip hv).1, if_neg hk]
    simp
  | p :: P, w :: vs, i + 1, m, nd, h1, h2, hk => by
    show bindC kindOf ((p, w) :: P.zip vs) m x = _
    unfold bindC
    exact bindC_get (i := i) (List.nodup_cons.mp nd).2 (by simpa using h1) (by simpa using h2) hk
def start (N : List Str) (vs : List V) : St := vs.map some ++ List.replicate (N.length - vs.length) none
def cxOf (CX : CXT) (P : Program) (w : World) (K : PySem.W.Frag) (mg : Str → Option Value) (base : Heap) (N : List Str) (qual : Str) (scope : Scope) (f : Addr) (cd : Value) (A : Around) (outer : List Env) (s : Shared) (H : Hp) (E : XK) : Cx where
  prog := P
  w := w
  K := K
  mg := mg
  base := base
  A := A.deeper (envOfC qual scope s.heap.objs.size f cd)
  N := N
  s₀ := s
  H₀ := H
  env := envOfC qual scope s.heap.objs.size f cd
  outer := outer
  stack := envOfC qual scope s.heap.objs.size f cd :: outer
  ex := []
  calm := true
  fn := fun _ => true
  pn := []
  xe := fun e s' => wpAny (model P w) (A.deeper (envOfC qual scope s.heap.objs.size f cd)) (leaving (envOfC qual scope s.heap.objs.size f cd) e) (fun _ s'' => CX outer H s E e s'') (fun e' s'' => CX outer H s E e' s'') s'
theorem cell_has {sc : Scope} {n : Nat} {x : Str} (h : sc.names.lookup x = some .cell) : ∃ c, (cellsFrom n sc.names []).lookup x = some c := by
  have q := PySem.W.cellsFrom_some sc.names n [] (.inl h)
  exact Option.isSome_iff_exists.mp q
theorem inv_start {CX : CXT} {P : Program} {w : World} {K : PySem.W.Frag} {mg : Str → Option Value} {base : Heap} {N ps : List Str} {qual : Str} {scope : Scope} {f : Addr} {cd : Value} {A : Around} {outer : List Env} {s s1 : Shared} {H : Hp} {E : XK} {us : List Value} {vs : List V}
    (S : FnScope N ps scope) (hd : A.handled = none) (e0 : Env0 P w K mg base A outer s H) (hl : vs.length = ps.length) (r : Vals vs us)
    (x : InCallC s s.heap.objs.size (bindL (envOfC qual scope s.heap.objs.size f cd).kindOf (ps.zip us) fun _ => none) (cellsFrom (s.heap.objs.size + 1) scope.names []) (bindC (envOfC qual scope s.heap.objs.size f cd).kindOf (ps.zip us) fun _ => none) s1) :
    Inv (cxOf CX P w K mg base N qual scope f cd A outer s H E) [] (start N vs) H s1 := by
  have hpl : ps.length ≤ N.length := by have := congrArg List.length S.pre; rw [List.length_take] at this; omega
  obtain ⟨h1, tk, rfl, hk⟩ := x.done
  have noA : ∀ b : Addr, b ∉ (cxOf CX P w K mg base N qual scope f cd A outer s H E).ex := fun b z => absurd (show b ∈ ([] : List Addr) from z) (by simp)
  refine ⟨⟨e0.mod, S.kind, rfl, rfl, Nat.le_refl _, fun y z c h1 h2 => ?_, fun y hy => ?_, fun y c _ h => ?_, fun _ => hd, Around.frames_deeper e0.frames, .inr ⟨rfl, rfl⟩, fun b z => absurd z (noA b), e0.bs, e0.bsz, fun b _ _ => noA b, fun b z => absurd z (noA b), e0.funs, e0.frf⟩,
    rfl, e0.bare, Un.kept hk, ⟨_, x.toInCall.ns, fun i y v h1 h2 h3 => ?_⟩, fun y c h => ⟨_, x.cell y c h⟩, e0.hok.fresh (Nat.le_refl _), fun y c h => ?_, fun p hp => absurd (show p ∈ ([] : List (Addr × Obj)) from hp) (by simp), e0.hok.kept hk, ?_⟩
  · exact name_of_addr x.apart (PySem.mem_of_lookup h1) (PySem.mem_of_lookup h2)
  · have hy : scope.names.lookup y = some .cell ∨ scope.names.lookup y = some .free := hy
    rcases hy with hy | hy
    · exact cell_has hy
    · exact absurd rfl (S.nofree _ (PySem.mem_of_lookup hy))
  · exact Nat.le_of_lt (x.above y c (PySem.mem_of_lookup h))
  · have hi : i < vs.length := by
      unfold start at h2
      by_cases hi : i < vs.length
      · exact hi
      · rw [List.getElem?_append_right (by simpa using hi)] at h2
        rw [List.getElem?_replicate] at h2
        split at h2 <;> cases h2
    have ha : vs[i]? = some v := by
      unfold start at h2
      rw [List.getElem?_append_left (by simpa using hi), List.getElem?_map] at h2
      cases e : vs[i]? with
      | none => rw [e] at h2; cases h2
      | some a => rw [e] at h2; cases h2; rfl
    obtain ⟨u, hu, rv⟩ := r.get ha
    have hp : ps[i]? = some y := by
      rw [← S.pre, List.getElem?_take_of_lt (by omega)]; exact h1
    have ndP : ps.Nodup := by rw [← S.pre]; exact S.nd.sublist (List.take_sublist _ _)
    refine ⟨u, rv, ?_⟩
    rcases S.par y (List.mem_of_getElem? hp) with k | k
    · exact .inl ⟨k, bindL_get ndP hp hu k⟩
    · obtain ⟨c, e⟩ := cell_has (n := s.heap.objs.size + 1) k
      refine .inr ⟨.inl k, c, e, ?_⟩
      have q := x.cell y c e
      rw [bindC_get ndP hp hu (by show scope.names.lookup y ≠ _; rw [k]; decide)] at q
      exact q
  · exact e0.hok.fresh (Nat.le_of_lt (x.above y c (PySem.mem_of_lookup h)))
  · unfold start
    show _ = N.length
    rw [List.length_append, List.length_map, List.length_replicate]
    omega
theorem fn_of {CX : CXT} {P : Program} {w : World} {K : PySem.W.Frag} {mg : Str → Option Value} {base : Heap} {k : Nat} {f : Addr} {name qual : Str} {params : Arguments} {body : List Stmt} {scope : Scope} {dV kV doc pm cdv ct oc : Value} {an od : Option Addr}
    {osl : Array (Option Value)} {N ps : List Str} {sp : Sp} (lk : K.lookup f = some ⟨oc, od, .func (PySem.W.fnOf name qual params body scope dV kV doc pm an cdv ct), osl⟩) (hcd : PySem.W.codeIn K cdv qual = true) (S : FnScope N ps scope)
    (len : ∀ vs H Q E, sp vs H Q E → vs.length = ps.length)
    (hbody : ∀ (A : Around) (outer : List Env) (s : Shared) (H : Hp) (vs : List V) (Q : VK) (E : XK), Room k (A.deeper (envOfC qual scope s.heap.objs.size f cdv)) → sp vs H Q E →
      ∃ t, PSs (cxOf CX P w K mg base N qual scope f cdv A outer s H E) body t ∧ t { nx := fun _ H' => Q .non H', rt := Q } (start N vs) H) :
    FnOk P w K mg base CX (k + 1) f (PySem.W.fnOf name qual params body scope dV kV doc pm an cdv ct) ps sp := by
  refine ⟨len, fun A outer s H args us vs Q E hr e0 hb r hsp => ?_⟩
  have hl := len _ _ _ _ hsp
  have KX : K.In s.heap := e0.mod.kin.keeps fun b o e => (e0.bs b o e).1
  have lim : s.heap.NoLimit := e0.mod.nolimit.keeps fun b o e => (e0.bs b o e).1
  have hkind : ∀ y ∈ ps.zip us, scope.names.lookup y.1 = some .local ∨ (scope.names.lookup y.1 = some .cell ∧ ((cellsFrom (s.heap.objs.size + 1) scope.names []).lookup y.1).isSome = true) := fun ⟨n, v⟩ hy => by
    rcases S.par n (List.of_mem_zip hy).1 with q | q
    · exact .inl q
    · exact .inr ⟨q, PySem.W.cellsFrom_some _ _ _ (.inl q)⟩
  refine codeAny_call_function hr.depth (KX _ _ lk) rfl S.co S.gen rfl (PySem.W.codeRec_of KX hcd) (hb _ _ _ _ ?_)
  refine wpAny_newFunctionEnv_cells S.kind hkind fun env he s1 x => ?_
  subst he
  refine ⟨lim.keeps x.toInCall.keep, codeAny_func ?_⟩
  obtain ⟨t, ht, hq⟩ := hbody A outer s H vs Q E (hr.deeper _) hsp
  have I : Inv (cxOf CX P w K mg base N qual scope f cdv A outer s H E) [] (start N vs) H s1 := inv_start S hr.hd e0 hl r x
  refine wpAny_mono (ht [] s1 (start N vs) H _ I hq) (fun fl s' hs => ?_) fun e s' hs => hs
  have fin : ∀ {σ' : St} {H' : Hp} {v : V} {u : Value}, Inv (cxOf CX P w K mg base N qual scope f cdv A outer s H E) [] σ' H' s' → RelV v u → Q v H' → CE outer P w H s Q u s' :=
    fun {σ' H' v u} J rv q => ⟨v, H', J.os, J.bare, J.base, J.hok, rv, q⟩
  cases fl with
  | ret u =>
    obtain ⟨v, σ', H', J, rv, q⟩ := hs
    exact fin J rv q
  | next =>
    obtain ⟨σ', H', J, q⟩ := hs
    exact fin (v := V.non) (u := Value.none) J rfl q
  | brk =>
    obtain ⟨_, _, _, q⟩ := hs
    exact False.elim q
  | cont =>
    obtain ⟨_, _, _, q⟩ := hs
    exact False.elim q
end L2
namespace L2
open PySem PySem.Spec PyProof.Rows
section
variable {X : Cx} {x : Str} {p pos : Pos} {e : Expr} {es : List Expr} {t : TA} {id T : String} {r : List V → Hp → VK → Prop}
def tCB (r : List V → Hp → VK → Prop) (t : TA) : TE := fun σ H Q => t σ H fun vs H1 => r vs H1 Q
theorem pe_callB (hc : CallR X (.builtin id) r) (hg : Gl X x) (hm : X.mg x = none) (hv : bootBuiltins x = some (.builtin id)) (ha : PA X (e :: es) t) (hn : x ≠ "__name__" := by decide) (hdb : (x == ("__debug__" : Str)) = false := by decide)
    (he : starEach (e :: es) X.env = (false, eval e X.env) :: starEach es X.env := by rfl) (hpl : (backTo pos (starEach es X.env)).any (·.1) = false := by rfl) : PE X (.Call (.Name x p) (e :: es) [] pos) (tCB r t) := by
  intro pins s σ H Q I h
  refine wpAny_Call_Name_kw (ld_blt I hg hm hv ?_ hn hdb)
  exact PyProof.Rows.callWith_builtin1 (thn (ha pos pins s σ H _ I h) fun us s1 ⟨vs, H1, I1, r1, q1⟩ => hc pins s1 σ H1 vs us Q I1 r1 q1) he hpl
theorem pe_callTy (hc : CallR X (.type T) r) (hg : Gl X x) (hm : X.mg x = none) (hv : bootBuiltins x = some (.type T)) (ha : PA X (e :: es) t) (hn : x ≠ "__name__" := by decide) (hdb : (x == ("__debug__" : Str)) = false := by decide)
    (he : starEach (e :: es) X.env = (false, eval e X.env) :: starEach es X.env := by rfl) (hpl : (backTo pos (starEach es X.env)).any (·.1) = false := by rfl) : PE X (.Call (.Name x p) (e :: es) [] pos) (tCB r t) := by
  intro pins s σ H Q I h
  refine wpAny_Call_Name_kw (ld_blt I hg hm hv ?_ hn hdb)
  exact PyProof.Rows.callWith_type1 (thn (ha pos pins s σ H _ I h) fun us s1 ⟨vs, H1, I1, r1, q1⟩ => hc pins s1 σ H1 vs us Q I1 r1 q1) he hpl
end
end L2
set_option Elab.async false
set_option linter.all false
set_option maxRecDepth 100000
namespace HT
open PySem PyProof.Rows
section
open PySem.SeqAt
open PySem.AutoSeq1 (wpAny_loadPart')
open PySem.MeetsSeq PySem.MeetsSeq2 PySem.MeetsSeq3
end
section
variable {prog : Program} {w : World} {A : Around} {E : Value → Shared → Prop} {s : Shared}
end
end HT
namespace L2
open PySem PySem.Spec PyProof.Rows
abbrev TO := St → Hp → (Option Int → Hp → Prop) → Prop
section
variable {X : Cx} {e : Expr} {te : TE} {lo hi : Option Expr} {tl th : TO} {pos p2 : Pos}
def SlR (X : Cx) (r : V → Option Int → Option Int → Hp → VK → Prop) : Prop :=
  ∀ (pins : List (Addr × Obj)) (s : Shared) (σ : St) (H : Hp) (x : V) (v vl vu : Value) (lo hi : Option Int) (sl : Addr) (Q : VK), Inv X pins σ H s → RelV x v → s.heap.IsSliceOf sl vl vu .none → IsPart vl lo → IsPart vu hi → r x lo hi H Q →
    ∃ T id, typeLookup (.type T) "__getitem__" = pure (some (.builtin id)) ∧ s.TypeIs v T ∧ wpAny (model X.prog X.w) X.A (getItem v (.ref sl)) (EP X pins σ Q) X.xe s
theorem SlR.or {r r' : V → Option Int → Option Int → Hp → VK → Prop} (h : SlR X r) (h' : SlR X r') : SlR X (fun x lo hi H Q => r x lo hi H Q ∨ r' x lo hi H Q) := by
  intro pins s σ H x v vl vu lo hi sl Q I rx hs pl pu q
  rcases q with q | q
  · exact h pins s σ H x v vl vu lo hi sl Q I rx hs pl pu q
  · exact h' pins s σ H x v vl vu lo hi sl Q I rx hs pl pu q
end
end L2
namespace L2
open PySem PySem.Spec PyProof.Rows
def ixN (n : Nat) (i : Int) : Option Nat := if 0 ≤ i then (if i < n then some i.toNat else none) else if -(n : Int) ≤ i then some (i + n).toNat else none
def atI {α : Type} (xs : List α) (i : Int) : Option α := (ixN xs.length i).bind fun j => xs[j]?
theorem ixN_seq {n : Nat} {i : Int} {j : Nat} (h : ixN n i = some j) : seqIndex? i n = some j ∧ j < n ∧ -(n : Int) ≤ i ∧ i < n := by
  unfold ixN at h
  by_cases h0 : 0 ≤ i
  · rw [if_pos h0] at h
    by_cases h1 : i < n
    · rw [if_pos h1] at h
      have e : i.toNat = j := Option.some.inj h
      exact ⟨by rw [seqIndex_of h0 h1, e], by omega, by omega, h1⟩
    · rw [if_neg h1] at h; cases h
  · rw [if_neg h0] at h
    by_cases h1 : -(n : Int) ≤ i
    · rw [if_pos h1] at h
      have e : (i + n).toNat = j := Option.some.inj h
      exact ⟨by rw [seqIndex_neg (by omega) h1, e], by omega, h1, by omega⟩
    · rw [if_neg h1] at h; cases h
theorem atI_get {α : Type} {xs : List α} {i : Int} {v : α} (h : atI xs i = some v) : ∃ j, seqIndex? i xs.length = some j ∧ xs[j]? = some v ∧ j < xs.length ∧ -(xs.length : Int) ≤ i ∧ i < xs.length := by
  unfold atI at h
  cases e : ixN xs.length i with
  | none => rw [e] at h; cases h
  | some j =>
    rw [e] at h
    obtain ⟨h1, h2, h3, h4⟩ := ixN_seq e
    exact ⟨j, h1, h, h2, h3, h4⟩
theorem atI_nat {α : Type} {xs : List α} {j : Nat} {v : α} (h : xs[j]? = some v) : atI xs (j : Int) = some v := by
  have hj : j < xs.length := (List.getElem?_eq_some_iff.mp h).1
  have e : ixN xs.length (j : Int) = some j := by
    unfold ixN
    rw [if_pos (by omega), if_pos (by omega)]; simp
  unfold atI; rw [e]; exact h
def PlainIx (b : Expr) : Prop := ∀ o i, subscripted b false o i = operate [o, i] (getItem o i)
def IxR (X : Cx) (r : R2) : Prop :=
  ∀ (value slice : Expr) (pins : List (Addr × Obj)) (s : Shared) (σ : St) (H : Hp) (x y : V) (v u : Value) (Q : VK), Inv X pins σ H s → RelV x v → RelV y u → r x y H Q →
    subscripted slice false v u = operate [v, u] (getItem v u) → wpAny (model X.prog X.w) X.A (subscriptTail value slice v u) (EP X pins σ Q) X.xe s
def MtR (X : Cx) (id : String) (r : V → List V → Hp → VK → Prop) : Prop :=
  ∀ (pins : List (Addr × Obj)) (s : Shared) (σ : St) (H : Hp) (x : V) (xs : List V) (v : Value) (us : List Value) (Q : VK), Inv X pins σ H s → RelV x v → Vals xs us → r x xs H Q →
    wpAny (model X.prog X.w) X.A (call (.builtin id) (v :: us)) (EP X pins σ Q) X.xe s
section
variable {X : Cx} {a b : Expr} {ta tb : TE} {pos : Pos}
theorem IxR.or {r r' : R2} (h : IxR X r) (h' : IxR X r') : IxR X (fun x y H Q => r x y H Q ∨ r' x y H Q) := by
  intro value slice pins s σ H x y v u Q I rx ry q hs
  rcases q with q | q
  · exact h value slice pins s σ H x y v u Q I rx ry q hs
  · exact h' value slice pins s σ H x y v u Q I rx ry q hs
theorem MtR.or {id : String} {r r' : V → List V → Hp → VK → Prop} (h : MtR X id r) (h' : MtR X id r') : MtR X id (fun x xs H Q => r x xs H Q ∨ r' x xs H Q) := by
  intro pins s σ H x xs v us Q I rx rs q
  rcases q with q | q
  · exact h pins s σ H x xs v us Q I rx rs q
  · exact h' pins s σ H x xs v us Q I rx rs q
theorem pe_ix {r : R2} (hr : IxR X r) (ha : PE X a ta) (hb : PE X b tb) (hs : PlainIx b) : PE X (.Subscript a b pos) (tOp r ta tb) := by
  intro pins s σ H Q I h
  exact Subscript_ (binT ha hb I h fun v u s2 x y H2 I2 rx ry q => hr a b pins s2 σ H2 x y v u Q I2 rx ry q (hs _ _))
def rIxL (K : PySem.W.Frag) : R2 := fun x y H Q => ∃ p xs i v, x = .ref p ∧ y = .int i ∧ SqL K H p xs ∧ atI xs i = some v ∧ Q v H
def rIxT (K : PySem.W.Frag) : R2 := fun x y H Q => ∃ p xs i v, x = .ref p ∧ y = .int i ∧ SqT K H p xs ∧ atI xs i = some v ∧ Q v H
def rIxS : R2 := fun x y H Q => ∃ z i c, x = .str z ∧ y = .int i ∧ z.length ≤ sizeLine ∧ atI z.cps.toList i = some c ∧ Q (.str ⟨#[c]⟩) H
theorem ix_list : IxR X (rIxL X.K) := by
  intro value slice pins s σ H x y v u Q I rx ry h hs
  obtain ⟨p, xs, i, z, rfl, rfl, hq, he, q⟩ := h
  cases rx
  obtain ⟨t, rfl⟩ := ry
  obtain ⟨its, r, pl, hz⟩ := I.list hq
  obtain ⟨j, h1, h2, h3, h4, h5⟩ := atI_get he
  obtain ⟨w, ew, rw'⟩ := r.get h2
  have hl := r.length
  have hn := line63
  have fin : EP X pins σ Q w s := ⟨z, H, I, rw', q⟩
  by_cases h0 : 0 ≤ i
  · have hj : i.toNat = j := by
      rw [seqIndex_of h0 h5] at h1
      exact Option.some.inj h1
    exact item_listR pl.isList h0 (by omega) (by rw [hj]; simpa using ew) fin hs
  · have hj : (i + (its.toArray.size : Int)).toNat = j := by
      rw [seqIndex_neg (by omega) h4] at h1
      rw [List.size_toArray, ← hl]
      exact Option.some.inj h1
    exact subscriptTail_builtinR (x := w) pl.isList.typeIs slot_list_getitem.lookup
      (wpAny_getItem_list_neg (Q := fun r s' => r = w ∧ EP X pins σ Q r s') pl.isList (by omega) (by rw [List.size_toArray] <;> omega) (by omega) (by rw [hj]; simpa using ew) ⟨rfl, fin⟩) hs
theorem ix_tup : IxR X (rIxT X.K) := by
  intro value slice pins s σ H x y v u Q I rx ry h hs
  obtain ⟨p, xs, i, z, rfl, rfl, hq, he, q⟩ := h
  cases rx
  obtain ⟨t, rfl⟩ := ry
  obtain ⟨its, r, pl, hz⟩ := I.tuple hq
  obtain ⟨j, h1, h2, h3, h4, h5⟩ := atI_get he
  obtain ⟨w, ew, rw'⟩ := r.get h2
  have hl := r.length
  have hn := line63
  have fin : EP X pins σ Q w s := ⟨z, H, I, rw', q⟩
  exact subscriptTail_builtinR (x := w) pl.typeIs slot_tuple_getitem.lookup
    (getItem_tuple (j := j) (Q := fun r s' => r = w ∧ EP X pins σ Q r s') pl (by omega) (by omega) (by rw [List.size_toArray, ← hl]; exact h1) (by simpa using ew) ⟨rfl, fin⟩) hs
theorem ix_str : IxR X rIxS := by
  intro value slice pins s σ H x y v u Q I rx ry h hs
  obtain ⟨z, i, c, rfl, rfl, hz, he, q⟩ := h
  obtain ⟨t, rfl⟩ := rx
  obtain ⟨t', rfl⟩ := ry
  obtain ⟨j, h1, h2, h3, h4, h5⟩ := atI_get he
  have hl : z.cps.toList.length = z.length := by simp [Str.length]
  rw [hl] at h1 h4 h5
  have hn := line63
  exact tail_any (typeIs_str s z t) slot_str_getitem.lookup (getItem_str (c := c) (by
    have e1 : decide (i < -(2 ^ 63 : Int)) = false := decide_eq_false (by omega)
    have e2 : decide (i ≥ 2 ^ 63) = false := decide_eq_false (by omega)
    rw [e1, e2, Bool.or_false]) (by rw [h1]; simpa using h2) ⟨.str ⟨#[c]⟩, H, I.tok _, ⟨_, rfl⟩, q⟩) hs
def rIx (K : PySem.W.Frag) : R2 := fun x y H Q => rIxL K x y H Q ∨ rIxT K x y H Q ∨ rIxS x y H Q
theorem ix_seq : IxR X (rIx X.K) := ix_list.or (ix_tup.or ix_str)
theorem Inv.lst {pins : List (Addr × Obj)} {σ : St} {H : Hp} {s : Shared} {p : Addr} {xs : List V} (I : Inv X pins σ H s) (h : H p = some (.lst xs)) :
    ∃ (its : List Value) (n : Nat), Vals xs its ∧ s.heap.get? p = some { cls := .type "list", data := .seq its.toArray n } ∧ xs.length ≤ sizeLine := by
  obtain ⟨z, its, n, r, e⟩ := I.hok p _ h
  exact ⟨its, n, r, e, z⟩
def flatV : V → Bool
  | .non => true
  | .bl _ => true
  | .int _ => true
  | .str _ => true
  | _ => false
def eqV : V → V → Bool
  | .non, .non => true
  | .bl a, .bl b => a == b
  | .bl a, .int b => (if a then 1 else 0) == b
  | .int a, .bl b => a == (if b then 1 else 0)
  | .int a, .int b => a == b
  | .str a, .str b => a == b
  | _, _ => false
theorem eqAt_V {A : Around} {s : Shared} {y x : V} {u v : Value} (ry : RelV y u) (rx : RelV x v) (fy : flatV y = true) (fx : flatV x = true) : SeqAt.EqAt A s u v (eqV y x) := by
  cases y with
  | non =>
    cases ry
    cases x with
    | non => cases rx; exact SeqAt.EqAt.same _
    | bl b => cases rx; exact SeqAt.EqAt.none_bool b
    | int b => obtain ⟨t, rfl⟩ := rx; exact SeqAt.EqAt.none_int b t
    | str b => obtain ⟨t, rfl⟩ := rx; exact SeqAt.EqAt.none_str b t
    | _ => exact absurd (show false = true from fx) Bool.false_ne_true
  | bl a =>
    cases ry
    cases x with
    | non => cases rx; exact SeqAt.EqAt.bool_none a
    | bl b => cases rx; exact SeqAt.EqAt.bool_bool a b
    | int b => obtain ⟨t, rfl⟩ := rx; exact SeqAt.EqAt.bool_int a b t
    | str b => obtain ⟨t, rfl⟩ := rx; exact SeqAt.EqAt.bool_str a b t
    | _ => exact absurd (show false = true from fx) Bool.false_ne_true
  | int a =>
    obtain ⟨t', rfl⟩ := ry
    cases x with
    | non => cases rx; exact SeqAt.EqAt.int_none a t'
    | bl b => cases rx; exact SeqAt.EqAt.int_bool a t' b
    | int b => obtain ⟨t, rfl⟩ := rx; exact SeqAt.EqAt.int_int a t' b t
    | str b => obtain ⟨t, rfl⟩ := rx; exact SeqAt.EqAt.int_str a t' b t
    | _ => exact absurd (show false = true from fx) Bool.false_ne_true
  | str a =>
    obtain ⟨t', rfl⟩ := ry
    cases x with
    | non => cases rx; exact SeqAt.EqAt.str_none a t'
    | bl b => cases rx; exact SeqAt.EqAt.str_bool a t' b
    | int b => obtain ⟨t, rfl⟩ := rx; exact SeqAt.EqAt.str_int a t' b t
    | str b => obtain ⟨t, rfl⟩ := rx; exact SeqAt.EqAt.str_str a t' b t
    | _ => exact absurd (show false = true from fx) Bool.false_ne_true
  | _ => exact absurd (show false = true from fy) Bool.false_ne_true
def eqU (x : V) (u : Value) : Bool := match u with
  | .none => eqV .non x
  | .bool b => eqV (.bl b) x
  | .int i _ => eqV (.int i) x
  | .str z _ => eqV (.str z) x
  | _ => false
theorem eqU_of {x y : V} {u : Value} (r : RelV y u) (f : flatV y = true) : eqU x u = eqV y x := by
  cases y with
  | non => cases r; rfl
  | bl b => cases r; rfl
  | int i => obtain ⟨t, rfl⟩ := r; rfl
  | str z => obtain ⟨t, rfl⟩ := r; rfl
  | _ => exact absurd (show false = true from f) Bool.false_ne_true
theorem any_eqU {x : V} : ∀ {xs : List V} {us : List Value}, Vals xs us → xs.all flatV = true → us.any (eqU x) = xs.any fun y => eqV y x
  | _, _, .nil, _ => rfl
  | y :: xs, u :: us, .cons r t, f => by
    rw [List.all_cons, Bool.and_eq_true] at f
    rw [List.any_cons, List.any_cons, eqU_of r f.1, any_eqU t f.2]
theorem mem_eqAt {A : Around} {s : Shared} {x : V} {v : Value} (rx : RelV x v) (fx : flatV x = true) : ∀ {xs : List V} {us : List Value}, Vals xs us → xs.all flatV = true → ∀ u ∈ us, SeqAt.EqAt A s u v (eqU x u)
  | _, _, .nil, _ => fun u hu => by cases hu
  | y :: xs, u :: us, .cons r t, f => fun u' hu => by
    rw [List.all_cons, Bool.and_eq_true] at f
    rcases List.mem_cons.mp hu with rfl | hu
    · rw [eqU_of r f.1]; exact eqAt_V r rx f.1 fx
    · exact mem_eqAt rx fx t f.2 u' hu
def inV (x : V) (xs : List V) : Bool := xs.any fun y => eqV y x
def rIn (K : PySem.W.Frag) (neg : Bool) : R2 := fun x y H Q => ∃ p xs, y = .ref p ∧ (SqL K H p xs ∨ SqT K H p xs) ∧ flatV x = true ∧ xs.all flatV = true ∧ Q (.bl (if neg then !inV x xs else inV x xs)) H
theorem op_notIn_seq : OpR X (compareOp .NotIn) (rIn X.K true) := by
  intro pins s σ H x y v u Q I rx ry h
  obtain ⟨p, xs, rfl, hq, fx, fs, q⟩ := h
  cases ry
  rcases hq with hq | hq
  · obtain ⟨its, r, pl, hz⟩ := I.list hq
    refine SeqAt.notIn_listAt (eqU x) pl.isList (fun w hw => mem_eqAt rx fx r fs w (by simpa using hw)) ⟨.bl _, H, I, rfl, ?_⟩
    rw [show its.toArray.any (eqU x) = its.any (eqU x) by simp, any_eqU r fs]
    exact q
  · obtain ⟨its, r, pl, hz⟩ := I.tuple hq
    refine SeqAt.notIn_tupleAt (eqU x) pl (fun w hw => mem_eqAt rx fx r fs w (by simpa using hw)) ⟨.bl _, H, I, rfl, ?_⟩
    rw [show its.toArray.any (eqU x) = its.any (eqU x) by simp, any_eqU r fs]
    exact q
theorem call_len_seq : CallR X (.builtin "len") (fun xs H Q => ∃ p ys, xs = [.ref p] ∧ (SqL X.K H p ys ∨ SqT X.K H p ys) ∧ Q (.int ys.length) H) := by
  intro pins s σ H xs us Q I r h
  obtain ⟨p, ys, rfl, hq, q⟩ := h
  obtain ⟨u, rfl, rx⟩ := vals1 r
  cases rx
  have hn := line63
  rcases hq with hq | hq
  · obtain ⟨its, r', pl, hz⟩ := I.list hq
    have hlen := r'.length
    exact Calls.call_len_list pl.isList (by simp only [List.size_toArray] <;> omega) ⟨.int ys.length, H, I.tok _, ⟨s.toks + 1, by rw [List.size_toArray, hlen]⟩, q⟩
  · obtain ⟨its, r', pl, hz⟩ := I.tuple hq
    have hlen := r'.length
    exact len_tuple pl (by simp only [List.size_toArray] <;> omega) ⟨.int ys.length, H, I.tok _, ⟨s.toks + 1, by rw [List.size_toArray, hlen]⟩, q⟩
theorem CallR.or {f : Value} {r r' : List V → Hp → VK → Prop} (h : CallR X f r) (h' : CallR X f r') : CallR X f (fun xs H Q => r xs H Q ∨ r' xs H Q) := by
  intro pins s σ H xs us Q I rs q
  rcases q with q | q
  · exact h pins s σ H xs us Q I rs q
  · exact h' pins s σ H xs us Q I rs q
def tyV (K : PySem.W.Frag) (T : String) (x : V) (H : Hp) : Prop := match x with
  | .str _ => T = "str"
  | .int _ => T = "int"
  | .ref p => (T = "list" ∧ ∃ xs, SqL K H p xs) ∨ (T = "tuple" ∧ ∃ o, K.lookup p = some o ∧ o.cls = .type "tuple" ∧ o.dict = none) ∨
      (T = "dict" ∧ ((∃ kvs, H p = some (.dK kvs)) ∨ ∃ kvs, H p = some (.dT kvs))) ∨ (T = "set" ∧ ∃ S n, H p = some (.set S n))
  | _ => False
theorem tyV_is {pins : List (Addr × Obj)} {σ : St} {H : Hp} {s : Shared} {T : String} {x : V} {v : Value} (I : Inv X pins σ H s) (r : RelV x v) (ty : tyV X.K T x H) :
    s.TypeIs v T ∧ ∀ a, v = .ref a → ∃ ob, s.heap.get? a = some ob ∧ ob.dict = none := by
  cases x with
  | str z =>
    obtain ⟨t, rfl⟩ := r
    cases (show T = "str" from ty)
    exact ⟨typeIs_str s z t, fun _ e => nomatch e⟩
  | int i =>
    obtain ⟨t, rfl⟩ := r
    cases (show T = "int" from ty)
    exact ⟨typeIs_int s i t, fun _ e => nomatch e⟩
  | ref p =>
    cases r
    rcases ty with ⟨rfl, xs, hq⟩ | ⟨rfl, o, hk, hc, hd⟩ | ⟨rfl, hk⟩ | ⟨rfl, S, n, hk⟩
    · obtain ⟨its, _, pl, _⟩ := I.list hq
      refine ⟨pl.isList.typeIs, fun a e => ?_⟩
      cases e
      obtain ⟨o, n, e, c, hd, _⟩ := pl
      exact ⟨o, e, hd⟩
    · refine ⟨⟨o, I.kIn p o hk, hc⟩, fun a e => ?_⟩
      cases e
      exact ⟨o, I.kIn _ o hk, hd⟩
    · have z : ∃ o, s.heap.get? p = some o ∧ o.ExactDict := by
        rcases hk with ⟨kvs, hk⟩ | ⟨kvs, hk⟩
        · obtain ⟨_, _, _, _, o, _, _, e, ex, _⟩ := I.hok p _ hk
          exact ⟨o, e, ex⟩
        · obtain ⟨_, _, _, _, o, _, _, e, ex, _⟩ := I.hok p _ hk
          exact ⟨o, e, ex⟩
      obtain ⟨o, e, ex⟩ := z
      refine ⟨⟨o, e, ex.1⟩, fun a e2 => ?_⟩
      cases e2
      exact ⟨o, e, ex.2.1⟩
    · obtain ⟨o, _, _, _, e, ex, _⟩ := I.hok p _ hk
      refine ⟨⟨o, e, ex.1⟩, fun a e2 => ?_⟩
      cases e2
      exact ⟨o, e, ex.2.1⟩
  | _ => exact False.elim ty
def tBM (K : PySem.W.Frag) (T : String) (r : V → List V → Hp → VK → Prop) (to : TE) (t : TA) : TE := fun σ H Q => to σ H fun x H1 => tyV K T x H1 ∧ t σ H1 fun xs H2 => r x xs H2 Q
variable {o e : Expr} {es : List Expr} {to : TE} {t : TA} {name : Str} {apos cpos : Pos} {T id : String} {r : V → List V → Hp → VK → Prop}
theorem pe_bm (pa : PlainAttrs T) (slot : Slot T name id) (hty : typeOf (.builtin id) = pure (.type "method_descriptor")) (hm : MtR X id r) (ho : PE X o to) (ha : PA X (e :: es) t)
    (hbase : attributeBase o name X.env (eval o X.env) = eval o X.env := by rfl)
    (hfew : ((backTo cpos (starEach (e :: es) X.env)).all (fun x => !x.1) && (backToKw cpos (keywordEach [] X.env)).all (fun x => x.1.isSome)
      && decide ((e :: es).length + ([] : List Keyword).length + (if ([] : List Keyword).isEmpty then 0 else 1) < 30)) = true := by rfl)
    (hline : (apos.endLine == cpos.line) = true := by rfl) (hs : starEach (e :: es) X.env = (false, eval e X.env) :: starEach es X.env := by rfl) (hplain : (backTo cpos (starEach es X.env)).any (·.1) = false := by rfl) :
    PE X (.Call (.Attribute o name apos) (e :: es) [] cpos) (tBM X.K T r to t) := by
  intro pins s σ H Q I h
  refine wpAny_Call_method_late hbase hfew hline rfl (thn (ho pins s σ H _ I h) fun v s1 ⟨x, H1, I1, r1, ty, q1⟩ => ?_)
  obtain ⟨h1, h2⟩ := tyV_is I1 r1 ty
  refine ⟨T, id, pa, slot, hty, h1, h2, ?_⟩
  have hA := ha cpos pins s1 σ H1 _ I1 q1
  rw [hs] at hA ⊢
  refine Calls.callWith_builtin (by show (false || (backTo cpos (starEach es X.env)).any (·.1)) = false; rw [hplain] <;> rfl) (Calls.evalArgs_plain ?_)
  exact thn hA fun us s2 ⟨vs, H2, I2, r2, q2⟩ => hm pins s2 σ H2 x vs v us Q I2 r1 r2 q2
end
end L2
namespace L2
open PySem PySem.Spec PyProof.Rows
def MtM (X : Cx) (id : String) (r : V → List V → Hp → VK → Prop) : Prop :=
  ∀ (pins : List (Addr × Obj)) (s : Shared) (σ : St) (H : Hp) (x : V) (xs : List V) (v : Value) (us : List Value) (Q : VK), Inv X pins σ H s → RelV x v → Vals xs us → r x xs H Q →
    wpAny (model X.prog X.w) X.A (call (.builtin id) (v :: us)) (EP X pins σ Q) X.xe s
theorem Vals.one : ∀ {x : V} {us : List Value}, Vals [x] us → ∃ u, us = [u] ∧ RelV x u
  | _, _, .cons r .nil => ⟨_, rfl, r⟩
theorem Vals.two : ∀ {x y : V} {us : List Value}, Vals [x, y] us → ∃ u v, us = [u, v] ∧ RelV x u ∧ RelV y v
  | _, _, _, .cons r (.cons q .nil) => ⟨_, _, rfl, r, q⟩
theorem Vals.zero : ∀ {us : List Value}, Vals [] us → us = []
  | _, .nil => rfl
theorem Vals.reverse {xs : List V} {us : List Value} (h : Vals xs us) : Vals xs.reverse us.reverse := by
  induction h with
  | nil => exact .nil
  | cons r t ih => rw [List.reverse_cons, List.reverse_cons]; exact Vals.append ih (.cons r .nil)
theorem Vals.rep {xs : List V} {us : List Value} (h : Vals xs us) : ∀ k : Nat, Vals (List.replicate k xs).flatten (List.replicate k us).flatten
  | 0 => .nil
  | k + 1 => by
    rw [List.replicate_succ, List.replicate_succ, List.flatten_cons, List.flatten_cons]
    exact Vals.append h (Vals.rep h k)
theorem foldl_rep (its : List Value) : ∀ (k : Nat) (acc : List Value),
    List.foldl (fun x1 x2 => x1 ++ x2) acc.toArray (List.replicate k its.toArray) = (acc ++ (List.replicate k its).flatten).toArray
  | 0, acc => by simp
  | k + 1, acc => by
    have e : acc.toArray ++ its.toArray = (acc ++ its).toArray := by simp
    have e2 : (acc ++ its) ++ (List.replicate k its).flatten = acc ++ (List.replicate (k + 1) its).flatten := by
      rw [List.replicate_succ, List.flatten_cons, List.append_assoc]
    rw [← e2, ← foldl_rep its k (acc ++ its), ← e, List.replicate_succ, List.foldl_cons]
section
variable {X : Cx} {pins : List (Addr × Obj)} {σ : St} {H : Hp} {s : Shared} {l b : Addr} {xs ys zs : List V}
theorem Inv.lset {its its' : List Value} {n : Nat} {f : Array Value → Array Value} {t' : Nat} (I : Inv X pins σ H s) (hH : H l = some (.lst xs))
    (e : s.heap.get? l = some { cls := .type "list", data := .seq its.toArray n }) (hf : f its.toArray = its'.toArray) (hv : Vals ys its') (hz : ys.length ≤ sizeLine) :
    Inv X pins σ (upd H l (.lst ys)) { s with heap := s.heap.update l (Obj.mapSeq f), toks := t' } := by
  have q := PySem.IsL.update e f
  rw [hf] at q
  refine I.write (x := l) (e := l) (by rw [hH]; exact trivial) (.inl rfl) (fun b' u hb hu => (Heap.get?_update_other s.heap (Obj.mapSeq f) (Ne.symm hb)).trans hu) ⟨_, q⟩ ?_
  exact ⟨hz, its', _, hv, q⟩
theorem Inv.lnew {its : List Value} {t' : Nat} (I : Inv X pins σ H s) (hv : Vals ys its) (hz : ys.length ≤ sizeLine) :
    Inv X pins σ (upd H s.heap.objs.size (.lst ys)) { s with heap := s.heap.push { cls := .type "list", data := .seq its.toArray }, toks := t' } :=
  I.laid (fun _ _ q => Heap.get?_push_of_some _ q) (Nat.le_refl _) ⟨hz, its, 0, hv, Heap.get?_push_size _ rfl⟩
theorem Inv.fresh (I : Inv X pins σ H s) : H s.heap.objs.size = none := I.hok.fresh (Nat.le_refl _)
theorem Inv.lstM (I : Inv X pins σ H s) (hH : H l = some (.lst xs)) : xs.length ≤ sizeLine ∧ ∃ (its : List Value) (n : Nat), Vals xs its ∧ xs.length = its.length ∧ s.heap.get? l = some { cls := .type "list", data := .seq its.toArray n } := by
  obtain ⟨z, its, n, r, e⟩ := I.hok l _ hH
  exact ⟨z, its, n, r, r.length, e⟩
theorem notLongL {n : Nat} (h : n ≤ sizeLine) : Builtin.List.listTooLong n = false := by
  unfold Builtin.List.listTooLong
  exact decide_eq_false (by omega)
end
section
variable {X : Cx}
def rAppend : V → List V → Hp → VK → Prop := fun x vs H Q => ∃ l xs y, x = .ref l ∧ vs = [y] ∧ H l = some (.lst xs) ∧ xs.length < sizeLine ∧ Q .non (upd H l (.lst (xs ++ [y])))
theorem mt_append : MtM X "list.append" rAppend := by
  intro pins s σ H x vs v us Q I rx rv h
  obtain ⟨l, xs, y, rfl, rfl, hH, hz, q⟩ := h
  cases rx
  obtain ⟨u, rfl, ru⟩ := rv.one
  obtain ⟨z, its, n, r, hl, e⟩ := I.lstM hH
  refine call_meets F.slot_list_append ⟨_, e, rfl⟩ F.entry_list_append (F.args_list_append_2 _ _) (PySem.list_append l its.toArray n u (by rw [List.size_toArray]; omega)) ⟨e, ?_⟩
  refine ⟨.non, _, I.lset (its' := its ++ [u]) hH e (by simp) (r.append (.cons ru .nil)) ?_, rfl, q⟩
  rw [List.length_append, List.length_singleton]
  omega
def rCat : R2 := fun x y H Q => ∃ l b xs zs, x = .ref l ∧ y = .ref b ∧ H l = some (.lst xs) ∧ H b = some (.lst zs) ∧ xs.length + zs.length ≤ sizeLine ∧ ∀ p, H p = none → Q (.ref p) (upd H p (.lst (xs ++ zs)))
theorem op_cat : OpR X (binaryOp .Add) rCat := by
  intro pins s σ H x y v u Q I rx ry h
  obtain ⟨l, b, xs, zs, rfl, rfl, hH, hB, hz, q⟩ := h
  cases rx
  cases ry
  obtain ⟨z, its, n, r, hl, e⟩ := I.lstM hH
  obtain ⟨z2, its2, n2, r2, hl2, e2⟩ := I.lstM hB
  refine PySem.P.add_list e e2 ?_ (by rw [List.size_toArray, List.size_toArray]; omega)
  have ea : its.toArray ++ its2.toArray = (its ++ its2).toArray := by simp
  rw [ea]
  exact ⟨.ref _, _, I.lnew (t' := s.toks) (r.append r2) (by rw [List.length_append]; omega), rfl, q _ I.fresh⟩
def rRep : R2 := fun x y H Q => ∃ l k xs, x = .ref l ∧ y = .int k ∧ H l = some (.lst xs) ∧ -(2 ^ 63) ≤ k ∧ k < 2 ^ 63 ∧ xs.length * k.toNat ≤ sizeLine ∧
  ∀ p, H p = none → Q (.ref p) (upd H p (.lst (List.replicate k.toNat xs).flatten))
theorem len_rep {α : Type} (xs : List α) (k : Nat) : (List.replicate k xs).flatten.length = k * xs.length := by
  induction k with
  | zero => simp
  | succ k ih => rw [List.replicate_succ, List.flatten_cons, List.length_append, ih, Nat.succ_mul, Nat.add_comm]
theorem op_rep : OpR X (binaryOp .Mult) rRep := by
  intro pins s σ H x y v u Q I rx ry h
  obtain ⟨l, k, xs, rfl, rfl, hH, h1, h2, hz, q⟩ := h
  cases rx
  obtain ⟨t, rfl⟩ := ry
  obtain ⟨z, its, n, r, hl, e⟩ := I.lstM hH
  have hlen : its.toArray.size * k.toNat ≤ sizeLine := by rw [List.size_toArray, ← hl]; exact hz
  have hcap : ¬ its.toArray.size * k.toNat > (2 ^ 63 - 1) / 8 := by
    have : (sizeLine : Nat) ≤ (2 ^ 63 - 1) / 8 := by decide
    omega
  have hfit : ¬ (!Builtin.List.listFitsIndex k) = true := by
    rw [fitsIndex_both h1 h2]
    exact Bool.false_ne_true
  have hlong : ¬ Builtin.List.listTooLong (its.toArray.size * k.toNat) = true := by
    rw [notLongL hlen]
    exact Bool.false_ne_true
  have hnew : List.foldl (fun x1 x2 => x1 ++ x2) #[] (List.replicate (if its.toArray.isEmpty = true then 0 else k.toNat) its.toArray) = (List.replicate k.toNat its).flatten.toArray := by
    have f0 : ∀ m : Nat, List.foldl (fun x1 x2 => x1 ++ x2) #[] (List.replicate m its.toArray) = (List.replicate m its).flatten.toArray := fun m => by
      have := foldl_rep its m []
      rw [List.nil_append] at this
      exact this
    rw [f0]
    cases its with
    | nil => simp
    | cons a r' => rw [if_neg (by simp)]
  refine wpAny_binaryOp_repeat_ref (T := "list") (U := "int") (by decide) ⟨_, e, rfl⟩ (fun s' => typeIs_int s' k t) noFill_list_mul F.fills_int_mul F.slot_int_rmul repeat_list F.slot_int_index.lookup
    (call_meets F.slot_int_rmul (typeIs_int s k t) F.entry_int_rmul (F.args_int_rmul_2 _ _) (int___rmul___int_list k t l its.toArray n)
      ⟨e, rfl, ⟨_, e, rfl⟩, call_meets F.slot_list_mul ⟨_, e, rfl⟩ F.entry_list_mul (F.args_list_mul_2 _ _) (AutoListH.list___mul___list_int_3 l its.toArray n k t hfit hcap hlong) ⟨e, ?_⟩⟩)
  rw [hnew]
  exact ⟨.ref _, _, I.lnew (t' := s.toks) (r.rep k.toNat) (by rw [len_rep, Nat.mul_comm]; exact hz), rfl, q _ I.fresh⟩
end
section
variable {prog : Program} {w : World} {A : Around} {E : Value → Shared → Prop} {s : Shared}
end
section
variable {X : Cx}
end
end L2
set_option Elab.async false
set_option linter.all false
set_option maxRecDepth 100000
namespace L2
open PySem PySem.Spec PyProof.Rows
section
variable {κ : Type} [DecidableEq κ]
def valV (kvs : List (κ × V)) (k : κ) : Option V := (kvs.find? fun kv => decide (kv.1 = k)).map (·.2)
def putK (kvs : List (κ × V)) (k : κ) (v : V) : List (κ × V) :=
  if (kvs.any fun kv => decide (kv.1 = k)) = true then kvs.map (fun kv => if kv.1 = k then (kv.1, v) else kv) else kvs ++ [(k, v)]
def dropK (kvs : List (κ × V)) (k : κ) : List (κ × V) := kvs.filter fun kv => decide (kv.1 ≠ k)
theorem valV_pos {p : κ × V} {r : List (κ × V)} {k : κ} (e : p.1 = k) : valV (p :: r) k = some p.2 := by simp [valV, List.find?_cons, e]
theorem valV_neg {p : κ × V} {r : List (κ × V)} {k : κ} (e : ¬ p.1 = k) : valV (p :: r) k = valV r k := by simp [valV, List.find?_cons, e]
theorem RelO.getD {o : Option V} {u : Option Value} {d : V} {d' : Value} (r : RelO o u) (rd : RelV d d') : RelV (o.getD d) (u.getD d') := by
  cases o with
  | none => cases u with
    | none => exact rd
    | some _ => exact (show False from r).elim
  | some _ => cases u with
    | none => exact (show False from r).elim
    | some _ => exact r
theorem KV.val {kvs : List (κ × V)} {vs : List (κ × Value)} (r : KV kvs vs) (k : κ) : RelO (valV kvs k) (valueAt vs k) := by
  unfold KV at r
  induction r with
  | nil => exact True.intro
  | @cons p q ps qs h t ih =>
    obtain ⟨h1, h2⟩ := h
    by_cases e : p.1 = k
    · have e' : q.1 = k := h1.symm.trans e
      have b : valueAt (q :: qs) k = some q.2 := by simp [valueAt, List.find?_cons, e']
      rw [valV_pos e, b]; exact h2
    · have e' : ¬ q.1 = k := fun z => e (h1.trans z)
      have b : valueAt (q :: qs) k = valueAt qs k := by simp [valueAt, List.find?_cons, e']
      rw [valV_neg e, b]; exact ih
theorem KV.any {kvs : List (κ × V)} {vs : List (κ × Value)} (r : KV kvs vs) (k : κ) : (kvs.any fun kv => decide (kv.1 = k)) = vs.any fun kv => decide (kv.1 = k) := by
  unfold KV at r
  induction r with
  | nil => rfl
  | cons h t ih => rw [List.any_cons, List.any_cons, ih, h.1]
theorem KV.drop {kvs : List (κ × V)} {vs : List (κ × Value)} (r : KV kvs vs) (k : κ) : KV (dropK kvs k) (without vs k) := by
  unfold KV at r ⊢
  unfold dropK without
  induction r with
  | nil => exact .nil
  | @cons p q ps qs h t ih =>
    obtain ⟨h1, h2⟩ := h
    rw [List.filter_cons, List.filter_cons]
    by_cases e : p.1 = k
    · have a : ¬ decide (p.1 ≠ k) = true := by simp [e]
      have b : ¬ decide (q.1 ≠ k) = true := by simp [h1.symm.trans e]
      rw [if_neg a, if_neg b]; exact ih
    · have e' : ¬ q.1 = k := fun z => e (h1.trans z)
      have a : decide (p.1 ≠ k) = true := by simp [e]
      have b : decide (q.1 ≠ k) = true := by simp [e']
      rw [if_pos a, if_pos b]; exact .cons ⟨h1, h2⟩ ih
theorem KV.length {kvs : List (κ × V)} {vs : List (κ × Value)} (r : KV kvs vs) : kvs.length = vs.length := Paired.length r
end
abbrev KT (H : Hp) : List (List Key × V) → List (List Key × Addr × Value) → Prop := Paired fun p q => p.1 = q.1 ∧ H q.2.1 = some (.tup (p.1.map kV)) ∧ RelV p.2 q.2.2
theorem KT.val {H : Hp} {kvs : List (List Key × V)} {xs : List (List Key × Addr × Value)} (r : KT H kvs xs) (k : List Key) : RelO (valV kvs k) ((atKey xs k).map (·.2)) := by
  induction r with
  | nil => exact True.intro
  | @cons p q ps qs h t ih =>
    obtain ⟨h1, _, h2⟩ := h
    by_cases e : p.1 = k
    · have e' : q.1 = k := h1.symm.trans e
      have b : atKey (q :: qs) k = some q.2 := by simp [atKey, List.find?_cons, e']
      rw [valV_pos e, b]; exact h2
    · have e' : ¬ q.1 = k := fun z => e (h1.trans z)
      have b : atKey (q :: qs) k = atKey qs k := by simp [atKey, List.find?_cons, e']
      rw [valV_neg e, b]; exact ih
theorem KT.keeps {H H' : Hp} {kvs : List (List Key × V)} {xs : List (List Key × Addr × Value)} (r : KT H kvs xs) (ht : ∀ b ys, H b = some (.tup ys) → H' b = some (.tup ys)) : KT H' kvs xs :=
  Paired.mapP r fun _ _ z => ⟨z.1, ht _ _ z.2.1, z.2.2⟩
section
variable {P : Program} {w : World} {H : Hp} {h : Heap} {a : Addr}
end
def DGet (H : Hp) (a : Addr) (y : V) (r : Option V) : Prop :=
  (∃ kvs k, Rd H a (.dK kvs) ∧ y = kV k ∧ r = valV kvs k) ∨ ∃ kvs k b, Rd H a (.dT kvs) ∧ y = .ref b ∧ H b = some (.tup (k.map kV)) ∧ r = valV kvs k
def DPut (H : Hp) (a : Addr) (y v : V) (H' : Hp) : Prop :=
  (∃ kvs k, H a = some (.dK kvs) ∧ y = kV k ∧ kvs.length < sizeLine ∧ H' = upd H a (.dK (putK kvs k v))) ∨
  ∃ kvs k b, H a = some (.dT kvs) ∧ y = .ref b ∧ H b = some (.tup (k.map kV)) ∧ kvs.length < sizeLine ∧ H' = upd H a (.dT (putK kvs k v))
theorem DGet.k {H : Hp} {a : Addr} {kvs : List (Key × V)} {k : Key} (e : H a = some (.dK kvs)) : DGet H a (kV k) (valV kvs k) := .inl ⟨kvs, k, .inl e, rfl, rfl⟩
theorem DGet.t {H : Hp} {a b : Addr} {kvs : List (List Key × V)} {k : List Key} (e : H a = some (.dT kvs)) (eb : H b = some (.tup (k.map kV))) : DGet H a (.ref b) (valV kvs k) := .inr ⟨kvs, k, b, .inl e, rfl, eb, rfl⟩
theorem DPut.k {H : Hp} {a : Addr} {kvs : List (Key × V)} {k : Key} {v : V} (e : H a = some (.dK kvs)) (hl : kvs.length < sizeLine) : DPut H a (kV k) v (upd H a (.dK (putK kvs k v))) := .inl ⟨kvs, k, e, rfl, hl, rfl⟩
theorem DPut.t {H : Hp} {a b : Addr} {kvs : List (List Key × V)} {k : List Key} {v : V} (e : H a = some (.dT kvs)) (eb : H b = some (.tup (k.map kV))) (hl : kvs.length < sizeLine) :
    DPut H a (.ref b) v (upd H a (.dT (putK kvs k v))) := .inr ⟨kvs, k, b, e, rfl, eb, hl, rfl⟩
section
variable {X : Cx} {pins : List (Addr × Obj)} {σ : St} {H : Hp} {s : Shared} {a : Addr} {y v : V} {u r : Value} {o : Option V} {A : Around} {E : Value → Shared → Prop}
theorem Inv.big (I : Inv X pins σ H s) : sysModules < s.heap.objs.size := by
  have h : mainGlobals < s.heap.objs.size := (I.mod.glob.keeps I.bk).lt
  exact Nat.lt_trans (by decide) h
end
section
variable {X : Cx} {pins : List (Addr × Obj)} {σ : St} {H : Hp} {s : Shared} {a : Addr} {kvs : List (Key × V)} {k : Key} {u : Value} {A : Around} {E : Value → Shared → Prop}
end
section
variable {X : Cx} {o i e value : Expr} {pos pos' tpos : Pos} {td ty tv : TE}
end
theorem dk_empty {P : Program} {w : World} {H : Hp} (h : Heap) (hb : sysModules < h.objs.size) : ObjOk P w H (h.push { cls := .type "dict", data := .dict #[] }) h.objs.size (.dK []) :=
  ⟨Nat.zero_le _, beq_eq_false_iff_ne.mpr (Ne.symm (Nat.ne_of_lt hb)), [], .nil, Heap.DictOf.new h⟩
def tDNewK : TE := fun _ H Q => ∀ p, H p = none → Q (.ref p) (upd H p (.dK []))
section
variable {X : Cx} {pos : Pos}
theorem pe_dnewK : PE X (.Dict [] [] pos) tDNewK := fun pins s σ H Q I h =>
  wpAny_Dict_empty ⟨.ref s.heap.objs.size, _, I.laid (a := s.heap.objs.size) (o := .dK []) (t' := s.toks) (fun _ _ q => Heap.get?_push_of_some _ q) (Nat.le_refl _) (dk_empty s.heap I.big), rfl, h _ (I.hok.fresh (Nat.le_refl _))⟩
end
section
variable {X : Cx} {pins : List (Addr × Obj)} {σ : St} {H : Hp} {s : Shared} {a : Addr} {y d : V} {u r : Value} {o : Option V} {A : Around} {E : Value → Shared → Prop}
end
section
variable {X : Cx} {o e f : Expr} {apos cpos : Pos} {td ty tx : TE}
end
section
variable {X : Cx} {pins : List (Addr × Obj)} {σ : St} {H : Hp} {s : Shared} {a : Addr} {kvs : List (Key × V)} {A : Around} {E : Value → Shared → Prop}
end
section
variable {X : Cx} {pins : List (Addr × Obj)} {σ : St} {H : Hp} {s : Shared} {a : Addr} {y : V} {u : Value} {A : Around} {E : Value → Shared → Prop}
end
end L2
set_option Elab.async false
set_option linter.all false
set_option maxRecDepth 100000
namespace Att
open PySem PySem.W PySem.Calls PyProof.Rows
theorem ints_of_wellAll {P : Params} {h : Heap} : ∀ (ns : List Int) (vs : List Value), WellAll P h vs (ns.map WData.int) → IntsAre vs ns := by
  intro ns
  induction ns with
  | nil =>
    intro vs w
    rw [List.map_nil] at w
    cases w
    exact .nil
  | cons n ns ih =>
    intro vs w
    rw [List.map_cons] at w
    cases w with
    | cons a b =>
      cases a
      exact .cons _ _ (ih _ b)
theorem script_of {l : OpenLaw} {n : Nat} (hn : l.most = some n) {P : Params} {h : Heap} {args : List WData} {vals : List Value}
    (hpre : l.row.toRowW.claim.pre args = true) (hwl : WellAll P h vals args) :
    ∃ a vs ns, vals = [Value.ref a] ∧ args = [WData.list (ns.map WData.int)] ∧ h.get? a = some { cls := .type "list", data := .seq vs.toArray } ∧ IntsAre vs ns ∧ ns.length ≤ n := by
  have hsh : WShape.hasAll [] args [.list .int] = true := (pre_splitW hpre).1
  have hc : l.pre.holds [] { args := args } = true := (pre_splitW hpre).2
  obtain ⟨d, r, rfl, h1, h2⟩ := hasAllW_cons hsh
  obtain rfl := hasAllW_nil h2
  obtain ⟨xs, rfl, h3⟩ := hasW_list h1
  obtain ⟨ns, rfl⟩ := items_int h3
  have hlen : ns.length ≤ n := by
    unfold OpenLaw.pre at hc
    have h4 : (WTm.not (.lt (.lit (.int (n : Int))) (.len (.arg 0)))).holds [] { args := [.list (ns.map .int)] } = true := by
      have h4 := (holds_andW hc).1
      rw [hn] at h4
      exact h4
    have h5 := condW_of h4 (w_not (w_lt w_lit (w_len_list (w_arg rfl))))
    rw [List.length_map] at h5
    refine Nat.le_of_not_lt fun q => ?_
    have q' : (n : Int) < ((ns.length : Nat) : Int) := by omega
    first
      | (rw [decide_eq_true q'] at h5; exact absurd h5 (by decide))
      | (simp at h5; omega)
  cases hwl with
  | cons w1 w2 =>
    cases w2
    cases w1 with
    | list ho hall => exact ⟨_, _, ns, rfl, rfl, ho, ints_of_wellAll ns _ hall, hlen⟩
theorem post_true (l : OpenLaw) (args : List WData) : l.row.toRowW.claim.post args (.bool true) args = true :=
  postW_of (r := l.row.toRowW) (X := (true == true))
    (show WShape.has [] (.bool true) .bool = true by first | rfl | decide | simp [WShape.has, WShape.arms, WShape.armsAll])
    (show (WTm.eq .res (.lit (.bool true))).value [] { args := args, res := some (.bool true), after := args } = some (.bool (true == true)) from w_eq_bool (w_res rfl) w_lit) rfl
theorem attach_call {l : OpenLaw} {n : Nat} {q : Program} {loose : List Str} {XP : (Str → Option Value) → Heap → Prop} {YP : World → Heap → Prop} {d : DefRec}
    (hn : l.most = some n) (hdf : d.params.defaults = [])
    (call : ∀ (w : World) (s₀ s₁ : Shared) (mg mb : Str → Option Value) (fa : Addr) (o : Obj) (pm cd doc : Value) (a : Addr) (vs : List Value) (ns : List Int),
      Ground q loose [] XP w s₀ mg mb s₁.heap → YP w s₁.heap →
      s₁.heap.get? fa = some o → o.data = .func (docDef d.name d.params d.body d.scope pm cd doc) → s₁.heap.CodeRec cd d.name → mg d.name = some (.ref fa) →
      s₁.heap.get? a = some { cls := .type "list", data := .seq vs.toArray } → IntsAre vs ns → ns.length ≤ n → s₁.gens = #[] →
      codeAny (model l.prog w) callerA (.call (.ref fa) ⟨[.ref a], []⟩) (fun r s' => r = .ok (.ret (.bool true)) ∧ OldK s₁.heap s'.heap ∧ s'.os = s₁.os ∧ AllBare s'.gens) s₁) :
    WalkO q loose XP YP l.row.toRowW d [] (fun f vs => PySem.call f vs) := by
  intro w s₀ s₁ mg mb G Y fa o pm cd doc dV kV ho hd hcd hD hmg hg args vals as hpre hlay hrd hwl hlo
  obtain rfl : dV = .none := Dflts.none hD hdf
  obtain rfl : kV = .none := Dflts.noKw hD
  obtain ⟨a, vs, ns, rfl, rfl, hobj, hints, hlen⟩ := script_of hn hpre hwl
  refine enter_call (codeAny_mono (call w s₀ s₁ mg mb fa o pm cd doc a vs ns G Y ho (fd_plain hd) hcd hmg hobj hints hlen hg) fun r s' hq => ?_)
  obtain ⟨rfl, h2, h3, h4⟩ := hq
  exact ⟨.inl ⟨.bool true, .bool true, [], rfl, fun _ => rfl, .bool true, post_true l _, fun _ => ⟨List.Pairwise.nil, fun _ hm => (nomatch hm)⟩⟩, h2, h3, h4⟩
section
variable {prog : Program} {w : World} {A : Around} {E : Value → Shared → Prop} {s : Shared} {K : Frag}
end
end Att
namespace L2
open PySem PySem.Spec PyProof.Rows
theorem vals_ints : ∀ {vs : List Value} {ns : List Int}, IntsAre vs ns → Vals (ns.map V.int) vs
  | _, _, .nil => .nil
  | _, _, .cons n t h => .cons ⟨t, rfl⟩ (vals_ints h)
def Only (H : Hp) : Prop := ∀ b, H b = none ∨ ∃ o xs, H b = some (.frz o (.lst xs))
theorem law_call {P : Program} {w : World} {K : PySem.W.Frag} {mg mb : Str → Option Value} {CX : CXT} {k : Nat} {fa a : Addr} {fd : FuncData} {x : Str} {sp : Sp} {s₁ : Shared} {vs : List Value} {ns : List Int}
    (KX : K.In s₁.heap) (hns : s₁.heap.Ns mainGlobals mg) (hb : s₁.heap.Ns builtinsNs mb) (hbb : ∀ x : Str, x ≠ "__name__" → mb x = bootBuiltins x) (hlim : s₁.heap.NoLimit) (hg : s₁.gens = #[])
    (ha : s₁.heap.get? a = some { cls := .type "list", data := .seq vs.toArray }) (hi : IntsAre vs ns) (hl : ns.length ≤ sizeLine) (hr : Room k callerA)
    (F : ∀ base : Heap, K.In base → base.Ns mainGlobals mg → FnOk P w K mg base CX k fa fd [x] sp) (hbind : ∀ (s : Shared) (u : Value), BindsTo s fd ⟨[u], []⟩ [(x, u)])
    (hsp : ∀ H : Hp, Only H → SqL K H a (ns.map V.int) → sp [.ref a] H (fun v _ => v = .bl true) fun _ _ _ => False)
    (hCX : ∀ H e s', CX [] H s₁ (fun _ _ _ => False) e s' → False) :
    codeAny (model P w) callerA (.call (.ref fa) ⟨[.ref a], []⟩) (fun r s' => r = .ok (.ret (.bool true)) ∧ OldK s₁.heap s'.heap ∧ s'.os = s₁.os ∧ AllBare s'.gens) s₁ := by
  have rv := vals_ints hi
  have lenV := hi.length
  have core : ∀ H : Hp, Only H → SqL K H a (ns.map V.int) → HOk P w H s₁.heap → (∀ b, H b ≠ none → b = a) → (H a ≠ none → K.lookup a = none) →
      codeAny (model P w) callerA (.call (.ref fa) ⟨[.ref a], []⟩) (fun r s' => r = .ok (.ret (.bool true)) ∧ OldK s₁.heap s'.heap ∧ s'.os = s₁.os ∧ AllBare s'.gens) s₁ := by
    intro H hO hS hok hA hK
    have base_of : ∀ {b : Addr} {o : Obj}, s₁.heap.get? b = some o → H b = none → (hidT s₁.heap H).get? b = some o := fun e n => hidT_get e n
    have noA : ∀ {b : Addr} {o : Obj} {es : Array DictEntry} {ep : Nat}, s₁.heap.get? b = some o → o.data = .dict es ep → H b = none := fun {b o es ep} e d => by
      cases q : H b with
      | none => rfl
      | some u =>
        have e' : b = a := hA b (by rw [q]; simp)
        subst e'
        rw [ha] at e; cases e
        have d' : Data.seq vs.toArray _ = Data.dict es ep := d
        cases d'
    have nsK : ∀ {b : Addr} {m : Str → Option Value}, s₁.heap.Ns b m → (hidT s₁.heap H).Ns b m := fun {b m} ⟨o, es, ep, e, d, r⟩ => ⟨o, es, ep, base_of e (noA e d), d, r⟩
    have hKb : K.In (hidT s₁.heap H) := fun b o e => base_of (KX b o e) (by
      cases q : H b with
      | none => rfl
      | some u =>
        have e' : b = a := hA b (by rw [q]; simp)
        subst e'
        rw [hK (by rw [q]; simp)] at e; cases e)
    have hM : Mod K mg (hidT s₁.heap H) := ⟨hKb, nsK hns, ⟨mb, nsK hb, hbb⟩, let ⟨mc, h1, h2⟩ := hlim; ⟨mc, nsK h1, h2⟩⟩
    have e0 : Env0 P w K mg (hidT s₁.heap H) callerA [] s₁ H := ⟨rfl, hM, fun b o e => of_hidT e, Nat.le_of_eq (hidT_size _ _), trivial, fun b hb => absurd (show b ∈ ([] : List Addr) from hb) (by simp), hok, .of_eq hg⟩
    refine codeAny_mono ((F _ hKb (nsK hns)).run callerA [] s₁ H ⟨[.ref a], []⟩ [.ref a] [.ref a] _ _ hr e0 (hbind s₁ (.ref a)) (.cons rfl .nil) (hsp H hO hS)) fun r s' h => ?_
    cases r with
    | error e => exact (hCX H e s' h).elim
    | ok fl =>
      cases fl with
      | next => exact False.elim h
      | brk => exact False.elim h
      | cont => exact False.elim h
      | ret u =>
        obtain ⟨v, H', os, bare, un, hok', r', q⟩ := h
        have q' : v = .bl true := q
        subst q'
        obtain rfl : u = Value.bool true := r'
        refine ⟨rfl, OldK.of_keep fun b o e => ?_, os, bare⟩
        cases q : H b with
        | none => exact un.keep b o e q (by intro z; exact absurd (show b ∈ ([] : List Addr) from z) (by simp)) (by simp)
        | some u =>
          rcases hO b with z | ⟨ob, xs, z⟩
          · rw [q] at z; cases z
          · have z2 := un.frzs b ob _ z
            obtain ⟨e1, _⟩ := hok b _ z
            obtain ⟨e2, _⟩ := hok' b _ z2
            rw [e] at e1; cases e1
            exact e2
  cases hk : K.lookup a with
  | some o =>
    have e := KX a o hk
    rw [ha] at e
    cases e
    refine core (fun _ => none) (fun _ => .inl rfl) (.inr ⟨_, vs.toArray, _, hk, rfl, rfl, rfl, by rw [List.size_toArray, lenV]; exact hl, by simpa using rv⟩) (fun b u z => by have z' : (none : Option HO) = some u := z; cases z') (fun b z => absurd rfl z) fun z => absurd rfl z
  | none =>
    refine core (fun b => if b = a then some (.frz { cls := .type "list", data := .seq vs.toArray } (.lst (ns.map V.int))) else none) (fun b => ?_) (.inl (.inr ⟨{ cls := .type "list", data := .seq vs.toArray }, if_pos rfl⟩)) (fun b u z => ?_) (fun b z => ?_) fun _ => hk
    · by_cases hb : b = a
      · exact .inr ⟨_, _, if_pos hb⟩
      · exact .inl (if_neg hb)
    · by_cases hb : b = a
      · have z' := (if_pos hb).symm.trans z
        cases z'
        subst hb
        exact ⟨ha, by rw [List.length_map]; exact hl, vs, _, rv, ha⟩
      · have z' := (if_neg hb).symm.trans z
        cases z'
    · by_cases hb : b = a
      · exact hb
      · exact absurd (if_neg hb) z
end L2
namespace L2
open PySem PySem.Spec PyProof.Rows
theorem walk_of {l : PySem.W.OpenLaw} {n k : Nat} {q : Program} {loose : List Str} {XP : (Str → Option Value) → Heap → Prop} {YP : World → Heap → Prop} {d : DefRec} {K : Params → PySem.W.Frag} {CX : World → CXT} {sp : World → Sp} {x : Str}
    (hn : l.most = some n) (hn2 : n ≤ sizeLine) (hdf : d.params.defaults = []) (hr : Room k callerA)
    (hY : ∀ (w : World) (h : Heap), YP w h → (K w.params).In h)
    (F : ∀ (w : World) (mg : Str → Option Value) (fa : Addr) (h : Heap), (K w.params).In h → h.Ns mainGlobals mg → mg d.name = some (.ref fa) →
      ∃ fd : FuncData, (∀ (s : Shared) (u : Value), BindsTo s fd ⟨[u], []⟩ [(x, u)]) ∧
        ∀ base : Heap, (K w.params).In base → base.Ns mainGlobals mg → FnOk l.prog w (K w.params) mg base (CX w) k fa fd [x] (sp w))
    (hsp : ∀ (w : World) (H : Hp) (a : Addr) (ns : List Int), ns.length ≤ n → Only H → SqL (K w.params) H a (ns.map V.int) → sp w [.ref a] H (fun v _ => v = .bl true) fun _ _ _ => False)
    (hCX : ∀ (w : World) (H : Hp) (s : Shared) (e : Value) (s' : Shared), CX w [] H s (fun _ _ _ => False) e s' → False) :
    PySem.W.WalkO q loose XP YP l.row.toRowW d [] (fun f vs => PySem.call f vs) := by
  refine Att.attach_call hn hdf fun w s₀ s₁ mg mb fa o pm cd doc a vs ns G Y ho hd hcd hmg hobj hints hlen hg => ?_
  have KX := hY w _ Y
  obtain ⟨fd, hb, hF⟩ := F w mg fa _ KX G.T.g hmg
  exact law_call KX G.T.g G.T.b G.T.builtins G.T.nolimit hg hobj hints (Nat.le_trans hlen hn2) hr hF hb (fun H hO hS => hsp w H a ns hlen hO hS) fun H e s' => hCX w H s₁ e s'
end L2
namespace L2
open PySem PySem.Spec PyProof.Rows
def defArgs (s : Stmt) : Arguments := match s with
  | .FunctionDef _ a _ _ _ _ _ _ _ _ => a
  | _ => { posonlyargs := [], args := [], vararg := none, kwonlyargs := [], kw_defaults := [], kwarg := none, defaults := [] }
def defBody (s : Stmt) : List Stmt := match s with
  | .FunctionDef _ _ b _ _ _ _ _ _ _ => b
  | _ => []
def defScope (s : Stmt) : Scope := match s with
  | .FunctionDef _ _ _ _ _ _ sc _ _ _ => sc
  | _ => { kind := .function, names := [], isGenerator := false, isCoroutine := false }
abbrev CX0 : CXT := fun _ _ _ _ _ _ => False
abbrev E0 : XK := fun _ _ _ => False
structure Fun (K : PySem.W.Frag) (x qual : Str) (st : Stmt) (f : Addr) (fd : FuncData) : Prop where
  ex : ∃ (oc : Value) (od : Option Addr) (kV doc pm : Value) (an : Option Addr) (cdv ct : Value) (osl : Array (Option Value)),
    fd = PySem.W.fnOf x qual (defArgs st) (defBody st) (defScope st) .none kV doc pm an cdv ct ∧ K.lookup f = some ⟨oc, od, .func fd, osl⟩ ∧ PySem.W.codeIn K cdv qual = true
  kp : PySem.W.keepIn K (.ref f) = true
section
variable {P : Program} {w : World} {K : PySem.W.Frag} {mg : Str → Option Value} {base : Heap}
theorem Fun.ok {x qual : Str} {st : Stmt} {f : Addr} {fd : FuncData} {N ps : List Str} {k : Nat} {sp : Sp} (F : Fun K x qual st f fd) (S : FnScope N ps (defScope st)) (len : ∀ vs H Q E, sp vs H Q E → vs.length = ps.length)
    (hbody : ∀ (cdv : Value) (A : Around) (outer : List Env) (s : Shared) (H : Hp) (vs : List V) (Q : VK) (E : XK), Room k (A.deeper (envOfC qual (defScope st) s.heap.objs.size f cdv)) → sp vs H Q E →
      ∃ t, PSs (cxOf CX0 P w K mg base N qual (defScope st) f cdv A outer s H E).nox (defBody st) t ∧ t { nx := fun _ H' => Q .non H', rt := Q } (start N vs) H) : FnOk P w K mg base CX0 (k + 1) f fd ps sp := by
  obtain ⟨oc, od, kV, doc, pm, an, cdv, ct, osl, rfl, lk, hcd⟩ := F.ex
  refine fn_of lk hcd S len fun A outer s H vs Q E hr hsp => ?_
  obtain ⟨t, h, q⟩ := hbody cdv A outer s H vs Q E hr hsp
  exact ⟨t, h.nox, q⟩
theorem Fun.binds {x qual : Str} {st : Stmt} {f : Addr} {fd : FuncData} {ps : List Str} (F : Fun K x qual st f fd)
    (h : ∀ (kV doc pm : Value) (an : Option Addr) (cdv ct : Value) (us : List Value), us.length = ps.length → bindArgs (PySem.W.fnOf x qual (defArgs st) (defBody st) (defScope st) .none kV doc pm an cdv ct) ⟨us, []⟩ = pure (ps.zip us)) : Binds K fd ps [] := by
  obtain ⟨oc, od, kV, doc, pm, an, cdv, ct, osl, rfl, lk, hcd⟩ := F.ex
  exact .all (h kV doc pm an cdv ct)
end
section
variable {X : Cx}
theorem pv (i : Nat) {x : Str} {pos : Pos} (hN : X.N[i]? = some x := by rfl) (hv : Vis X.env.scope x := by first | exact Or.inl rfl | exact Or.inr (Or.inl rfl) | exact Or.inr (Or.inr rfl)) (hd : (x == ("__debug__" : Str)) = false := by decide)
    (hcd : (x == ("__classdict__" : Str)) = false := by decide) : PE X (.Name x pos) (tVar i) := pe_var hN hv hd hcd
end
theorem iteF {A B : Prop} (h : B) : if false = true then A else B := by
  rw [if_neg Bool.false_ne_true]
  exact h
theorem iteT {A B : Prop} (h : A) : if true = true then A else B := by
  rw [if_pos rfl]
  exact h
def Same (H H' : Hp) : Prop := ∀ b o, H b = some o → H' b = some o
theorem Same.refl (H : Hp) : Same H H := fun _ _ h => h
theorem Same.trans {H H1 H2 : Hp} (a : Same H H1) (b : Same H1 H2) : Same H H2 := fun c o h => b c o (a c o h)
theorem Same.free {H H' : Hp} (e : Same H H') {l : Addr} (h : H' l = Option.none) : H l = Option.none := by
  cases q : H l with
  | none => rfl
  | some o =>
    rw [e l o q] at h
    cases h
theorem Same.seq {K : PySem.W.Frag} {H H' : Hp} {a : Addr} {xs : List V} (e : Same H H') (h : SqL K H a xs) : SqL K H' a xs := by
  rcases h with (h | ⟨o, h⟩) | h
  · exact .inl (.inl (e _ _ h))
  · exact .inl (.inr ⟨o, e _ _ h⟩)
  · exact .inr h
section
variable {κ : Type} [DecidableEq κ]
end
end L2
set_option Elab.async false
set_option linter.all false
set_option maxRecDepth 100000
namespace DD
open PySem
inductive D where
  | non | bl (b : Bool) | int (i : Int) | str (x : Str) | tup (ds : List D) | loc (n : Nat)
  deriving Inhabited
mutual
def D.beq : D → D → Bool
  | .non, .non => true
  | .bl a, .bl b => a == b
  | .int a, .int b => a == b
  | .str a, .str b => decide (a = b)
  | .tup a, .tup b => D.beqL a b
  | .loc a, .loc b => a == b
  | _, _ => false
def D.beqL : List D → List D → Bool
  | [], [] => true
  | a :: r, b :: t => D.beq a b && D.beqL r t
  | _, _ => false
end
mutual
theorem D.beq_eq : ∀ {a b : D}, D.beq a b = true → a = b
  | .non, b, h => by cases b <;> first | rfl | simp [D.beq] at h
  | .bl x, b, h => by cases b <;> simp [D.beq] at h; rw [h]
  | .int x, b, h => by cases b <;> simp [D.beq] at h; rw [h]
  | .str x, b, h => by cases b <;> simp [D.beq] at h; rw [h]
  | .loc x, b, h => by cases b <;> simp [D.beq] at h; rw [h]
  | .tup x, b, h => by
    cases b with
    | tup y =>
      have e : x = y := D.beqL_eq (by simpa [D.beq] using h)
      rw [e]
    | _ => simp [D.beq] at h
theorem D.beqL_eq : ∀ {a b : List D}, D.beqL a b = true → a = b
  | [], [], _ => rfl
  | [], _ :: _, h => by simp [D.beqL] at h
  | _ :: _, [], h => by simp [D.beqL] at h
  | x :: r, y :: t, h => by
    simp only [D.beqL, Bool.and_eq_true] at h
    rw [D.beq_eq h.1, D.beqL_eq h.2]
end
mutual
theorem D.beq_refl : ∀ a : D, D.beq a a = true
  | .non => rfl
  | .bl x => by simp [D.beq]
  | .int x => by simp [D.beq]
  | .str x => by simp [D.beq]
  | .loc x => by simp [D.beq]
  | .tup x => by simp only [D.beq]; exact D.beqL_refl x
theorem D.beqL_refl : ∀ a : List D, D.beqL a a = true
  | [] => rfl
  | x :: r => by simp only [D.beqL, Bool.and_eq_true]; exact ⟨D.beq_refl x, D.beqL_refl r⟩
end
instance : DecidableEq D := fun a b => decidable_of_iff (D.beq a b = true) ⟨D.beq_eq, fun h => h ▸ D.beq_refl a⟩
inductive Cell where
  | lst (ds : List D)
  | frz (ds : List D)
  | dct (kvs : List (D × D))
  | ins (c : Nat) (fs : List (Str × D))
  | exn (c : Nat)
  deriving Inhabited
abbrev Sto := List Cell
abbrev Env := List (Option D)
inductive Res (α : Type) where
  | ok (a : α) (st : Sto)
  | exc (c : Nat) (st : Sto)
  | bad
def Res.bind {α β : Type} (r : Res α) (f : α → Sto → Res β) : Res β := match r with
  | .ok a st => f a st
  | .exc c st => .exc c st
  | .bad => .bad
@[simp] theorem bind_ok {α β : Type} (a : α) (st : Sto) (f : α → Sto → Res β) : (Res.ok a st).bind f = f a st := rfl
@[simp] theorem bind_exc {α β : Type} (c : Nat) (st : Sto) (f : α → Sto → Res β) : (Res.exc c st : Res α).bind f = .exc c st := rfl
@[simp] theorem bind_bad {α β : Type} (f : α → Sto → Res β) : (Res.bad : Res α).bind f = .bad := rfl
inductive Ty where
  | b (x : String) | o (n : Nat)
  deriving DecidableEq
def cellTy : Cell → Option Ty
  | .lst _ => some (.b "list")
  | .frz _ => some (.b "list")
  | .dct _ => some (.b "dict")
  | .ins _ _ => none
  | .exn c => some (.o c)
def tyOf (st : Sto) : D → Option Ty
  | .non => some (.b "NoneType")
  | .bl _ => some (.b "bool")
  | .int _ => some (.b "int")
  | .str _ => some (.b "str")
  | .tup _ => some (.b "tuple")
  | .loc n => (st[n]?).bind cellTy
def lstOf (st : Sto) (n : Nat) : Option (List D) := match st[n]? with
  | some (.lst ds) => some ds
  | some (.frz ds) => some ds
  | _ => none
def seqOf (st : Sto) : D → Option (List D)
  | .tup ds => some ds
  | .loc n => lstOf st n
  | _ => none
def truth (st : Sto) : D → Option Bool
  | .non => some false
  | .bl b => some b
  | .int i => some (i != 0)
  | .str x => if x.length ≤ sizeLine then some ((x.length : Int) != 0) else none
  | .tup ds => some (!ds.isEmpty)
  | .loc n => (lstOf st n).map fun ds => !ds.isEmpty
def optAll {α : Type} : List (Option α) → Option (List α)
  | [] => some []
  | some a :: r => (optAll r).map (a :: ·)
  | none :: _ => none
def pyOf (st : Sto) : Nat → D → Option PyData
  | _, .non => some .none
  | _, .bl b => some (.bool b)
  | _, .int i => some (.int i)
  | _, .str x => if PyData.canLay0 (.str x) = true then some (.str x) else none
  | 0, _ => none
  | n + 1, .tup ds => (optAll (ds.map (pyOf st n))).map .tuple
  | n + 1, .loc m => (lstOf st m).bind fun ds => (optAll (ds.map (pyOf st n))).map .list
def eqV (st : Sto) (a b : D) : Option Bool := match pyOf st 40 a, pyOf st 40 b with
  | some x, some y => some (PyData.eqv x y)
  | _, _ => none
inductive Op where
  | add | sub | mul | fdiv | mod | pow
  deriving DecidableEq
inductive Cm where
  | eq | ne | lt | le | gt | ge | isN | notN | inL | notIn
  deriving DecidableEq
inductive Bt where
  | absB | intB | lenB | listB | tupleB | minB | maxB | allB | anyB
  deriving DecidableEq
inductive Mt where
  | append | clear | extend
  deriving DecidableEq
mutual
inductive E where
  | var (i : Nat)
  | cst (d : D)
  | tupE (es : Es)
  | lstE (es : Es)
  | op (o : Op) (a b : E)
  | neg (a : E)
  | cm (c : Cm) (a b : E)
  | andE (a b : E)
  | orE (a b : E)
  | notE (a : E)
  | ifE (c a b : E)
  | call (f : Nat) (es : Es) (dv : List D)
  | bt (f : Bt) (es : Es)
  | ix (a b : E)
  | isi (a : E) (t : Ty)
  | dnew
  | mt (m : Mt) (o : E) (es : Es)
  | comp (n : Nat) (tg : List Nat) (fv : List Nat) (it : E) (ifs : Es) (elt : E)
inductive Es where
  | nil
  | cons (e : E) (es : Es)
end
mutual
inductive S where
  | set (i : Nat) (e : E)
  | unp (is : List Nat) (e : E)
  | par (i j : Nat) (a b : E)
  | aug (i : Nat) (o : Op) (e : E)
  | ifS (c : E) (a b : Ss)
  | whileS (c : E) (b : Ss)
  | forS (tg : List Nat) (one : Bool) (k : Bool) (it : E) (b : Ss)
  | forR (tg : List Nat) (es : Es) (b : Ss)
  | ret (e : E)
  | retN
  | ex (e : E)
  | raiseS (c : Nat)
  | tryS (b : Ss) (c : Nat) (i : Nat) (h : Ss)
  | pass
inductive Ss where
  | nil
  | cons (s : S) (r : Ss)
end
def BIG : Nat := 2 ^ 4000
def smallI (i : Int) : Prop := -(2 ^ 64) < i ∧ i < 2 ^ 64
instance (i : Int) : Decidable (smallI i) := by unfold smallI; infer_instance
def mulOk (i j : Int) : Prop := smallI i ∨ smallI j ∨ (i.natAbs < BIG ∧ j.natAbs < BIG)
instance (i j : Int) : Decidable (mulOk i j) := by unfold mulOk; infer_instance
def divOk (j : Int) : Prop := j ≠ 0 ∧ j.natAbs < BIG
instance (j : Int) : Decidable (divOk j) := by unfold divOk; infer_instance
def powOk (i j : Int) : Prop := 0 ≤ j ∧ j ≤ 1000000 ∧ i.natAbs < 2 ^ 64
instance (i j : Int) : Decidable (powOk i j) := by unfold powOk; infer_instance
def opD (o : Op) (a b : D) (st : Sto) : Res D := match o, a, b with
  | .add, .int i, .int j => .ok (.int (i + j)) st
  | .sub, .int i, .int j => .ok (.int (i - j)) st
  | .mul, .int i, .int j => if mulOk i j then .ok (.int (i * j)) st else .bad
  | .fdiv, .int i, .int j => if divOk j then .ok (.int (i.fdiv j)) st else .bad
  | .mod, .int i, .int j => if j ≠ 0 then .ok (.int (i.fmod j)) st else .bad
  | .pow, .int i, .int j => if powOk i j then .ok (.int (i ^ j.toNat)) st else .bad
  | .add, .loc n, .loc m => match st[n]?, st[m]? with
    | some (.lst xs), some (.lst ys) => if xs.length + ys.length ≤ sizeLine then .ok (.loc st.length) (st ++ [.lst (xs ++ ys)]) else .bad
    | _, _ => .bad
  | .mul, .loc n, .int k => match st[n]? with
    | some (.lst xs) => if -(2 ^ 63) ≤ k ∧ k < 2 ^ 63 ∧ xs.length * k.toNat ≤ sizeLine then .ok (.loc st.length) (st ++ [.lst (List.replicate k.toNat xs).flatten]) else .bad
    | _ => .bad
  | _, _, _ => .bad
def flatD : D → Bool
  | .non => true
  | .bl _ => true
  | .int _ => true
  | .str _ => true
  | _ => false
def toV : D → L2.V
  | .non => .non
  | .bl b => .bl b
  | .int i => .int i
  | .str x => .str x
  | _ => .non
def cmD (c : Cm) (a b : D) (st : Sto) : Res D := match c with
  | .eq => match eqV st a b with | some x => .ok (.bl x) st | none => .bad
  | .ne => match eqV st a b with | some x => .ok (.bl (!x)) st | none => .bad
  | .lt => match a, b with | .int i, .int j => .ok (.bl (decide (i < j))) st | _, _ => .bad
  | .le => match a, b with | .int i, .int j => .ok (.bl (decide (i ≤ j))) st | _, _ => .bad
  | .gt => match a, b with | .int i, .int j => .ok (.bl (decide (j < i))) st | _, _ => .bad
  | .ge => match a, b with | .int i, .int j => .ok (.bl (decide (j ≤ i))) st | _, _ => .bad
  | .isN => match b with | .non => .ok (.bl (decide (a = .non))) st | _ => .bad
  | .notN => match b with | .non => .ok (.bl (!decide (a = .non))) st | _ => .bad
  | .inL => match seqOf st b with
    | some xs => if flatD a && xs.all flatD then .ok (.bl (L2.inV (toV a) (xs.map toV))) st else .bad
    | none => .bad
  | .notIn => match seqOf st b with
    | some xs => if flatD a && xs.all flatD then .ok (.bl (!L2.inV (toV a) (xs.map toV))) st else .bad
    | none => .bad
def atD (xs : List D) (i : Int) : Option D := L2.atI xs i
def ixD (a b : D) (st : Sto) : Res D := match b with
  | .int i => match seqOf st a with
    | some xs => match atD xs i with | some d => .ok d st | none => .bad
    | none => .bad
  | _ => .bad
def btD (f : Bt) (ds : List D) (st : Sto) : Res D := match f, ds with
  | .absB, [.int i] => .ok (.int (if i < 0 then -i else i)) st
  | .intB, [.int i] => .ok (.int i) st
  | .intB, [.bl b] => .ok (.int (if b then 1 else 0)) st
  | .lenB, [d] => match seqOf st d with | some xs => .ok (.int xs.length) st | none => .bad
  | .listB, [d] => match seqOf st d with | some xs => .ok (.loc st.length) (st ++ [.lst xs]) | none => .bad
  | .tupleB, [d] => match seqOf st d with | some xs => .ok (.tup xs) st | none => .bad
  | .minB, [.int i, .int j] => .ok (.int (if j < i then j else i)) st
  | .maxB, [.int i, .int j] => .ok (.int (if j > i then j else i)) st
  | _, _ => .bad
def isLst (st : Sto) : D → Bool
  | .loc n => match st[n]? with | some (.lst _) => true | _ => false
  | _ => false
def mtD (m : Mt) (o : D) (ds : List D) (st : Sto) : Res D := match m, o, ds with
  | .append, .loc n, [d] => match st[n]? with
    | some (.lst xs) => if xs.length < sizeLine then .ok .non (st.set n (.lst (xs ++ [d]))) else .bad
    | _ => .bad
  | .clear, .loc n, [] => match st[n]? with
    | some (.lst xs) => .ok .non (st.set n (.lst []))
    | _ => .bad
  | _, _, _ => .bad
def subB : String → String → Option Bool := fun t c => if t = c then some true else if t = "bool" ∧ c = "int" then some true else if c = "bool" ∨ c = "int" ∨ c = "tuple" ∨ c = "list" ∨ c = "str" ∨ c = "dict" then some false else none
def subT (tab : Nat → Ty → Option Bool) : Ty → Ty → Option Bool
  | .b t, .b c => subB t c
  | .b _, .o _ => none
  | .o n, c => tab n c
end DD
set_option Elab.async false
set_option linter.all false
set_option maxRecDepth 100000
namespace DD
open PySem
abbrev Or := Nat → List D → Sto → Res D
section
variable (tab : Nat → Ty → Option Bool) (call : Or)
def getV (env : Env) (i : Nat) : Option D := (env[i]?).join
def setAll : List Nat → List D → Env → Option Env
  | [], [], env => some env
  | i :: r, d :: t, env => if i < env.length then setAll r t (env.set i (some d)) else none
  | _, _, _ => none
def store (tg : List Nat) (one : Bool) (d : D) (env : Env) : Option Env := if one then setAll tg [d] env else match d with
  | .tup ds => setAll tg ds env
  | _ => none
def walkOf (k : Bool) (st : Sto) : D → Option (List D × Option Nat)
  | .tup ds => if k then some (ds, none) else none
  | .loc n => if k then none else (lstOf st n).map fun ds => (ds, some n)
  | _ => none
def stays (st : Sto) (p : Option Nat) (ds : List D) : Bool := match p with
  | none => true
  | some n => decide (lstOf st n = some ds)
def rngL (lo : Int) (n : Nat) : List D := (List.range n).map fun k => .int (lo + (k : Nat))
def rngOf (ds : List D) : Option (List D) := match ds with
  | [.int j] => if -(2 ^ 62) ≤ j ∧ j < 2 ^ 62 then some (rngL 0 j.toNat) else none
  | [.int i, .int j] => if -(2 ^ 62) ≤ i ∧ i < 2 ^ 62 ∧ -(2 ^ 62) ≤ j ∧ j < 2 ^ 62 then some (rngL i (j - i).toNat) else none
  | _ => none
def compLoop (all : List D) (p : Option Nat) (n0 : Nat) (body : D → Sto → Res D) : List D → Sto → Res Unit
  | [], st => if stays st p all then .ok () st else .bad
  | d :: r, st => if stays st p all then (match body d st with
      | .ok y st' => (match st'[n0]? with
        | some (.lst ys) => if ys.length < sizeLine then compLoop all p n0 body r (st'.set n0 (.lst (ys ++ [y]))) else .bad
        | _ => .bad)
      | _ => .bad)
    else .bad
mutual
def evalE : E → Env → Sto → Res D
  | .var i, env, st => match getV env i with | some d => .ok d st | none => .bad
  | .cst d, _, st => .ok d st
  | .tupE es, env, st => (evalEs es env st).bind fun ds st => if ds.length ≤ sizeLine then .ok (.tup ds) st else .bad
  | .lstE es, env, st => (evalEs es env st).bind fun ds st => if ds.length ≤ sizeLine then .ok (.loc st.length) (st ++ [.lst ds]) else .bad
  | .op o a b, env, st => (evalE a env st).bind fun x st => (evalE b env st).bind fun y st => opD o x y st
  | .neg a, env, st => (evalE a env st).bind fun x st => match x with | .int i => .ok (.int (-i)) st | _ => .bad
  | .cm c a b, env, st => (evalE a env st).bind fun x st => (evalE b env st).bind fun y st => cmD c x y st
  | .andE a b, env, st => (evalE a env st).bind fun x st => match x with | .bl true => evalE b env st | .bl false => .ok (.bl false) st | _ => .bad
  | .orE a b, env, st => (evalE a env st).bind fun x st => match x with | .bl true => .ok (.bl true) st | .bl false => evalE b env st | _ => .bad
  | .notE a, env, st => (evalE a env st).bind fun x st => match x with | .bl b => .ok (.bl (!b)) st | _ => .bad
  | .ifE c a b, env, st => (evalT c env st).bind fun x st => if x then evalE a env st else evalE b env st
  | .call f es dv, env, st => (evalEs es env st).bind fun ds st => call f (ds ++ dv) st
  | .bt f es, env, st => (evalEs es env st).bind fun ds st => btD f ds st
  | .ix a b, env, st => (evalE a env st).bind fun x st => (evalE b env st).bind fun y st => ixD x y st
  | .isi a t, env, st => (evalE a env st).bind fun x st => match (tyOf st x).bind fun u => subT tab u t with | some b => .ok (.bl b) st | none => .bad
  | .dnew, _, st => .ok (.loc st.length) (st ++ [.dct []])
  | .mt m o es, env, st => (evalE o env st).bind fun x st => if isLst st x then (evalEs es env st).bind fun ds st => mtD m x ds st else .bad
  | .comp n tg fv it ifs elt, env, st => (evalE it env st).bind fun d st => match walkOf (n == 1) st d with
      | some (xs, p) => (compLoop xs p st.length (fun d st => evalE elt [some d] st) xs (st ++ [.lst []])).bind fun _ st' => .ok (.loc st.length) st'
      | none => .bad
def evalEs : Es → Env → Sto → Res (List D)
  | .nil, _, st => .ok [] st
  | .cons e es, env, st => (evalE e env st).bind fun d st => (evalEs es env st).bind fun ds st => .ok (d :: ds) st
def evalT : E → Env → Sto → Res Bool
  | .andE a b, env, st => (evalT a env st).bind fun x st => if x then evalT b env st else .ok false st
  | .orE a b, env, st => (evalT a env st).bind fun x st => if x then .ok true st else evalT b env st
  | .notE a, env, st => (evalT a env st).bind fun x st => .ok (!x) st
  | .var i, env, st => match getV env i with | some d => (match truth st d with | some b => .ok b st | none => .bad) | none => .bad
  | .cst d, env, st => match truth st d with | some b => .ok b st | none => .bad
  | .cm c a b, env, st => (evalE a env st).bind fun x st => (evalE b env st).bind fun y st => (cmD c x y st).bind fun d st => match d with | .bl b => .ok b st | _ => .bad
  | .call f es dv, env, st => (evalEs es env st).bind fun ds st => (call f (ds ++ dv) st).bind fun d st => match truth st d with | some b => .ok b st | none => .bad
  | .bt f es, env, st => (evalEs es env st).bind fun ds st => (btD f ds st).bind fun d st => match truth st d with | some b => .ok b st | none => .bad
  | .ix a b, env, st => (evalE a env st).bind fun x st => (evalE b env st).bind fun y st => (ixD x y st).bind fun d st => match truth st d with | some b => .ok b st | none => .bad
  | .isi a t, env, st => (evalE a env st).bind fun x st => match (tyOf st x).bind fun u => subT tab u t with | some b => .ok b st | none => .bad
  | _, _, _ => .bad
end
inductive Fl where
  | next (env : Env) | ret (d : D) | brk (env : Env) | cont (env : Env)
def forLoop (all : List D) (p : Option Nat) (body : D → Env → Sto → Res Fl) : List D → Env → Sto → Res Fl
  | [], env, st => if stays st p all then .ok (.next env) st else .bad
  | d :: r, env, st => if stays st p all then (body d env st).bind fun f st' => match f with
      | .next env' => forLoop all p body r env' st'
      | .cont env' => forLoop all p body r env' st'
      | .brk env' => .ok (.next env') st'
      | .ret x => .ok (.ret x) st'
    else .bad
def whileLoop (test : Env → Sto → Res Bool) (body : Env → Sto → Res Fl) : Nat → Env → Sto → Res Fl
  | 0, _, _ => .bad
  | F + 1, env, st => (test env st).bind fun b st => if b then (body env st).bind fun f st' => match f with
      | .next env' => whileLoop test body F env' st'
      | .cont env' => whileLoop test body F env' st'
      | .brk env' => .ok (.next env') st'
      | .ret x => .ok (.ret x) st'
    else .ok (.next env) st
def blank (env : Env) (i : Nat) (d : D) : Env := (List.replicate env.length none).set i (some d)
mutual
def execS (F : Nat) : S → Env → Sto → Res Fl
  | .pass, env, st => .ok (.next env) st
  | .set i e, env, st => (evalE tab call e env st).bind fun d st => if i < env.length then .ok (.next (env.set i (some d))) st else .bad
  | .unp is e, env, st => (evalE tab call e env st).bind fun d st => match store is false d env with | some env' => .ok (.next env') st | none => .bad
  | .par i j a b, env, st => (evalE tab call a env st).bind fun x st => (evalE tab call b env st).bind fun y st => if i < env.length ∧ j < env.length then .ok (.next ((env.set i (some x)).set j (some y))) st else .bad
  | .aug i o e, env, st => .bad
  | .ifS c a b, env, st => (evalT tab call c env st).bind fun x st => if x then execSs F a env st else execSs F b env st
  | .whileS c b, env, st => whileLoop (evalT tab call c) (execSs F b) F env st
  | .forR tg es b, env, st => (evalEs tab call es env st).bind fun ds st => match rngOf ds with
      | some xs => forLoop xs none (fun d env st => match store tg true d env with | some env' => execSs F b env' st | none => .bad) xs env st
      | none => .bad
  | .forS tg one k it b, env, st => (evalE tab call it env st).bind fun d st => match walkOf k st d with
      | some (xs, p) => forLoop xs p (fun d env st => match store tg one d env with | some env' => execSs F b env' st | none => .bad) xs env st
      | none => .bad
  | .ret e, env, st => (evalE tab call e env st).bind fun d st => .ok (.ret d) st
  | .retN, _, st => .ok (.ret .non) st
  | .ex e, env, st => (evalE tab call e env st).bind fun _ st => .ok (.next env) st
  | .raiseS c, _, st => .exc c st
  | .tryS b c i h, env, st => match execSs F b env st with
      | .exc k st' => match tab k (.o c) with
        | some true => if i < env.length then (match execSs F h (blank env i (.loc st'.length)) (st' ++ [.exn k]) with
            | .ok (.next _) st'' => .ok (.next (List.replicate env.length none)) st''
            | .ok (.ret d) st'' => .ok (.ret d) st''
            | _ => .bad)
          else .bad
        | _ => .bad
      | r => r
def execSs (F : Nat) : Ss → Env → Sto → Res Fl
  | .nil, env, st => .ok (.next env) st
  | .cons s r, env, st => (execS F s env st).bind fun f st => match f with
      | .next env' => execSs F r env' st
      | f => .ok f st
end
end
structure Fn where
  np : Nat
  nl : Nat
  body : Ss
def fin (r : Res Fl) : Res D := r.bind fun f st => match f with
  | .next _ => .ok .non st
  | .ret d => .ok d st
  | _ => .bad
def callD (tab : Nat → Ty → Option Bool) (fns : List Fn) (F : Nat) : Nat → Or
  | 0 => fun _ _ _ => .bad
  | n + 1 => fun f args st => match fns[f]? with
    | some fn => if args.length = fn.np ∧ fn.np ≤ fn.nl then fin (execSs tab (callD tab fns F n) F fn.body (args.map some ++ List.replicate (fn.nl - fn.np) none) st) else .bad
    | none => .bad
end DD
set_option Elab.async false
set_option linter.all false
set_option maxRecDepth 100000
namespace DD
open PySem L2
section
variable (K : PySem.W.Frag)
mutual
def Rep (rho : List Addr) (H : Hp) : D → V → Prop
  | .non, v => v = .non
  | .bl b, v => v = .bl b
  | .int i, v => v = .int i
  | .str x, v => v = .str x
  | .tup ds, v => ∃ a vs, v = .ref a ∧ SqT K H a vs ∧ RepL rho H ds vs
  | .loc n, v => ∃ a, rho[n]? = some a ∧ v = .ref a
def RepL (rho : List Addr) (H : Hp) : List D → List V → Prop
  | [], vs => vs = []
  | d :: r, vs => ∃ v t, vs = v :: t ∧ Rep rho H d v ∧ RepL rho H r t
end
structure Keep (rho : List Addr) (H : Hp) (rho' : List Addr) (H' : Hp) : Prop where
  ext : ∃ m, rho' = rho ++ m
  tup : ∀ a xs, SqT K H a xs → SqT K H' a xs
variable {K}
theorem Keep.refl (rho : List Addr) (H : Hp) : Keep K rho H rho H := ⟨⟨[], by simp⟩, fun _ _ h => h⟩
theorem Keep.trans {r1 r2 r3 : List Addr} {H1 H2 H3 : Hp} (a : Keep K r1 H1 r2 H2) (b : Keep K r2 H2 r3 H3) : Keep K r1 H1 r3 H3 := by
  obtain ⟨⟨m, rfl⟩, p⟩ := a
  obtain ⟨⟨k, rfl⟩, q⟩ := b
  exact ⟨⟨m ++ k, by simp⟩, fun a xs h => q a xs (p a xs h)⟩
theorem Keep.at {r1 r2 : List Addr} {H1 H2 : Hp} (k : Keep K r1 H1 r2 H2) {n : Nat} {a : Addr} (h : r1[n]? = some a) : r2[n]? = some a := by
  obtain ⟨⟨m, rfl⟩, _⟩ := k
  have : n < r1.length := (List.getElem?_eq_some_iff.mp h).1
  rw [List.getElem?_append_left this]; exact h
mutual
theorem Rep.mono {r1 r2 : List Addr} {H1 H2 : Hp} (k : Keep K r1 H1 r2 H2) : ∀ {d : D} {v : V}, Rep K r1 H1 d v → Rep K r2 H2 d v
  | .non, v, h => by simpa [Rep] using h
  | .bl b, v, h => by simpa [Rep] using h
  | .int b, v, h => by simpa [Rep] using h
  | .str b, v, h => by simpa [Rep] using h
  | .tup ds, v, h => by
    simp only [Rep] at h ⊢
    obtain ⟨a, vs, e, q, r⟩ := h
    exact ⟨a, vs, e, k.tup a vs q, RepL.mono k r⟩
  | .loc n, v, h => by
    simp only [Rep] at h ⊢
    obtain ⟨a, e, q⟩ := h
    exact ⟨a, k.at e, q⟩
theorem RepL.mono {r1 r2 : List Addr} {H1 H2 : Hp} (k : Keep K r1 H1 r2 H2) : ∀ {d : List D} {v : List V}, RepL K r1 H1 d v → RepL K r2 H2 d v
  | [], v, h => by simpa [RepL] using h
  | x :: r, v, h => by
    simp only [RepL] at h ⊢
    obtain ⟨y, t, e, p, q⟩ := h
    exact ⟨y, t, e, Rep.mono k p, RepL.mono k q⟩
end
theorem RepL.length {r : List Addr} {H : Hp} : ∀ {ds : List D} {vs : List V}, RepL K r H ds vs → ds.length = vs.length
  | [], vs, h => by simp only [RepL] at h; subst h; rfl
  | x :: t, vs, h => by
    simp only [RepL] at h
    obtain ⟨y, u, rfl, _, q⟩ := h
    simp [RepL.length q]
theorem RepL.get {r : List Addr} {H : Hp} : ∀ {ds : List D} {vs : List V} {i : Nat} {d : D}, RepL K r H ds vs → ds[i]? = some d → ∃ v, vs[i]? = some v ∧ Rep K r H d v
  | [], vs, i, d, h, e => by simp at e
  | x :: t, vs, 0, d, h, e => by
    simp only [RepL] at h
    obtain ⟨y, u, rfl, p, q⟩ := h
    simp at e; subst e
    exact ⟨y, rfl, p⟩
  | x :: t, vs, i + 1, d, h, e => by
    simp only [RepL] at h
    obtain ⟨y, u, rfl, p, q⟩ := h
    simp at e
    obtain ⟨v, e1, e2⟩ := RepL.get q e
    exact ⟨v, by simpa using e1, e2⟩
theorem RepL.append {r : List Addr} {H : Hp} : ∀ {ds es : List D} {vs us : List V}, RepL K r H ds vs → RepL K r H es us → RepL K r H (ds ++ es) (vs ++ us)
  | [], es, vs, us, h, g => by simp only [RepL] at h; subst h; simpa using g
  | x :: t, es, vs, us, h, g => by
    simp only [RepL] at h
    obtain ⟨y, u, rfl, p, q⟩ := h
    show RepL K r H (x :: (t ++ es)) (y :: (u ++ us))
    simp only [RepL]
    exact ⟨y, u ++ us, rfl, p, RepL.append q g⟩
theorem RepL.rep {r : List Addr} {H : Hp} {ds : List D} {vs : List V} (h : RepL K r H ds vs) : ∀ k : Nat, RepL K r H (List.replicate k ds).flatten (List.replicate k vs).flatten
  | 0 => by simp [RepL]
  | k + 1 => by
    rw [List.replicate_succ, List.replicate_succ, List.flatten_cons, List.flatten_cons]
    exact h.append (RepL.rep h k)
theorem Same.keep {H H' : Hp} (s : Same H H') (rho : List Addr) : Keep K rho H rho H' := ⟨⟨[], by simp⟩, fun a xs h => by
  rcases h with h | h
  · rcases h with h | ⟨o, h⟩
    · exact .inl (.inl (s _ _ h))
    · exact .inl (.inr ⟨o, s _ _ h⟩)
  · exact .inr h⟩
theorem same_upd {H : Hp} {p : Addr} (h : H p = none) (o : HO) : Same H (upd H p o) := fun b u q => by rw [upd_ne (ne_of_none q h)]; exact q
variable (K) (cls : Nat → Addr)
def ExcIs (a : Addr) (c : Value) : Heap → Prop := fun h => ∃ o vs, h.get? a = some o ∧ o.cls = c ∧ o.data = .fields vs
def FsRep (rho : List Addr) (H : Hp) (fs : List (Str × D)) (ws : List (Str × V)) : Prop := ∀ f, match fs.lookup f, ws.lookup f with
  | some d, some v => Rep K rho H d v
  | none, none => True
  | _, _ => False
def FrzAt (H : Hp) (a : Addr) (xs : List V) : Prop := (∃ o, H a = some (.frz o (.lst xs))) ∨
    ∃ (o : Obj) (its : Array Value) (n : Nat), K.lookup a = some o ∧ o.cls = .type "list" ∧ o.dict = none ∧ o.data = .seq its n ∧ its.size ≤ sizeLine ∧ Vals xs its.toList
def trk : Cell → Bool
  | .frz _ => false
  | _ => true
def CellRep (rho : List Addr) (H : Hp) (a : Addr) : Cell → Prop
  | .lst ds => ∃ vs, H a = some (.lst vs) ∧ RepL K rho H ds vs
  | .frz ds => ∃ vs, FrzAt K H a vs ∧ RepL K rho H ds vs
  | .dct kvs => kvs = [] ∧ H a = some (.dK [])
  | .ins c fs => ∃ dx ws, H a = some (.ins (cls c) dx ws) ∧ FsRep K rho H fs ws
  | .exn c => H a = some (.ext (ExcIs a (.ref (cls c))))
structure StoRep (rho : List Addr) (st : Sto) (H : Hp) : Prop where
  len : rho.length = st.length
  nd : ∀ (n m : Nat) (a : Addr) (c d : Cell), rho[n]? = some a → rho[m]? = some a → st[n]? = some c → st[m]? = some d → trk c = true → trk d = true → n = m
  cells : ∀ (n : Nat) (a : Addr) (c : Cell), rho[n]? = some a → st[n]? = some c → CellRep K cls rho H a c
structure EnvRep (rho : List Addr) (H : Hp) (env : Env) (sg : St) : Prop where
  len : env.length = sg.length
  val : ∀ (i : Nat) (d : D), env[i]? = some (some d) → ∃ v, sg[i]? = some (some v) ∧ Rep K rho H d v
variable {K cls}
theorem FsRep.mono {r1 r2 : List Addr} {H1 H2 : Hp} (k : Keep K r1 H1 r2 H2) {fs : List (Str × D)} {ws : List (Str × V)} (h : FsRep K r1 H1 fs ws) : FsRep K r2 H2 fs ws := fun f => by
  have q := h f
  revert q
  cases fs.lookup f <;> cases ws.lookup f <;> intro q <;> first | trivial | exact q.elim | exact Rep.mono k q
theorem CellRep.stay {r1 r2 : List Addr} {H1 H2 : Hp} (k : Keep K r1 H1 r2 H2) {a : Addr} {c : Cell} (h : CellRep K cls r1 H1 a c) (e : ∀ o, H1 a = some o → H2 a = some o) : CellRep K cls r2 H2 a c := by
  cases c with
  | lst ds => obtain ⟨vs, p, q⟩ := h; exact ⟨vs, e _ p, q.mono k⟩
  | frz ds =>
    obtain ⟨vs, p, q⟩ := h
    refine ⟨vs, ?_, q.mono k⟩
    rcases p with ⟨o, p⟩ | p
    · exact .inl ⟨o, e _ p⟩
    · exact .inr p
  | dct kvs => exact ⟨h.1, e _ h.2⟩
  | ins c fs => obtain ⟨dx, ws, p, q⟩ := h; exact ⟨dx, ws, e _ p, q.mono k⟩
  | exn c => exact e _ h
theorem CellRep.some {r : List Addr} {H : Hp} {a : Addr} {c : Cell} (h : CellRep K cls r H a c) (t : trk c = true) : ∃ o, H a = some o := by
  cases c with
  | lst ds => obtain ⟨vs, p, q⟩ := h; exact ⟨_, p⟩
  | frz ds => cases t
  | dct kvs => exact ⟨_, h.2⟩
  | ins c fs => obtain ⟨dx, ws, p, q⟩ := h; exact ⟨_, p⟩
  | exn c => exact ⟨_, h⟩
theorem StoRep.same {rho : List Addr} {st : Sto} {H H' : Hp} (s : StoRep K cls rho st H) (e : Same H H') : StoRep K cls rho st H' :=
  ⟨s.len, s.nd, fun n a c p q => (s.cells n a c p q).stay (Same.keep e rho) (fun o h => e _ _ h)⟩
theorem EnvRep.mono {r1 r2 : List Addr} {H1 H2 : Hp} (k : Keep K r1 H1 r2 H2) {env : Env} {sg : St} (h : EnvRep K r1 H1 env sg) : EnvRep K r2 H2 env sg :=
  ⟨h.len, fun i d e => let ⟨v, p, q⟩ := h.val i d e; ⟨v, p, q.mono k⟩⟩
theorem EnvRep.set {rho : List Addr} {H : Hp} {env : Env} {sg : St} (h : EnvRep K rho H env sg) (i : Nat) {d : D} {v : V} (r : Rep K rho H d v) : EnvRep K rho H (env.set i (some d)) (sg.set i (some v)) := by
  refine ⟨by simp [h.len], fun j x e => ?_⟩
  rw [List.getElem?_set] at e ⊢
  have hl := h.len
  by_cases ij : i = j
  · subst ij
    rw [if_pos rfl] at e ⊢
    by_cases hi : i < env.length
    · rw [if_pos hi] at e
      rw [if_pos (by omega)]
      cases e
      exact ⟨v, rfl, r⟩
    · rw [if_neg hi] at e; cases e
  · rw [if_neg ij] at e ⊢
    exact h.val j x e
theorem StoRep.laid {rho : List Addr} {st : Sto} {H : Hp} (s : StoRep K cls rho st H) {p : Addr} {o : HO} {c : Cell} (hp : H p = none) (hc : CellRep K cls (rho ++ [p]) (upd H p o) p c) :
    Keep K rho H (rho ++ [p]) (upd H p o) ∧ StoRep K cls (rho ++ [p]) (st ++ [c]) (upd H p o) := by
  have e := same_upd hp o
  have k : Keep K rho H (rho ++ [p]) (upd H p o) := ⟨⟨[p], rfl⟩, (Same.keep e rho).tup⟩
  have old : ∀ (n : Nat) (x : Cell), rho[n]? = some p → st[n]? = some x → trk x = true → False := fun n x h1 h2 ht => by
    obtain ⟨u, hu⟩ := (s.cells n p x h1 h2).some ht
    rw [hp] at hu; cases hu
  have at_lt : ∀ (n : Nat) (a : Addr) (x : Cell), (rho ++ [p])[n]? = some a → (st ++ [c])[n]? = some x → (n < rho.length ∧ rho[n]? = some a ∧ st[n]? = some x) ∨ (n = rho.length ∧ a = p ∧ x = c) := fun n a x h1 h2 => by
    by_cases hn : n < rho.length
    · rw [List.getElem?_append_left hn] at h1
      rw [List.getElem?_append_left (by rw [← s.len]; exact hn)] at h2
      exact .inl ⟨hn, h1, h2⟩
    · have hn' : n = rho.length := by
        have := (List.getElem?_eq_some_iff.mp h1).1
        simp at this; omega
      subst hn'
      rw [List.getElem?_append_right (Nat.le_refl _)] at h1
      rw [s.len, List.getElem?_append_right (Nat.le_refl _)] at h2
      simp at h1 h2
      exact .inr ⟨rfl, h1.symm, h2.symm⟩
  refine ⟨k, by simp [s.len], fun n m a x y h1 h2 h3 h4 t1 t2 => ?_, fun n a x h1 h2 => ?_⟩
  · rcases at_lt n a x h1 h3 with ⟨_, g1, g2⟩ | ⟨e1, e2, e3⟩
    · rcases at_lt m a y h2 h4 with ⟨_, g3, g4⟩ | ⟨f1, f2, f3⟩
      · exact s.nd n m a x y g1 g3 g2 g4 t1 t2
      · subst f2; exact (old n x g1 g2 t1).elim
    · rcases at_lt m a y h2 h4 with ⟨_, g3, g4⟩ | ⟨f1, f2, f3⟩
      · subst e2; exact (old m y g3 g4 t2).elim
      · omega
  · rcases at_lt n a x h1 h2 with ⟨_, g1, g2⟩ | ⟨e1, e2, e3⟩
    · exact (s.cells n a x g1 g2).stay k fun u hu => e _ _ hu
    · subst e2 e3; exact hc
theorem StoRep.wrote {rho : List Addr} {st : Sto} {H : Hp} (s : StoRep K cls rho st H) {n : Nat} {a : Addr} {vs ws : List V} {ds ds0 : List D} (ha : rho[n]? = some a) (hl0 : st[n]? = some (.lst ds0)) (hH : H a = some (.lst vs)) (hd : RepL K rho H ds ws) :
    Keep K rho H rho (upd H a (.lst ws)) ∧ StoRep K cls rho (st.set n (.lst ds)) (upd H a (.lst ws)) := by
  have k : Keep K rho H rho (upd H a (.lst ws)) := ⟨⟨[], by simp⟩, fun b xs h => by
    rcases h with h | h
    · rcases h with h | ⟨o, h⟩
      · exact .inl (.inl (by rw [upd_ne (ne_of h hH (by intro z; cases z))]; exact h))
      · exact .inl (.inr ⟨o, by rw [upd_ne (ne_of h hH (by intro z; cases z))]; exact h⟩)
    · exact .inr h⟩
  refine ⟨k, by simp [s.len], fun m1 m2 b c d h1 h2 h3 h4 t1 t2 => ?_, fun m b c h1 h2 => ?_⟩
  · have tr : ∀ (m : Nat) (c : Cell), (st.set n (.lst ds))[m]? = some c → trk c = true → rho[m]? = some b → ∃ c', st[m]? = some c' ∧ trk c' = true := fun m c h t hr => by
      rw [List.getElem?_set] at h
      by_cases e : n = m
      · subst e
        rw [ha] at hr; cases hr
        exact ⟨_, hl0, rfl⟩
      · rw [if_neg e] at h; exact ⟨c, h, t⟩
    obtain ⟨c1, e1, f1⟩ := tr m1 c h3 t1 h1
    obtain ⟨c2, e2, f2⟩ := tr m2 d h4 t2 h2
    exact s.nd m1 m2 b c1 c2 h1 h2 e1 e2 f1 f2
  rw [List.getElem?_set] at h2
  by_cases e : n = m
  · subst e
    rw [if_pos rfl] at h2
    rw [ha] at h1; cases h1
    by_cases hl : n < st.length
    · rw [if_pos hl] at h2; cases h2
      exact ⟨ws, upd_same, hd.mono k⟩
    · rw [if_neg hl] at h2; cases h2
  · rw [if_neg e] at h2
    cases ht : trk c with
    | true =>
      have hne : b ≠ a := fun z => by
        subst z
        exact e (s.nd n m b _ c ha h1 hl0 h2 rfl ht)
      exact (s.cells m b c h1 h2).stay k fun o ho => by rw [upd_ne hne]; exact ho
    | false =>
      cases c with
      | frz xs =>
        obtain ⟨us, p, q⟩ := s.cells m b (.frz xs) h1 h2
        refine ⟨us, ?_, q.mono k⟩
        rcases p with ⟨o, p⟩ | p
        · exact .inl ⟨o, by rw [upd_ne (ne_of p hH (by intro z; cases z))]; exact p⟩
        · exact .inr p
      | _ => cases ht
end
end DD
set_option Elab.async false
set_option linter.all false
set_option maxRecDepth 100000
namespace DD
open PySem PySem.Spec L2
structure G where
  K : PySem.W.Frag
  cls : Nat → Addr
  tab : Nat → Ty → Option Bool
  call : Or
  xk : XK
variable (g : G)
abbrev G.Rep := DD.Rep g.K
abbrev G.RepL := DD.RepL g.K
abbrev G.Keep := DD.Keep g.K
abbrev G.Sto := DD.StoRep g.K g.cls
abbrev G.Env := DD.EnvRep g.K
def RQ {α : Type} (r : Res α) (ok : α → Sto → Prop) (rho : List Addr) (H : Hp) : Prop := match r with
  | .ok a st => ok a st
  | .exc c st => ∀ H' rho', g.Keep rho H rho' H' → g.Sto rho' st H' → g.xk (.ref (g.cls c)) none H'
  | .bad => False
def Post (rho : List Addr) (H : Hp) (Q : VK) (d : D) (st : Sto) : Prop := ∀ v H' rho', g.Keep rho H rho' H' → g.Sto rho' st H' → g.Rep rho' H' d v → Q v H'
def PostL (rho : List Addr) (H : Hp) (Q : List V → Hp → Prop) (d : List D) (st : Sto) : Prop := ∀ v H' rho', g.Keep rho H rho' H' → g.Sto rho' st H' → g.RepL rho' H' d v → Q v H'
def PostB (rho : List Addr) (H : Hp) (Q : Bool → Hp → Prop) (b : Bool) (st : Sto) : Prop := ∀ H' rho', g.Keep rho H rho' H' → g.Sto rho' st H' → Q b H'
def tE (e : E) : TE := fun sg H Q => ∃ rho st env, g.Sto rho st H ∧ g.Env rho H env sg ∧ RQ g (evalE g.tab g.call e env st) (Post g rho H Q) rho H
def tEs (e : Es) : TA := fun sg H Q => ∃ rho st env, g.Sto rho st H ∧ g.Env rho H env sg ∧ RQ g (evalEs g.tab g.call e env st) (PostL g rho H Q) rho H
def tT (e : E) : TT := fun sg H Q => ∃ rho st env, g.Sto rho st H ∧ g.Env rho H env sg ∧ RQ g (evalT g.tab g.call e env st) (PostB g rho H Q) rho H
variable {g}
theorem RQ.bad {α : Type} {ok : α → Sto → Prop} {rho : List Addr} {H : Hp} (h : RQ g (.bad : Res α) ok rho H) : False := h
theorem RQ.mono {α : Type} {r : Res α} {ok ok' : α → Sto → Prop} {rho rho' : List Addr} {H H' : Hp} (k : g.Keep rho H rho' H') (h : RQ g r ok rho H) (ho : ∀ a st, ok a st → ok' a st) : RQ g r ok' rho' H' := by
  cases r with
  | ok a st => exact ho _ _ h
  | exc c st => exact fun H2 r2 k2 s2 => h H2 r2 (k.trans k2) s2
  | bad => exact h
theorem Post.mono {rho rho' : List Addr} {H H' : Hp} {Q : VK} (k : g.Keep rho H rho' H') {d : D} {st : Sto} (h : Post g rho H Q d st) : Post g rho' H' Q d st := fun v H2 r2 k2 => h v H2 r2 (k.trans k2)
theorem PostL.mono {rho rho' : List Addr} {H H' : Hp} {Q : List V → Hp → Prop} (k : g.Keep rho H rho' H') {d : List D} {st : Sto} (h : PostL g rho H Q d st) : PostL g rho' H' Q d st := fun v H2 r2 k2 => h v H2 r2 (k.trans k2)
theorem PostB.mono {rho rho' : List Addr} {H H' : Hp} {Q : Bool → Hp → Prop} (k : g.Keep rho H rho' H') {d : Bool} {st : Sto} (h : PostB g rho H Q d st) : PostB g rho' H' Q d st := fun H2 r2 k2 => h H2 r2 (k.trans k2)
theorem step {β : Type} {e : E} {env : Env} {sg : St} {st : Sto} {rho : List Addr} {H : Hp} {k : D → Sto → Res β} {ok : β → Sto → Prop} {Q : VK} (s : g.Sto rho st H) (n : g.Env rho H env sg)
    (h : RQ g ((evalE g.tab g.call e env st).bind k) ok rho H)
    (hk : ∀ d st1 v H1 rho1, g.Keep rho H rho1 H1 → g.Sto rho1 st1 H1 → g.Env rho1 H1 env sg → g.Rep rho1 H1 d v → RQ g (k d st1) ok rho1 H1 → Q v H1) : tE g e sg H Q := by
  refine ⟨rho, st, env, s, n, ?_⟩
  revert h
  cases evalE g.tab g.call e env st with
  | ok d st1 => exact fun h v H1 r1 k1 s1 rp => hk d st1 v H1 r1 k1 s1 (n.mono k1) rp (RQ.mono k1 h fun _ _ x => x)
  | exc c st1 => exact fun h => h
  | bad => exact fun h => h
theorem stepL {β : Type} {e : Es} {env : Env} {sg : St} {st : Sto} {rho : List Addr} {H : Hp} {k : List D → Sto → Res β} {ok : β → Sto → Prop} {Q : List V → Hp → Prop} (s : g.Sto rho st H) (n : g.Env rho H env sg)
    (h : RQ g ((evalEs g.tab g.call e env st).bind k) ok rho H)
    (hk : ∀ d st1 v H1 rho1, g.Keep rho H rho1 H1 → g.Sto rho1 st1 H1 → g.Env rho1 H1 env sg → g.RepL rho1 H1 d v → RQ g (k d st1) ok rho1 H1 → Q v H1) : tEs g e sg H Q := by
  refine ⟨rho, st, env, s, n, ?_⟩
  revert h
  cases evalEs g.tab g.call e env st with
  | ok d st1 => exact fun h v H1 r1 k1 s1 rp => hk d st1 v H1 r1 k1 s1 (n.mono k1) rp (RQ.mono k1 h fun _ _ x => x)
  | exc c st1 => exact fun h => h
  | bad => exact fun h => h
theorem stepT {β : Type} {e : E} {env : Env} {sg : St} {st : Sto} {rho : List Addr} {H : Hp} {k : Bool → Sto → Res β} {ok : β → Sto → Prop} {Q : Bool → Hp → Prop} (s : g.Sto rho st H) (n : g.Env rho H env sg)
    (h : RQ g ((evalT g.tab g.call e env st).bind k) ok rho H)
    (hk : ∀ d st1 H1 rho1, g.Keep rho H rho1 H1 → g.Sto rho1 st1 H1 → g.Env rho1 H1 env sg → RQ g (k d st1) ok rho1 H1 → Q d H1) : tT g e sg H Q := by
  refine ⟨rho, st, env, s, n, ?_⟩
  revert h
  cases evalT g.tab g.call e env st with
  | ok d st1 => exact fun h H1 r1 k1 s1 => hk d st1 H1 r1 k1 s1 (n.mono k1) (RQ.mono k1 h fun _ _ x => x)
  | exc c st1 => exact fun h => h
  | bad => exact fun h => h
variable {X : Cx} {a b c : Expr} {a' b' c' : E} {pos : Pos}
def Sd (g : G) (X : Cx) (e : Expr) (e' : E) : Prop := PE X e (tE g e')
def SdT (g : G) (X : Cx) (e : Expr) (e' : E) : Prop := PT X e (tT g e')
def SdL (g : G) (X : Cx) (es : List Expr) (es' : Es) : Prop := PA X es (tEs g es')
theorem pe_imp {t t' : TE} {e : Expr} (h : PE X e t) (hi : ∀ sg H Q, t' sg H Q → t sg H Q) : PE X e t' := fun pins s sg H Q I q => h pins s sg H Q I (hi _ _ _ q)
theorem pt_imp {t t' : TT} {e : Expr} (h : PT X e t) (hi : ∀ sg H Q, t' sg H Q → t sg H Q) : PT X e t' := fun pins s sg H Q I q => h pins s sg H Q I (hi _ _ _ q)
theorem pa_imp {t t' : TA} {e : List Expr} (h : PA X e t) (hi : ∀ sg H Q, t' sg H Q → t sg H Q) : PA X e t' := fun pos pins s sg H Q I q => h pos pins s sg H Q I (hi _ _ _ q)
theorem sd_var (i : Nat) {x : Str} {pos : Pos} (h : PE X (.Name x pos) (tVar i)) : Sd g X (.Name x pos) (.var i) := pe_imp h fun sg H Q q => by
  obtain ⟨rho, st, env, s, n, q⟩ := q
  simp only [evalE] at q
  cases e : getV env i with
  | none => rw [e] at q; exact q.elim
  | some d =>
    rw [e] at q
    have e' : env[i]? = some (some d) := by
      unfold getV at e
      cases z : env[i]? with
      | none => rw [z] at e; cases e
      | some o => rw [z] at e; cases o with
        | none => cases e
        | some y => cases e; rfl
    obtain ⟨v, e1, r⟩ := n.val i d e'
    exact ⟨v, e1, q v H rho (.refl _ _) s r⟩
theorem sd_cst {e : Expr} {v : V} {d : D} (h : PE X e (tC v)) (hr : ∀ rho H, g.Rep rho H d v) : Sd g X e (.cst d) := pe_imp h fun sg H Q q => by
  obtain ⟨rho, st, env, s, n, q⟩ := q
  exact q v H rho (.refl _ _) s (hr _ _)
theorem sd_int {i j pos} : Sd g X (.Constant (.int i) j pos) (.cst (.int i)) := sd_cst pe_int fun _ _ => by simp [Rep]
theorem sd_bl {i j pos} : Sd g X (.Constant (.bool i) j pos) (.cst (.bl i)) := sd_cst pe_bl fun _ _ => by simp [Rep]
theorem sd_non {j pos} : Sd g X (.Constant .none j pos) (.cst .non) := sd_cst pe_non fun _ _ => by simp [Rep]
theorem sd_str {x j pos} : Sd g X (.Constant (.str x) j pos) (.cst (.str x)) := sd_cst pe_str fun _ _ => by simp [Rep]
theorem sdl_nil : SdL g X [] .nil := pa_imp pa_nil fun sg H Q q => by
  obtain ⟨rho, st, env, s, n, q⟩ := q
  exact q [] H rho (.refl _ _) s (by simp [RepL])
theorem sdl_cons {e : Expr} {es : List Expr} {e' : E} {es' : Es} (h : Sd g X e e') (t : SdL g X es es') (hs : starEach (e :: es) X.env = (false, eval e X.env) :: starEach es X.env := by rfl) : SdL g X (e :: es) (.cons e' es') :=
  pa_imp (pa_cons h t hs) fun sg H Q q => by
    obtain ⟨rho, st, env, s, n, q⟩ := q
    simp only [evalEs] at q
    refine step s n q fun d st1 v H1 r1 k1 s1 n1 rp q1 => ?_
    refine stepL s1 n1 q1 fun ds st2 vs H2 r2 k2 s2 n2 rps q2 => ?_
    have q2 : PostL g rho H Q (d :: ds) st2 := q2
    exact q2 (v :: vs) H2 r2 (k1.trans k2) s2 (by simp only [RepL]; exact ⟨v, vs, rfl, rp.mono k2, rps⟩)
theorem sd_tup {es : List Expr} {es' : Es} {x1} (h : SdL g X es es') : Sd g X (.Tuple es x1 pos) (.tupE es') := pe_imp (pe_tup h) fun sg H Q q => by
  obtain ⟨rho, st, env, s, n, q⟩ := q
  simp only [evalE] at q
  refine stepL s n q fun ds st1 vs H1 r1 k1 s1 n1 rps q1 => ?_
  have hl := rps.length
  by_cases z : ds.length ≤ sizeLine
  · rw [if_pos z] at q1
    refine ⟨by omega, fun p hp => ?_⟩
    have q1 : Post g rho H Q (.tup ds) st1 := q1
    have e := same_upd hp (.tup vs)
    refine q1 (.ref p) _ r1 (k1.trans (Same.keep e r1)) (s1.same e) ?_
    simp only [Rep]
    exact ⟨p, vs, rfl, SqT.of upd_same, rps.mono (Same.keep e r1)⟩
  · rw [if_neg z] at q1; exact q1.elim
theorem sd_lst {es : List Expr} {es' : Es} (h : SdL g X es es') : Sd g X (.List es pos) (.lstE es') := pe_imp (pe_lst h) fun sg H Q q => by
  obtain ⟨rho, st, env, s, n, q⟩ := q
  simp only [evalE] at q
  refine stepL s n q fun ds st1 vs H1 r1 k1 s1 n1 rps q1 => ?_
  have hl := rps.length
  by_cases z : ds.length ≤ sizeLine
  · rw [if_pos z] at q1
    refine ⟨by omega, fun p hp => ?_⟩
    have q1 : Post g rho H Q (.loc st1.length) (st1 ++ [.lst ds]) := q1
    have e := same_upd hp (.lst vs)
    have kk : g.Keep r1 H1 (r1 ++ [p]) (upd H1 p (.lst vs)) := ⟨⟨[p], rfl⟩, (Same.keep e r1).tup⟩
    obtain ⟨k2, s2⟩ := s1.laid hp (o := .lst vs) (c := .lst ds) ⟨vs, upd_same, rps.mono kk⟩
    refine q1 (.ref p) _ _ (k1.trans k2) s2 ?_
    simp only [Rep]
    exact ⟨p, by rw [← s1.len]; simp, rfl⟩
  · rw [if_neg z] at q1; exact q1.elim
theorem two {o : V → V → Hp → VK → Prop} {k : D → D → Sto → Res D} (hop : ∀ x y u v st rho H Q, g.Sto rho st H → g.Rep rho H x u → g.Rep rho H y v → RQ g (k x y st) (Post g rho H Q) rho H → o u v H Q)
    {sg : St} {H : Hp} {Q : VK} {rho : List Addr} {st : Sto} {env : Env} (s : g.Sto rho st H) (n : g.Env rho H env sg)
    (q : RQ g ((evalE g.tab g.call a' env st).bind fun x st => (evalE g.tab g.call b' env st).bind fun y st => k x y st) (Post g rho H Q) rho H) : tOp o (tE g a') (tE g b') sg H Q := by
  refine step s n q fun x st1 u H1 r1 k1 s1 n1 rp q1 => ?_
  refine step s1 n1 q1 fun y st2 v H2 r2 k2 s2 n2 rp2 q2 => ?_
  exact hop x y u v st2 r2 H2 Q s2 (rp.mono k2) rp2 (RQ.mono (.refl _ _) q2 fun d st p => p.mono (k1.trans k2))
end DD
set_option Elab.async false
set_option linter.all false
set_option maxRecDepth 100000
set_option maxHeartbeats 1000000
namespace DD
open PySem PySem.Spec L2
variable {g : G} {X : Cx} {a b c : Expr} {a' b' c' : E} {pos : Pos}
theorem big_bits {i : Int} (h : i.natAbs < BIG) : Builtin.Int.intBits i ≤ 4000 := by
  unfold Builtin.Int.intBits
  split
  · omega
  · rename_i h0
    have hz : i.natAbs ≠ 0 := by
      intro z; apply h0; simp [Int.natAbs_eq_zero.mp z]
    have : i.natAbs.log2 < 4000 := (Nat.log2_lt hz).mpr h
    omega
theorem mulOk.ok {i j : Int} (h : mulOk i j) : IntMulOk i j := by
  rcases h with h | h | h
  · exact .of_left (intBits_le_64 h.1 h.2)
  · exact .of_right (intBits_le_64 h.1 h.2)
  · exact IntMulOk.of_bits (Nat.le_trans (big_bits h.1) (by decide)) (Nat.le_trans (big_bits h.2) (by decide))
theorem divOk.py {i j : Int} (h : divOk j) : Builtin.divisionGoesByPylong i j = false := by
  refine PyProof.noPylong_of_log2 ?_
  have hz : j.natAbs ≠ 0 := fun z => h.1 (Int.natAbs_eq_zero.mp z)
  have : j.natAbs.log2 < 4000 := (Nat.log2_lt hz).mpr h.2
  omega
theorem op_mulG : OpR X (binaryOp .Mult) (rI (fun i j => mulOk i j) fun i j => .int (i * j)) := opI fun _ _ _ _ _ _ _ hc q => PyProof.Rows.mul_int q hc.ok
theorem op_fdivG : OpR X (binaryOp .FloorDiv) (rI (fun _ j => divOk j) fun i j => .int (i.fdiv j)) := opI fun _ _ _ _ _ _ _ hc q => PyProof.Rows.floordiv_int hc.1 q (.inl hc.py)
theorem rep_int {rho : List Addr} {H : Hp} {i : Int} {v : V} : g.Rep rho H (.int i) v ↔ v = .int i := by simp [Rep]
theorem rep_bl {rho : List Addr} {H : Hp} {i : Bool} {v : V} : g.Rep rho H (.bl i) v ↔ v = .bl i := by simp [Rep]
theorem rep_non {rho : List Addr} {H : Hp} {v : V} : g.Rep rho H .non v ↔ v = .non := by simp [Rep]
theorem rep_str {rho : List Addr} {H : Hp} {x : Str} {v : V} : g.Rep rho H (.str x) v ↔ v = .str x := by simp [Rep]
theorem rep_loc {rho : List Addr} {H : Hp} {n : Nat} {v : V} : g.Rep rho H (.loc n) v ↔ ∃ a, rho[n]? = some a ∧ v = .ref a := by simp [Rep]
theorem rep_tup {rho : List Addr} {H : Hp} {ds : List D} {v : V} : g.Rep rho H (.tup ds) v ↔ ∃ a vs, v = .ref a ∧ SqT g.K H a vs ∧ g.RepL rho H ds vs := by simp [Rep]
theorem sto_lst {rho : List Addr} {st : Sto} {H : Hp} (s : g.Sto rho st H) {n : Nat} {ds : List D} (h : st[n]? = some (.lst ds)) : ∃ a vs, rho[n]? = some a ∧ H a = some (.lst vs) ∧ g.RepL rho H ds vs := by
  have hl : n < rho.length := by rw [s.len]; exact (List.getElem?_eq_some_iff.mp h).1
  obtain ⟨vs, p, q⟩ := s.cells n rho[n] (.lst ds) (List.getElem?_eq_getElem hl) h
  exact ⟨_, vs, List.getElem?_eq_getElem hl, p, q⟩
theorem sto_seq {rho : List Addr} {st : Sto} {H : Hp} (s : g.Sto rho st H) {n : Nat} {ds : List D} (h : lstOf st n = some ds) : ∃ a vs, rho[n]? = some a ∧ SqL g.K H a vs ∧ g.RepL rho H ds vs := by
  unfold lstOf at h
  split at h
  · rename_i xs e
    cases h
    obtain ⟨a, vs, p, q, r⟩ := sto_lst s e
    exact ⟨a, vs, p, SqL.of q, r⟩
  · rename_i xs e
    cases h
    have hl : n < rho.length := by rw [s.len]; exact (List.getElem?_eq_some_iff.mp e).1
    obtain ⟨vs, p, q⟩ := s.cells n rho[n] (.frz ds) (List.getElem?_eq_getElem hl) e
    exact ⟨_, vs, List.getElem?_eq_getElem hl, p.elim (fun ⟨o, p⟩ => .inl (.inr ⟨o, p⟩)) .inr, q⟩
  · cases h
theorem new_lst {rho : List Addr} {st : Sto} {H : Hp} (s : g.Sto rho st H) {ds : List D} {vs : List V} (r : g.RepL rho H ds vs) {p : Addr} (hp : H p = none) {Q : VK} (q : Post g rho H Q (.loc st.length) (st ++ [.lst ds])) : Q (.ref p) (upd H p (.lst vs)) := by
  have e := same_upd hp (.lst vs)
  have kk : g.Keep rho H (rho ++ [p]) (upd H p (.lst vs)) := ⟨⟨[p], rfl⟩, (Same.keep e rho).tup⟩
  obtain ⟨k2, s2⟩ := s.laid hp (o := .lst vs) (c := .lst ds) ⟨vs, upd_same, r.mono kk⟩
  refine q (.ref p) _ _ k2 s2 (rep_loc.mpr ⟨p, by rw [← s.len]; simp, rfl⟩)
theorem sd_add (ha : Sd g X a a') (hb : Sd g X b b') : Sd g X (.BinOp a .Add b pos) (.op .add a' b') := pe_imp (pe_op (OpR.or op_add op_cat) ha hb) fun sg H Q q => by
  obtain ⟨rho, st, env, s, n, q⟩ := q
  simp only [evalE] at q
  refine two (k := opD .add) ?_ s n q
  intro x y u v st rho H Q s rx ry q
  cases x with
  | int i =>
    cases y with
    | int j => exact .inl ⟨i, j, rep_int.mp rx, rep_int.mp ry, q _ H rho (.refl _ _) s (rep_int.mpr rfl)⟩
    | _ => exact q.elim
  | loc i =>
    cases y with
    | loc j =>
      simp only [opD] at q
      split at q
      · rename_i xs ys e1 e2
        split at q
        · rename_i z
          obtain ⟨p1, v1, a1, h1, r1⟩ := sto_lst s e1
          obtain ⟨p2, v2, a2, h2, r2⟩ := sto_lst s e2
          obtain ⟨b1, c1, d1⟩ := rep_loc.mp rx
          obtain ⟨b2, c2, d2⟩ := rep_loc.mp ry
          rw [a1] at c1; cases c1
          rw [a2] at c2; cases c2
          exact .inr ⟨p1, p2, v1, v2, d1, d2, h1, h2, by rw [← r1.length, ← r2.length]; exact z, fun p hp => new_lst s (r1.append r2) hp q⟩
        · exact q.elim
      · exact q.elim
    | _ => exact q.elim
  | _ => exact q.elim
theorem sd_sub (ha : Sd g X a a') (hb : Sd g X b b') : Sd g X (.BinOp a .Sub b pos) (.op .sub a' b') := pe_imp (pe_op op_sub ha hb) fun sg H Q q => by
  obtain ⟨rho, st, env, s, n, q⟩ := q
  simp only [evalE] at q
  refine two (k := opD .sub) ?_ s n q
  intro x y u v st rho H Q s rx ry q
  cases x with
  | int i =>
    cases y with
    | int j => exact ⟨i, j, rep_int.mp rx, rep_int.mp ry, q _ H rho (.refl _ _) s (rep_int.mpr rfl)⟩
    | _ => exact q.elim
  | _ => exact q.elim
theorem sd_mul (ha : Sd g X a a') (hb : Sd g X b b') : Sd g X (.BinOp a .Mult b pos) (.op .mul a' b') := pe_imp (pe_op (OpR.or op_mulG op_rep) ha hb) fun sg H Q q => by
  obtain ⟨rho, st, env, s, n, q⟩ := q
  simp only [evalE] at q
  refine two (k := opD .mul) ?_ s n q
  intro x y u v st rho H Q s rx ry q
  cases x with
  | int i =>
    cases y with
    | int j =>
      simp only [opD] at q
      split at q
      · rename_i z
        exact .inl ⟨i, j, rep_int.mp rx, rep_int.mp ry, z, q _ H rho (.refl _ _) s (rep_int.mpr rfl)⟩
      · exact q.elim
    | _ => exact q.elim
  | loc i =>
    cases y with
    | int k =>
      simp only [opD] at q
      split at q
      · rename_i xs e1
        split at q
        · rename_i z
          obtain ⟨p1, v1, a1, h1, r1⟩ := sto_lst s e1
          obtain ⟨b1, c1, d1⟩ := rep_loc.mp rx
          rw [a1] at c1; cases c1
          exact .inr ⟨p1, k, v1, d1, rep_int.mp ry, h1, z.1, z.2.1, by rw [← r1.length]; exact z.2.2, fun p hp => new_lst s (r1.rep _) hp q⟩
        · exact q.elim
      · exact q.elim
    | _ => exact q.elim
  | _ => exact q.elim
theorem sd_fdiv (ha : Sd g X a a') (hb : Sd g X b b') : Sd g X (.BinOp a .FloorDiv b pos) (.op .fdiv a' b') := pe_imp (pe_op op_fdivG ha hb) fun sg H Q q => by
  obtain ⟨rho, st, env, s, n, q⟩ := q
  simp only [evalE] at q
  refine two (k := opD .fdiv) ?_ s n q
  intro x y u v st rho H Q s rx ry q
  cases x with
  | int i =>
    cases y with
    | int j =>
      simp only [opD] at q
      split at q
      · rename_i z
        exact ⟨i, j, rep_int.mp rx, rep_int.mp ry, z, q _ H rho (.refl _ _) s (rep_int.mpr rfl)⟩
      · exact q.elim
    | _ => exact q.elim
  | _ => exact q.elim
theorem sd_mod (ha : Sd g X a a') (hb : Sd g X b b') : Sd g X (.BinOp a .Mod b pos) (.op .mod a' b') := pe_imp (pe_op op_modN ha hb) fun sg H Q q => by
  obtain ⟨rho, st, env, s, n, q⟩ := q
  simp only [evalE] at q
  refine two (k := opD .mod) ?_ s n q
  intro x y u v st rho H Q s rx ry q
  cases x with
  | int i =>
    cases y with
    | int j =>
      simp only [opD] at q
      split at q
      · rename_i z
        exact ⟨i, j, rep_int.mp rx, rep_int.mp ry, z, q _ H rho (.refl _ _) s (rep_int.mpr rfl)⟩
      · exact q.elim
    | _ => exact q.elim
  | _ => exact q.elim
theorem sd_pow (ha : Sd g X a a') (hb : Sd g X b b') : Sd g X (.BinOp a .Pow b pos) (.op .pow a' b') := pe_imp (pe_op op_pow ha hb) fun sg H Q q => by
  obtain ⟨rho, st, env, s, n, q⟩ := q
  simp only [evalE] at q
  refine two (k := opD .pow) ?_ s n q
  intro x y u v st rho H Q s rx ry q
  cases x with
  | int i =>
    cases y with
    | int j =>
      simp only [opD] at q
      split at q
      · rename_i z
        exact ⟨i, j, rep_int.mp rx, rep_int.mp ry, z, q _ H rho (.refl _ _) s (rep_int.mpr rfl)⟩
      · exact q.elim
    | _ => exact q.elim
  | _ => exact q.elim
theorem sd_neg (ha : Sd g X a a') : Sd g X (.UnaryOp .USub a pos) (.neg a') := pe_imp (pe_un un_neg ha) fun sg H Q q => by
  obtain ⟨rho, st, env, s, n, q⟩ := q
  simp only [evalE] at q
  refine step s n q fun x st1 u H1 r1 k1 s1 n1 rp q1 => ?_
  cases x with
  | int i => exact ⟨i, rep_int.mp rp, (show Post g rho H Q (.int (-i)) st1 from q1) _ H1 r1 k1 s1 (rep_int.mpr rfl)⟩
  | _ => exact q1.elim
end DD
set_option Elab.async false
set_option linter.all false
set_option maxRecDepth 100000
set_option maxHeartbeats 1000000
namespace DD
open PySem PySem.Spec L2
open PyProof.Rows hiding St
structure Flew (P : Program) (w : World) (outer : List PySem.Env) (H : Hp) (s : Shared) (C a t : Addr) (H' : Hp) (B : Heap) (s' : Shared) : Prop where
  os : s'.os = s.os
  bare : AllBare s'.gens
  fly : Heap.FlyingW B outer a (.ref C) (.ref t) s'.heap
  keep : ∀ b o, s.heap.get? b = some o → H b = none → b ∉ frs outer → B.get? b = some o
  there : ∀ b o, s.heap.get? b = some o → b ∉ frs outer → ∃ o', B.get? b = some o'
  free : ∀ b o, s.heap.get? b = some o → H b = none → H' b = none
  slot : ∀ b o, s.heap.get? b = some o → H b = none → b ∈ frs outer → ∃ sl, s'.heap.get? b = some { o with slots := sl }
  tups : ∀ b xs, H b = some (.tup xs) → H' b = some (.tup xs)
  frzs : ∀ b o u, H b = some (.frz o u) → H' b = some (.frz o u)
  tbls : ∀ b ps, H b = some (.tbl ps) → ∃ more, H' b = some (.tbl (ps ++ more))
  hok : HOk P w H' B
def CXd (P : Program) (w : World) : CXT := fun outer H s E e s' => ∃ (C a t : Addr) (H' : Hp) (B : Heap), e = .ref a ∧ Flew P w outer H s C a t H' B s' ∧ E (.ref C) none H'
theorem frs_cons {env : PySem.Env} {L : Addr} (h : env.frame = some L) (outer : List PySem.Env) : frs (env :: outer) = L :: frs outer := by
  unfold frs; rw [List.filterMap_cons, h]
section
variable {P : Program} {w : World} {K : PySem.W.Frag} {mg : Str → Option Value} {base : Heap} {N : List Str} {qual : Str} {scope : Scope} {f : Addr} {cd : Value} {A : Around} {outer : List PySem.Env} {s : Shared} {H : Hp} {E : XK}
theorem pass_def : Passes (CXd P w) (cxOf (CXd P w) P w K mg base N qual scope f cd A outer s H E) E := by
  intro pins sg H1 s1 e s2 I h
  obtain ⟨C, a, t, H', B, rfl, F, q⟩ := h
  have hf : (envOfC qual scope s.heap.objs.size f cd).frame = some s.heap.objs.size := rfl
  have hstk : (cxOf (CXd P w) P w K mg base N qual scope f cd A outer s H E).stack = envOfC qual scope s.heap.objs.size f cd :: outer := rfl
  have hfr := frs_cons hf outer
  rw [hstk] at F
  have hb : ∀ b o, s.heap.get? b = some o → b ∉ frs outer → b ∉ frs (envOfC qual scope s.heap.objs.size f cd :: outer) := fun b o e hn => by
    rw [hfr]
    intro m
    rcases List.mem_cons.mp m with z | z
    · have := Heap.lt_size e; rw [z] at this; exact Nat.lt_irrefl _ this
    · exact hn z
  have up : ∀ b o, s.heap.get? b = some o → ∃ o', s1.heap.get? b = some o' := fun b o e => I.base.there b o e (by intro z; cases z)
  show wpAny (model P w) (A.deeper (envOfC qual scope s.heap.objs.size f cd)) (leaving (envOfC qual scope s.heap.objs.size f cd) (.ref a)) (fun _ s'' => CXd P w outer H s E (.ref a) s'') (fun e' s'' => CXd P w outer H s E e' s'') s2
  refine wpAny_leaves_onW (I.ok.frames) hf F.fly fun h' fl us => ?_
  refine ⟨C, a, t, H', B, rfl, ⟨F.os.trans I.os, F.bare, fl, fun b o e n hn => ?_, fun b o e hn => ?_, fun b o e n => ?_, fun b o e n hm => ?_, fun b xs e => F.tups _ _ (I.base.tups _ _ e), fun b o u e => F.frzs _ _ _ (I.base.frzs _ _ _ e), fun b ps e => ?_, F.hok⟩, q⟩
  · exact F.keep b o (I.base.keep b o e n hn (by intro z; cases z)) (I.base.free b o e n (by intro z; cases z)) (hb b o e hn)
  · obtain ⟨o', e'⟩ := up b o e
    exact F.there b o' e' (hb b o e hn)
  · obtain ⟨o', e'⟩ := up b o e
    exact F.free b o' e' (I.base.free b o e n (by intro z; cases z))
  · obtain ⟨sl, e1⟩ := I.base.slot b o e n hm (by intro z; cases z)
    have n1 := I.base.free b o e n (by intro z; cases z)
    obtain ⟨sl2, e2⟩ := F.slot b _ e1 n1 (by rw [hfr]; exact List.mem_cons_of_mem _ hm)
    have nf : ∀ vs, o.data ≠ .fields vs := by
      obtain ⟨_, o2, ho2, hd2⟩ := I.ok.funs.mem hm
      have : s.heap.get? b = some o2 := ho2
      rw [e] at this; cases this; exact hd2
    obtain ⟨sl3, e3⟩ := us b _ e2 nf
    exact ⟨sl3, e3⟩
  · obtain ⟨m1, e1⟩ := I.base.tbls b ps e
    obtain ⟨m2, e2⟩ := F.tbls b _ e1
    exact ⟨m1 ++ m2, by rw [e2, Array.append_assoc]⟩
def Throws (X : Cx) (E : XK) : Prop := ∀ (pins : List (Addr × Obj)) (sg : L2.St) (H : Hp) (s1 s2 : Shared) (a C : Addr) (vs : List Value), L2.Inv X pins sg H s1 → s2.os = s1.os → AllBare s2.gens → Heap.MadeExcOf s1.heap s2.heap a (.ref C) vs → E (.ref C) none H → X.xe (.ref a) s2
theorem funs_hide {l : List Addr} {b h : Heap} : ∀ {env : List PySem.Env}, h.FunFrames b env → (∀ x ∈ frs env, x ∈ l) → h.FunFrames (PySem.W.hideAll h l) env
  | [], _, _ => trivial
  | e :: r, ⟨hk, ⟨L, o, hf, hn, ho, hd⟩, hr⟩, hm => by
    have e1 := frs_cons hf r
    refine ⟨hk, ⟨L, o, hf, PySem.W.hideAll_none _ (hm L (by rw [e1]; exact List.mem_cons_self)), ho, hd⟩, funs_hide hr fun x hx => hm x (by rw [e1]; exact List.mem_cons_of_mem _ hx)⟩
theorem throws_def : Throws (cxOf (CXd P w) P w K mg base N qual scope f cd A outer s H E) E := by
  intro pins sg H1 s1 s2 a C vs I hos hbare hx q
  have hf : (envOfC qual scope s.heap.objs.size f cd).frame = some s.heap.objs.size := rfl
  have hfr := frs_cons hf outer
  have hstk : (cxOf (CXd P w) P w K mg base N qual scope f cd A outer s H E).stack = envOfC qual scope s.heap.objs.size f cd :: outer := rfl
  have hb : ∀ b o, s.heap.get? b = some o → b ∉ frs outer → b ∉ frs (envOfC qual scope s.heap.objs.size f cd :: outer) := fun b o e hn => by
    rw [hfr]
    intro m
    rcases List.mem_cons.mp m with z | z
    · have := Heap.lt_size e; rw [z] at this; exact Nat.lt_irrefl _ this
    · exact hn z
  have hst : s1.heap.FunFrames base (envOfC qual scope s.heap.objs.size f cd :: outer) := I.stack
  have hfree : ∀ b ∈ frs (envOfC qual scope s.heap.objs.size f cd :: outer), H1 b = none := I.stkFree
  show wpAny (model P w) (A.deeper (envOfC qual scope s.heap.objs.size f cd)) (leaving (envOfC qual scope s.heap.objs.size f cd) (.ref a)) (fun _ s'' => CXd P w outer H s E (.ref a) s'') (fun e' s'' => CXd P w outer H s E e' s'') s2
  refine wpAny_leaves_madeW (base := PySem.W.hideAll s1.heap (frs (envOfC qual scope s.heap.objs.size f cd :: outer))) (h := s1.heap) I.ok.frames hf (fun b o e => PySem.W.of_hideAll _ e) (funs_hide hst fun x h => h) hx fun h' t fl _ _ us => ?_
  refine ⟨C, a, t, H1, _, rfl, ⟨hos.trans I.os, hbare, fl, fun b o e n hn => ?_, fun b o e hn => ?_, fun b o e n => I.base.free b o e n (by intro z; cases z), fun b o e n hm => ?_, I.base.tups, I.base.frzs, I.base.tbls, fun b o e => ?_⟩, q⟩
  · exact PySem.W.hideAll_get _ (I.base.keep b o e n hn (by intro z; cases z)) (hb b o e hn)
  · obtain ⟨o', e'⟩ := I.base.there b o e (by intro z; cases z)
    exact ⟨o', PySem.W.hideAll_get _ e' (hb b o e hn)⟩
  · obtain ⟨sl, e1⟩ := I.base.slot b o e n hm (by intro z; cases z)
    have nf : ∀ vs, o.data ≠ .fields vs := by
      obtain ⟨_, o2, ho2, hd2⟩ := I.ok.funs.mem hm
      have : s.heap.get? b = some o2 := ho2
      rw [e] at this; cases this; exact hd2
    obtain ⟨sl3, e3⟩ := us b _ (hx.keeps _ _ e1) nf
    exact ⟨sl3, e3⟩
  ·
    have nfr : ∀ c, (c = b ∨ H1 c = some (.own b)) → c ∉ frs (envOfC qual scope s.heap.objs.size f cd :: outer) := fun c hc hm => by
      have := hfree c hm
      rcases hc with rfl | hc
      · rw [this] at e; cases e
      · rw [this] at hc; cases hc
    exact (I.hok b o e).stay (fun c u hc g => PySem.W.hideAll_get _ g (nfr c hc)) (fun _ h => h) fun _ _ h => h
theorem exc_obj {K : PySem.W.Frag} {h : Heap} {C : Addr} {bmB : List Value} {newId : String} (X : K.In h) (q : PySem.W.excIn K C bmB newId = true) :
    ∃ bm N nm q bs hdct sn sub ab col dd k0 k1 k2 k3 k5 mN, h.get? C = some (excClassObj nm q C N bs bm hdct sn sub ab col dd k0 k1 k2 k3 k5 newId) ∧ h.Ns N mN ∧ mN "__init__" = none ∧ OwnTail h bmB bm := by
  unfold PySem.W.excIn at q
  split at q
  · rename_i dd cd sl ho
    split at q
    · rename_i C' bm k0 k1 k2 k3 n k5 hm hs
      simp only [Bool.and_eq_true, beq_iff_eq, Bool.not_eq_true'] at q
      obtain ⟨⟨⟨⟨⟨rfl, rfl⟩, hdel⟩, ht⟩, hok⟩, hni⟩ := q
      obtain ⟨nm, bs, mro, ns, qn, hd, sn, sub, ab, col, del⟩ := cd
      dsimp only at hm hdel hok hni
      subst hm hdel
      have hsl : sl = #[k0, k1, k2, k3, some (.builtin n), k5] := by
        obtain ⟨l⟩ := sl
        simp only at hs
        rw [hs]
      subst hsl
      exact ⟨bm, ns, nm, qn, bs, hd, sn, sub, ab, col, dd, k0, k1, k2, k3, k5, _, X _ _ ho, .of_isNs (PySem.W.isNs_of_in X hok), PySem.W.nsMap_none_of_in X hok hni, PySem.W.tail_of_in X ht⟩
    · cases q
  · cases q
def sRaise (E : XK) (C : Addr) : TS := fun _ _ H => E (.ref C) none H
theorem ps_raise {X : Cx} {C : Addr} {x txt : Str} {j : Nat} {np ap cpos pos : Pos} {E : XK} {bmB : List Value} (hth : Throws X E) (hh : X.A.handled = none) (hg : Gl X x) (hn : PySem.W.nsIn X.K mainGlobals x = some (some (.ref C))) (hm : X.mg x = some (.ref C))
    (hq : PySem.W.excIn X.K C [.type "ValueError", .type "Exception", .type "BaseException", .type "object"] "ValueError.__new__" = true) (hd : (x == ("__debug__" : Str)) = false := by decide) :
    PS X (.Raise (some (.Call (.Name x np) [.Constant (.str txt) j ap] [] cpos)) none pos) (sRaise E C) := by
  intro pins s sg H D I h
  have KX := I.kIn
  have FB := PySem.F.excBase_ValueError
  have obj := exc_obj I.mod.kin hq
  obtain ⟨tl, N, nm, q, bs, hdct, sn, sub, ab, col, dd, k0, k1, k2, k3, k5, mN, hC, hN, hni, T⟩ := obj
  refine wpAny_Raise_call_subU (C := C) (nm := nm) (q := q) (N := N) (bs := bs) (bm := tl) (hdct := hdct) (sn := sn) (sub := sub) (ab := ab) (col := col) (dd := dd) (k0 := k0) (k1 := k1) (k2 := k2) (k3 := k3) (k5 := k5)
    FB (by decide) FB (mN := mN) (T.hasType FB.hasBase) hh rfl hni (ld_glob I hg hm ⟨rfl, ?_⟩ hd)
  have ha : PA X [.Constant (.str txt) j ap] (tCons (tC (.str txt)) tNil) := pa_cons pe_str pa_nil
  have := ha cpos pins s sg H (fun vs H1 => vs = [.str txt] ∧ H1 = H) I ⟨rfl, rfl⟩
  refine Calls.evalArgs_plain (thn this fun us s2 h2 => ?_)
  obtain ⟨vs, H2, I2, rv, e1, e2⟩ := h2
  subst e1 e2
  have hl : us.length = 1 := by rw [← rv.length]; rfl
  exact ⟨rfl, by rw [show ({ pos := us, kw := [] } : Args).pos.length = us.length from rfl, hl]; decide, I2.bk _ _ hC, hN.keeps I2.bk, T.keeps I2.bk, fun h' e hm => hth pins sg _ s2 { s2 with heap := h' } e C us I2 rfl I2.bare hm h⟩
end
end DD
set_option Elab.async false
set_option linter.all false
set_option maxRecDepth 100000
set_option maxHeartbeats 2000000
namespace DD
open PySem PySem.Spec L2
open PyProof.Rows hiding St
abbrev Cx.hd (X : Cx) (a : Addr) : Cx := { X with A := X.A.mark (some (.ref a)), calm := false, xe := fun _ _ => False }
def nones (X : Cx) : L2.St := List.replicate X.N.length none
theorem nones_none {X : Cx} {i : Nat} {v : V} (h : (nones X)[i]? = some (some v)) : False := by
  unfold nones at h
  rw [List.getElem?_replicate] at h
  split at h <;> cases h
theorem ok_hd {X : Cx} (ok : X.Ok) (a : Addr) : (Cx.hd X a).Ok :=
  ⟨ok.mod, ok.kind, ok.glob, ok.blt, ok.above, ok.inj, ok.has, ok.cab, fun z => absurd z (by simp), ok.frames, ok.stk, ok.exf, ok.bs, ok.bsz, ok.noex, ok.exfs, ok.funs, ok.frf⟩
theorem objOk_some {P : Program} {w : World} {H : Hp} {h : Heap} {a : Addr} {o : HO} (x : ObjOk P w H h a o) : ∃ u, h.get? a = some u := by
  cases o with
  | lst xs => obtain ⟨_, _, _, _, e⟩ := x; exact ⟨_, e⟩
  | tup xs => obtain ⟨_, _, _, o, e, _⟩ := x; exact ⟨_, e⟩
  | dK kvs => obtain ⟨_, _, _, _, o, _, _, e, _⟩ := x; exact ⟨_, e⟩
  | dT kvs => obtain ⟨_, _, _, _, o, _, _, e, _⟩ := x; exact ⟨_, e⟩
  | set S n => obtain ⟨o, _, _, _, e, _⟩ := x; exact ⟨_, e⟩
  | ins C dx fs => obtain ⟨_, _, _, e, _⟩ := x; exact ⟨_, e⟩
  | own y => exact x
  | xd fs => obtain ⟨_, ⟨_, _, _, e, _⟩, _⟩ := x; exact ⟨_, e⟩
  | rng lo hi => obtain ⟨_, _, _, e⟩ := x; exact ⟨_, e⟩
  | frz ob u => obtain ⟨e, _⟩ := x; exact ⟨_, e⟩
  | tbl ps => exact ⟨_, show h.get? a = some _ from x⟩
  | met f y => exact ⟨_, show h.get? a = some _ from x⟩
  | ext φ => obtain ⟨_, e, _⟩ := x; exact e
theorem landed {X : Cx} {pins : List (Addr × Obj)} {sg : L2.St} {H H' : Hp} {s1 s2 : Shared} {C a t : Addr} {B h : Heap} (hfn : ∀ x, X.fn x = true) (hstk : X.stack = X.env :: X.outer) (hfr : X.env.frame = some X.env.locals) (hex : X.ex = [])
    (I : L2.Inv X pins sg H s1) (F : Flew X.prog X.w X.stack H s1 C a t H' B s2) (hB : Heap.FlyingW B X.stack a (.ref C) (.ref t) h) (us : s2.heap.UpToSlots h) :
    L2.Inv (Cx.hd X a) pins (nones X) (upd H' a (.ext (ExcIs a (.ref C)))) { s2 with heap := h } := by
  have hfrs : frs X.stack = X.env.locals :: X.fs := by rw [hstk]; exact frs_cons hfr X.outer
  have st : ∀ b o, B.get? b = some o → h.get? b = some o := hB.1
  have aB : B.get? a = none := hB.2.1
  obtain ⟨oe, ws, hoe, hoec, hoed, hoe0⟩ := hB.first
  have hnotA : ∀ b o, B.get? b = some o → b ≠ a := fun b o e z => by rw [z, aB] at e; cases e
  have nex : ∀ b : Addr, b ∉ X.ex := fun b z => by rw [hex] at z; cases z
  have old : ∀ b o, X.s₀.heap.get? b = some o → b ∉ X.fs → b ∉ frs X.stack := fun b o e hn hm => by
    rw [hfrs] at hm
    rcases List.mem_cons.mp hm with z | z
    · have := Heap.lt_size e
      rw [z] at this
      exact Nat.lt_irrefl _ (Nat.lt_of_lt_of_le this I.ok.above)
    · exact hn z
  obtain ⟨m, hm, _⟩ := I.loc
  obtain ⟨oL, esL, epL, hoL, hdL, hrL⟩ := hm
  have memL : X.env.locals ∈ frs X.stack := by rw [hfrs]; exact List.mem_cons_self
  obtain ⟨slL, e2L⟩ := F.slot _ _ hoL I.free memL
  obtain ⟨sl3, e3L⟩ := us _ _ e2L (fun vs q => by simp only [hdL] at q; cases q)
  have neL : X.env.locals ≠ a := fun z => by
    rw [z, hoe] at e3L
    cases e3L
    have hz : oL.data = .fields ws := hoed
    rw [hdL] at hz
    cases hz
  have frameNe : ∀ b o, s1.heap.get? b = some o → H b = none → b ∈ frs X.stack → (∀ vs, o.data ≠ .fields vs) → ∃ sl, h.get? b = some { o with slots := sl } := fun b o e n hm nf => by
    obtain ⟨sl, e1⟩ := F.slot b o e n hm
    obtain ⟨sl', e2⟩ := us b _ e1 nf
    exact ⟨sl', e2⟩
  have hcell : ∀ x c, X.env.cells.lookup x = some c → ∃ v, B.IsCell c v := fun x c e => by
    obtain ⟨v, o, ho, hd⟩ := I.cell x c e
    have hnot : c ∉ frs X.stack := fun hm => by
      rw [hfrs] at hm
      rcases List.mem_cons.mp hm with z | z
      · exact I.cne x c e z
      · have h1 := I.ok.cab x c (hfn x) e
        obtain ⟨_, o2, ho2, _⟩ := I.ok.funs.mem z
        exact absurd (Nat.lt_of_lt_of_le (Heap.lt_size ho2) h1) (Nat.lt_irrefl _)
    exact ⟨v, o, F.keep c o ho (I.freeC x c e) hnot, hd⟩
  refine ⟨ok_hd I.ok a, F.os.trans I.os, F.bare, ⟨fun b o e n hn hx => ?_, fun b o e n hm hx => ?_, fun b o e n hx => ?_, fun b o e hx => ?_, fun b xs e => ?_, fun b o u e => ?_, fun b ps e => ?_⟩, ⟨m, ⟨_, esL, epL, e3L, hdL, hrL⟩, fun i x v _ e2 _ => (nones_none e2).elim⟩, fun x c e => ?_, ?_, fun x c e => ?_, fun p hp => ?_, fun b o e => ?_, by unfold nones; rw [List.length_replicate]⟩
  · exact st _ _ (F.keep b o (I.base.keep b o e n hn (nex b)) (I.base.free b o e n (nex b)) (old b o e hn))
  · obtain ⟨sl, e1⟩ := I.base.slot b o e n hm (nex b)
    have nf : ∀ vs, o.data ≠ .fields vs := by
      obtain ⟨_, o2, ho2, hd2⟩ := I.ok.funs.mem hm
      rw [e] at ho2; cases ho2; exact hd2
    obtain ⟨sl', e4⟩ := frameNe b _ e1 (I.base.free b o e n (nex b)) (by rw [hfrs]; exact List.mem_cons_of_mem _ hm) nf
    exact ⟨sl', e4⟩
  · by_cases hm : b ∈ X.fs
    · obtain ⟨sl, e1⟩ := I.base.slot b o e n hm (nex b)
      have nf : ∀ vs, o.data ≠ .fields vs := by
        obtain ⟨_, o2, ho2, hd2⟩ := I.ok.funs.mem hm
        rw [e] at ho2; cases ho2; exact hd2
      obtain ⟨sl', e4⟩ := frameNe b _ e1 (I.base.free b o e n (nex b)) (by rw [hfrs]; exact List.mem_cons_of_mem _ hm) nf
      have nea : b ≠ a := fun z => by
        rw [z, hoe] at e4; cases e4
        exact nf _ hoed
      rw [upd_ne nea]
      exact F.free b _ e1 (I.base.free b o e n (nex b))
    · have e1 := I.base.keep b o e n hm (nex b)
      have n1 := I.base.free b o e n (nex b)
      rw [upd_ne (hnotA b o (F.keep b o e1 n1 (old b o e hm)))]
      exact F.free b o e1 n1
  · by_cases hm : b ∈ X.fs
    · obtain ⟨_, o2, ho2, hd2⟩ := I.ok.funs.mem hm
      have nH := I.ok.frf b hm
      obtain ⟨sl, e1⟩ := I.base.slot b o e nH hm (nex b)
      rw [e] at ho2; cases ho2
      obtain ⟨sl', e4⟩ := frameNe b _ e1 (I.base.free b o e nH (nex b)) (by rw [hfrs]; exact List.mem_cons_of_mem _ hm) hd2
      exact ⟨_, e4⟩
    · obtain ⟨o1, e1⟩ := I.base.there b o e (nex b)
      obtain ⟨o2, e2⟩ := F.there b o1 e1 (old b o e hm)
      exact ⟨o2, st _ _ e2⟩
  · have e1 := F.tups _ _ (I.base.tups _ _ e)
    obtain ⟨_, _, _, o, ho, _⟩ := F.hok b _ e1
    rw [upd_ne (hnotA b o ho)]; exact e1
  · have e1 := F.frzs _ _ _ (I.base.frzs _ _ _ e)
    obtain ⟨ho, _⟩ := F.hok b _ e1
    rw [upd_ne (hnotA b o ho)]; exact e1
  · obtain ⟨m1, e1⟩ := I.base.tbls b ps e
    obtain ⟨m2, e2⟩ := F.tbls b _ e1
    have ho : B.get? b = some _ := F.hok b _ e2
    exact ⟨m1 ++ m2, by rw [upd_ne (hnotA b _ ho), e2, Array.append_assoc]⟩
  · obtain ⟨v, o, ho, hd⟩ := hcell x c e
    exact ⟨v, o, st _ _ ho, hd⟩
  · show upd H' a _ X.env.locals = none
    rw [upd_ne neL]
    exact F.free _ _ hoL I.free
  · obtain ⟨v, o, ho, hd⟩ := hcell x c e
    rw [upd_ne (hnotA c o ho)]
    obtain ⟨v1, o1, ho1, _⟩ := I.cell x c e
    exact F.free c o1 ho1 (I.freeC x c e)
  · obtain ⟨p1, p2, p3, p4, p5⟩ := I.pin p hp
    have hnot : p.1 ∉ frs X.stack := fun hm => by
      rw [hfrs] at hm
      rcases List.mem_cons.mp hm with z | z
      · exact p3 z
      · exact p4 z
    have e1 := F.keep p.1 p.2 p1 p2 hnot
    refine ⟨st _ _ e1, ?_, p3, p4, p5⟩
    rw [upd_ne (hnotA _ _ e1)]
    exact F.free _ _ p1 p2
  · by_cases hb : b = a
    · subst hb
      rw [upd_same] at e; cases e
      refine ⟨⟨oe, ws, hoe, hoec, hoed⟩, ⟨oe, hoe⟩, fun h1 h2 ⟨o, vs, e1, e2, e3⟩ k => ⟨o, vs, k o e1, e2, e3⟩⟩
    · rw [upd_ne hb] at e
      have hne : ∀ c y, H' c = some y → c ≠ a := fun c y ec z => by
        subst z
        obtain ⟨oc, hc⟩ := objOk_some (F.hok c y ec)
        rw [aB] at hc; cases hc
      exact (F.hok b o e).stay (fun c u _ g => st c u g) (fun c z => by rw [upd_ne (hne c _ z)]; exact z) fun c xs z => by rw [upd_ne (hne c _ z)]; exact z
end DD
set_option Elab.async false
set_option linter.all false
set_option maxRecDepth 100000
set_option maxHeartbeats 2000000
namespace DD
open PySem PySem.Spec L2
open PyProof.Rows hiding St
theorem gone {X : Cx} (ok : X.Ok) {a : Addr} {pins : List (Addr × Obj)} {sg : L2.St} {H : Hp} {s : Shared} {h' : Heap} {m' : Str → Option Value} {tk : Nat} (hex : X.ex = []) (I : L2.Inv (Cx.hd X a) pins sg H s)
    (sb : Heap.SameBut X.env.locals s.heap h') (hn : h'.Ns X.env.locals m') : L2.Inv X pins (nones X) H { s with heap := h', toks := tk } := by
  have oth : ∀ b o, b ≠ X.env.locals → s.heap.get? b = some o → h'.get? b = some o := fun b o n e => (sb.2 b n).trans e
  have oldn : ∀ b o, X.s₀.heap.get? b = some o → b ≠ X.env.locals := fun b o e z => by
    have := Heap.lt_size e
    rw [z] at this
    exact Nat.lt_irrefl _ (Nat.lt_of_lt_of_le this ok.above)
  have fL : H X.env.locals = none := I.free
  refine ⟨ok, I.os, I.bare, ⟨fun b o e n hn hx => oth _ _ (oldn b o e) (I.base.keep b o e n hn hx), fun b o e n hm hx => ?_, I.base.free, fun b o e hx => ?_, I.base.tups, I.base.frzs, I.base.tbls⟩, ⟨m', hn, fun i x v _ e2 _ => (nones_none e2).elim⟩,
    fun x c e => ?_, I.free, I.freeC, fun p hp => ?_, fun b o e => ?_, by unfold nones; rw [List.length_replicate]⟩
  · obtain ⟨sl, e1⟩ := I.base.slot b o e n hm hx
    exact ⟨sl, oth _ _ (oldn b o e) e1⟩
  · obtain ⟨o', e1⟩ := I.base.there b o e hx
    exact ⟨o', oth _ _ (oldn b o e) e1⟩
  · obtain ⟨v, z⟩ := I.cell x c e
    exact ⟨v, z.sameBut sb (I.cne x c e)⟩
  · obtain ⟨p1, p2, p3, p4, p5⟩ := I.pin p hp
    exact ⟨oth _ _ p3 p1, p2, p3, p4, p5⟩
  · refine (I.hok b o e).stay (fun c u hc g => oth c u ?_ g) (fun _ h => h) fun _ _ h => h
    intro z
    rcases hc with rfl | hc
    · rw [z, fL] at e; cases e
    · rw [z, fL] at hc; cases hc
def Hands (K : PySem.W.Frag) (Cx' : Addr) (n i : Nat) (ts : TS) (D : Ends) (C : Addr) (H : Hp) : Prop := PySem.W.exmOne K (.ref C) (.ref Cx') = some true ∧
  ∀ a, H a = none → ts { nx := fun _ H2 => D.nx (List.replicate n none) H2, rt := D.rt } ((List.replicate n none).set i (some (.ref a))) (upd H a (.ext (ExcIs a (.ref C))))
abbrev Cx.tr (X : Cx) (pn : List (Addr × Obj)) (xe : Value → Shared → Prop) : Cx := { X with pn := pn, xe := xe }
theorem into_tr {X : Cx} {pins : List (Addr × Obj)} {sg : L2.St} {H : Hp} {s : Shared} {xe : Value → Shared → Prop} (I : L2.Inv X pins sg H s) : L2.Inv (Cx.tr X (X.pn ++ pins) xe) [] sg H s :=
  ⟨⟨I.ok.mod, I.ok.kind, I.ok.glob, I.ok.blt, I.ok.above, I.ok.inj, I.ok.has, I.ok.cab, I.ok.hd, I.ok.frames, I.ok.stk, I.ok.exf, I.ok.bs, I.ok.bsz, I.ok.noex, I.ok.exfs, I.ok.funs, I.ok.frf⟩, I.os, I.bare, I.base, I.loc, I.cell, I.free, I.freeC, fun p hp => I.pin p (by rw [List.append_nil] at hp; exact hp), I.hok, I.len⟩
theorem from_tr {X : Cx} {pins pins' : List (Addr × Obj)} {sg : L2.St} {H : Hp} {s : Shared} {xe : Value → Shared → Prop} (I : L2.Inv (Cx.tr X (X.pn ++ pins) xe) pins' sg H s) : L2.Inv X pins sg H s :=
  ⟨⟨I.ok.mod, I.ok.kind, I.ok.glob, I.ok.blt, I.ok.above, I.ok.inj, I.ok.has, I.ok.cab, I.ok.hd, I.ok.frames, I.ok.stk, I.ok.exf, I.ok.bs, I.ok.bsz, I.ok.noex, I.ok.exfs, I.ok.funs, I.ok.frf⟩, I.os, I.bare, I.base, I.loc, I.cell, I.free, I.freeC, fun p hp => I.pin p (List.mem_append_left _ hp), I.hok, I.len⟩
theorem looks_cls {M : Model} {h : Heap} {a : Addr} {o : Obj} {c : Value} (e : h.get? a = some o) (hc : o.cls = c) : PySem.W.Looks M h (typeOf (.ref a)) c := by
  subst hc
  exact (PySem.W.Looks.ld e).andThen .now
theorem ps_try {X : Cx} {body suite : List Stmt} {b₀ : Stmt} {x n : Str} {np hp pos : Pos} {i : Nat} {Cx' : Addr} {tb : XK → TS} {ts : TS} (hfn : ∀ y, X.fn y = true) (hstk : X.stack = X.env :: X.outer) (hfr : X.env.frame = some X.env.locals) (hex : X.ex = [])
    (hN : X.N.Nodup) (hi : X.N[i]? = some n) (hl : X.env.scope.names.lookup n = some .local) (hg : Gl X x) (hm : X.mg x = some (.ref Cx'))
    (hb : ∀ (pn : List (Addr × Obj)) (E0 : XK) (xe0 : Value → Shared → Prop), PassesOwn (model X.prog X.w) X.A X.env xe0 → Passes (CXd X.prog X.w) (Cx.tr X pn xe0) E0 → PSs (Cx.tr X pn xe0) body (tb E0)) (hs : ∀ a, PSs (Cx.hd X a) (b₀ :: suite) ts) (hd : (x == ("__debug__" : Str)) = false := by decide) :
    PS X (.Try body [.ExceptHandler (some (.Name x np)) (some n) (b₀ :: suite) hp] [] [] pos) (fun D sg H => sg.length = X.N.length → ∃ E0 : XK, (∀ C H', E0 (.ref C) none H' → Hands X.K Cx' X.N.length i ts D C H') ∧ tb E0 D sg H) := by
  intro pins s sg H D I h
  obtain ⟨E0, hE, h⟩ := h I.len
  refine wpAny_Try_except ?_
  have hkl : X.env.kindOf n = some .local := hl
  have hpk : (X.env.scope.kind == .class || (X.env.scope.kind == .module && X.env.locals != X.env.globals)) = false := by rw [I.ok.kind]; rfl
  refine wpAny_mono (hb (X.pn ++ pins) E0 _ PassesOwn.looking (fun pins' sg1 H1 e1 e s2 I1 h1 => ?_) [] s sg H D (into_tr I) h) (fun f s1 q => ?_) (fun e s1 q => q)
  ·
    obtain ⟨C, a, t, H', B, rfl, F, q⟩ := h1
    have I1 : L2.Inv X pins sg1 H1 e1 := from_tr I1
    obtain ⟨ht, hsu⟩ := hE C H' q
    refine wpAny_looks_onW (by rw [I.ok.frames, hstk]) hfr (by rw [← hstk]; exact F.fly) fun h4 held4 us4 => ?_
    refine wpAny_landsW held4 fun h5 fly5 us5 => ?_
    have J5 := landed hfn hstk hfr hex I1 F (by rw [hstk]; exact fly5) (us4.trans us5)
    obtain ⟨ob, hob, hobc⟩ := fly5.there
    have hHa : H' a = none := by
      cases z : H' a with
      | none => rfl
      | some y =>
        obtain ⟨oc, hc⟩ := objOk_some (F.hok a y z)
        have := fly5.2.1
        rw [hc] at this; cases this
    refine wpAny_handleBy_cons (codeAny_handlers_test (ld_glob (X := Cx.hd X a) J5 hg hm ?_ hd)) (by intro q; cases q)
    refine PySem.W.exm_one (h := h5) J5.kIn (looks_cls hob hobc) ht _ _ _ _ (fun _ _ e => e) ?_
    rw [if_pos rfl]
    refine codeAny_handlers_suite_as ?_
    refine lands_againW fly5 fun h6 fly6 us6 => ?_
    have J6 := landed hfn hstk hfr hex I1 F (by rw [hstk]; exact fly6) ((us4.trans us5).trans us6)
    refine store_ok (X := Cx.hd X a) (v := .ref a) J6 hN hi (.inl hl) rfl (fun s7 J7 => ?_) (.inl (hfn n))
    refine wpAny_mono (hs a pins s7 _ _ _ J7 (hsu a hHa)) (fun f s3 q3 => ?_) (fun _ _ z => z.elim)
    cases f with
    | next =>
      obtain ⟨sg3, H3, I3, q3⟩ := q3
      obtain ⟨m3, hn3, _⟩ := I3.loc
      exact wpAny_nameGoes hkl hn3 hpk fun h' m' hn' sb => ⟨_, H3, gone I.ok hex I3 sb hn', q3⟩
    | ret v =>
      obtain ⟨x3, sg3, H3, I3, r3, q3⟩ := q3
      obtain ⟨m3, hn3, _⟩ := I3.loc
      exact wpAny_nameGoes hkl hn3 hpk fun h' m' hn' sb => ⟨x3, _, H3, gone I.ok hex I3 sb hn', r3, q3⟩
    | brk => obtain ⟨_, _, _, z⟩ := q3; exact z.elim
    | cont => obtain ⟨_, _, _, z⟩ := q3; exact z.elim
  · cases f with
    | next =>
      obtain ⟨sg1, H1, I1, q⟩ := q
      exact wpAny_execs_nil ⟨sg1, H1, from_tr I1, q⟩
    | brk => obtain ⟨sg1, H1, I1, q⟩ := q; exact ⟨sg1, H1, from_tr I1, q⟩
    | cont => obtain ⟨sg1, H1, I1, q⟩ := q; exact ⟨sg1, H1, from_tr I1, q⟩
    | ret v => obtain ⟨x1, sg1, H1, I1, r, q⟩ := q; exact ⟨x1, sg1, H1, from_tr I1, r, q⟩
end DD
set_option Elab.async false
set_option linter.all false
set_option maxRecDepth 100000
set_option maxHeartbeats 2000000
namespace DD
open PySem PySem.Spec PySem.W PySem.Calls PyProof.Rows Builtin Builtin.ObjectAttr Builtin.Getset_descriptor
structure ExcC (K : Frag) (C : Addr) : Prop where
  cl : (clsIn K C).isSome = true
  ga : findIn K (.ref C) "__getattribute__" = some (some (.builtin "BaseException.__getattribute__"))
  gn : findIn K (.ref C) "__getattr__" = some none
  ha : findIn K (.ref C) "__class__" = some (some (.builtin "object.__class__"))
  hn : specialIn K (.builtin "object.__class__") "__get__" = some (some (.builtin "getset_descriptor.__get__"))
  tk : takesIn K (.builtin "object.__class__") = some true
  ob : mroIn K C (.type "object") = some true
  be : mroIn K C (.type "BaseException") = some true
section
variable {prog : Program} {w : World} {A : Around} {E : Value → Shared → Prop} {s : Shared} {K : Frag} {x C : Addr}
theorem class_getX {R : Result → Shared → Prop} {tp : Value} (X : K.In s.heap) (L0 : Looks (model prog w) s.heap (typeOf (.ref x)) (.ref C)) (hm : mroIn K C (.type "object") = some true)
    (h : R (.ok (.ret (.ref C))) s) : codeAny (model prog w) A (.call (.builtin "getset_descriptor.__get__") ⟨[.builtin "object.__class__", .ref x, tp], []⟩) R s := by
  obtain ⟨hh, g, dr, t, os⟩ := s
  have L1 := looks_mroIn (M := model prog w) X hm
  refine codeAny_call_builtin KF.slot_gs.plain KF.entry_gs (KF.slot_gs.check _ _ _ _ _ _ _ _ KF.type_class (KF.args_gs _ _ _) ?_)
  unfold Builtin.«getset_descriptor.__get__» descrGet
  rw [dga_obj]
  refine wpAny_bind (wpAny_pure ?_)
  unfold descrGetter descrCheckInstance descrNameAndClass isInstance
  simp only [KF.owner_class]
  repeat lk
  refine ⟨Code.quiet_builtin _ (by decide +kernel), codeAny_builtin KF.entry_class ?_⟩
  unfold Builtin.«object.__class__» shownTypeOf
  repeat lk
  exact h
theorem find_class (X : K.In s.heap) (ec : ExcC K C) {M : Model} : Looks M s.heap (Builtin.ObjectAttr.find (.ref x) (.ref C) "__class__") (.bind (.builtin "getset_descriptor.__get__") (.builtin "object.__class__")) := by
  have L1 := looks_findIn (M := M) X ec.ha
  have L2 : Looks M s.heap (Builtin.ObjectAttr.getOf (some (.builtin "object.__class__"))) (some (.builtin "getset_descriptor.__get__")) := looks_specialIn X ec.hn
  have L3 := looks_takesIn (M := M) X ec.tk
  refine L1.andThen (L2.andThen ?_)
  exact (show Looks M s.heap (Builtin.ObjectAttr.dataDescriptor? (some (.builtin "object.__class__")) (some (.builtin "getset_descriptor.__get__"))) (some (.builtin "getset_descriptor.__get__", .builtin "object.__class__")) from L3.andThen .now).andThen (Looks.tag .now)
theorem exc_entry {tk : Tok} {Q : Fin → Shared → Prop} (X : K.In s.heap) (ec : ExcC K C) (L0 : Looks (model prog w) s.heap (typeOf (.ref x)) (.ref C)) (hq : Q (.done (.ret (.ref C))) s) :
    wpAny (model prog w) A (Builtin.«object.__getattribute__» ⟨[.ref x, .str "__class__" tk], []⟩) Q E s := by
  have LF := find_class (x := x) X ec (M := model prog w)
  have hc := class_getX (A := A) (tp := .ref C) (R := fun r s' => match r with | .ok (.ret v) => v = .ref C ∧ s' = s | _ => False) X L0 ec.ob ⟨rfl, rfl⟩
  obtain ⟨hh, g, dr, t, os⟩ := s
  unfold Builtin.«object.__getattribute__»
  repeat (first | (with_reducible refine wpAny_call (codeAny_mono hc fun r s' hr => ?_)) | lk)
  cases r with
  | error e => exact hr.elim
  | ok f =>
    cases f with
    | ret v => obtain ⟨rfl, rfl⟩ := hr; exact wpAny_pure hq
    | _ => exact hr.elim
theorem exc_check {tk : Tok} {Q : Unit → Shared → Prop} (X : K.In s.heap) (ec : ExcC K C) (L0 : Looks (model prog w) s.heap (typeOf (.ref x)) (.ref C)) (hq : Q () s) :
    wpAny (model prog w) A (checkBuiltinCall "BaseException.__getattribute__" ⟨[.ref x, .str "__class__" tk], []⟩) Q E s := by
  have hk : builtinKind "BaseException.__getattribute__" = some .slot := by decide +kernel
  have hsplit : splitId "BaseException.__getattribute__" = some ("BaseException", "__getattribute__") := by decide +kernel
  have ha := F.args_bexc_ga (.ref x) (.str "__class__" tk)
  have L1 := looks_mroIn (M := model prog w) X ec.be
  obtain ⟨hh, g, dr, t, os⟩ := s
  simp only [checkBuiltinCall, hk, hsplit]
  refine wpAny_bind ?_
  unfold isInstance
  repeat (first | lk | wp_step)
  exact hq
theorem exc_call {tk : Tok} {R : Result → Shared → Prop} (X : K.In s.heap) (ec : ExcC K C) (L0 : Looks (model prog w) s.heap (typeOf (.ref x)) (.ref C)) (hq : R (.ok (.ret (.ref C))) s) :
    codeAny (model prog w) A (.call (.builtin "BaseException.__getattribute__") ⟨[.ref x, .str "__class__" tk], []⟩) R s :=
  codeAny_call_builtin (by decide +kernel) F.entry_bexc_ga (exc_check X ec L0 (exc_entry X ec L0 hq))
theorem exc_attr {Q : Option Value → Shared → Prop} (X : K.In s.heap) (ec : ExcC K C) (L0 : Looks (model prog w) s.heap (typeOf (.ref x)) (.ref C)) (hq : Q (some (.ref C)) { s with toks := s.toks + 1 }) :
    wpAny (model prog w) A (getAttr? (.ref x) "__class__") Q E s := by
  have hx2 : (Value.builtin "BaseException.__getattribute__" == Value.builtin "object.__getattribute__") = false := by decide +kernel
  have L1 := looks_findIn (M := model prog w) X ec.ga
  have L2 := looks_findIn (M := model prog w) X ec.gn
  have hc := exc_call (s := { s with toks := s.toks + 1 }) (A := A) (tk := s.toks) (R := fun r s' => match r with | .ok (.ret v) => v = .ref C ∧ s' = { s with toks := s.toks + 1 } | _ => False) X ec L0 ⟨rfl, rfl⟩
  obtain ⟨hh, g, d, t, os⟩ := s
  unfold getAttr? getAttrBy? getAttrBy
  refine wpAny_bind (wpAny_mkText (wpAny_bind (wpAny_attempt (wpAny_holding (wpAny_bind (L0.at (wpAny_bind (L1.at ?_))))))))
  dsimp only
  rw [hx2, Bool.and_false, if_neg Bool.false_ne_true]
  have hb : bindSpecial (.builtin "BaseException.__getattribute__") (.ref x) = pure (.builtin "BaseException.__getattribute__", [.ref x]) := by
    have hop : withoutEnding? "BaseException.__getattribute__" "#opaque" = none := by decide +kernel
    have hdat : withoutEnding? "BaseException.__getattribute__" "#data" = none := by decide +kernel
    have hkd : builtinKind "BaseException.__getattribute__" = some .slot := by decide +kernel
    simp only [bindSpecial, typeOf, builtinType, hop, hdat, hkd]; rfl
  unfold getAttrByItsOwn hookBefore callGetattribute boundAndCalled
  rw [show onTheHeap (.ref C) = true from rfl, if_pos rfl]
  refine wpAny_bind (L2.at ?_)
  refine wpAny_bind (wpAny_attempt (wpAny_holding ?_))
  rw [if_neg (by simp)]
  refine wpAny_bind (wpAny_of_eq hb ?_)
  show wpAny (model prog w) A (call (.builtin "BaseException.__getattribute__") [.ref x, .str "__class__" t]) _ _ _
  refine wpAny_call (codeAny_mono hc fun r s' hr => ?_)
  cases r with
  | error e => exact hr.elim
  | ok f =>
    cases f with
    | ret v =>
      obtain ⟨rfl, rfl⟩ := hr
      exact wpAny_of_eq (handedOut_of rfl) (wpAny_pure hq)
    | _ => exact hr.elim
theorem kitx_exc (ec : ExcC K C) : KitX K (.ref x) (.ref C) (fun h => ∃ o, h.get? x = some o ∧ o.cls = .ref C) where
  ty := fun M h _ ⟨o, e, hc⟩ => hc ▸ (Looks.ld e).andThen .now
  it := fun _ _ X _ => by
    obtain ⟨cd, hcd⟩ := Option.isSome_iff_exists.mp ec.cl
    unfold clsIn at hcd
    split at hcd
    · rename_i c' d' cd' sl' ho
      intro A' Q' E' s' k q
      unfold isType loadHead
      exact wpAny_bind (wpAny_loadPart (k _ _ (X _ _ ho)) (wpAny_pure q))
    · cases hcd
  ne := fun h tp dd its n sl X htp => by
    obtain ⟨cd, hcd⟩ := Option.isSome_iff_exists.mp ec.cl
    refine Bool.eq_false_iff.mpr fun q => ?_
    have e : C = tp := Value.ref.inj (beq_iff_eq.mp q)
    subst e
    unfold clsIn at hcd
    split at hcd
    · rename_i ho
      have := X _ _ ho
      rw [htp] at this
      cases this
    · cases hcd
  ca := fun X ⟨o, e, hc⟩ hq => exc_attr X ec (hc ▸ (Looks.ld e).andThen .now) hq
end
end DD
set_option Elab.async false
set_option linter.all false
set_option maxRecDepth 100000
set_option maxHeartbeats 2000000
namespace DD
open PySem PySem.Spec L2
variable {g : G} {X : Cx} {a b c : Expr} {a' b' c' : E} {pos : Pos}
theorem reads_all {H : Hp} {s : Shared} {rho : List Addr} {f : D → Option PyData}
    (hf : ∀ (d : D) (v : V) (u : Value) (p : PyData), g.Rep rho H d v → RelV v u → f d = some p → ∃ as, Reads s.heap u p as) :
    ∀ {ds : List D} {vs : List V} {us : List Value} {ps : List PyData}, g.RepL rho H ds vs → Vals vs us → optAll (ds.map f) = some ps → ∃ as, ReadsAll s.heap us ps as
  | [], vs, us, ps, r, rv, e => by
    simp only [RepL] at r; subst r
    cases rv
    simp [optAll] at e; subst e
    exact ⟨[], .nil⟩
  | d :: t, vs, us, ps, r, rv, e => by
    simp only [RepL] at r
    obtain ⟨v, w, rfl, r1, r2⟩ := r
    cases rv with
    | cons q1 q2 =>
      simp only [List.map_cons] at e
      cases ed : f d with
      | none => rw [ed] at e; simp [optAll] at e
      | some p =>
        rw [ed] at e
        simp only [optAll] at e
        cases et : optAll (t.map f) with
        | none => rw [et] at e; cases e
        | some ps' =>
          rw [et] at e; cases e
          obtain ⟨as, h1⟩ := hf _ _ _ _ r1 q1 ed
          obtain ⟨bs, h2⟩ := reads_all hf r2 q2 et
          exact ⟨as ++ bs, .cons h1 h2⟩
theorem reads {pins : List (Addr × Obj)} {sg : L2.St} {H : Hp} {s : Shared} {rho : List Addr} {st : Sto} (hK : X.K = g.K) (I : Inv X pins sg H s) (S : g.Sto rho st H) :
    ∀ (n : Nat) (d : D) (v : V) (u : Value) (p : PyData), g.Rep rho H d v → RelV v u → pyOf st n d = some p → ∃ as, Reads s.heap u p as := by
  intro n
  induction n with
  | zero =>
    intro d v u p r rv e
    cases d with
    | non => cases rep_non.mp r; simp [pyOf] at e; subst e; cases rv; exact ⟨_, .none⟩
    | bl b => cases rep_bl.mp r; simp [pyOf] at e; subst e; cases rv; exact ⟨_, .bool b⟩
    | int i => cases rep_int.mp r; simp [pyOf] at e; subst e; obtain ⟨t, rfl⟩ := rv; exact ⟨_, .int i t⟩
    | str x => cases rep_str.mp r; simp [pyOf] at e; obtain ⟨_, rfl⟩ := e; obtain ⟨t, rfl⟩ := rv; exact ⟨_, .str x t⟩
    | tup ds => simp [pyOf] at e
    | loc m => simp [pyOf] at e
  | succ n ih =>
    intro d v u p r rv e
    cases d with
    | non => cases rep_non.mp r; simp [pyOf] at e; subst e; cases rv; exact ⟨_, .none⟩
    | bl b => cases rep_bl.mp r; simp [pyOf] at e; subst e; cases rv; exact ⟨_, .bool b⟩
    | int i => cases rep_int.mp r; simp [pyOf] at e; subst e; obtain ⟨t, rfl⟩ := rv; exact ⟨_, .int i t⟩
    | str x => cases rep_str.mp r; simp [pyOf] at e; obtain ⟨_, rfl⟩ := e; obtain ⟨t, rfl⟩ := rv; exact ⟨_, .str x t⟩
    | tup ds =>
      obtain ⟨a, vs, rfl, q, rl⟩ := rep_tup.mp r
      simp only [pyOf] at e
      cases eo : optAll (ds.map (pyOf st n)) with
      | none => rw [eo] at e; cases e
      | some ps =>
        rw [eo] at e; cases e
        rw [← hK] at q
        obtain ⟨its, rvs, ⟨o, ho, hc, n', hd⟩, _⟩ := I.tuple q
        obtain ⟨as, h2⟩ := reads_all ih rl rvs eo
        cases rv
        exact ⟨as, .tuple ho hc hd (by simpa using h2)⟩
    | loc m =>
      simp only [pyOf] at e
      cases el : lstOf st m with
      | none => rw [el] at e; cases e
      | some ds =>
        rw [el] at e
        simp only [Option.bind_some] at e
        cases eo : optAll (ds.map (pyOf st n)) with
        | none => rw [eo] at e; cases e
        | some ps =>
          rw [eo] at e; cases e
          obtain ⟨a, vs, hr, q, rl⟩ := sto_seq S el
          obtain ⟨a2, h1, h2⟩ := rep_loc.mp r
          rw [hr] at h1; cases h1
          subst h2
          rw [← hK] at q
          obtain ⟨its, rvs, ⟨o, n', ho, hc, _, hd⟩, _⟩ := I.list q
          obtain ⟨as, h3⟩ := reads_all ih rl rvs eo
          cases rv
          exact ⟨a :: as, .list ho hc hd (by simpa using h3)⟩
theorem py_shape {st : Sto} : ∀ (n : Nat) (d : D) (p : PyData), pyOf st n d = some p → p.canLay0 = true ∧ p.depth ≤ n := by
  have all : ∀ (n : Nat), (∀ (d : D) (p : PyData), pyOf st n d = some p → p.canLay0 = true ∧ p.depth ≤ n) → ∀ (ds : List D) (ps : List PyData), optAll (ds.map (pyOf st n)) = some ps → PyData.canLayAll0 ps = true ∧ PyData.depthAll ps ≤ n := by
    intro n ih ds
    induction ds with
    | nil => intro ps e; simp [optAll] at e; subst e; exact ⟨rfl, Nat.zero_le _⟩
    | cons d t ih2 =>
      intro ps e
      simp only [List.map_cons] at e
      cases ed : pyOf st n d with
      | none => rw [ed] at e; simp [optAll] at e
      | some p =>
        rw [ed] at e
        simp only [optAll] at e
        cases et : optAll (t.map (pyOf st n)) with
        | none => rw [et] at e; cases e
        | some ps' =>
          rw [et] at e; cases e
          obtain ⟨h1, h2⟩ := ih _ _ ed
          obtain ⟨h3, h4⟩ := ih2 _ et
          exact ⟨by simp only [PyData.canLayAll0, h1, h3, Bool.and_self], by simp only [PyData.depthAll]; exact Nat.max_le.mpr ⟨h2, h4⟩⟩
  intro n
  induction n with
  | zero =>
    intro d p e
    cases d <;> simp [pyOf] at e <;> first | (subst e; exact ⟨rfl, Nat.zero_le _⟩) | (obtain ⟨h, rfl⟩ := e; exact ⟨h, Nat.zero_le _⟩)
  | succ n ih =>
    intro d p e
    cases d with
    | non => simp [pyOf] at e; subst e; exact ⟨rfl, Nat.zero_le _⟩
    | bl b => simp [pyOf] at e; subst e; exact ⟨rfl, Nat.zero_le _⟩
    | int i => simp [pyOf] at e; subst e; exact ⟨rfl, Nat.zero_le _⟩
    | str x => simp [pyOf] at e; obtain ⟨h, rfl⟩ := e; exact ⟨h, Nat.zero_le _⟩
    | tup ds =>
      simp only [pyOf] at e
      cases eo : optAll (ds.map (pyOf st n)) with
      | none => rw [eo] at e; cases e
      | some ps =>
        rw [eo] at e; cases e
        obtain ⟨h1, h2⟩ := all n ih _ _ eo
        exact ⟨h1, by simp only [PyData.depth]; omega⟩
    | loc m =>
      simp only [pyOf] at e
      cases el : lstOf st m with
      | none => rw [el] at e; cases e
      | some ds =>
        rw [el] at e
        simp only [Option.bind_some] at e
        cases eo : optAll (ds.map (pyOf st n)) with
        | none => rw [eo] at e; cases e
        | some ps =>
          rw [eo] at e; cases e
          obtain ⟨h1, h2⟩ := all n ih _ _ eo
          exact ⟨h1, by simp only [PyData.depth]; omega⟩
theorem py_shaped {st : Sto} {n : Nat} {d : D} {p : PyData} (h : pyOf st n d = some p) (hn : n ≤ 64) : SeqAt.shaped p = true := by
  obtain ⟨h1, h2⟩ := py_shape n d p h
  unfold SeqAt.shaped
  rw [h1, decide_eq_true (by omega : p.depth ≤ 64)]
  rfl
def rEqD (g : G) (neg : Bool) : R2 := fun x y H Q => ∃ rho st d e p q, g.Sto rho st H ∧ g.Rep rho H d x ∧ g.Rep rho H e y ∧ pyOf st 40 d = some p ∧ pyOf st 40 e = some q ∧ Q (.bl (if neg then !PyData.eqv p q else PyData.eqv p q)) H
theorem op_eqD (hK : X.K = g.K) (hu : X.A.units + 64 < cLine) : OpR X (compareOp .Eq) (rEqD g false) := by
  intro pins s sg H x y v u Q I rx ry h
  obtain ⟨rho, st, d, e, p, q, S, r1, r2, e1, e2, hq⟩ := h
  obtain ⟨as, h1⟩ := reads hK I S 40 d x v p r1 rx e1
  obtain ⟨bs, h2⟩ := reads hK I S 40 e y u q r2 ry e2
  exact SeqAt.compareEq_shaped h1 h2 (py_shaped e1 (by decide)) (py_shaped e2 (by decide)) hu ⟨.bl _, H, I, rfl, hq⟩
theorem op_neD (hK : X.K = g.K) (hu : X.A.units + 64 < cLine) : OpR X (compareOp .NotEq) (rEqD g true) := by
  intro pins s sg H x y v u Q I rx ry h
  obtain ⟨rho, st, d, e, p, q, S, r1, r2, e1, e2, hq⟩ := h
  obtain ⟨as, h1⟩ := reads hK I S 40 d x v p r1 rx e1
  obtain ⟨bs, h2⟩ := reads hK I S 40 e y u q r2 ry e2
  exact SeqAt.compareNe_shaped h1 h2 (py_shaped e1 (by decide)) (py_shaped e2 (by decide)) hu ⟨.bl _, H, I, rfl, hq⟩
theorem eqV_some {st : Sto} {x y : D} {b : Bool} (h : eqV st x y = some b) : ∃ p q, pyOf st 40 x = some p ∧ pyOf st 40 y = some q ∧ b = PyData.eqv p q := by
  unfold eqV at h
  cases e1 : pyOf st 40 x with
  | none => rw [e1] at h; cases h
  | some p =>
    cases e2 : pyOf st 40 y with
    | none => rw [e1, e2] at h; cases h
    | some q => rw [e1, e2] at h; cases h; exact ⟨p, q, rfl, rfl, rfl⟩
end DD
set_option Elab.async false
set_option linter.all false
set_option maxRecDepth 100000
set_option maxHeartbeats 2000000
namespace DD
open PySem PySem.Spec L2
variable {g : G} {X : Cx} {a b c : Expr} {a' b' c' : E} {pos : Pos}
theorem cm_bl {k : Cm} {x y : D} {st st' : Sto} {d : D} (h : cmD k x y st = .ok d st') : ∃ b, d = .bl b := by
  cases k <;> simp only [cmD] at h <;> (repeat' (split at h)) <;> first | (cases h; exact ⟨_, rfl⟩) | cases h
theorem cmT {k : Cm} {sg : L2.St} {H : Hp} {Q : Bool → Hp → Prop} (q : tT g (.cm k a' b') sg H Q) : tE g (.cm k a' b') sg H (fun x H' => ∃ z, x = .bl z ∧ Q z H') := by
  obtain ⟨rho, st, env, s, n, q⟩ := q
  refine ⟨rho, st, env, s, n, ?_⟩
  simp only [evalT] at q
  simp only [evalE]
  revert q
  cases evalE g.tab g.call a' env st with
  | bad => exact fun q => q
  | exc c st1 => exact fun q => q
  | ok x st1 =>
    simp only [bind_ok]
    cases evalE g.tab g.call b' env st1 with
    | bad => exact fun q => q
    | exc c st2 => exact fun q => q
    | ok y st2 =>
      simp only [bind_ok]
      cases e : cmD k x y st2 with
      | bad => exact fun q => q
      | exc c st3 => exact fun q => q
      | ok d st3 =>
        obtain ⟨z, rfl⟩ := cm_bl e
        simp only [bind_ok]
        intro q v H' rho' k1 s1 r1
        exact ⟨z, rep_bl.mp r1, (show PostB g rho H Q z st3 from q) H' rho' k1 s1⟩
theorem im_eq  {sg : L2.St} {H : Hp} {Q : VK} (q : tE g (.cm .eq a' b') sg H Q) : tOp (rEqD g false) (tE g a') (tE g b') sg H Q := by
  obtain ⟨rho, st, env, s, n, q⟩ := q
  simp only [evalE] at q
  refine two (k := cmD .eq) ?_ s n q
  intro x y u v st rho H Q s rx ry q
  simp only [cmD] at q
  cases e : eqV st x y with
  | none => rw [e] at q; exact q.elim
  | some z =>
    rw [e] at q
    obtain ⟨p1, p2, h1, h2, rfl⟩ := eqV_some e
    exact ⟨rho, st, x, y, p1, p2, s, rx, ry, h1, h2, (show Post g rho H Q (.bl _) st from q) _ H rho (.refl _ _) s (rep_bl.mpr rfl)⟩
theorem sd_eq (hK : X.K = g.K) (hu : X.A.units + 64 < cLine) (ha : Sd g X a a') (hb : Sd g X b b') : Sd g X (.Compare a [.Eq] [b] pos) (.cm .eq a' b') := pe_imp (pe_cmpR (op_eqD hK hu) ha hb (nomark _)) fun sg H Q q => im_eq q
theorem sdt_eq (hK : X.K = g.K) (hu : X.A.units + 64 < cLine) (ha : Sd g X a a') (hb : Sd g X b b') : SdT g X (.Compare a [.Eq] [b] pos) (.cm .eq a' b') := pt_imp (pt_cmpR (op_eqD hK hu) ha hb (nomark _)) fun sg H Q q => im_eq (cmT q)
theorem im_ne  {sg : L2.St} {H : Hp} {Q : VK} (q : tE g (.cm .ne a' b') sg H Q) : tOp (rEqD g true) (tE g a') (tE g b') sg H Q := by
  obtain ⟨rho, st, env, s, n, q⟩ := q
  simp only [evalE] at q
  refine two (k := cmD .ne) ?_ s n q
  intro x y u v st rho H Q s rx ry q
  simp only [cmD] at q
  cases e : eqV st x y with
  | none => rw [e] at q; exact q.elim
  | some z =>
    rw [e] at q
    obtain ⟨p1, p2, h1, h2, rfl⟩ := eqV_some e
    exact ⟨rho, st, x, y, p1, p2, s, rx, ry, h1, h2, (show Post g rho H Q (.bl _) st from q) _ H rho (.refl _ _) s (rep_bl.mpr rfl)⟩
theorem sdt_ne (hK : X.K = g.K) (hu : X.A.units + 64 < cLine) (ha : Sd g X a a') (hb : Sd g X b b') : SdT g X (.Compare a [.NotEq] [b] pos) (.cm .ne a' b') := pt_imp (pt_cmpR (op_neD hK hu) ha hb (nomark _)) fun sg H Q q => im_ne (cmT q)
theorem ints2 {r : Int → Int → Bool} {k : Cm} (hk : ∀ x y st, cmD k x y st = match x, y with | .int i, .int j => .ok (.bl (r i j)) st | _, _ => .bad) {sg : L2.St} {H : Hp} {Q : VK}
    (q : tE g (.cm k a' b') sg H Q) : tOp (rI0 fun i j => .bl (r i j)) (tE g a') (tE g b') sg H Q := by
  obtain ⟨rho, st, env, s, n, q⟩ := q
  simp only [evalE] at q
  refine two (k := cmD k) ?_ s n q
  intro x y u v st rho H Q s rx ry q
  rw [hk] at q
  cases x with
  | int i =>
    cases y with
    | int j => exact ⟨i, j, rep_int.mp rx, rep_int.mp ry, q _ H rho (.refl _ _) s (rep_bl.mpr rfl)⟩
    | _ => exact q.elim
  | _ => exact q.elim
theorem sd_lt (ha : Sd g X a a') (hb : Sd g X b b') : Sd g X (.Compare a [.Lt] [b] pos) (.cm .lt a' b') := pe_imp (pe_cmpR op_lt ha hb (nomark _)) fun sg H Q q => ints2 (fun x y st => by cases x <;> cases y <;> rfl) q
theorem sdt_lt (ha : Sd g X a a') (hb : Sd g X b b') : SdT g X (.Compare a [.Lt] [b] pos) (.cm .lt a' b') := pt_imp (pt_cmpR op_lt ha hb (nomark _)) fun sg H Q q => ints2 (fun x y st => by cases x <;> cases y <;> rfl) (cmT q)
theorem sd_ge (ha : Sd g X a a') (hb : Sd g X b b') : Sd g X (.Compare a [.GtE] [b] pos) (.cm .ge a' b') := pe_imp (pe_cmpR op_ge ha hb (nomark _)) fun sg H Q q => ints2 (fun x y st => by cases x <;> cases y <;> rfl) q
theorem rep_flat {rho : List Addr} {H : Hp} {d : D} {v : V} (r : g.Rep rho H d v) (f : flatD d = true) : v = toV d ∧ flatV v = true := by
  cases d with
  | non => cases rep_non.mp r; exact ⟨rfl, rfl⟩
  | bl b => cases rep_bl.mp r; exact ⟨rfl, rfl⟩
  | int b => cases rep_int.mp r; exact ⟨rfl, rfl⟩
  | str b => cases rep_str.mp r; exact ⟨rfl, rfl⟩
  | tup ds => cases f
  | loc n => cases f
theorem repL_flat {rho : List Addr} {H : Hp} : ∀ {ds : List D} {vs : List V}, g.RepL rho H ds vs → ds.all flatD = true → vs = ds.map toV ∧ vs.all flatV = true
  | [], vs, r, f => by simp only [RepL] at r; subst r; exact ⟨rfl, rfl⟩
  | d :: t, vs, r, f => by
    simp only [RepL] at r
    obtain ⟨v, w, rfl, r1, r2⟩ := r
    simp only [List.all_cons, Bool.and_eq_true] at f
    obtain ⟨e1, f1⟩ := rep_flat r1 f.1
    obtain ⟨e2, f2⟩ := repL_flat r2 f.2
    exact ⟨by rw [e1, e2]; rfl, by simp only [List.all_cons, f1, f2, Bool.and_self]⟩
theorem seq_of {rho : List Addr} {st : Sto} {H : Hp} (s : g.Sto rho st H) {d : D} {v : V} {ds : List D} (r : g.Rep rho H d v) (h : seqOf st d = some ds) : ∃ p vs, v = .ref p ∧ (SqL g.K H p vs ∨ SqT g.K H p vs) ∧ g.RepL rho H ds vs := by
  cases d with
  | tup xs =>
    simp only [seqOf] at h; cases h
    obtain ⟨p, vs, e, q, rl⟩ := rep_tup.mp r
    exact ⟨p, vs, e, .inr q, rl⟩
  | loc n =>
    simp only [seqOf] at h
    obtain ⟨p, vs, h1, q, rl⟩ := sto_seq s h
    obtain ⟨p2, h2, e⟩ := rep_loc.mp r
    rw [h1] at h2; cases h2
    exact ⟨p, vs, e, .inl q, rl⟩
  | _ => cases h
theorem im_notIn (hK : X.K = g.K) {sg : L2.St} {H : Hp} {Q : VK} (q : tE g (.cm .notIn a' b') sg H Q) : tOp (rIn X.K true) (tE g a') (tE g b') sg H Q := by
  obtain ⟨rho, st, env, s, n, q⟩ := q
  simp only [evalE] at q
  refine two (k := cmD .notIn) ?_ s n q
  intro x y u v st rho H Q s rx ry q
  simp only [cmD] at q
  split at q
  · rename_i xs e
    split at q
    · rename_i f
      simp only [Bool.and_eq_true] at f
      obtain ⟨p, vs, rfl, sq, rl⟩ := seq_of s ry e
      obtain ⟨e1, f1⟩ := rep_flat rx f.1
      obtain ⟨e2, f2⟩ := repL_flat rl f.2
      refine ⟨p, vs, rfl, by rw [hK]; exact sq, f1, f2, ?_⟩
      rw [e1, e2]
      exact (show Post g rho H Q (.bl _) st from q) _ H rho (.refl _ _) s (rep_bl.mpr rfl)
    · exact q.elim
  · exact q.elim
theorem sd_notIn (hK : X.K = g.K) (ha : Sd g X a a') (hb : Sd g X b b') (hm : behindInMarks .NotIn b = false := by rfl) : Sd g X (.Compare a [.NotIn] [b] pos) (.cm .notIn a' b') := pe_imp (pe_cmpR (op_notIn_seq) ha hb hm) fun sg H Q q => im_notIn hK q
theorem RepL_at {rho : List Addr} {H : Hp} {ds : List D} {vs : List V} {i : Int} {d : D} (r : g.RepL rho H ds vs) (h : atD ds i = some d) : ∃ v, atI vs i = some v ∧ g.Rep rho H d v := by
  unfold atD atI at h
  have hl := r.length
  cases e : ixN ds.length i with
  | none => rw [e] at h; cases h
  | some j =>
    rw [e] at h
    obtain ⟨v, e1, r1⟩ := r.get h
    refine ⟨v, ?_, r1⟩
    unfold atI
    rw [← hl, e]
    exact e1
theorem sd_ix (hK : X.K = g.K) (ha : Sd g X a a') (hb : Sd g X b b') (hs : PlainIx b) : Sd g X (.Subscript a b pos) (.ix a' b') := pe_imp (pe_ix ix_seq ha hb hs) fun sg H Q q => by
  obtain ⟨rho, st, env, s, n, q⟩ := q
  simp only [evalE] at q
  refine two (k := ixD) ?_ s n q
  intro x y u v st rho H Q s rx ry q
  cases y with
  | int i =>
    simp only [ixD] at q
    split at q
    · rename_i xs e
      split at q
      · rename_i d ed
        obtain ⟨p, vs, rfl, sq, rl⟩ := seq_of s rx e
        obtain ⟨w, e1, r1⟩ := RepL_at rl ed
        have fin : Q w H := (show Post g rho H Q d st from q) _ H rho (.refl _ _) s r1
        rw [← hK] at sq
        rcases sq with sq | sq
        · exact .inl ⟨p, vs, i, w, rfl, rep_int.mp ry, sq, e1, fin⟩
        · exact .inr (.inl ⟨p, vs, i, w, rfl, rep_int.mp ry, sq, e1, fin⟩)
      · exact q.elim
    · exact q.elim
  | _ => exact q.elim
end DD
set_option Elab.async false
set_option linter.all false
set_option maxRecDepth 100000
set_option maxHeartbeats 2000000
namespace DD
open PySem PySem.Spec L2
variable {g : G} {X : Cx} {a b c : Expr} {a' b' c' : E} {pos : Pos} {rest es : List Expr} {es' : Es}
theorem sd_one {op} (h : Sd g X a a') : Sd g X (.BoolOp op [a] pos) a' := pe_one h
theorem sd_and (ha : Sd g X a a') (hb : Sd g X (.BoolOp .And (b :: rest) pos) b') : Sd g X (.BoolOp .And (a :: b :: rest) pos) (.andE a' b') := pe_imp (pe_and ha hb) fun sg H Q q => by
  obtain ⟨rho, st, env, s, n, q⟩ := q
  simp only [evalE] at q
  refine step s n q fun x st1 u H1 r1 k1 s1 n1 rp q1 => ?_
  cases x with
  | bl t =>
    cases t with
    | true => exact ⟨true, rep_bl.mp rp, iteT ⟨r1, st1, env, s1, n1, RQ.mono (.refl _ _) q1 fun _ _ p => p.mono k1⟩⟩
    | false => exact ⟨false, rep_bl.mp rp, iteF ((show Post g rho H Q (.bl false) st1 from q1) _ H1 r1 k1 s1 (rep_bl.mpr rfl))⟩
  | _ => exact q1.elim
theorem sd_not (ha : Sd g X a a') : Sd g X (.UnaryOp .Not a pos) (.notE a') := pe_imp (pe_not ha) fun sg H Q q => by
  obtain ⟨rho, st, env, s, n, q⟩ := q
  simp only [evalE] at q
  refine step s n q fun x st1 u H1 r1 k1 s1 n1 rp q1 => ?_
  cases x with
  | bl t => exact ⟨t, rep_bl.mp rp, (show Post g rho H Q (.bl (!t)) st1 from q1) _ H1 r1 k1 s1 (rep_bl.mpr rfl)⟩
  | _ => exact q1.elim
theorem bts {r : List V → Hp → VK → Prop} {f : Bt} (hr : ∀ ds vs st rho H Q, g.Sto rho st H → g.RepL rho H ds vs → RQ g (btD f ds st) (Post g rho H Q) rho H → r vs H Q) {sg : L2.St} {H : Hp} {Q : VK} (q : tE g (.bt f es') sg H Q) : tCB r (tEs g es') sg H Q := by
  obtain ⟨rho, st, env, s, n, q⟩ := q
  simp only [evalE] at q
  refine stepL s n q fun ds st1 vs H1 r1 k1 s1 n1 rps q1 => ?_
  exact hr ds vs st1 r1 H1 Q s1 rps (RQ.mono (.refl _ _) q1 fun _ _ p => p.mono k1)
theorem repL1 {rho : List Addr} {H : Hp} {d : D} {vs : List V} (r : g.RepL rho H [d] vs) : ∃ v, vs = [v] ∧ g.Rep rho H d v := by
  simp only [RepL] at r
  obtain ⟨v, t, rfl, r1, rfl⟩ := r
  exact ⟨v, rfl, r1⟩
theorem bt_one {f : Bt} {ds : List D} {st : Sto} (hf : f ≠ .minB ∧ f ≠ .maxB) {ok : D → Sto → Prop} {rho : List Addr} {H : Hp} (q : RQ g (btD f ds st) ok rho H) : ∃ d, ds = [d] := by
  cases ds with
  | nil => cases f <;> exact q.elim
  | cons d t =>
    cases t with
    | nil => exact ⟨d, rfl⟩
    | cons e u =>
      exfalso
      cases f <;> first | exact hf.1 rfl | exact hf.2 rfl | (cases d <;> exact q.elim)
theorem sd_abs {e : Expr} {p : Pos} (hg : Gl X "abs") (hm : X.mg "abs" = none) (ha : SdL g X (e :: es) es') (he : starEach (e :: es) X.env = (false, eval e X.env) :: starEach es X.env := by rfl) (hpl : (backTo pos (starEach es X.env)).any (·.1) = false := by rfl) :
    Sd g X (.Call (.Name "abs" p) (e :: es) [] pos) (.bt .absB es') := pe_imp (pe_callB call_abs hg hm rfl ha (by decide) (by decide) he hpl) fun sg H Q q => by
  refine bts (f := .absB) (fun ds vs st rho H Q s r q => ?_) q
  obtain ⟨d, rfl⟩ := bt_one ⟨by decide, by decide⟩ q
  obtain ⟨v, rfl, r1⟩ := repL1 r
  cases d with
  | int i => cases rep_int.mp r1; exact ⟨i, rfl, q _ H rho (.refl _ _) s (rep_int.mpr rfl)⟩
  | _ => exact q.elim
theorem sd_int1 {e : Expr} {p : Pos} (hg : Gl X "int") (hm : X.mg "int" = none) (ha : SdL g X (e :: es) es') (he : starEach (e :: es) X.env = (false, eval e X.env) :: starEach es X.env := by rfl) (hpl : (backTo pos (starEach es X.env)).any (·.1) = false := by rfl) :
    Sd g X (.Call (.Name "int" p) (e :: es) [] pos) (.bt .intB es') := pe_imp (pe_callTy call_int1 hg hm rfl ha (by decide) (by decide) he hpl) fun sg H Q q => by
  refine bts (f := .intB) (fun ds vs st rho H Q s r q => ?_) q
  obtain ⟨d, rfl⟩ := bt_one ⟨by decide, by decide⟩ q
  obtain ⟨v, rfl, r1⟩ := repL1 r
  cases d with
  | int i => cases rep_int.mp r1; exact .inl ⟨i, rfl, q _ H rho (.refl _ _) s (rep_int.mpr rfl)⟩
  | bl i => cases rep_bl.mp r1; exact .inr ⟨i, rfl, q _ H rho (.refl _ _) s (rep_int.mpr rfl)⟩
  | _ => exact q.elim
theorem sd_len {e : Expr} {p : Pos} (hK : X.K = g.K) (hg : Gl X "len") (hm : X.mg "len" = none) (ha : SdL g X (e :: es) es') (he : starEach (e :: es) X.env = (false, eval e X.env) :: starEach es X.env := by rfl) (hpl : (backTo pos (starEach es X.env)).any (·.1) = false := by rfl) :
    Sd g X (.Call (.Name "len" p) (e :: es) [] pos) (.bt .lenB es') := pe_imp (pe_callB call_len_seq hg hm rfl ha (by decide) (by decide) he hpl) fun sg H Q q => by
  refine bts (f := .lenB) (fun ds vs st rho H Q s r q => ?_) q
  obtain ⟨d, rfl⟩ := bt_one ⟨by decide, by decide⟩ q
  obtain ⟨v, rfl, r1⟩ := repL1 r
  simp only [btD] at q
  split at q
  · rename_i xs e
    obtain ⟨p, ws, rfl, sq, rl⟩ := seq_of s r1 e
    refine ⟨p, ws, rfl, by rw [hK]; exact sq, ?_⟩
    rw [← rl.length]
    exact (show Post g rho H Q (.int _) st from q) _ H rho (.refl _ _) s (rep_int.mpr rfl)
  · exact q.elim
def spD (K : PySem.W.Frag) (cls : Nat → Addr) (np : Nat) (run : List D → Sto → Res D) : Sp := fun vs H Q Ex => vs.length = np ∧ ∃ rho st ds, StoRep K cls rho st H ∧ RepL K rho H ds vs ∧
  match run ds st with
  | .ok d st' => ∀ v H' rho', Keep K rho H rho' H' → StoRep K cls rho' st' H' → Rep K rho' H' d v → Q v H'
  | .exc k st' => ∀ H' rho', Keep K rho H rho' H' → StoRep K cls rho' st' H' → Ex (.ref (cls k)) none H'
  | .bad => False
theorem sd_call {k f : Nat} {fa : Addr} {fd : FuncData} {ps : List Str} {x : Str} {p : Pos} {e : Expr} {dv : List D} {dvs : List V} {ds : List Value} {np : Nat}
    (F : FnOk X.prog X.w X.K X.mg X.base (CXd X.prog X.w) k fa fd ps (spD g.K g.cls np (g.call f))) (hr : Room k X.A) (hg : Gl X x) (hm : X.mg x = some (.ref fa)) (hk : PySem.W.keepIn X.K (.ref fa) = true) (hb : Binds X.K fd ps ds) (hd : Vals dvs ds)
    (hdv : ∀ rho H, g.RepL rho H dv dvs) (hx : Passes (CXd X.prog X.w) X g.xk) (hl : ∀ ds st, ds.length ≠ np → g.call f ds st = .bad) (ha : SdL g X (e :: es) es') (hdb : (x == ("__debug__" : Str)) = false := by decide)
    (he : starEach (e :: es) X.env = (false, eval e X.env) :: starEach es X.env := by rfl) (hpl : (backTo pos (starEach es X.env)).any (·.1) = false := by rfl) : Sd g X (.Call (.Name x p) (e :: es) [] pos) (.call f es' dv) :=
  pe_imp (pe_call F hr hg hm hk hb hd hx ha hdb he hpl) fun sg H Q q => by
    obtain ⟨rho, st, env, s, n, q⟩ := q
    simp only [evalE] at q
    refine stepL s n q fun ds st1 vs H1 r1 k1 s1 n1 rps q1 => ?_
    have rr := rps.append (hdv r1 H1)
    have hlen : (ds ++ dv).length = np := Decidable.byContradiction fun z => by rw [hl _ _ z] at q1; exact q1
    refine ⟨by rw [← rr.length]; exact hlen, r1, st1, ds ++ dv, s1, rr, ?_⟩
    revert q1
    cases g.call f (ds ++ dv) st1 with
    | ok d st' => exact fun q1 v H' rho' k s' r => (show Post g rho H Q d st' from q1) v H' rho' (k1.trans k) s' r
    | exc c st' => exact fun q1 H' rho' k s' => q1 H' rho' k s'
    | bad => exact fun q1 => q1
theorem sdt_and1 (ha : SdT g X a a') : PW X (.BoolOp .And [a] pos) (tT g a') := pw_and1 ha
theorem sdt_or1 (ha : SdT g X a a') : PW X (.BoolOp .Or [a] pos) (tT g a') := pw_or1 ha
theorem pw_imp {t t' : TT} {e : Expr} (h : PW X e t) (hi : ∀ sg H Q, t' sg H Q → t sg H Q) : PW X e t' := fun whole pins s sg H Q I q => h whole pins s sg H Q I (hi _ _ _ q)
theorem sdt_and (ha : SdT g X a a') (hb : PW X (.BoolOp .And (b :: rest) pos) (tT g b')) : PW X (.BoolOp .And (a :: b :: rest) pos) (tT g (.andE a' b')) := pw_imp (pw_and ha hb) fun sg H Q q => by
  obtain ⟨rho, st, env, s, n, q⟩ := q
  simp only [evalT] at q
  refine stepT s n q fun t st1 H1 r1 k1 s1 n1 q1 => ?_
  cases t with
  | true => exact iteT ⟨r1, st1, env, s1, n1, RQ.mono (.refl _ _) q1 fun _ _ p => p.mono k1⟩
  | false => exact iteF ((show PostB g rho H Q false st1 from q1) H1 r1 k1 s1)
theorem sdt_or (ha : SdT g X a a') (hb : PW X (.BoolOp .Or (b :: rest) pos) (tT g b')) : PW X (.BoolOp .Or (a :: b :: rest) pos) (tT g (.orE a' b')) := pw_imp (pw_or ha hb) fun sg H Q q => by
  obtain ⟨rho, st, env, s, n, q⟩ := q
  simp only [evalT] at q
  refine stepT s n q fun t st1 H1 r1 k1 s1 n1 q1 => ?_
  cases t with
  | true => exact iteT ((show PostB g rho H Q true st1 from q1) H1 r1 k1 s1)
  | false => exact iteF ⟨r1, st1, env, s1, n1, RQ.mono (.refl _ _) q1 fun _ _ p => p.mono k1⟩
theorem sdt_not (ha : SdT g X a a') : SdT g X (.UnaryOp .Not a pos) (.notE a') := pt_imp (pt_not ha) fun sg H Q q => by
  obtain ⟨rho, st, env, s, n, q⟩ := q
  simp only [evalT] at q
  refine stepT s n q fun t st1 H1 r1 k1 s1 n1 q1 => ?_
  exact (show PostB g rho H Q (!t) st1 from q1) H1 r1 k1 s1
theorem tru_of {rho : List Addr} {st : Sto} {H : Hp} (s : g.Sto rho st H) {d : D} {v : V} {k : Bool} (r : g.Rep rho H d v) (h : truth st d = some k) : TruV g.K v H k := by
  cases d with
  | non => cases rep_non.mp r; simp [truth] at h; subst h; rfl
  | bl b => cases rep_bl.mp r; simp [truth] at h; subst h; rfl
  | int i => cases rep_int.mp r; simp only [truth] at h; cases h; rfl
  | str x =>
    cases rep_str.mp r
    simp only [truth] at h
    split at h
    · rename_i z; cases h; exact ⟨z, rfl⟩
    · cases h
  | tup ds =>
    obtain ⟨a, vs, rfl, q, rl⟩ := rep_tup.mp r
    simp only [truth] at h; cases h
    have hl := rl.length
    exact .inr (.inl ⟨vs, q, by cases ds <;> cases vs <;> simp_all⟩)
  | loc n =>
    simp only [truth] at h
    cases el : lstOf st n with
    | none => rw [el] at h; cases h
    | some ds =>
      rw [el] at h; cases h
      obtain ⟨a, vs, h1, q, rl⟩ := sto_seq s el
      obtain ⟨a2, h2, rfl⟩ := rep_loc.mp r
      rw [h1] at h2; cases h2
      have hl := rl.length
      exact .inl ⟨vs, q, by cases ds <;> cases vs <;> simp_all⟩
theorem sdt_val (hK : X.K = g.K) (ha : Sd g X a a') (hev : ∀ env st, evalT g.tab g.call a' env st = (evalE g.tab g.call a' env st).bind fun d st => match truth st d with | some b => .ok b st | none => .bad)
    (he : ∀ whole, isTrue a X.env whole = (do let v ← whole; standAt a.pos; holding [v] (truthy v))) : SdT g X a a' := pt_imp (pt_truth ha he) fun sg H Q q => by
  obtain ⟨rho, st, env, s, n, q⟩ := q
  rw [hev] at q
  refine step s n q fun d st1 v H1 r1 k1 s1 n1 rp q1 => ?_
  cases e : truth st1 d with
  | none => rw [e] at q1; exact q1.elim
  | some k =>
    rw [e] at q1
    exact ⟨k, by rw [hK]; exact tru_of s1 rp e, (show PostB g rho H Q k st1 from q1) H1 r1 k1 s1⟩
end DD
set_option Elab.async false
set_option linter.all false
set_option maxRecDepth 100000
set_option maxHeartbeats 2000000
namespace DD
open PySem PySem.Spec L2
variable {g : G} {X : Cx} {a b c : Expr} {a' b' c' : E} {pos : Pos} {rest es : List Expr} {es' : Es}
def kb (t T : String) : Option Bool := if ((Value.type t == Value.type T) = true) then some true else if PySem.W.kitMeta T = true then (fastBuiltinMro t).map (·.contains (.type T)) else none
theorem kit_kb (K : PySem.W.Frag) (t T : String) : PySem.W.kitOne K (.type t) (.type T) = kb t T := rfl
theorem kit_b (K : PySem.W.Frag) {t T : String} (ht : t ∈ ["NoneType", "bool", "int", "str", "tuple", "list", "dict"]) (hT : T ∈ ["bool", "int", "tuple", "list", "str", "dict"]) : PySem.W.kitOne K (.type t) (.type T) = subB t T := by
  rw [kit_kb]
  simp only [List.mem_cons, List.mem_nil_iff, or_false] at ht hT
  rcases ht with rfl | rfl | rfl | rfl | rfl | rfl | rfl <;> rcases hT with rfl | rfl | rfl | rfl | rfl | rfl <;> first | rfl | kernel_rfl | decide +kernel
def rIsi (g : G) (K : PySem.W.Frag) (T : Ty) (u : Value) : List V → Hp → VK → Prop := fun xs H Q => ∃ rho st d x cv t k, xs = [x, cv] ∧ RelV cv u ∧ g.Sto rho st H ∧ g.Rep rho H d x ∧ tyOf st d = some t ∧ subT g.tab t T = some k ∧ Q (.bl k) H
theorem call_isi {T : Ty} {u : Value} (hK : X.K = g.K) (hu : ∀ v w, RelV v u → RelV v w → w = u) (hB : ∀ t k, t ∈ ["NoneType", "bool", "int", "str", "tuple", "list", "dict"] → subT g.tab (.b t) T = some k → PySem.W.kitOne X.K (.type t) u = some k)
    (hO : ∀ n k, g.tab n T = some k → ExcC X.K (g.cls n) ∧ PySem.W.kitOne X.K (.ref (g.cls n)) u = some k) : CallR X (.builtin "isinstance") (rIsi g X.K T u) := by
  intro pins s sg H xs us Q I rv h
  obtain ⟨rho, st, d, x, cv, t, k, rfl, rc, S, r, ht, hs, q⟩ := h
  obtain ⟨u1, u2, rfl, ru1, ru2⟩ := vals2 rv
  obtain rfl := hu cv u2 rc ru2
  have fin : ∀ tk, EP X pins sg Q (.bool k) { s with toks := tk } := fun tk => ⟨.bl k, H, I.tok tk, rfl, q⟩
  cases d with
  | non =>
    cases rep_non.mp r; cases ru1; cases ht
    exact PySem.W.kia_one PySem.W.kitx_none I.kIn True.intro (hB _ _ (by simp) hs) (fun z => nomatch z) fin
  | bl y =>
    cases rep_bl.mp r; cases ru1; cases ht
    exact PySem.W.kia_one PySem.W.kitx_bool I.kIn True.intro (hB _ _ (by simp) hs) (fun z => nomatch z) fin
  | int i =>
    cases rep_int.mp r; obtain ⟨_, rfl⟩ := ru1; cases ht
    exact PySem.W.kia_one PySem.W.kitx_int I.kIn True.intro (hB _ _ (by simp) hs) (fun z => nomatch z) fin
  | str i =>
    cases rep_str.mp r; obtain ⟨_, rfl⟩ := ru1; cases ht
    exact PySem.W.kia_one PySem.W.kitx_str I.kIn True.intro (hB _ _ (by simp) hs) (fun z => nomatch z) fin
  | tup ds =>
    obtain ⟨p, vs, rfl, sq, rl⟩ := rep_tup.mp r
    cases ru1; cases ht
    rw [← hK] at sq
    obtain ⟨its, rvs, ⟨o, ho, hc, n', hd⟩, _⟩ := I.tuple sq
    exact PySem.W.kia_one PySem.W.kitx_tuple I.kIn ⟨o, ho, hc⟩ (hB _ _ (by simp) hs) (fun z => nomatch z) fin
  | loc n =>
    obtain ⟨p, hp, rfl⟩ := rep_loc.mp r
    cases ru1
    simp only [tyOf] at ht
    cases ec : st[n]? with
    | none => rw [ec] at ht; cases ht
    | some cl =>
      rw [ec] at ht
      have cr := S.cells n p cl hp ec
      cases cl with
      | lst ds =>
        cases ht
        obtain ⟨vs, hH, _⟩ := cr
        obtain ⟨_, _, n', _, h1⟩ := (show ObjOk X.prog X.w H s.heap p (.lst vs) from I.hok p _ hH)
        exact PySem.W.kia_one PySem.W.kitx_list I.kIn ⟨_, h1, rfl⟩ (hB _ _ (by simp) hs) (fun z => nomatch z) fin
      | frz ds =>
        cases ht
        obtain ⟨vs, hH, _⟩ := cr
        rcases hH with ⟨o, hH⟩ | ⟨o, its, n', hk, hc, _⟩
        · obtain ⟨_, _, _, n', _, h1⟩ := (show ObjOk X.prog X.w H s.heap p (.frz o (.lst vs)) from I.hok p _ hH)
          exact PySem.W.kia_one PySem.W.kitx_list I.kIn ⟨_, h1, rfl⟩ (hB _ _ (by simp) hs) (fun z => nomatch z) fin
        · rw [← hK] at hk
          exact PySem.W.kia_one PySem.W.kitx_list I.kIn ⟨o, I.kIn _ _ hk, hc⟩ (hB _ _ (by simp) hs) (fun z => nomatch z) fin
      | dct kvs =>
        cases ht
        obtain ⟨_, hH⟩ := cr
        obtain ⟨_, _, vs, _, o, es, ep, h1, h2, _⟩ := (show ObjOk X.prog X.w H s.heap p (.dK []) from I.hok p _ hH)
        exact PySem.W.kia_one PySem.W.kitx_dict I.kIn ⟨o, h1, h2.1⟩ (hB _ _ (by simp) hs) (fun z => nomatch z) fin
      | ins m fs => cases ht
      | exn m =>
        cases ht
        have hH : H p = some (.ext (ExcIs p (.ref (g.cls m)))) := cr
        obtain ⟨⟨o, ws, h1, h2, h3⟩, _⟩ := (show ObjOk X.prog X.w H s.heap p (.ext (ExcIs p (.ref (g.cls m)))) from I.hok p _ hH)
        obtain ⟨x1, x2⟩ := hO m k hs
        exact PySem.W.kia_one (kitx_exc x1) I.kIn ⟨o, h1, h2⟩ x2 (fun z => nomatch z) fin
end DD
set_option Elab.async false
set_option linter.all false
set_option maxRecDepth 100000
set_option maxHeartbeats 2000000
namespace DD
open PySem PySem.Spec L2
variable {g : G} {X : Cx} {a b c : Expr} {a' b' c' : E} {pos : Pos} {rest es : List Expr} {es' : Es}
theorem im_isi {T : Ty} {u : Value} {cv : V} (hc : RelV cv u) {sg : L2.St} {H : Hp} {Q : VK} (q : tE g (.isi a' T) sg H Q) : tCB (rIsi g X.K T u) (tCons (tE g a') (tCons (tC cv) tNil)) sg H Q := by
  obtain ⟨rho, st, env, s, n, q⟩ := q
  simp only [evalE] at q
  refine step s n q fun d st1 v H1 r1 k1 s1 n1 rp q1 => ?_
  show rIsi g X.K T u [v, cv] H1 Q
  cases et : tyOf st1 d with
  | none => rw [et] at q1; exact q1.elim
  | some t =>
    rw [et] at q1
    simp only [Option.bind_some] at q1
    cases ek : subT g.tab t T with
    | none => rw [ek] at q1; exact q1.elim
    | some k =>
      rw [ek] at q1
      exact ⟨r1, st1, d, v, cv, t, k, rfl, hc, s1, rp, et, ek, (show Post g rho H Q (.bl k) st1 from q1) _ H1 r1 k1 s1 (rep_bl.mpr rfl)⟩
theorem sd_isiB {T : String} {x : Str} {p p2 : Pos} (hK : X.K = g.K) (hT : T ∈ ["bool", "int", "tuple", "list", "str", "dict"]) (hO : ∀ n, g.tab n (.b T) = none) (hg : Gl X "isinstance") (hm : X.mg "isinstance" = none) (hg2 : Gl X x) (hm2 : X.mg x = none) (hv : bootBuiltins x = some (.type T)) (ha : Sd g X a a')
    (hn : x ≠ "__name__" := by decide) (hd : (x == ("__debug__" : Str)) = false := by decide) (he : starEach [a, .Name x p2] X.env = (false, eval a X.env) :: starEach [.Name x p2] X.env := by rfl) (he2 : starEach [.Name x p2] X.env = (false, eval (.Name x p2) X.env) :: starEach [] X.env := by rfl) (hpl : (backTo pos (starEach [.Name x p2] X.env)).any (·.1) = false := by rfl) :
    Sd g X (.Call (.Name "isinstance" p) [a, .Name x p2] [] pos) (.isi a' (.b T)) := by
  have hc := call_isi (X := X) (T := .b T) (u := .type T) hK (fun v w h1 h2 => by cases v <;> first | (cases h1; exact h2) | (obtain ⟨_, z⟩ := h1; cases z) | cases h1) (fun t k ht hs => by rw [kit_b X.K ht hT]; exact hs) (fun n k h => by rw [hO n] at h; cases h)
  exact pe_imp (pe_callB hc hg hm rfl (pa_cons ha (pa_cons (pe_bltn (v := .ty T) hg2 hm2 hv rfl hn hd) pa_nil he2) he) (by decide) (by decide) he hpl) fun sg H Q q => im_isi (cv := .ty T) rfl q
theorem sd_isiO {m : Nat} {x : Str} {p p2 : Pos} (hK : X.K = g.K) (hO : ∀ n k, g.tab n (.o m) = some k → ExcC X.K (g.cls n) ∧ PySem.W.kitOne X.K (.ref (g.cls n)) (.ref (g.cls m)) = some k) (hg : Gl X "isinstance") (hm : X.mg "isinstance" = none) (hg2 : Gl X x) (hm2 : X.mg x = some (.ref (g.cls m))) (ha : Sd g X a a')
    (hd : (x == ("__debug__" : Str)) = false := by decide) (he : starEach [a, .Name x p2] X.env = (false, eval a X.env) :: starEach [.Name x p2] X.env := by rfl) (he2 : starEach [.Name x p2] X.env = (false, eval (.Name x p2) X.env) :: starEach [] X.env := by rfl) (hpl : (backTo pos (starEach [.Name x p2] X.env)).any (·.1) = false := by rfl) :
    Sd g X (.Call (.Name "isinstance" p) [a, .Name x p2] [] pos) (.isi a' (.o m)) := by
  have hc := call_isi (X := X) (T := .o m) (u := .ref (g.cls m)) hK (fun v w h1 h2 => by cases v <;> first | (cases h1; exact h2) | (obtain ⟨_, z⟩ := h1; cases z) | cases h1) (fun t k ht hs => by cases hs) hO
  exact pe_imp (pe_callB hc hg hm rfl (pa_cons ha (pa_cons (pe_glob (v := .ref (g.cls m)) hg2 hm2 rfl hd) pa_nil he2) he) (by decide) (by decide) he hpl) fun sg H Q q => im_isi (cv := .ref (g.cls m)) rfl q
theorem sd_isiE {T : String} {x : Str} {p p2 : Pos} (hK : X.K = g.K) (hT : T ∉ ["bool", "int", "tuple", "list", "str", "dict"]) (hb : ∀ t, t ∈ ["NoneType", "bool", "int", "str", "tuple", "list", "dict"] → subB t T = none) (hO : ∀ n k, g.tab n (.b T) = some k → ExcC X.K (g.cls n) ∧ PySem.W.kitOne X.K (.ref (g.cls n)) (.type T) = some k) (hg : Gl X "isinstance") (hm : X.mg "isinstance" = none) (hg2 : Gl X x) (hm2 : X.mg x = none) (hv : bootBuiltins x = some (.type T)) (ha : Sd g X a a')
    (hn : x ≠ "__name__" := by decide) (hd : (x == ("__debug__" : Str)) = false := by decide) (he : starEach [a, .Name x p2] X.env = (false, eval a X.env) :: starEach [.Name x p2] X.env := by rfl) (he2 : starEach [.Name x p2] X.env = (false, eval (.Name x p2) X.env) :: starEach [] X.env := by rfl) (hpl : (backTo pos (starEach [.Name x p2] X.env)).any (·.1) = false := by rfl) :
    Sd g X (.Call (.Name "isinstance" p) [a, .Name x p2] [] pos) (.isi a' (.b T)) := by
  have hc := call_isi (X := X) (T := .b T) (u := .type T) hK (fun v w h1 h2 => by cases v <;> first | (cases h1; exact h2) | (obtain ⟨_, z⟩ := h1; cases z) | cases h1) (fun t k ht hs => by
    have hs : subB t T = some k := hs
    rw [hb t ht] at hs; cases hs) hO
  exact pe_imp (pe_callB hc hg hm rfl (pa_cons ha (pa_cons (pe_bltn (v := .ty T) hg2 hm2 hv rfl hn hd) pa_nil he2) he) (by decide) (by decide) he hpl) fun sg H Q q => im_isi (cv := .ty T) rfl q
theorem sd_dnew : Sd g X (.Dict [] [] pos) .dnew := pe_imp pe_dnewK fun sg H Q q => by
  obtain ⟨rho, st, env, s, n, q⟩ := q
  simp only [evalE] at q
  intro p hp
  have q : Post g rho H Q (.loc st.length) (st ++ [.dct []]) := q
  obtain ⟨k2, s2⟩ := s.laid hp (o := .dK []) (c := .dct []) ⟨rfl, upd_same⟩
  exact q (.ref p) _ _ k2 s2 (rep_loc.mpr ⟨p, by rw [← s.len]; simp, rfl⟩)
end DD
set_option Elab.async false
set_option linter.all false
set_option maxRecDepth 100000
set_option maxHeartbeats 2000000
namespace DD
open PySem PySem.Spec L2
variable {g : G} {X : Cx} {a b c : Expr} {a' b' c' : E} {pos : Pos} {rest es : List Expr} {es' : Es} {F : Nat}
def PostF (g : G) (rho : List Addr) (H : Hp) (D : Ends) (f : Fl) (st : Sto) : Prop := match f with
  | .next env => ∀ sg H' rho', g.Keep rho H rho' H' → g.Sto rho' st H' → g.Env rho' H' env sg → D.nx sg H'
  | .brk env => ∀ sg H' rho', g.Keep rho H rho' H' → g.Sto rho' st H' → g.Env rho' H' env sg → D.bk sg H'
  | .cont env => ∀ sg H' rho', g.Keep rho H rho' H' → g.Sto rho' st H' → g.Env rho' H' env sg → D.ct sg H'
  | .ret d => ∀ v H' rho', g.Keep rho H rho' H' → g.Sto rho' st H' → g.Rep rho' H' d v → D.rt v H'
theorem PostF.mono {rho rho' : List Addr} {H H' : Hp} {D : Ends} {f : Fl} {st : Sto} (k : g.Keep rho H rho' H') (h : PostF g rho H D f st) : PostF g rho' H' D f st := by
  cases f <;> exact fun x H2 r2 k2 => h x H2 r2 (k.trans k2)
def tS (g : G) (F : Nat) (s : S) : TS := fun D sg H => ∃ rho st env, g.Sto rho st H ∧ g.Env rho H env sg ∧ RQ g (execS g.tab g.call F s env st) (PostF g rho H D) rho H
def tSs (g : G) (F : Nat) (s : Ss) : TS := fun D sg H => ∃ rho st env, g.Sto rho st H ∧ g.Env rho H env sg ∧ RQ g (execSs g.tab g.call F s env st) (PostF g rho H D) rho H
def SdS (g : G) (X : Cx) (F : Nat) (st : Stmt) (s : S) : Prop := PS X st (tS g F s)
def SdSs (g : G) (X : Cx) (F : Nat) (st : List Stmt) (s : Ss) : Prop := PSs X st (tSs g F s)
theorem ps_imp {t t' : TS} {e : Stmt} (h : PS X e t) (hi : ∀ D sg H, t' D sg H → t D sg H) : PS X e t' := fun pins s sg H D I q => h pins s sg H D I (hi _ _ _ q)
theorem pss_imp {t t' : TS} {e : List Stmt} (h : PSs X e t) (hi : ∀ D sg H, t' D sg H → t D sg H) : PSs X e t' := fun pins s sg H D I q => h pins s sg H D I (hi _ _ _ q)
theorem ss_nil : SdSs g X F [] .nil := pss_imp pss_nil fun D sg H q => by
  obtain ⟨rho, st, env, s, n, q⟩ := q
  exact (show PostF g rho H D (.next env) st from q) sg H rho (.refl _ _) s n
theorem ss_cons {s1 : Stmt} {r1 : List Stmt} {s1' : S} {r1' : Ss} (h : SdS g X F s1 s1') (t : SdSs g X F r1 r1') : SdSs g X F (s1 :: r1) (.cons s1' r1') := pss_imp (pss_cons h t) fun D sg H q => by
  obtain ⟨rho, st, env, s, n, q⟩ := q
  refine ⟨rho, st, env, s, n, ?_⟩
  simp only [execSs] at q
  revert q
  cases execS g.tab g.call F s1' env st with
  | bad => exact fun q => q
  | exc c st1 => exact fun q => q
  | ok f st1 =>
    simp only [bind_ok]
    cases f with
    | next env1 => exact fun q sg1 H1 rho1 k1 s1 n1 => ⟨rho1, st1, env1, s1, n1, RQ.mono k1 q fun f st p => PostF.mono k1 p⟩
    | ret d => exact fun q => q
    | brk env1 => exact fun q => q
    | cont env1 => exact fun q => q
theorem s_set {i : Nat} {x : Str} {e : Expr} {e' : E} {pos' : Pos} (hN : X.N.Nodup) (hi : X.N[i]? = some x) (hx : Loc X.env.scope x) (he : Sd g X e e') (hs : swapsWith e (some (.Name x pos')) pos.line X.env = pure false := by rfl) (hf : X.fn x = true ∨ X.env.scope.names.lookup x = some .local := by first | exact .inl rfl | exact .inr rfl | assumption) :
    SdS g X F (.Assign [.Name x pos'] e pos) (.set i e') := ps_imp (ps_set hN hi hx he hs hf) fun D sg H q => by
  obtain ⟨rho, st, env, s, n, q⟩ := q
  simp only [execS] at q
  refine step s n q fun d st1 v H1 r1 k1 s1 n1 rp q1 => ?_
  split at q1
  · exact (show PostF g rho H D (.next _) st1 from q1) _ H1 r1 k1 s1 (n1.set i rp)
  · exact q1.elim
theorem s_ret {e : Expr} {e' : E} (he : Sd g X e e') : SdS g X F (.Return (some e) pos) (.ret e') := ps_imp (ps_ret he) fun D sg H q => by
  obtain ⟨rho, st, env, s, n, q⟩ := q
  simp only [execS] at q
  refine step s n q fun d st1 v H1 r1 k1 s1 n1 rp q1 => ?_
  exact (show PostF g rho H D (.ret d) st1 from q1) v H1 r1 k1 s1 rp
theorem s_ex {e : Expr} {e' : E} (he : Sd g X e e') (hs : swapsWith e none pos.line X.env = pure false := by rfl) : SdS g X F (.Expr e pos) (.ex e') := ps_imp (ps_expr he hs) fun D sg H q => by
  obtain ⟨rho, st, env, s, n, q⟩ := q
  simp only [execS] at q
  refine step s n q fun d st1 v H1 r1 k1 s1 n1 rp q1 => ?_
  exact (show PostF g rho H D (.next env) st1 from q1) sg H1 r1 k1 s1 n1
theorem s_if {c : Expr} {c' : E} {x y : List Stmt} {x' y' : Ss} (hc : SdT g X c c') (hx : SdSs g X F x x') (hy : SdSs g X F y y') : SdS g X F (.If c x y pos) (.ifS c' x' y') := ps_imp (ps_if hc hx hy) fun D sg H q => by
  obtain ⟨rho, st, env, s, n, q⟩ := q
  simp only [execS] at q
  refine stepT s n q fun t st1 H1 r1 k1 s1 n1 q1 => ?_
  cases t with
  | true => exact iteT ⟨r1, st1, env, s1, n1, RQ.mono (.refl _ _) q1 fun _ _ p => p.mono k1⟩
  | false => exact iteF ⟨r1, st1, env, s1, n1, RQ.mono (.refl _ _) q1 fun _ _ p => p.mono k1⟩
theorem s_raise {C : Nat} {x txt : Str} {j : Nat} {np ap cpos : Pos} (hth : Throws X g.xk) (hh : X.A.handled = none) (hg : Gl X x) (hn : PySem.W.nsIn X.K mainGlobals x = some (some (.ref (g.cls C)))) (hm : X.mg x = some (.ref (g.cls C)))
    (hq : PySem.W.excIn X.K (g.cls C) [.type "ValueError", .type "Exception", .type "BaseException", .type "object"] "ValueError.__new__" = true) (hd : (x == ("__debug__" : Str)) = false := by decide) :
    SdS g X F (.Raise (some (.Call (.Name x np) [.Constant (.str txt) j ap] [] cpos)) none pos) (.raiseS C) := ps_imp (ps_raise (bmB := []) hth hh hg hn hm hq hd) fun D sg H q => by
  obtain ⟨rho, st, env, s, n, q⟩ := q
  exact q H rho (.refl _ _) s
theorem s_while {c : Expr} {c' : E} {x : List Stmt} {x' : Ss} (hp : PassesOwn (model X.prog X.w) X.A X.env X.xe) (hc : SdT g X c c') (hx : SdSs g X F x x') : SdS g X F (.While c x [] pos) (.whileS c' x') := ps_imp (ps_while hp hc hx) fun D sg H q => by
  obtain ⟨rho, st, env, s, n, q⟩ := q
  simp only [execS] at q
  refine ⟨fun m sg H => ∃ rho st env, g.Sto rho st H ∧ g.Env rho H env sg ∧ RQ g (whileLoop (evalT g.tab g.call c') (execSs g.tab g.call F x') m env st) (PostF g rho H D) rho H, ⟨F, rho, st, env, s, n, q⟩, ?_⟩
  rintro m sg H ⟨rho, st, env, s, n, q⟩
  cases m with
  | zero => exact q.elim
  | succ m =>
    simp only [whileLoop] at q
    refine stepT s n q fun t st1 H1 r1 k1 s1 n1 q1 => ?_
    cases t with
    | false =>
      refine iteF ?_
      exact (show PostF g rho H D (.next env) st1 from q1) sg H1 r1 k1 s1 n1
    | true =>
      refine iteT ⟨fun sg H => ∃ rho st env, g.Sto rho st H ∧ g.Env rho H env sg ∧ RQ g (whileLoop (evalT g.tab g.call c') (execSs g.tab g.call F x') m env st) (PostF g rho H D) rho H, fun sg' H' h => ⟨m, Nat.lt_succ_self m, h⟩, r1, st1, env, s1, n1, ?_⟩
      revert q1
      cases execSs g.tab g.call F x' env st1 with
      | bad => exact fun q => q
      | exc c st2 => exact fun q => q
      | ok f st2 =>
        simp only [bind_ok]
        cases f with
        | next env2 => exact fun q sg2 H2 r2 k2 s2 n2 => ⟨r2, st2, env2, s2, n2, RQ.mono k2 q fun f st p => PostF.mono (k1.trans k2) p⟩
        | cont env2 => exact fun q sg2 H2 r2 k2 s2 n2 => ⟨r2, st2, env2, s2, n2, RQ.mono k2 q fun f st p => PostF.mono (k1.trans k2) p⟩
        | brk env2 => exact fun q => PostF.mono (f := .next env2) k1 q
        | ret d => exact fun q => PostF.mono (f := .ret d) k1 q
end DD
set_option Elab.async false
set_option linter.all false
set_option maxRecDepth 100000
set_option maxHeartbeats 2000000
namespace DD
open PySem PySem.Spec L2
variable {g : G} {X : Cx} {a b c : Expr} {a' b' c' : E} {pos : Pos} {rest es : List Expr} {es' : Es} {F : Nat}
def gs : List Nat → TGs
  | [] => gNil
  | i :: r => gCons (gName i) (gs r)
def tg (K : PySem.W.Frag) (is : List Nat) (one : Bool) : TG := if one then (match is with | [i] => gName i | _ => fun _ _ _ _ => False) else gTup K is.length (gs is)
theorem gs_store {rho : List Addr} {H : Hp} {Q : L2.St → Hp → Prop} : ∀ {is : List Nat} {ds : List D} {vs : List V} {env env' : Env} {sg : L2.St}, setAll is ds env = some env' → g.RepL rho H ds vs → g.Env rho H env sg → (∀ sg', g.Env rho H env' sg' → Q sg' H) → gs is vs sg H Q
  | [], [], vs, env, env', sg, e, r, n, h => by
    simp only [RepL] at r; subst r
    simp only [setAll] at e; cases e
    exact ⟨rfl, h sg n⟩
  | [], d :: t, vs, env, env', sg, e, r, n, h => by simp [setAll] at e
  | i :: t, [], vs, env, env', sg, e, r, n, h => by simp [setAll] at e
  | i :: t, d :: u, vs, env, env', sg, e, r, n, h => by
    simp only [RepL] at r
    obtain ⟨v, w, rfl, r1, r2⟩ := r
    simp only [setAll] at e
    split at e
    · exact ⟨v, w, rfl, gs_store e r2 (n.set i r1) h⟩
    · cases e
theorem tg_store {rho : List Addr} {H : Hp} {Q : L2.St → Hp → Prop} {is : List Nat} {one : Bool} {d : D} {v : V} {env env' : Env} {sg : L2.St} (e : store is one d env = some env') (r : g.Rep rho H d v) (n : g.Env rho H env sg) (h : ∀ sg', g.Env rho H env' sg' → Q sg' H) : tg g.K is one v sg H Q := by
  unfold store at e
  unfold tg
  cases one with
  | true =>
    rw [if_pos rfl] at e ⊢
    match is, e with
    | [i], e =>
      simp only [setAll] at e
      split at e
      · cases e; exact h _ (n.set i r)
      · cases e
    | [], e => simp [setAll] at e
    | i :: j :: t, e => simp [setAll] at e
  | false =>
    rw [if_neg Bool.false_ne_true] at e ⊢
    cases d with
    | tup ds =>
      obtain ⟨p, vs, rfl, q, rl⟩ := rep_tup.mp r
      refine ⟨p, vs, rfl, q, ?_, gs_store e rl n h⟩
      have : ∀ {is : List Nat} {ds : List D} {env env' : Env}, setAll is ds env = some env' → is.length = ds.length := by
        intro is
        induction is with
        | nil => intro ds env env' e; cases ds with
          | nil => rfl
          | cons _ _ => simp [setAll] at e
        | cons i t ih => intro ds env env' e; cases ds with
          | nil => simp [setAll] at e
          | cons _ _ =>
            simp only [setAll] at e
            split at e
            · simp [ih e]
            · cases e
      rw [← rl.length, this e]
    | _ => cases e
theorem tg_one {i : Nat} {x : Str} (hN : X.N.Nodup) (hi : X.N[i]? = some x) (hx : Loc X.env.scope x) (hf : X.fn x = true ∨ X.env.scope.names.lookup x = some .local := by first | exact .inl rfl | exact .inr rfl | assumption) : PG X (.Name x pos) (tg g.K [i] true) := pg_name hN hi hx hf
theorem s_unp {is : List Nat} {tgt e : Expr} {e' : E} (he : Sd g X e e') (hg : PG X tgt (tg g.K is false)) (hs : swapsWithSole [tgt] e pos.line X.env = pure false := by rfl) (hw : swappedStores [tgt] e X.env = pure none := by rfl)
    (h1 : (assignEach [tgt] X.env).map (·.2) = [assign tgt X.env] := by rfl) : SdS g X F (.Assign [tgt] e pos) (.unp is e') := ps_imp (ps_asg he hg hs hw h1) fun D sg H q => by
  obtain ⟨rho, st, env, s, n, q⟩ := q
  simp only [execS] at q
  refine step s n q fun d st1 v H1 r1 k1 s1 n1 rp q1 => ?_
  split at q1
  · rename_i env' e1
    exact tg_store e1 rp n1 fun sg' n' => (show PostF g rho H D (.next env') st1 from q1) sg' H1 r1 k1 s1 n'
  · exact q1.elim
theorem s_par {i j : Nat} {x y : Str} {px py pt : Pos} {kt k2 pt2} (hc : X.calm = true) (hN : X.N.Nodup) (hi : X.N[i]? = some x) (hj : X.N[j]? = some y) (hij : i ≠ j)
    (hx : X.env.scope.names.lookup x = some .local) (hy : X.env.scope.names.lookup y = some .local) (ha : Sd g X a a') (hb : Sd g X b b')
    (hw : swappedStores [.Tuple [.Name x px, .Name y py] kt pt] (.Tuple [a, b] k2 pt2) X.env = pure (some [x, y]))
    (hs : swapsWithSole [.Tuple [.Name x px, .Name y py] kt pt] (.Tuple [a, b] k2 pt2) pos.line X.env = pure false := by rfl) (h1 : starEach [a, b] X.env = (false, eval a X.env) :: starEach [b] X.env := by rfl) (h2 : starEach [b] X.env = (false, eval b X.env) :: starEach [] X.env := by rfl) :
    SdS g X F (.Assign [.Tuple [.Name x px, .Name y py] kt pt] (.Tuple [a, b] k2 pt2) pos) (.par i j a' b') := ps_imp (ps_par hc hN hi hj hij hx hy (pa_cons ha (pa_cons hb pa_nil h2) h1) hw hs) fun D sg H q => by
  obtain ⟨rho, st, env, s, n, q⟩ := q
  simp only [execS] at q
  refine step s n q fun d st1 v H1 r1 k1 s1 n1 rp q1 => ?_
  refine step s1 n1 q1 fun e st2 w H2 r2 k2 s2 n2 rp2 q2 => ?_
  split at q2
  · exact ⟨v, w, rfl, (show PostF g rho H D (.next _) st2 from q2) _ H2 r2 (k1.trans k2) s2 ((n2.set i (rp.mono k2)).set j rp2)⟩
  · exact q2.elim
theorem for_any {J : It} {xs : List D} {p : Option Nat} {is : List Nat} {one : Bool} {x' : Ss} {r1 : List Addr} {H1 : Hp} {D : Ends} {sg : L2.St} {st1 : Sto} {env : Env}
    (hJ : ∀ rho st H, g.Keep r1 H1 rho H → g.Sto rho st H → stays st p xs = true → J.stop xs.length H ∧ ∀ (i : Nat) (d : DD.D), xs[i]? = some d → J.go i H ∧ ∀ x H', J.yld i H x H' → H' = H ∧ g.Rep rho H d x)
    (s1 : g.Sto r1 st1 H1) (n1 : g.Env r1 H1 env sg) (q1 : RQ g (forLoop xs p (fun d env st => match store is one d env with | some env' => execSs g.tab g.call F x' env' st | none => .bad) xs env st1) (PostF g r1 H1 D) r1 H1) :
    ∃ W : Nat → Nat → L2.St → Hp → Prop, (∃ m, W 0 m sg H1) ∧ ∀ i m sg H, W i m sg H →
      (J.stop i H ∧ D.nx sg H) ∨ (J.go i H ∧ ∃ N : L2.St → Hp → Prop, (∀ sg' H', N sg' H' → ∃ m', m' < m ∧ W (i + 1) m' sg' H') ∧ ∀ x H', J.yld i H x H' → tg g.K is one x sg H' fun sg2 H2 => tSs g F x' { D with nx := N, ct := N, bk := D.nx } sg2 H2) := by
  refine ⟨fun i m sg H => m = xs.length - i ∧ i ≤ xs.length ∧ ∃ rho st env, g.Keep r1 H1 rho H ∧ g.Sto rho st H ∧ g.Env rho H env sg ∧ RQ g (forLoop xs p (fun d env st => match store is one d env with | some env' => execSs g.tab g.call F x' env' st | none => .bad) (xs.drop i) env st) (PostF g rho H D) rho H, ⟨xs.length, by simp, Nat.zero_le _, r1, st1, env, .refl _ _, s1, n1, q1⟩, ?_⟩
  rintro i m sg H ⟨rfl, hi, rho, st, env, kk, s, n, q⟩
  have hst : stays st p xs = true := by
    cases z : stays st p xs with
    | true => rfl
    | false =>
      exfalso
      cases e : xs.drop i with
      | nil => rw [e] at q; simp only [forLoop, z] at q; exact q
      | cons d t => rw [e] at q; simp only [forLoop, z] at q; exact q
  obtain ⟨h1, h2⟩ := hJ rho st H kk s hst
  by_cases hlt : i < xs.length
  · obtain ⟨hgo, hy⟩ := h2 i xs[i] (List.getElem?_eq_getElem hlt)
    refine .inr ⟨hgo, fun sg H => i + 1 ≤ xs.length ∧ ∃ rho st env, g.Keep r1 H1 rho H ∧ g.Sto rho st H ∧ g.Env rho H env sg ∧ RQ g (forLoop xs p (fun d env st => match store is one d env with | some env' => execSs g.tab g.call F x' env' st | none => .bad) (xs.drop (i + 1)) env st) (PostF g rho H D) rho H, fun sg' H' h => ⟨xs.length - (i + 1), by omega, rfl, h.1, h.2⟩, fun x H' y => ?_⟩
    obtain ⟨e2, rx⟩ := hy x H' y
    subst e2
    rw [List.drop_eq_getElem_cons hlt] at q
    simp only [forLoop, hst, if_true] at q
    cases es : store is one xs[i] env with
    | none => rw [es] at q; exact q.elim
    | some env1 =>
      rw [es] at q
      refine tg_store es rx n fun sg1 n1 => ?_
      refine ⟨rho, st, env1, s, n1, ?_⟩
      revert q
      simp only
      cases execSs g.tab g.call F x' env1 st with
      | bad => exact fun q => q
      | exc c st2 => exact fun q => q
      | ok f st2 =>
        simp only [bind_ok]
        cases f with
        | next env2 => exact fun q sg2 H2 r2 k2 s2 n2 => ⟨hlt, r2, st2, env2, kk.trans k2, s2, n2, RQ.mono k2 q fun f st p => PostF.mono k2 p⟩
        | cont env2 => exact fun q sg2 H2 r2 k2 s2 n2 => ⟨hlt, r2, st2, env2, kk.trans k2, s2, n2, RQ.mono k2 q fun f st p => PostF.mono k2 p⟩
        | brk env2 => exact fun q => q
        | ret d => exact fun q => q
  · have e : i = xs.length := by omega
    subst e
    refine .inl ⟨h1, ?_⟩
    rw [List.drop_eq_nil_of_le (Nat.le_refl _)] at q
    simp only [forLoop, hst, if_true] at q
    exact (show PostF g rho H D (.next env) st from q) sg H rho (.refl _ _) s n
def Es.len : Es → Nat
  | .nil => 0
  | .cons _ r => r.len + 1
theorem evalEs_len {tab : Nat → Ty → Option Bool} {call : Or} : ∀ {es : Es} {env : Env} {st st' : Sto} {ds : List DD.D}, evalEs tab call es env st = .ok ds st' → ds.length = es.len
  | .nil, env, st, st', ds, h => by simp only [evalEs] at h; cases h; rfl
  | .cons e r, env, st, st', ds, h => by
    simp only [evalEs] at h
    cases e1 : evalE tab call e env st with
    | bad => rw [e1] at h; cases h
    | exc c st1 => rw [e1] at h; cases h
    | ok d st1 =>
      rw [e1] at h
      simp only [bind_ok] at h
      cases e2 : evalEs tab call r env st1 with
      | bad => rw [e2] at h; cases h
      | exc c st2 => rw [e2] at h; cases h
      | ok t st2 =>
        rw [e2] at h
        simp only [bind_ok] at h
        cases h
        simp only [List.length_cons, evalEs_len e2, Es.len]
theorem stepL2 {β : Type} {e : Es} {env : Env} {sg : L2.St} {st : Sto} {rho : List Addr} {H : Hp} {k : List DD.D → Sto → Res β} {ok : β → Sto → Prop} {Q : List V → Hp → Prop} (s : g.Sto rho st H) (n : g.Env rho H env sg)
    (h : RQ g ((evalEs g.tab g.call e env st).bind k) ok rho H)
    (hk : ∀ d st1 v H1 rho1, d.length = e.len → g.Keep rho H rho1 H1 → g.Sto rho1 st1 H1 → g.Env rho1 H1 env sg → g.RepL rho1 H1 d v → RQ g (k d st1) ok rho1 H1 → Q v H1) : tEs g e sg H Q := by
  refine ⟨rho, st, env, s, n, ?_⟩
  revert h
  cases ee : evalEs g.tab g.call e env st with
  | ok d st1 => exact fun h v H1 r1 k1 s1 rp => hk d st1 v H1 r1 (evalEs_len ee) k1 s1 (n.mono k1) rp (RQ.mono k1 h fun _ _ x => x)
  | exc c st1 => exact fun h => h
  | bad => exact fun h => h
theorem rng1 {ds xs : List DD.D} {e : Expr} (h : rngOf ds = some xs) (hl : ds.length = 1) : ∃ j : Int, ds = [.int j] ∧ -(2 ^ 62) ≤ j ∧ j < 2 ^ 62 ∧ xs = rngL 0 j.toNat := by
  match ds, hl with
  | [d], _ =>
    cases d with
    | int j =>
      simp only [rngOf] at h
      split at h
      · rename_i z; cases h; exact ⟨j, rfl, z.1, z.2, rfl⟩
      · cases h
    | _ => simp [rngOf] at h
theorem s_forR {pos2 : Pos} {is : List Nat} {tgt e : Expr} {body : List Stmt} {x' : Ss} {e' : E} {p : Pos} (hp : PassesOwn (model X.prog X.w) X.A X.env X.xe) (hc : X.calm = true) (hg : Gl X "range") (hm : X.mg "range" = none) (ha : Sd g X e e') (ht : PG X tgt (tg g.K is true)) (hx : SdSs g X F body x')
    (he : starEach [e] X.env = [(false, eval e X.env)] := by rfl) (hs : ∀ x, foldedSetIterable (.Call (.Name "range" p) [e] [] pos) X.env x = pure x   := by intro _; rfl) : SdS g X F (.For tgt (.Call (.Name "range" p) [e] [] pos) body [] pos2) (.forR is (.cons e' .nil) x') := ps_imp (ps_for hp hc (pi_range1 hg hm (sdl_cons ha sdl_nil he) he) ht hx hs) fun D sg H q => by
  obtain ⟨rho, st, env, s, n, q⟩ := q
  simp only [execS] at q
  refine stepL2 s n q fun ds st1 vs H1 r1 hl k1 s1 n1 rps q1 => ?_
  split at q1
  · rename_i xs e1
    obtain ⟨j, rfl, j1, j2, rfl⟩ := rng1 (e := e) e1 hl
    obtain ⟨v, rfl, rv⟩ := repL1 rps
    refine ⟨j, by rw [rep_int.mp rv], j1, j2, ?_⟩
    refine for_any (J := Itr 0 j.toNat) (p := none) (fun rho st H _ _ _ => ⟨?_, fun i d hd => ?_⟩) s1 n1 (RQ.mono (.refl _ _) q1 fun f st p => PostF.mono k1 p)
    · show j.toNat ≤ _
      simp [rngL]
    · have hi : i < j.toNat := by
        have := (List.getElem?_eq_some_iff.mp hd).1
        simpa [rngL] using this
      refine ⟨hi, fun x H' y => ⟨y.1, ?_⟩⟩
      have hd' : d = .int (0 + (i : Nat)) := by
        have := (List.getElem?_eq_some_iff.mp hd).2
        simp [rngL] at this
        simp [← this]
      rw [hd', rep_int]
      exact y.2
  · exact q1.elim
theorem s_forL {is : List Nat} {one : Bool} {tgt e : Expr} {body : List Stmt} {x' : Ss} {e' : E} (hK : X.K = g.K) (hp : PassesOwn (model X.prog X.w) X.A X.env X.xe) (hc : X.calm = true) (ha : Sd g X e e') (ht : PG X tgt (tg g.K is one)) (hx : SdSs g X F body x')
    (hs : ∀ x, foldedSetIterable e X.env x = pure x := by intro _; rfl) : SdS g X F (.For tgt e body [] pos) (.forS is one false e' x') := ps_imp (ps_for hp hc (pi_list ha) ht hx hs) fun D sg H q => by
  obtain ⟨rho, st, env, s, n, q⟩ := q
  simp only [execS] at q
  refine step s n q fun d st1 v H1 r1 k1 s1 n1 rp q1 => ?_
  cases d with
  | loc m =>
    simp only [walkOf, Bool.false_eq_true, if_false] at q1
    cases el : lstOf st1 m with
    | none => rw [el] at q1; exact q1.elim
    | some ds =>
      rw [el] at q1
      simp only [Option.map_some] at q1
      obtain ⟨p, vs, hr, sq, rl⟩ := sto_seq s1 el
      obtain ⟨p2, hr2, rfl⟩ := rep_loc.mp rp
      rw [hr] at hr2; cases hr2
      refine ⟨p, rfl, ⟨vs, by rw [hK]; exact sq⟩, ?_⟩
      rw [hK]
      refine for_any (J := Itl g.K p) (p := some m) (fun rho st H kk s hst => ?_) s1 n1 (RQ.mono (.refl _ _) q1 fun f st p => PostF.mono k1 p)
      have hst : lstOf st m = some ds := of_decide_eq_true hst
      obtain ⟨p3, ws, hr3, sq3, rl3⟩ := sto_seq s hst
      rw [kk.at hr] at hr3; cases hr3
      refine ⟨⟨ws, sq3, by rw [← rl3.length]; exact Nat.le_refl _⟩, fun i d hd => ?_⟩
      obtain ⟨v, hv, rv⟩ := rl3.get hd
      refine ⟨⟨ws, v, sq3, hv⟩, fun x H' y => ⟨y.1, ?_⟩⟩
      have := y.2 ws sq3
      rw [hv] at this; cases this
      exact rv
  | _ => exact q1.elim
theorem sd_append {o v : Expr} {o' v' : E} {apos cpos : Pos} (hK : X.K = g.K) (ho : Sd g X o o') (hv : Sd g X v v') (hbase : attributeBase o "append" X.env (eval o X.env) = eval o X.env := by rfl)
    (hfew : ((backTo cpos (starEach [v] X.env)).all (fun x => !x.1) && (backToKw cpos (keywordEach [] X.env)).all (fun x => x.1.isSome) && decide ([v].length + ([] : List Keyword).length + (if ([] : List Keyword).isEmpty then 0 else 1) < 30)) = true := by rfl)
    (hline : (apos.endLine == cpos.line) = true := by rfl) (hs : starEach [v] X.env = (false, eval v X.env) :: starEach [] X.env := by rfl) : Sd g X (.Call (.Attribute o "append" apos) [v] [] cpos) (.mt .append o' (.cons v' .nil)) :=
  pe_imp (pe_bm PySem.F.plainAttrs_list PySem.F.slot_list_append PySem.F.type_list_append mt_append ho (sdl_cons hv sdl_nil hs) hbase hfew hline hs rfl) fun sg H Q q => by
    obtain ⟨rho, st, env, s, n, q⟩ := q
    simp only [evalE] at q
    refine step s n q fun d st1 x H1 r1 k1 s1 n1 rp q1 => ?_
    split at q1
    · rename_i hl
      cases d with
      | loc m =>
        have hl : ∃ xs, st1[m]? = some (.lst xs) := by
          simp only [isLst] at hl
          split at hl
          · rename_i xs e; exact ⟨xs, e⟩
          · cases hl
        obtain ⟨xs, el⟩ := hl
        obtain ⟨p, vs, hr, hH, rl⟩ := sto_lst s1 el
        obtain ⟨p2, hr2, rfl⟩ := rep_loc.mp rp
        rw [hr] at hr2; cases hr2
        refine ⟨.inl ⟨rfl, vs, SqL.of hH⟩, ?_⟩
        refine stepL s1 n1 q1 fun ds st2 ws H2 r2 k2 s2 n2 rps q2 => ?_
        match ds, q2 with
        | [y], q2 =>
          obtain ⟨w, rfl, rw1⟩ := repL1 rps
          simp only [mtD] at q2
          split at q2
          · rename_i zs ez
            split at q2
            · rename_i hz
              obtain ⟨p3, us, hr3, hH3, rl3⟩ := sto_lst s2 ez
              rw [k2.at hr] at hr3; cases hr3
              have hrep : g.RepL r2 H2 (zs ++ [y]) (us ++ [w]) := rl3.append (by simp only [RepL]; exact ⟨w, [], rfl, rw1, rfl⟩)
              obtain ⟨k3, s3⟩ := s2.wrote (k2.at hr) ez hH3 hrep
              refine ⟨p, us, w, rfl, rfl, hH3, by rw [← rl3.length]; exact hz, ?_⟩
              exact (show Post g rho H Q .non _ from q2) _ _ r2 ((k1.trans k2).trans k3) s3 (rep_non.mpr rfl)
            · exact q2.elim
          · exact q2.elim
        | [], q2 => exact q2.elim
        | _ :: _ :: _, q2 => exact q2.elim
      | _ => cases hl
    · exact q1.elim
end DD
set_option Elab.async false
set_option linter.all false
set_option maxRecDepth 100000
set_option maxHeartbeats 2000000
namespace DD
open PySem PySem.Spec L2
open PyProof.Rows hiding St
variable {g : G} {X : Cx} {a b c : Expr} {a' b' c' : E} {pos : Pos} {rest es : List Expr} {es' : Es} {F : Nat}
abbrev G.with (g : G) (E : XK) : G := { g with xk := E }
theorem env_none {rho : List Addr} {H : Hp} {n m : Nat} (h : n = m) : g.Env rho H (List.replicate n none) (List.replicate m none) := ⟨by simp [h], fun i d e => by
  rw [List.getElem?_replicate] at e
  split at e <;> cases e⟩
theorem s_try {body suite : List Stmt} {b₀ : Stmt} {x n : Str} {np hp : Pos} {i C : Nat} {b' h' : Ss} (hfn : ∀ y, X.fn y = true) (hstk : X.stack = X.env :: X.outer) (hfr : X.env.frame = some X.env.locals) (hex : X.ex = [])
    (hN : X.N.Nodup) (hi : X.N[i]? = some n) (hl : X.env.scope.names.lookup n = some .local) (hg : Gl X x) (hm : X.mg x = some (.ref (g.cls C))) (hx : ∀ k, g.tab k (.o C) = some true → PySem.W.exmOne X.K (.ref (g.cls k)) (.ref (g.cls C)) = some true)
    (hb : ∀ (pn : List (Addr × Obj)) (E0 : XK) (xe0 : Value → Shared → Prop), PassesOwn (model X.prog X.w) X.A X.env xe0 → Passes (CXd X.prog X.w) (Cx.tr X pn xe0) E0 → SdSs (g.with E0) (Cx.tr X pn xe0) F body b')
    (hs : ∀ a, SdSs (g.with fun _ _ _ => False) (Cx.hd X a) F (b₀ :: suite) h') (hd : (x == ("__debug__" : Str)) = false := by decide) :
    SdS g X F (.Try body [.ExceptHandler (some (.Name x np)) (some n) (b₀ :: suite) hp] [] [] pos) (.tryS b' C i h') :=
  ps_imp (ps_try (Cx' := g.cls C) (tb := fun E0 => tSs (g.with E0) F b') (ts := tSs (g.with fun _ _ _ => False) F h') hfn hstk hfr hex hN hi hl hg hm hb hs hd) fun D sg H q hsg => by
    obtain ⟨rho, st, env, s, n, q⟩ := q
    simp only [execS] at q
    have hlen : env.length = X.N.length := n.len.trans hsg
    refine ⟨fun cv _ H' => ∃ k st' rho', cv = .ref (g.cls k) ∧ execSs g.tab g.call F b' env st = .exc k st' ∧ g.Keep rho H rho' H' ∧ g.Sto rho' st' H', fun C' H' hE => ?_, rho, st, env, s, n, ?_⟩
    · obtain ⟨k, st', rho', e1, e2, kk, ss⟩ := hE
      cases e1
      rw [e2] at q
      simp only at q
      split at q
      · rename_i ht
        refine ⟨hx k ht, fun a ha => ?_⟩
        split at q
        · rename_i hi'
          obtain ⟨k2, s2⟩ := ss.laid ha (o := .ext (ExcIs a (.ref (g.cls k)))) (c := .exn k) upd_same
          refine ⟨rho' ++ [a], st' ++ [.exn k], blank env i (.loc st'.length), s2, ?_, ?_⟩
          · unfold blank
            exact (env_none hlen).set i (rep_loc.mpr ⟨a, by rw [← ss.len]; simp, rfl⟩)
          · revert q
            cases execSs g.tab g.call F h' (blank env i (.loc st'.length)) (st' ++ [.exn k]) with
            | bad => exact fun q => q
            | exc c st2 => exact fun q => q.elim
            | ok f st2 =>
              cases f with
              | next env2 => exact fun q sg2 H2 r2 k3 s3 n3 => (show PostF g rho H D (.next _) st2 from q) _ H2 r2 ((kk.trans k2).trans k3) s3 (env_none hlen)
              | ret d => exact fun q v H2 r2 k3 s3 r3 => (show PostF g rho H D (.ret d) st2 from q) v H2 r2 ((kk.trans k2).trans k3) s3 r3
              | brk env2 => exact fun q => q.elim
              | cont env2 => exact fun q => q.elim
        · exact q.elim
      · exact q.elim
    · revert q
      cases ee : execSs g.tab g.call F b' env st with
      | bad => exact fun q => q
      | ok f st1 => exact fun q => q
      | exc k st1 => exact fun q H' rho' kk ss => ⟨k, st1, rho', rfl, rfl, kk, ss⟩
end DD
set_option Elab.async false
set_option linter.all false
set_option maxRecDepth 100000
set_option maxHeartbeats 2000000
namespace DD
open PySem PySem.Spec L2
open PyProof.Rows hiding St
structure FunD (K : PySem.W.Frag) (x qual : Str) (st : Stmt) (f : Addr) (fd : FuncData) : Prop where
  ex : ∃ (oc : Value) (od : Option Addr) (dV kV doc pm : Value) (an : Option Addr) (cdv ct : Value) (osl : Array (Option Value)),
    fd = PySem.W.fnOf x qual (defArgs st) (defBody st) (defScope st) dV kV doc pm an cdv ct ∧ K.lookup f = some ⟨oc, od, .func fd, osl⟩ ∧ PySem.W.codeIn K cdv qual = true
  kp : PySem.W.keepIn K (.ref f) = true
theorem fund_mk {K : PySem.W.Frag} {x qual : Str} {st : Stmt} {f : Addr} {oc : Value} {od an : Option Addr} {osl : Array (Option Value)} {dV kV doc pm cdv ct : Value} (l : K.lookup f = some ⟨oc, od, .func (PySem.W.fnOf x qual (defArgs st) (defBody st) (defScope st) dV kV doc pm an cdv ct), osl⟩)
    (c : PySem.W.codeIn K cdv qual = true) (k : PySem.W.keepIn K (.ref f) = true) : FunD K x qual st f (PySem.W.fnOf x qual (defArgs st) (defBody st) (defScope st) dV kV doc pm an cdv ct) := ⟨⟨oc, od, dV, kV, doc, pm, an, cdv, ct, osl, rfl, l, c⟩, k⟩
section
variable {P : Program} {w : World} {K : PySem.W.Frag} {mg : Str → Option Value} {base : Heap} {cls : Nat → Addr} {tab : Nat → Ty → Option Bool} {fns : List Fn} {FF : Nat}
theorem FunD.binds {x qual : Str} {st : Stmt} {f : Addr} {fd : FuncData} {ps : List Str} (F : FunD K x qual st f fd)
    (h : ∀ (dV kV doc pm : Value) (an : Option Addr) (cdv ct : Value) (us : List Value), us.length = ps.length → bindArgs (PySem.W.fnOf x qual (defArgs st) (defBody st) (defScope st) dV kV doc pm an cdv ct) ⟨us, []⟩ = pure (ps.zip us)) : Binds K fd ps [] := by
  obtain ⟨oc, od, dV, kV, doc, pm, an, cdv, ct, osl, rfl, lk, hcd⟩ := F.ex
  exact .all (h dV kV doc pm an cdv ct)
abbrev cxD (P : Program) (w : World) (K : PySem.W.Frag) (mg : Str → Option Value) (base : Heap) (N : List Str) (qual : Str) (st : Stmt) (f : Addr) (cdv : Value) (A : Around) (outer : List PySem.Env) (s : Shared) (H : Hp) (E : XK) : Cx := cxOf (CXd P w) P w K mg base N qual (defScope st) f cdv A outer s H E
theorem env_start {rho : List Addr} {H : Hp} : ∀ {ds : List D} {vs : List V}, RepL K rho H ds vs → ∀ (i : Nat) (d : D), (ds.map some)[i]? = some (some d) → ∃ v, (vs.map some)[i]? = some (some v) ∧ Rep K rho H d v := fun {ds vs} r i d e => by
  rw [List.getElem?_map] at e
  cases z : ds[i]? with
  | none => rw [z] at e; cases e
  | some y =>
    rw [z] at e; cases e
    obtain ⟨v, h1, h2⟩ := r.get z
    exact ⟨v, by rw [List.getElem?_map, h1]; rfl, h2⟩
theorem fn_step {x qual : Str} {st : Stmt} {f : Addr} {fd : FuncData} {N ps : List Str} {n fi : Nat} {body' : Ss} (F : FunD K x qual st f fd) (S : FnScope N ps (defScope st)) (hf : fns[fi]? = some ⟨ps.length, N.length, body'⟩)
    (hb : ∀ (cdv : Value) (A : Around) (outer : List PySem.Env) (s : Shared) (H : Hp) (E : XK), Room n (A.deeper (envOfC qual (defScope st) s.heap.objs.size f cdv)) → SdSs ⟨K, cls, tab, callD tab fns FF n, E⟩ (cxD P w K mg base N qual st f cdv A outer s H E) FF (defBody st) body') :
    FnOk P w K mg base (CXd P w) (n + 1) f fd ps (spD K cls ps.length (callD tab fns FF (n + 1) fi)) := by
  obtain ⟨oc, od, dV, kV, doc, pm, an, cdv, ct, osl, rfl, lk, hcd⟩ := F.ex
  refine fn_of lk hcd S (fun vs H Q E h => h.1) fun A outer s H vs Q E hr hsp => ?_
  obtain ⟨hl, rho, st1, ds, s1, rl, q⟩ := hsp
  refine ⟨_, hb cdv A outer s H E hr, ?_⟩
  have hdl := rl.length
  have hpn : ps.length ≤ N.length := by have := congrArg List.length S.pre; rw [List.length_take] at this; omega
  have e0 : callD tab fns FF (n + 1) fi ds st1 = fin (execSs tab (callD tab fns FF n) FF body' (ds.map some ++ List.replicate (N.length - ps.length) none) st1) := by
    show (match fns[fi]? with
      | some fn => if ds.length = fn.np ∧ fn.np ≤ fn.nl then fin (execSs tab (callD tab fns FF n) FF fn.body (ds.map some ++ List.replicate (fn.nl - fn.np) none) st1) else .bad
      | none => .bad) = _
    rw [hf]
    simp only
    rw [if_pos ⟨by omega, hpn⟩]
  rw [e0] at q
  refine ⟨rho, st1, ds.map some ++ List.replicate (N.length - ps.length) none, s1, ⟨?_, fun i d e => ?_⟩, ?_⟩
  · unfold L2.start
    simp [hdl, hl]
  · unfold L2.start
    by_cases hi : i < ds.length
    · rw [List.getElem?_append_left (by simpa using hi)] at e
      obtain ⟨v, h1, h2⟩ := env_start rl i d e
      exact ⟨v, by rw [List.getElem?_append_left (by simp; omega)]; exact h1, h2⟩
    · rw [List.getElem?_append_right (by simpa using hi), List.getElem?_replicate] at e
      split at e <;> cases e
  · revert q
    unfold fin
    cases execSs tab (callD tab fns FF n) FF body' (ds.map some ++ List.replicate (N.length - ps.length) none) st1 with
    | bad => exact fun q => q
    | exc c st2 => exact fun q => q
    | ok f st2 =>
      simp only [bind_ok]
      cases f with
      | next env2 => exact fun q sg H' rho' k s' n' => q _ H' rho' k s' (by simp [Rep])
      | ret d => exact fun q => q
      | brk env2 => exact fun q => q.elim
      | cont env2 => exact fun q => q.elim
theorem fn_zero {f : Addr} {fd : FuncData} {ps : List Str} {fi : Nat} : FnOk P w K mg base (CXd P w) 0 f fd ps (spD K cls ps.length (callD tab fns FF 0 fi)) := by
  refine ⟨fun vs H Q E h => h.1, fun A outer s H args us vs Q E _ _ _ _ h => ?_⟩
  obtain ⟨_, rho, st1, ds, s1, rl, q⟩ := h
  exact q.elim
theorem callD_len {n fi np nl : Nat} {body' : Ss} (hf : fns[fi]? = some ⟨np, nl, body'⟩) : ∀ ds st, ds.length ≠ np → callD tab fns FF n fi ds st = .bad := fun ds st h => by
  cases n with
  | zero => rfl
  | succ n =>
    show (match fns[fi]? with
      | some fn => if ds.length = fn.np ∧ fn.np ≤ fn.nl then fin (execSs tab (callD tab fns FF n) FF fn.body (ds.map some ++ List.replicate (fn.nl - fn.np) none) st) else .bad
      | none => .bad) = _
    rw [hf]
    simp only
    rw [if_neg (fun z => h z.1)]
end
end DD
set_option Elab.async false
set_option linter.all false
set_option maxRecDepth 100000
set_option maxHeartbeats 4000000
namespace DD
open PySem PySem.Spec L2
open PyProof.Rows hiding St
variable {g : G} {X : Cx} {pos : Pos} {F : Nat}
abbrev envC (X : Cx) (scope : Scope) (L : Addr) : PySem.Env := { newEnv scope L X.env.globals [] X.env.qual none .none (some X.env) builtinsNs with scope := scope }
abbrev cxC (X : Cx) (x : Str) (scope : Scope) (L : Addr) (s0 : Shared) (H0 : Hp) (fp : List Addr) (pn : List (Addr × Obj)) : Cx :=
  { X with N := [x], s₀ := s0, H₀ := H0, env := envC X scope L, outer := X.stack, stack := X.stack, ex := fp, fn := fun _ => true, pn := pn, xe := fun _ _ => False }
theorem fp_stk {pins : List (Addr × Obj)} {sg : L2.St} {H H2 : Hp} {s : Shared} (I : L2.Inv X pins sg H s) {b : Addr} (h : FpOk X pins H2 b) : b ∉ frs X.stack := fun hm => by
  rcases List.mem_cons.mp (I.stkSub b hm) with z | z
  · exact h.2.1 z
  · exact h.2.2.1 z
theorem comp_in {pins : List (Addr × Obj)} {sg : L2.St} {H : Hp} {s3 : Shared} {x : Str} {scope : Scope} {fp : List Addr} {h1 : Heap} {m : Str → Option Value} {tk : Nat} (hkind : scope.kind = .function) (hnc : ∀ y, scope.names.lookup y ≠ some .cell ∧ scope.names.lookup y ≠ some .free)
    (I : L2.Inv X pins sg H s3) (hfp : ∀ b ∈ fp, FpOk X pins H b ∧ b < s3.heap.objs.size) (hn : h1.Ns s3.heap.objs.size m) (hk : ∀ b o, s3.heap.get? b = some o → h1.get? b = some o) :
    L2.Inv (cxC X x scope s3.heap.objs.size s3 H fp (X.pn ++ pins)) [] [none] H { s3 with heap := h1, toks := tk } := by
  have fsF : ∀ b, b < s3.heap.objs.size → b ≠ s3.heap.objs.size := fun b h z => by rw [z] at h; exact Nat.lt_irrefl _ h
  refine ⟨⟨I.ok.mod, hkind, I.ok.glob, I.ok.blt, Nat.le_refl _, fun y z c h1 _ => ?_, fun y hy => ?_, fun y c _ h => ?_, I.ok.hd, I.ok.frames, .inl rfl, fun b hb => ⟨fsF b (hfp b hb).2, fun y c h => ?_⟩, I.bs, Nat.le_trans I.ok.bsz I.sz, fun b o e hb => ?_, fun b hb => fp_stk I (hfp b hb).1, I.stack, I.stkFree⟩,
    rfl, I.bare, Un.kept hk, ⟨m, hn, fun i y v _ e2 _ => ?_⟩, fun y c h => ?_, I.hok.fresh (Nat.le_refl _), fun y c h => ?_, fun p hp => ?_, I.hok.kept hk, rfl⟩
  · cases h1
  · rcases hy with hy | hy
    · exact absurd hy (hnc y).1
    · exact absurd hy (hnc y).2
  · cases h
  · cases h
  · obtain ⟨f, _⟩ := hfp b hb
    rcases f.2.2.2.1 with z | z
    · exact I.ok.noex b o e z
    · exact absurd (Nat.lt_of_lt_of_le (Heap.lt_size e) (Nat.le_trans I.ok.bsz z)) (Nat.lt_irrefl _)
  · cases i with
    | zero => cases e2
    | succ j => cases e2
  · cases h
  · cases h
  · rw [List.append_nil] at hp
    obtain ⟨p1, p2, p3, p4, p5⟩ := I.pin p hp
    refine ⟨hk _ _ p1, p2, fsF _ (Heap.lt_size p1), fun hm => ?_, p5⟩
    rcases List.mem_cons.mp (I.stkSub p.1 hm) with z | z
    · exact p3 z
    · exact p4 z
theorem comp_noexc {all : List D} {p : Option Nat} {n0 : Nat} {body : D → Sto → Res D} {c : Nat} {st' : Sto} : ∀ {xs : List D} {st : Sto}, compLoop all p n0 body xs st ≠ .exc c st'
  | [], st => by
    simp only [compLoop]
    split <;> (intro h; cases h)
  | d :: r, st => by
    simp only [compLoop]
    split
    · split
      · split
        · split
          · exact comp_noexc
          · intro h; cases h
        · intro h; cases h
      · intro h; cases h
    · intro h; cases h
theorem compLoop_any {prog : Program} {w : World} {A : Around} {R : Result → Shared → Prop} {s : Shared} {elt target iter : Expr} {scope : Scope} {it acc : Value} {env : PySem.Env} (I : Nat → Shared → Prop)
    (turn : ∀ n s, I n s → wpAny (model prog w) A (pyNext it) (fun r s₁ => match r with
      | none => R (.ok .next) s₁
      | some v => wpAny (model prog w) A (letOwnedTupleGo target it v) (fun _ s₁ => wpAny (model prog w) A (assign target env v) (fun _ s₂ => wpAny (model prog w) A (eval elt env) (fun x s₃ =>
          wpAny (model prog w) A (call (.builtin "list.append") [acc, x]) (fun _ s₄ => ∃ m, m < n ∧ I m s₄) (notedBy (model prog w) A env fun e s' => R (.error e) s') s₃)
          (notedBy (model prog w) A env fun e s' => R (.error e) s') s₂) (notedBy (model prog w) A env fun e s' => R (.error e) s') s₁) (notedBy (model prog w) A env fun e s' => R (.error e) s') s₁) (notedBy (model prog w) A env fun e s' => R (.error e) s') s)
    (n : Nat) (h : I n s) : codeAny (model prog w) A (.compLoop (.ListComp elt [⟨target, iter, [], 0⟩] scope pos) 0 it acc env) R s := by
  refine codeAny_loop rfl I (fun n s hI => ?_) n h
  show wpAny _ _ ((compTurn (.ListComp elt [⟨target, iter, [], 0⟩] scope pos) 0 it acc env).onRaise (fun x => do noteFrame x env; theTreesLotGoes x)) _ _ s
  refine wpAny_noted ?_
  rw [compTurn_list1]
  refine wpAny_bind (wpAny_standAt (wpAny_bind (wpAny_mono (turn n s hI) (fun r s₁ h₁ => ?_) fun _ _ h' => h')))
  cases r with
  | none => exact wpAny_pure h₁
  | some v =>
    refine wpAny_bind (wpAny_mono h₁ (fun _ s₁ h₁ => ?_) fun _ _ h' => h')
    exact wpAny_bind (wpAny_mono h₁ (fun _ s₂ h₂ => wpAny_bind (wpAny_bind (wpAny_mono h₂ (fun x s₃ h₃ => wpAny_bind (wpAny_mono h₃
      (fun _ s₄ h₄ => wpAny_pure (wpAny_pure ⟨rfl, h₄⟩)) fun _ _ h' => h')) fun _ _ h' => h'))) fun _ _ h' => h')
theorem sd_comp {elt iter : Expr} {x : Str} {px : Pos} {scope : Scope} {it' elt' : E} (hK : X.K = g.K) (hc : X.calm = true) (hkind : scope.kind = .function) (hfree : ∀ y ∈ scope.names, y.2 ≠ .free) (hcell : ∀ y ∈ scope.names, y.2 ≠ .cell)
    (hnames : ∀ y ∈ scope.names, y.2 = .local → scope.names.lookup y.1 = some .local) (hnc : ∀ y, scope.names.lookup y ≠ some .cell ∧ scope.names.lookup y ≠ some .free) (hx : scope.names.lookup x = some .local)
    (hi : Sd g X iter it') (he : ∀ L s0 H0 fp pn, Sd (g.with fun _ _ _ => False) (cxC X x scope L s0 H0 fp pn) elt elt') (hs : ∀ x, foldedSetIterable iter X.env x = pure x := by intro _; rfl) :
    Sd g X (.ListComp elt [⟨.Name x px, iter, [], 0⟩] scope pos) (.comp 0 [] [] it' .nil elt') := by
  intro pins s sg H Q I q
  obtain ⟨rho, st, env, S, n, q⟩ := q
  simp only [evalE] at q
  refine wpAny_ListComp hfree hkind hnames ?_ hs
  have hpi := pi_list (tg := .Name x px) hi pins s sg H
    (fun J H1 => ∃ r1 st1 xs p m vs, g.Keep rho H r1 H1 ∧ g.Sto r1 st1 H1 ∧ J = Itl X.K p ∧ r1[m]? = some p ∧ SqL g.K H1 p vs ∧ g.RepL r1 H1 xs vs ∧ lstOf st1 m = some xs ∧
      RQ g ((compLoop xs (some m) st1.length (fun d st => evalE g.tab g.call elt' [some d] st) xs (st1 ++ [.lst []])).bind fun _ st' => .ok (.loc st1.length) st') (Post g rho H Q) r1 H1) I ?_
  · refine thn hpi fun v s1 h1 => thn h1 fun itv s2 h2 => ?_
    obtain ⟨it, fp, tn, J, H1, rfl, I2, T, st2, f2, r1, st1, xs, p, m, vs, k1, S1, rfl, hr, sq, rl, hl, q1⟩ := h2
    obtain ⟨stf, hloop, q1⟩ : ∃ stf, compLoop xs (some m) st1.length (fun d st => evalE g.tab g.call elt' [some d] st) xs (st1 ++ [.lst []]) = .ok () stf ∧ Post g rho H Q (.loc st1.length) stf := by
      revert q1
      cases e : compLoop xs (some m) st1.length (fun d st => evalE g.tab g.call elt' [some d] st) xs (st1 ++ [.lst []]) with
      | ok u stf => exact fun q => ⟨stf, rfl, q⟩
      | exc c st2 => exact absurd e comp_noexc
      | bad => exact fun q => q.elim
    refine wpAny_newObj_type ?_
    have I3 := I2.lnew (its := []) (ys := []) (t' := s2.toks) .nil (Nat.zero_le _)
    have hn3 := I2.fresh
    generalize hs3 : ({ s2 with heap := s2.heap.push { cls := .type "list", data := .seq ([] : List Value).toArray } } : Shared) = s3
    have I3 : L2.Inv X pins sg (upd H1 s2.heap.objs.size (.lst [])) s3 := by rw [← hs3]; exact I3
    have hsz : s3.heap.objs.size = s2.heap.objs.size + 1 := by rw [← hs3]; exact Heap.size_push _ _
    have up3 : ∀ b o, s2.heap.get? b = some o → s3.heap.get? b = some o := fun b o e => by rw [← hs3]; exact Heap.get?_push_of_some _ e
    have hfp : ∀ b ∈ fp, FpOk X pins (upd H1 s2.heap.objs.size (.lst [])) b ∧ b < s3.heap.objs.size := fun b hb => by
      obtain ⟨o, ho, _⟩ := T.obj _ _ st2 b hb
      have hlt := Heap.lt_size ho
      refine ⟨⟨?_, (f2 b hb).2⟩, by rw [hsz]; exact Nat.lt_succ_of_lt hlt⟩
      rw [upd_ne (Nat.ne_of_lt hlt)]
      exact (f2 b hb).1
    have k13 : g.Keep r1 H1 (r1 ++ [s2.heap.objs.size]) (upd H1 s2.heap.objs.size (.lst [])) := (S1.laid hn3 (o := .lst []) (c := .lst []) ⟨[], upd_same, by simp [RepL]⟩).1
    have S3 : g.Sto (r1 ++ [s2.heap.objs.size]) (st1 ++ [.lst []]) (upd H1 s2.heap.objs.size (.lst [])) := (S1.laid hn3 (o := .lst []) (c := .lst []) ⟨[], upd_same, by simp [RepL]⟩).2
    have acc_at : (r1 ++ [s2.heap.objs.size])[st1.length]? = some s2.heap.objs.size := by rw [← S1.len]; simp
    have hrm : (r1 ++ [s2.heap.objs.size])[m]? = some p := k13.at hr
    generalize hH3 : upd H1 s2.heap.objs.size (.lst []) = H3 at *
    generalize hac : s2.heap.objs.size = ac at *
    generalize hr3 : r1 ++ [ac] = r3 at *
    refine wpAny_newFunctionEnv hcell (by intro y hy; simp at hy) (fun h₁ hns₁ hsb₁ => ?_) hkind
    have hk1 : ∀ b o, s3.heap.get? b = some o → h₁.get? b = some o := fun b o e => hsb₁.extBut b o (Nat.ne_of_lt (Heap.lt_size e)) (Heap.get?_push_of_some _ e)
    have J := comp_in (x := x) (tk := s3.toks + ([] : List (Str × Value)).length) hkind hnc I3 hfp hns₁ hk1
    have tn0 : tn 0 h₁ := T.keep _ _ _ st2 fun b _ o e => hk1 b o (up3 b o e)
    have bfp : ∀ {H' : Hp}, (∀ b ∈ fp, H' b = none) → ∀ b ∈ fp, FpOk (cxC X x scope s3.heap.objs.size s3 H3 fp (X.pn ++ pins)) [] H' b := fun hn b hb => by
      obtain ⟨f, hlt⟩ := hfp b hb
      refine ⟨hn b hb, fun z => ?_, fp_stk I3 f, .inl hb, fun y c h => ?_, fun p hp => f.2.2.2.2.2 p (by rw [List.append_nil] at hp; exact hp)⟩
      · have : s3.heap.objs.size < s3.heap.objs.size := by rw [z] at hlt; exact hlt
        exact Nat.lt_irrefl _ this
      · cases h
    have loop : codeAny (model X.prog X.w) X.A (.compLoop (.ListComp elt [⟨.Name x px, iter, [], 0⟩] scope pos) 0 (.ref it) (.ref ac) (envC X scope s3.heap.objs.size))
        (fun r s' => ∃ m, s'.heap.Ns s3.heap.objs.size m ∧ ∀ h', Heap.SameBut s3.heap.objs.size s'.heap h' → match r with | .ok _ => EP X pins sg Q (.ref ac) { s' with heap := h' } | .error x => wpAny (model X.prog X.w) X.A (passOn "comprehension.variables-let-go" x (envC X scope s3.heap.objs.size)) (EP X pins sg Q) X.xe { s' with heap := h' })
        { s3 with heap := h₁, toks := s3.toks + ([] : List (Str × Value)).length } := by
      refine compLoop_any (fun mm s' => ∃ i rho' st' H' sg', L2.Inv (cxC X x scope s3.heap.objs.size s3 H3 fp (X.pn ++ pins)) [] sg' H' s' ∧ tn i s'.heap ∧ (∀ b ∈ fp, H' b = none) ∧ g.Keep r3 H3 rho' H' ∧ g.Sto rho' st' H' ∧ mm = xs.length - i ∧ i ≤ xs.length ∧
        compLoop xs (some m) st1.length (fun d st => evalE g.tab g.call elt' [some d] st) (xs.drop i) st' = .ok () stf) ?_ xs.length ⟨0, r3, _, H3, [none], J, tn0, fun b hb => (hfp b hb).1.1, .refl _ _, S3, by simp, Nat.zero_le _, hloop⟩
      rintro mm s' ⟨i, rho', st', H', sg', I', tn', fr', kk, S', rfl, hi, hl'⟩
      have hst : stays st' (some m) xs = true := by
        cases z : stays st' (some m) xs with
        | true => rfl
        | false =>
          exfalso
          cases e : xs.drop i with
          | nil => rw [e] at hl'; simp only [compLoop, z] at hl'; cases hl'
          | cons d t => rw [e] at hl'; simp only [compLoop, z] at hl'; cases hl'
      have hst' : lstOf st' m = some xs := of_decide_eq_true hst
      obtain ⟨p3, ws, hp3, sq3, rl3⟩ := sto_seq S' hst'
      rw [kk.at hrm] at hp3; cases hp3
      rw [← hK] at sq3
      by_cases hlt : i < xs.length
      · obtain ⟨v, hv, rv⟩ := rl3.get (List.getElem?_eq_getElem hlt)
        rw [List.drop_eq_getElem_cons hlt] at hl'
        simp only [compLoop, hst, if_true] at hl'
        obtain ⟨y, st2, ee, hl'⟩ : ∃ y st2, evalE g.tab g.call elt' [some xs[i]] st' = .ok y st2 ∧ (match st2[st1.length]? with
            | some (.lst ys) => if ys.length < sizeLine then compLoop xs (some m) st1.length (fun d st => evalE g.tab g.call elt' [some d] st) (xs.drop (i + 1)) (st2.set st1.length (.lst (ys ++ [y]))) else .bad
            | _ => .bad) = Res.ok () stf := by
          cases ee : evalE g.tab g.call elt' [some xs[i]] st' with
          | ok y st2 => rw [ee] at hl'; exact ⟨y, st2, rfl, hl'⟩
          | exc c st2 => rw [ee] at hl'; cases hl'
          | bad => rw [ee] at hl'; cases hl'
        obtain ⟨ys, ey, hys, hl'⟩ : ∃ ys, st2[st1.length]? = some (.lst ys) ∧ ys.length < sizeLine ∧ compLoop xs (some m) st1.length (fun d st => evalE g.tab g.call elt' [some d] st) (xs.drop (i + 1)) (st2.set st1.length (.lst (ys ++ [y]))) = .ok () stf := by
          split at hl'
          · rename_i ys ey
            split at hl'
            · rename_i hys; exact ⟨ys, ey, hys, hl'⟩
            · cases hl'
          · cases hl'
        refine thn (T.item (cxC X x scope s3.heap.objs.size s3 H3 fp (X.pn ++ pins)) rfl rfl rfl hc i [] s' sg' H' _ I' (bfp fr') tn' ⟨ws, v, sq3, hv⟩) fun r s4 ⟨u, hr4, h4⟩ => ?_
        subst hr4
        refine thn h4 fun _ s5 ⟨x5, H5, I5, r5, y5, tn5, fr5⟩ => ?_
        obtain ⟨e5, y5⟩ := y5
        subst e5
        have hx5 := y5 ws sq3
        rw [hv] at hx5; cases hx5
        have I5' := I5.pinned (bfp fr5) (T.obj _ _ tn5)
        have hg : PG (cxC X x scope s3.heap.objs.size s3 H3 fp (X.pn ++ pins)) (.Name x px) (gName 0) := pg_name (by simp) rfl (.inl hx) (.inl rfl)
        refine wpAny_mono (hg _ s5 sg' H5 v u (fun sg6 H6 => sg6 = sg'.set 0 (some v) ∧ H6 = H5) I5' r5 ⟨rfl, rfl⟩) (fun _ s6 h6 => ?_) (fun _ _ z => z.elim)
        obtain ⟨sg6, H6, I6, e6, e7⟩ := h6
        subst e6 e7
        have hlen : sg'.length = 1 := I'.len
        have henv : g.Env rho' H6 [some xs[i]] (sg'.set 0 (some v)) := by
          refine ⟨by simp [hlen], fun j d ej => ?_⟩
          match sg', hlen, j, ej with
          | [o], _, 0, ej => simp at ej; subst ej; exact ⟨v, rfl, rv⟩
          | [o], _, j + 1, ej => simp at ej
        refine wpAny_mono (he s3.heap.objs.size s3 H3 fp (X.pn ++ pins) _ s6 _ H6 (fun w H7 => ∃ rho7, g.Keep rho' H6 rho7 H7 ∧ g.Sto rho7 st2 H7 ∧ g.Rep rho7 H7 y w) I6 ⟨rho', st', [some xs[i]], S', henv, ?_⟩) (fun yv s7 h7 => ?_) (fun _ _ z => z.elim)
        · show RQ (g.with fun _ _ _ => False) (evalE g.tab g.call elt' [some xs[i]] st') _ rho' H6
          rw [ee]
          exact fun w H7 rho7 k7 s7 r7 => ⟨rho7, k7, s7, r7⟩
        obtain ⟨w, H7, I7, rw7, rho7, k7, S7, rp7⟩ := h7
        obtain ⟨a8, us, hr8, hH8, rl8⟩ := sto_lst S7 ey
        rw [k7.at (kk.at acc_at)] at hr8; cases hr8
        have hrep : g.RepL rho7 H7 (ys ++ [y]) (us ++ [w]) := rl8.append (by simp only [RepL]; exact ⟨w, [], rfl, rp7, rfl⟩)
        obtain ⟨k9, S9⟩ := S7.wrote (k7.at (kk.at acc_at)) ey hH8 hrep
        refine wpAny_mono (mt_append (X := cxC X x scope s3.heap.objs.size s3 H3 fp (X.pn ++ pins)) _ s7 _ H7 (.ref ac) [w] (.ref ac) [yv] (fun _ H9 => H9 = upd H7 ac (.lst (us ++ [w]))) I7 rfl (.cons rw7 .nil) ⟨ac, us, w, rfl, rfl, hH8, by rw [← rl8.length]; exact hys, rfl⟩) (fun _ s9 h9 => ?_) (fun _ _ z => z.elim)
        obtain ⟨_, H9, I9, _, e9⟩ := h9
        subst e9
        refine ⟨xs.length - (i + 1), by omega, i + 1, rho7, _, _, _, I9.unpinned, T.keep _ _ _ tn5 fun b hb o e => (I9.pin (b, o) (List.mem_append_right _ (List.mem_append_right _ (mem_pinsAt hb e)))).1, fun b hb => ?_, (kk.trans k7).trans k9, S9, rfl, hlt, hl'⟩
        obtain ⟨o, e, d⟩ := T.obj _ _ tn5 b hb
        exact (I9.pin (b, o) (List.mem_append_right _ (List.mem_append_right _ (mem_pinsAt hb e)))).2.1
      · have ei : i = xs.length := by omega
        subst ei
        refine thn (T.done (cxC X x scope s3.heap.objs.size s3 H3 fp (X.pn ++ pins)) rfl rfl rfl hc xs.length [] s' sg' H' _ I' (bfp fr') tn' ⟨ws, sq3, by rw [← rl3.length]; exact Nat.le_refl _⟩) fun r s4 ⟨hr4, I4⟩ => ?_
        subst hr4
        rw [List.drop_eq_nil_of_le (Nat.le_refl _)] at hl'
        simp only [compLoop, hst, if_true] at hl'
        cases hl'
        obtain ⟨m4, hn4, _⟩ := I4.loc
        refine ⟨m4, hn4, fun h' sb => ?_⟩
        refine ⟨.ref ac, H', ?_, rfl, q1 (.ref ac) H' rho' ((k1.trans k13).trans kk) S' (rep_loc.mpr ⟨ac, kk.at acc_at, rfl⟩)⟩
        have u4 : Un (frs X.stack) fp H3 H' s3.heap s4.heap := I4.base
        have hL : ∀ b o, s3.heap.get? b = some o → b ≠ s3.heap.objs.size := fun b o e => Nat.ne_of_lt (Heap.lt_size e)
        have fL : H' s3.heap.objs.size = none := I4.free
        refine I3.call' (s' := { s4 with heap := h' }) (ch := fp) I4.os ⟨fun b o e n hb hx => (sb.2 b (hL b o e)).trans (u4.keep b o e n hb hx), fun b o e n hb hx => ?_, u4.free, fun b o e hx => ?_, u4.tups, u4.frzs, u4.tbls⟩ (fun b o e => ?_) I4.bare fun b hb => ?_
        · obtain ⟨sl, e1⟩ := u4.slot b o e n hb hx
          exact ⟨sl, (sb.2 b (hL b o e)).trans e1⟩
        · obtain ⟨o', e1⟩ := u4.there b o e hx
          exact ⟨o', (sb.2 b (hL b o e)).trans e1⟩
        · refine (I4.hok b o e).stay (fun c u hc' g' => (sb.2 c ?_).trans g') (fun _ h => h) fun _ _ h => h
          intro z
          rcases hc' with rfl | hc'
          · rw [z, fL] at e; cases e
          · rw [z, fL] at hc'; cases hc'
        · obtain ⟨f, _⟩ := hfp b hb
          exact ⟨f.2.2.2.1, f.2.1, f.2.2.2.2.1, f.2.2.2.2.2⟩
    exact codeAny_compStart_list loop (T.self _ 0 _ _ _ tn0 loop)
  · refine step S n q fun d st1 v H1 r1 k1 s1 n1 rp q1 => ?_
    cases d with
    | loc m =>
      simp only [walkOf, Nat.reduceBEq, Bool.false_eq_true, if_false] at q1
      cases el : lstOf st1 m with
      | none => rw [el] at q1; exact q1.elim
      | some xs =>
        rw [el] at q1
        simp only [Option.map_some] at q1
        obtain ⟨p, vs, hr, sq, rl⟩ := sto_seq s1 el
        obtain ⟨p2, hr2, rfl⟩ := rep_loc.mp rp
        rw [hr] at hr2; cases hr2
        refine ⟨p, rfl, ⟨vs, by rw [hK]; exact sq⟩, r1, st1, xs, p, m, vs, k1, s1, rfl, hr, sq, rl, el, q1⟩
    | _ => exact q1.elim
end DD
set_option Elab.async false
set_option linter.all false
namespace DD
open PySem PySem.Spec L2
variable {tab : Nat → Ty → Option Bool} {call : Or}
theorem hev_call {f : Nat} {es : Es} {dv : List D} : ∀ env st, evalT tab call (.call f es dv) env st = (evalE tab call (.call f es dv) env st).bind fun d st => match truth st d with | some b => .ok b st | none => .bad := fun env st => by
  simp only [evalT, evalE]
  cases evalEs tab call es env st <;> rfl
theorem hev_isi {a : E} {t : Ty} : ∀ env st, evalT tab call (.isi a t) env st = (evalE tab call (.isi a t) env st).bind fun d st => match truth st d with | some b => .ok b st | none => .bad := fun env st => by
  simp only [evalT, evalE]
  cases evalE tab call a env st with
  | ok x st1 =>
    simp only [bind_ok]
    cases (tyOf st1 x).bind fun u => subT tab u t <;> rfl
  | _ => rfl
end DD
namespace DD
open PySem
theorem scope_nc {scope : Scope} (hf : ∀ y ∈ scope.names, y.2 ≠ .free) (hc : ∀ y ∈ scope.names, y.2 ≠ .cell) : ∀ y, scope.names.lookup y ≠ some .cell ∧ scope.names.lookup y ≠ some .free :=
  fun y => ⟨fun h => hc _ (PySem.mem_of_lookup h) rfl, fun h => hf _ (PySem.mem_of_lookup h) rfl⟩
end DD
set_option Elab.async false
set_option linter.all false
set_option maxRecDepth 100000
set_option maxHeartbeats 2000000
namespace DD
open PySem PySem.Spec L2
open PyProof.Rows hiding St
theorem repl_ints {K : PySem.W.Frag} {rho : List Addr} {H : Hp} : ∀ ns : List Int, RepL K rho H (ns.map D.int) (ns.map V.int)
  | [] => by simp [RepL]
  | n :: r => by simp only [List.map_cons, RepL]; exact ⟨_, _, rfl, by simp [Rep], repl_ints r⟩
theorem sp_start {K : PySem.W.Frag} {cls : Nat → Addr} {run : List D → Sto → Res D} {ns : List Int} {st : Sto} (e : run [.loc 0] [.frz (ns.map D.int)] = .ok (.bl true) st)
    (H : Hp) (a : Addr) (hO : Only H) (hS : SqL K H a (ns.map V.int)) : spD K cls 1 run [.ref a] H (fun v _ => v = .bl true) fun _ _ _ => False := by
  refine ⟨rfl, [a], [.frz (ns.map D.int)], [.loc 0], ⟨rfl, ?_, ?_⟩, ?_, ?_⟩
  · intro n k b c d h1 h2 h3 h4 t1 t2
    cases n with
    | zero => cases h3; cases t1
    | succ n => cases h3
  · intro n b c h1 h2
    cases n with
    | zero =>
      cases h1; cases h2
      refine ⟨ns.map V.int, ?_, repl_ints ns⟩
      rcases hS with h | h
      · rcases h with h | ⟨o, h⟩
        · rcases hO _ with z | ⟨o, xs, z⟩
          · rw [h] at z; cases z
          · rw [h] at z; cases z
        · exact .inl ⟨o, h⟩
      · exact .inr h
    | succ n => cases h1
  · simp [RepL, Rep]
  · rw [e]
    intro v H' rho' _ _ r
    simpa [Rep] using r
theorem cx_none {P : Program} {w : World} (H : Hp) (s : Shared) (e : Value) (s' : Shared) (h : CXd P w [] H s (fun _ _ _ => False) e s') : False := by
  obtain ⟨_, _, _, _, _, _, _, z⟩ := h
  exact z
end DD
set_option Elab.async false
set_option linter.all false
set_option maxRecDepth 100000
namespace DD
open PySem L2
section
variable {t : Nat → Ty → Option Bool} {call : Or} {F : Nat} {env : DD.Env} {st : Sto}
theorem x_nil : execSs t call F .nil env st = .ok (.next env) st := by simp only [execSs]
theorem x_cons {s : S} {r : Ss} : execSs t call F (.cons s r) env st = (execS t call F s env st).bind fun f st => match f with
      | .next env' => execSs t call F r env' st
      | f => .ok f st := by simp only [execSs] <;> rfl
theorem x_set {i : Nat} {e : E} : execS t call F (.set i e) env st = (evalE t call e env st).bind fun d st => if i < env.length then .ok (.next (env.set i (some d))) st else .bad := by simp only [execS]
theorem x_unp {is : List Nat} {e : E} : execS t call F (.unp is e) env st = (evalE t call e env st).bind fun d st => match store is false d env with | some env' => .ok (.next env') st | none => .bad := by simp only [execS] <;> rfl
theorem x_par {i j : Nat} {a b : E} : execS t call F (.par i j a b) env st = (evalE t call a env st).bind fun x st => (evalE t call b env st).bind fun y st => if i < env.length ∧ j < env.length then .ok (.next ((env.set i (some x)).set j (some y))) st else .bad := by simp only [execS]
theorem x_if {c : E} {a b : Ss} : execS t call F (.ifS c a b) env st = (evalT t call c env st).bind fun x st => if x then execSs t call F a env st else execSs t call F b env st := by simp only [execS]
theorem x_ret {e : E} : execS t call F (.ret e) env st = (evalE t call e env st).bind fun d st => .ok (.ret d) st := by simp only [execS]
theorem x_ex {e : E} : execS t call F (.ex e) env st = (evalE t call e env st).bind fun d st => .ok (.next env) st := by simp only [execS]
theorem x_raise {c : Nat} : execS t call F (.raiseS c) env st = .exc c st := by simp only [execS]
theorem x_try {b h : Ss} {c i : Nat} : execS t call F (.tryS b c i h) env st = match execSs t call F b env st with
      | .exc k st' => match t k (.o c) with
        | some true => if i < env.length then (match execSs t call F h (blank env i (.loc st'.length)) (st' ++ [.exn k]) with
            | .ok (.next _) st'' => .ok (.next (List.replicate env.length none)) st''
            | .ok (.ret d) st'' => .ok (.ret d) st''
            | _ => .bad)
          else .bad
        | _ => .bad
      | r => r := by simp only [execS] <;> rfl
theorem x_while {c : E} {b : Ss} : execS t call F (.whileS c b) env st = whileLoop (evalT t call c) (execSs t call F b) F env st := by simp only [execS]
end
section
variable {t : Nat → Ty → Option Bool} {call : Or} {F : Nat} {env : DD.Env} {st : Sto}
def turn (t : Nat → Ty → Option Bool) (call : Or) (F : Nat) (tg : List Nat) (one : Bool) (b : Ss) (d : D) (env : DD.Env) (st : Sto) : Res Fl := match store tg one d env with | some env' => execSs t call F b env' st | none => .bad
theorem turn_at {tg : List Nat} {one : Bool} {b : Ss} {d : D} {env' : DD.Env} (h : store tg one d env = some env') : turn t call F tg one b d env st = execSs t call F b env' st := by unfold turn; rw [h]
theorem x_for {tg : List Nat} {one k : Bool} {it : E} {b : Ss} : execS t call F (.forS tg one k it b) env st = (evalE t call it env st).bind fun d st => match walkOf k st d with
      | some (xs, p) => forLoop xs p (turn t call F tg one b) xs env st
      | none => .bad := by simp only [execS] <;> rfl
theorem x_forAt {tg : List Nat} {one k : Bool} {it : E} {b : Ss} {d : D} {xs : List D} {p : Option Nat} {st' : Sto} (h : evalE t call it env st = .ok d st') (hw : walkOf k st' d = some (xs, p)) : execS t call F (.forS tg one k it b) env st = forLoop xs p (turn t call F tg one b) xs env st' := by rw [x_for, h, bind_ok, hw]
theorem x_forR {tg : List Nat} {es : Es} {b : Ss} : execS t call F (.forR tg es b) env st = (evalEs t call es env st).bind fun ds st => match rngOf ds with
      | some xs => forLoop xs none (turn t call F tg true b) xs env st
      | none => .bad := by simp only [execS] <;> rfl
theorem x_forRAt {tg : List Nat} {es : Es} {b : Ss} {ds : List D} {xs : List D} {st' : Sto} (h : evalEs t call es env st = .ok ds st') (hw : rngOf ds = some xs) : execS t call F (.forR tg es b) env st = forLoop xs none (turn t call F tg true b) xs env st' := by rw [x_forR, h, bind_ok, hw]
end
theorem for_keep {all : List D} {p : Option Nat} {body : D → DD.Env → Sto → Res Fl} {J : Nat → DD.Env → Sto → Prop} (hs : ∀ i env st, J i env st → stays st p all = true) :
    ∀ (xs : List D) (i : Nat) (env : DD.Env) (st : Sto), J i env st → (∀ (j : Nat) (d : D), xs[j]? = some d → ∀ env st, J (i + j) env st → ∃ env' st', body d env st = .ok (.next env') st' ∧ J (i + j + 1) env' st') →
    ∃ env' st', forLoop all p body xs env st = .ok (.next env') st' ∧ J (i + xs.length) env' st'
  | [], i, env, st, h, _ => ⟨env, st, by simp only [forLoop]; rw [if_pos (hs _ _ _ h)], h⟩
  | d :: r, i, env, st, h, ht => by
    obtain ⟨e1, s1, h1, h2⟩ := ht 0 d rfl env st h
    obtain ⟨e2, s2, h3, h4⟩ := for_keep hs r (i + 1) e1 s1 h2 fun j x hx env st hj => by
      have := ht (j + 1) x (by simpa using hx) env st (by rwa [show i + (j + 1) = i + 1 + j by omega])
      rwa [show i + (j + 1) + 1 = i + 1 + j + 1 by omega] at this
    refine ⟨e2, s2, ?_, by rwa [show i + (d :: r).length = i + 1 + r.length by simp; omega]⟩
    simp only [forLoop]
    rw [if_pos (hs _ _ _ h), h1, bind_ok]
    exact h3
theorem comp_map {all : List D} {n : Nat} {body : D → Sto → Res D} {f : D → D} {st0 : Sto} (hn : lstOf st0 n = some all) (hlt : n < st0.length) (hall : all.length ≤ sizeLine) :
    ∀ (xs ys : List D), ys.length + xs.length ≤ sizeLine → (∀ d ∈ xs, ∀ c, body d (st0 ++ [c]) = .ok (f d) (st0 ++ [c])) →
    compLoop all (some n) st0.length body xs (st0 ++ [.lst ys]) = .ok () (st0 ++ [.lst (ys ++ xs.map f)])
  | [], ys, hl, hb => by
    have e : lstOf (st0 ++ [.lst ys]) n = some all := by
      unfold lstOf at hn ⊢; rw [List.getElem?_append_left hlt]; exact hn
    simp [compLoop, stays, e]
  | d :: r, ys, hl, hb => by
    have e : lstOf (st0 ++ [.lst ys]) n = some all := by
      unfold lstOf at hn ⊢; rw [List.getElem?_append_left hlt]; exact hn
    have ih := comp_map (f := f) hn hlt hall r (ys ++ [f d]) (by simp at hl ⊢; omega) fun x hx => hb x (List.mem_cons_of_mem _ hx)
    have hy : ys.length < sizeLine := by simp at hl; omega
    simp [compLoop, stays, e, hb d List.mem_cons_self, hy, ih]
section
variable {st : Sto}
theorem o_add {i j : Int} : opD .add (.int i) (.int j) st = .ok (.int (i + j)) st := by simp only [opD]
theorem o_sub {i j : Int} : opD .sub (.int i) (.int j) st = .ok (.int (i - j)) st := by simp only [opD]
theorem o_mul {i j : Int} (h : mulOk i j) : opD .mul (.int i) (.int j) st = .ok (.int (i * j)) st := by simp only [opD]; rw [if_pos h]
theorem o_fdiv {i j : Int} (h : divOk j) : opD .fdiv (.int i) (.int j) st = .ok (.int (i.fdiv j)) st := by simp only [opD]; rw [if_pos h]
theorem o_mod {i j : Int} (h : j ≠ 0) : opD .mod (.int i) (.int j) st = .ok (.int (i.fmod j)) st := by simp only [opD]; rw [if_pos h]
theorem o_pow {i j : Int} (h : powOk i j) : opD .pow (.int i) (.int j) st = .ok (.int (i ^ j.toNat)) st := by simp only [opD]; rw [if_pos h]
theorem m_eqi {i j : Int} : cmD .eq (.int i) (.int j) st = .ok (.bl (decide (i = j))) st := by simp [cmD, eqV, pyOf, PyData.eqv] <;> rfl
theorem m_nei {i j : Int} : cmD .ne (.int i) (.int j) st = .ok (.bl (!decide (i = j))) st := by simp [cmD, eqV, pyOf, PyData.eqv] <;> rfl
theorem m_lt {i j : Int} : cmD .lt (.int i) (.int j) st = .ok (.bl (decide (i < j))) st := by simp only [cmD]
theorem m_le {i j : Int} : cmD .le (.int i) (.int j) st = .ok (.bl (decide (i ≤ j))) st := by simp only [cmD]
theorem m_gt {i j : Int} : cmD .gt (.int i) (.int j) st = .ok (.bl (decide (j < i))) st := by simp only [cmD]
theorem m_ge {i j : Int} : cmD .ge (.int i) (.int j) st = .ok (.bl (decide (j ≤ i))) st := by simp only [cmD]
theorem t_bl {b : Bool} : truth st (.bl b) = some b := rfl
theorem b_abs {i : Int} : btD .absB [.int i] st = .ok (.int (if i < 0 then -i else i)) st := by simp only [btD]
theorem b_intb {b : Bool} : btD .intB [.bl b] st = .ok (.int (if b then 1 else 0)) st := by simp only [btD]
theorem b_len {d : D} {xs : List D} (h : seqOf st d = some xs) : btD .lenB [d] st = .ok (.int xs.length) st := by simp only [btD, h]
theorem i_at {a : D} {i : Int} {xs : List D} {d : D} (h : seqOf st a = some xs) (e : L2.atI xs i = some d) : ixD a (.int i) st = .ok d st := by simp only [ixD, h, atD, e]
end
section
variable {t : Nat → Ty → Option Bool} {call : Or} {env : DD.Env} {st : Sto}
end
theorem gg {st m : Sto} {k : Nat} : (st ++ m)[st.length + k]? = m[k]? := by
  rw [List.getElem?_append_right (by omega)]; congr 1; omega
theorem gg0 {st m : Sto} : (st ++ m)[st.length]? = m[0]? := by
  rw [List.getElem?_append_right (by omega)]; congr 1; omega
end DD
set_option Elab.async false
set_option linter.all false
set_option maxRecDepth 100000
set_option maxHeartbeats 4000000
namespace My
open PySem PySem.Spec L2 DD
open PyProof.Rows hiding St
def top (i : Nat) : Stmt := PySem.Challenge.pw_partproof_k01_fractions.main.body.getD i (.Pass ⟨0, 0, 0, 0⟩)
theorem passF {P : Program} {w : World} {X : Cx} : Passes (CXd P w) X (fun _ _ _ => False) := fun _ _ _ _ _ _ _ ⟨_, _, _, _, _, _, _, h⟩ => h.elim
abbrev st_is_whole : Stmt := top 10
abbrev st_is_fraction : Stmt := top 11
abbrev st_common_divisor : Stmt := top 12
abbrev st_fraction : Stmt := top 13
abbrev st_plus : Stmt := top 14
abbrev st_minus : Stmt := top 15
abbrev st_times : Stmt := top 16
abbrev st_under : Stmt := top 17
abbrev st_floor_of : Stmt := top 18
abbrev st_ceiling_of : Stmt := top 19
abbrev st__law_cell_at : Stmt := top 21
abbrev st__law_divisor : Stmt := top 22
abbrev st__law_lowest : Stmt := top 23
abbrev st__law_size : Stmt := top 24
abbrev st__law_refused : Stmt := top 25
abbrev st__law_is : Stmt := top 26
abbrev st__law_no_fraction : Stmt := top 27
abbrev st__law_pairs_right : Stmt := top 28
abbrev st_law : Stmt := top 29
def c_is_whole : Ss := (.cons (.ret (.andE (.isi (.var 0) (.b "int")) (.notE (.isi (.var 0) (.b "bool"))))) .nil)
def c_is_fraction : Ss := (.cons (.ifS (.orE (.notE (.isi (.var 0) (.b "tuple"))) (.cm .ne (.bt .lenB (.cons (.var 0) .nil)) (.cst (.int 2)))) (.cons (.ret (.cst (.bl false))) .nil) .nil) (.cons (.unp [1, 2] (.var 0)) (.cons (.ifS (.orE (.notE (.call 0 (.cons (.var 1) .nil) [])) (.notE (.call 0 (.cons (.var 2) .nil) []))) (.cons (.ret (.cst (.bl false))) .nil) .nil) (.cons (.ret (.andE (.cm .ge (.var 2) (.cst (.int 1))) (.cm .eq (.call 2 (.cons (.var 1) (.cons (.var 2) .nil)) []) (.cst (.int 1))))) .nil))))
def c_common_divisor : Ss := (.cons (.par 0 1 (.bt .absB (.cons (.var 0) .nil)) (.bt .absB (.cons (.var 1) .nil))) (.cons (.whileS (.cm .ne (.var 1) (.cst (.int 0))) (.cons (.par 0 1 (.var 1) (.op .mod (.var 0) (.var 1))) .nil)) (.cons (.ret (.var 0)) .nil)))
def c_fraction : Ss := (.cons (.ifS (.orE (.notE (.call 0 (.cons (.var 0) .nil) [])) (.notE (.call 0 (.cons (.var 1) .nil) []))) (.cons (.raiseS 7) .nil) .nil) (.cons (.ifS (.cm .eq (.var 1) (.cst (.int 0))) (.cons (.raiseS 7) .nil) .nil) (.cons (.set 2 (.call 2 (.cons (.var 0) (.cons (.var 1) .nil)) [])) (.cons (.ifS (.cm .lt (.var 1) (.cst (.int 0))) (.cons (.set 2 (.neg (.var 2))) .nil) .nil) (.cons (.ret (.tupE (.cons (.op .fdiv (.var 0) (.var 2)) (.cons (.op .fdiv (.var 1) (.var 2)) .nil)))) .nil)))))
def c_plus : Ss := (.cons (.ifS (.andE (.cm .eq (.ix (.var 0) (.cst (.int 1))) (.cst (.int 1))) (.cm .eq (.ix (.var 1) (.cst (.int 1))) (.cst (.int 1)))) (.cons (.ret (.tupE (.cons (.op .add (.ix (.var 0) (.cst (.int 0))) (.ix (.var 1) (.cst (.int 0)))) (.cons (.cst (.int 1)) .nil)))) .nil) .nil) (.cons (.ret (.call 3 (.cons (.op .add (.op .mul (.ix (.var 0) (.cst (.int 0))) (.ix (.var 1) (.cst (.int 1)))) (.op .mul (.ix (.var 1) (.cst (.int 0))) (.ix (.var 0) (.cst (.int 1))))) (.cons (.op .mul (.ix (.var 0) (.cst (.int 1))) (.ix (.var 1) (.cst (.int 1)))) .nil)) [])) .nil))
def c_minus : Ss := (.cons (.ret (.call 3 (.cons (.op .sub (.op .mul (.ix (.var 0) (.cst (.int 0))) (.ix (.var 1) (.cst (.int 1)))) (.op .mul (.ix (.var 1) (.cst (.int 0))) (.ix (.var 0) (.cst (.int 1))))) (.cons (.op .mul (.ix (.var 0) (.cst (.int 1))) (.ix (.var 1) (.cst (.int 1)))) .nil)) [])) .nil)
def c_times : Ss := (.cons (.ifS (.andE (.cm .eq (.ix (.var 0) (.cst (.int 1))) (.cst (.int 1))) (.cm .eq (.ix (.var 1) (.cst (.int 1))) (.cst (.int 1)))) (.cons (.ret (.tupE (.cons (.op .mul (.ix (.var 0) (.cst (.int 0))) (.ix (.var 1) (.cst (.int 0)))) (.cons (.cst (.int 1)) .nil)))) .nil) .nil) (.cons (.ret (.call 3 (.cons (.op .mul (.ix (.var 0) (.cst (.int 0))) (.ix (.var 1) (.cst (.int 0)))) (.cons (.op .mul (.ix (.var 0) (.cst (.int 1))) (.ix (.var 1) (.cst (.int 1)))) .nil)) [])) .nil))
def c_under : Ss := (.cons (.ret (.cm .lt (.op .mul (.ix (.var 0) (.cst (.int 0))) (.ix (.var 1) (.cst (.int 1)))) (.op .mul (.ix (.var 1) (.cst (.int 0))) (.ix (.var 0) (.cst (.int 1)))))) .nil)
def c_floor_of : Ss := (.cons (.ret (.op .fdiv (.ix (.var 0) (.cst (.int 0))) (.ix (.var 0) (.cst (.int 1))))) .nil)
def c_ceiling_of : Ss := (.cons (.ret (.neg (.op .fdiv (.neg (.ix (.var 0) (.cst (.int 0)))) (.ix (.var 0) (.cst (.int 1)))))) .nil)
def c__law_cell_at : Ss := (.cons (.ifS (.cm .lt (.var 1) (.bt .lenB (.cons (.var 0) .nil))) (.cons (.ret (.ix (.var 0) (.var 1))) .nil) .nil) (.cons (.ret (.cst (.int 0))) .nil))
def c__law_divisor : Ss := (.cons (.whileS (.cm .ne (.var 1) (.cst (.int 0))) (.cons (.par 0 1 (.var 1) (.op .mod (.var 0) (.var 1))) .nil)) (.cons (.ret (.bt .absB (.cons (.var 0) .nil))) .nil))
def c__law_lowest : Ss := (.cons (.set 2 (.op .mul (.call 11 (.cons (.var 0) (.cons (.var 1) .nil)) []) (.ix (.lstE (.cons (.cst (.int 1)) (.cons (.op .sub (.cst (.int 0)) (.cst (.int 1))) .nil))) (.bt .intB (.cons (.cm .lt (.var 1) (.cst (.int 0))) .nil))))) (.cons (.ret (.tupE (.cons (.op .fdiv (.var 0) (.var 2)) (.cons (.op .fdiv (.var 1) (.var 2)) .nil)))) .nil))
def c__law_size : Ss := (.cons (.ifS (.cm .eq (.op .mod (.var 0) (.cst (.int 3))) (.cst (.int 0))) (.cons (.ret (.op .sub (.op .mod (.op .fdiv (.var 0) (.cst (.int 3))) (.cst (.int 19))) (.cst (.int 9)))) .nil) .nil) (.cons (.ifS (.cm .eq (.op .mod (.var 0) (.cst (.int 3))) (.cst (.int 1))) (.cons (.ret (.op .sub (.op .mod (.op .fdiv (.var 0) (.cst (.int 3))) (.op .pow (.cst (.int 10)) (.cst (.int 60)))) (.op .mul (.cst (.int 5)) (.op .pow (.cst (.int 10)) (.cst (.int 59)))))) .nil) .nil) (.cons (.ret (.op .sub (.op .mod (.op .mul (.op .fdiv (.var 0) (.cst (.int 3))) (.cst (.int 48271))) (.op .pow (.cst (.int 10)) (.cst (.int 50)))) (.op .mul (.cst (.int 5)) (.op .pow (.cst (.int 10)) (.cst (.int 49)))))) .nil)))
def c__law_refused : Ss := (.cons (.tryS (.cons (.ex (.call 3 (.cons (.var 0) (.cons (.var 1) .nil)) [])) .nil) 0 2 (.cons (.set 3 (.lstE (.cons (.isi (.var 2) (.o 1)) (.cons (.isi (.var 2) (.o 2)) .nil)))) (.cons (.set 3 (.op .add (.var 3) (.lstE (.cons (.isi (.var 2) (.o 3)) (.cons (.isi (.var 2) (.o 4)) .nil))))) (.cons (.set 3 (.op .add (.var 3) (.lstE (.cons (.isi (.var 2) (.o 5)) (.cons (.isi (.var 2) (.o 6)) .nil))))) (.cons (.ret (.andE (.isi (.var 2) (.o 7)) (.andE (.isi (.var 2) (.b "ValueError")) (.cm .notIn (.cst (.bl true)) (.var 3))))) .nil))))) (.cons (.ret (.cst (.bl false))) .nil))
def c__law_is : Ss := (.cons (.ifS (.orE (.notE (.isi (.var 0) (.b "tuple"))) (.orE (.cm .ne (.bt .lenB (.cons (.var 0) .nil)) (.cst (.int 2))) (.orE (.isi (.ix (.var 0) (.cst (.int 0))) (.b "bool")) (.isi (.ix (.var 0) (.cst (.int 1))) (.b "bool"))))) (.cons (.ret (.cst (.bl false))) .nil) .nil) (.cons (.ret (.cm .eq (.var 0) (.call 12 (.cons (.var 1) (.cons (.var 2) .nil)) []))) .nil))
def c__law_no_fraction : Ss := (.cons (.set 1 (.lstE (.cons (.tupE (.cons (.cst (.int 2)) (.cons (.cst (.int 4)) .nil))) (.cons (.tupE (.cons (.cst (.int 1)) (.cons (.cst (.int 0)) .nil))) (.cons (.tupE (.cons (.cst (.int 1)) (.cons (.op .sub (.cst (.int 0)) (.cst (.int 1))) .nil))) (.cons (.tupE (.cons (.cst (.int 0)) (.cons (.cst (.int 2)) .nil))) (.cons (.tupE (.cons (.cst (.bl true)) (.cons (.cst (.int 1)) .nil))) (.cons (.tupE (.cons (.cst (.int 1)) (.cons (.cst (.bl true)) .nil))) .nil)))))))) (.cons (.set 1 (.op .add (.var 1) (.lstE (.cons (.lstE (.cons (.cst (.int 1)) (.cons (.cst (.int 2)) .nil))) (.cons (.tupE (.cons (.cst (.int 1)) .nil)) (.cons (.tupE (.cons (.cst (.int 1)) (.cons (.cst (.int 2)) (.cons (.cst (.int 3)) .nil)))) (.cons (.cst (.int 5)) (.cons (.cst .non) (.cons (.cst (.str (Str.ofString "1/2"))) (.cons (.tupE (.cons (.cst (.str (Str.ofString "1"))) (.cons (.cst (.int 1)) .nil))) .nil)))))))))) (.cons (.ret (.ix (.op .add (.var 1) (.lstE (.cons (.tupE (.cons (.cst (.int 1)) (.cons (.cst .non) .nil))) (.cons (.tupE (.cons (.cst (.int 0)) (.cons (.cst (.int 0)) .nil))) (.cons (.tupE .nil) (.cons .dnew (.cons (.tupE (.cons (.op .add (.cst (.int 1)) (.op .mod (.op .fdiv (.var 0) (.cst (.int 18))) (.op .pow (.cst (.int 10)) (.cst (.int 20))))) (.cons (.cst (.int 0)) .nil))) .nil))))))) (.op .mod (.var 0) (.cst (.int 18))))) .nil)))
def c__law_pairs_right : Ss := (.cons (.unp [2, 3] (.var 0)) (.cons (.unp [4, 5] (.var 1)) (.cons (.ifS (.orE (.notE (.call 15 (.cons (.call 4 (.cons (.var 0) (.cons (.var 1) .nil)) []) (.cons (.op .add (.op .mul (.var 2) (.var 5)) (.op .mul (.var 4) (.var 3))) (.cons (.op .mul (.var 3) (.var 5)) .nil))) [])) (.notE (.call 15 (.cons (.call 5 (.cons (.var 0) (.cons (.var 1) .nil)) []) (.cons (.op .sub (.op .mul (.var 2) (.var 5)) (.op .mul (.var 4) (.var 3))) (.cons (.op .mul (.var 3) (.var 5)) .nil))) []))) (.cons (.ret (.cst (.bl false))) .nil) .nil) (.cons (.ifS (.notE (.call 15 (.cons (.call 6 (.cons (.var 0) (.cons (.var 1) .nil)) []) (.cons (.op .mul (.var 2) (.var 4)) (.cons (.op .mul (.var 3) (.var 5)) .nil))) [])) (.cons (.ret (.cst (.bl false))) .nil) .nil) (.cons (.set 6 (.call 7 (.cons (.var 0) (.cons (.var 1) .nil)) [])) (.cons (.ret (.andE (.isi (.var 6) (.b "bool")) (.cm .eq (.var 6) (.cm .lt (.op .mul (.var 2) (.var 5)) (.op .mul (.var 4) (.var 3)))))) .nil))))))
def c_law : Ss := (.cons (.set 1 (.call 13 (.cons (.call 10 (.cons (.var 0) (.cons (.cst (.int 0)) .nil)) []) .nil) [])) (.cons (.set 2 (.call 13 (.cons (.call 10 (.cons (.var 0) (.cons (.cst (.int 1)) .nil)) []) .nil) [])) (.cons (.ifS (.cm .eq (.var 2) (.cst (.int 0))) (.cons (.ifS (.notE (.call 14 (.cons (.var 1) (.cons (.cst (.int 0)) .nil)) [])) (.cons (.ret (.cst (.bl false))) .nil) .nil) (.cons (.set 2 (.cst (.int 1))) .nil)) .nil) (.cons (.ifS (.orE (.notE (.call 15 (.cons (.call 3 (.cons (.var 1) (.cons (.var 2) .nil)) []) (.cons (.var 1) (.cons (.var 2) .nil))) [])) (.notE (.call 15 (.cons (.call 3 (.cons (.var 1) .nil) [(.int 1)]) (.cons (.var 1) (.cons (.cst (.int 1)) .nil))) []))) (.cons (.ret (.cst (.bl false))) .nil) .nil) (.cons (.forS [3] true false (.lstE (.cons (.cst (.bl true)) (.cons (.cst .non) (.cons (.cst (.str (Str.ofString "1"))) (.cons (.tupE (.cons (.cst (.int 1)) (.cons (.cst (.int 1)) .nil))) (.cons (.lstE (.cons (.cst (.int 1)) .nil)) .nil)))))) (.cons (.ifS (.orE (.notE (.call 14 (.cons (.var 3) (.cons (.var 2) .nil)) [])) (.notE (.call 14 (.cons (.var 1) (.cons (.var 3) .nil)) []))) (.cons (.ret (.cst (.bl false))) .nil) .nil) .nil)) (.cons (.set 4 (.lstE .nil)) (.cons (.forR [5] (.cons (.cst (.int 3)) .nil) (.cons (.set 6 (.op .add (.cst (.int 1)) (.bt .absB (.cons (.call 13 (.cons (.call 10 (.cons (.var 0) (.cons (.op .add (.cst (.int 3)) (.op .mul (.cst (.int 2)) (.var 5))) .nil)) []) .nil) []) .nil)))) (.cons (.ex (.mt .append (.var 4) (.cons (.call 12 (.cons (.call 13 (.cons (.call 10 (.cons (.var 0) (.cons (.op .add (.cst (.int 2)) (.op .mul (.cst (.int 2)) (.var 5))) .nil)) []) .nil) []) (.cons (.var 6) .nil)) []) .nil))) .nil))) (.cons (.forS [7] true false (.var 4) (.cons (.ifS (.orE (.notE (.call 1 (.cons (.var 7) .nil) [])) (.orE (.cm .ne (.call 8 (.cons (.var 7) .nil) []) (.op .fdiv (.ix (.var 7) (.cst (.int 0))) (.ix (.var 7) (.cst (.int 1))))) (.cm .ne (.call 9 (.cons (.var 7) .nil) []) (.op .sub (.cst (.int 0)) (.op .fdiv (.op .sub (.cst (.int 0)) (.ix (.var 7) (.cst (.int 0)))) (.ix (.var 7) (.cst (.int 1)))))))) (.cons (.ret (.cst (.bl false))) .nil) .nil) (.cons (.forS [8] true false (.var 4) (.cons (.ifS (.notE (.call 17 (.cons (.var 7) (.cons (.var 8) .nil)) [])) (.cons (.ret (.cst (.bl false))) .nil) .nil) .nil)) .nil))) (.cons (.ifS (.call 1 (.cons (.call 16 (.cons (.call 10 (.cons (.var 0) (.cons (.cst (.int 8)) .nil)) []) .nil) []) .nil) []) (.cons (.ret (.cst (.bl false))) .nil) .nil) (.cons (.set 9 (.lstE (.cons (.var 1) (.cons (.cst (.int 0)) (.cons (.op .sub (.cst (.int 0)) (.cst (.int 7))) (.cons (.cst (.bl true)) (.cons (.cst (.bl false)) (.cons (.cst .non) (.cons (.cst (.str (Str.ofString "5"))) (.cons (.tupE (.cons (.cst (.int 1)) (.cons (.cst (.int 1)) .nil))) (.cons (.lstE (.cons (.cst (.int 3)) .nil)) .nil))))))))))) (.cons (.ret (.cm .eq (.comp 0 [] [] (.var 9) .nil (.call 0 (.cons (.var 0) .nil) [])) (.op .add (.op .mul (.lstE (.cons (.cst (.bl true)) .nil)) (.cst (.int 3))) (.op .mul (.lstE (.cons (.cst (.bl false)) .nil)) (.cst (.int 6)))))) .nil)))))))))))
def fns : List Fn := [⟨1, 1, c_is_whole⟩, ⟨1, 3, c_is_fraction⟩, ⟨2, 2, c_common_divisor⟩, ⟨2, 3, c_fraction⟩, ⟨2, 2, c_plus⟩, ⟨2, 2, c_minus⟩, ⟨2, 2, c_times⟩, ⟨2, 2, c_under⟩, ⟨1, 1, c_floor_of⟩, ⟨1, 1, c_ceiling_of⟩, ⟨2, 2, c__law_cell_at⟩, ⟨2, 2, c__law_divisor⟩, ⟨2, 3, c__law_lowest⟩, ⟨1, 1, c__law_size⟩, ⟨2, 4, c__law_refused⟩, ⟨3, 3, c__law_is⟩, ⟨1, 2, c__law_no_fraction⟩, ⟨2, 7, c__law_pairs_right⟩, ⟨1, 10, c_law⟩]
def tab (n : Nat) (t : Ty) : Option Bool := match n with
  | 7 => (match t with | .o j => some (decide (j ∈ ([7, 0] : List Nat))) | .b x => if x = "ValueError" then some true else none)
  | _ => none
theorem tab_b {n : Nat} {x : String} (h : x ≠ "ValueError") : tab n (.b x) = none := by
  unfold tab
  split
  · simp [h]
  · rfl
section
variable (K : PySem.W.Frag) (mg : Str → Option Value) (ad : Nat → Addr) (fd : Nat → FuncData) (cls : Nat → Addr)
structure Txt : Prop where
  f_is_whole : FunD K "is_whole" "is_whole" st_is_whole (ad 0) (fd 0)
  m_is_whole : mg "is_whole" = some (.ref (ad 0))
  b_is_whole : Binds K (fd 0) ["thing"] []
  f_is_fraction : FunD K "is_fraction" "is_fraction" st_is_fraction (ad 1) (fd 1)
  m_is_fraction : mg "is_fraction" = some (.ref (ad 1))
  b_is_fraction : Binds K (fd 1) ["thing"] []
  f_common_divisor : FunD K "common_divisor" "common_divisor" st_common_divisor (ad 2) (fd 2)
  m_common_divisor : mg "common_divisor" = some (.ref (ad 2))
  b_common_divisor : Binds K (fd 2) ["one", "other"] []
  f_fraction : FunD K "fraction" "fraction" st_fraction (ad 3) (fd 3)
  m_fraction : mg "fraction" = some (.ref (ad 3))
  b_fraction : Binds K (fd 3) ["top", "bottom"] []
  bd_fraction : ∃ ds : List Value, Vals [.int 1] ds ∧ Binds K (fd 3) ["top", "bottom"] ds
  f_plus : FunD K "plus" "plus" st_plus (ad 4) (fd 4)
  m_plus : mg "plus" = some (.ref (ad 4))
  b_plus : Binds K (fd 4) ["one", "other"] []
  f_minus : FunD K "minus" "minus" st_minus (ad 5) (fd 5)
  m_minus : mg "minus" = some (.ref (ad 5))
  b_minus : Binds K (fd 5) ["one", "other"] []
  f_times : FunD K "times" "times" st_times (ad 6) (fd 6)
  m_times : mg "times" = some (.ref (ad 6))
  b_times : Binds K (fd 6) ["one", "other"] []
  f_under : FunD K "under" "under" st_under (ad 7) (fd 7)
  m_under : mg "under" = some (.ref (ad 7))
  b_under : Binds K (fd 7) ["one", "other"] []
  f_floor_of : FunD K "floor_of" "floor_of" st_floor_of (ad 8) (fd 8)
  m_floor_of : mg "floor_of" = some (.ref (ad 8))
  b_floor_of : Binds K (fd 8) ["number"] []
  f_ceiling_of : FunD K "ceiling_of" "ceiling_of" st_ceiling_of (ad 9) (fd 9)
  m_ceiling_of : mg "ceiling_of" = some (.ref (ad 9))
  b_ceiling_of : Binds K (fd 9) ["number"] []
  f__law_cell_at : FunD K "_law_cell_at" "_law_cell_at" st__law_cell_at (ad 10) (fd 10)
  m__law_cell_at : mg "_law_cell_at" = some (.ref (ad 10))
  b__law_cell_at : Binds K (fd 10) ["_law_script", "_law_k"] []
  f__law_divisor : FunD K "_law_divisor" "_law_divisor" st__law_divisor (ad 11) (fd 11)
  m__law_divisor : mg "_law_divisor" = some (.ref (ad 11))
  b__law_divisor : Binds K (fd 11) ["_law_one", "_law_other"] []
  f__law_lowest : FunD K "_law_lowest" "_law_lowest" st__law_lowest (ad 12) (fd 12)
  m__law_lowest : mg "_law_lowest" = some (.ref (ad 12))
  b__law_lowest : Binds K (fd 12) ["_law_top", "_law_bottom"] []
  f__law_size : FunD K "_law_size" "_law_size" st__law_size (ad 13) (fd 13)
  m__law_size : mg "_law_size" = some (.ref (ad 13))
  b__law_size : Binds K (fd 13) ["_law_cell"] []
  f__law_refused : FunD K "_law_refused" "_law_refused" st__law_refused (ad 14) (fd 14)
  m__law_refused : mg "_law_refused" = some (.ref (ad 14))
  b__law_refused : Binds K (fd 14) ["_law_top", "_law_bottom"] []
  f__law_is : FunD K "_law_is" "_law_is" st__law_is (ad 15) (fd 15)
  m__law_is : mg "_law_is" = some (.ref (ad 15))
  b__law_is : Binds K (fd 15) ["_law_found", "_law_top", "_law_bottom"] []
  f__law_no_fraction : FunD K "_law_no_fraction" "_law_no_fraction" st__law_no_fraction (ad 16) (fd 16)
  m__law_no_fraction : mg "_law_no_fraction" = some (.ref (ad 16))
  b__law_no_fraction : Binds K (fd 16) ["_law_cell"] []
  f__law_pairs_right : FunD K "_law_pairs_right" "_law_pairs_right" st__law_pairs_right (ad 17) (fd 17)
  m__law_pairs_right : mg "_law_pairs_right" = some (.ref (ad 17))
  b__law_pairs_right : Binds K (fd 17) ["_law_one", "_law_other"] []
  f_law : FunD K "law" "law" st_law (ad 18) (fd 18)
  m_law : mg "law" = some (.ref (ad 18))
  b_law : Binds K (fd 18) ["_law_script"] []
  mc_BadNames : mg "BadNames" = some (.ref (cls 1))
  mc_BadStatement : mg "BadStatement" = some (.ref (cls 3))
  mc_BadTerm : mg "BadTerm" = some (.ref (cls 2))
  mc_NoNumber : mg "NoNumber" = some (.ref (cls 7))
  mc_NoRow : mg "NoRow" = some (.ref (cls 6))
  mc_NoText : mg "NoText" = some (.ref (cls 5))
  mc_NotTold : mg "NotTold" = some (.ref (cls 4))
  mc_PartError : mg "PartError" = some (.ref (cls 0))
  nc_NoNumber : PySem.W.nsIn K mainGlobals "NoNumber" = some (some (.ref (cls 7)))
  xc_NoNumber : PySem.W.excIn K (cls 7) [.type "ValueError", .type "Exception", .type "BaseException", .type "object"] "ValueError.__new__" = true
  o_BadNames : ∀ n k, tab n (.o 1) = some k → ExcC K (cls n) ∧ PySem.W.kitOne K (.ref (cls n)) (.ref (cls 1)) = some k
  o_BadStatement : ∀ n k, tab n (.o 3) = some k → ExcC K (cls n) ∧ PySem.W.kitOne K (.ref (cls n)) (.ref (cls 3)) = some k
  o_BadTerm : ∀ n k, tab n (.o 2) = some k → ExcC K (cls n) ∧ PySem.W.kitOne K (.ref (cls n)) (.ref (cls 2)) = some k
  o_NoNumber : ∀ n k, tab n (.o 7) = some k → ExcC K (cls n) ∧ PySem.W.kitOne K (.ref (cls n)) (.ref (cls 7)) = some k
  o_NoRow : ∀ n k, tab n (.o 6) = some k → ExcC K (cls n) ∧ PySem.W.kitOne K (.ref (cls n)) (.ref (cls 6)) = some k
  o_NoText : ∀ n k, tab n (.o 5) = some k → ExcC K (cls n) ∧ PySem.W.kitOne K (.ref (cls n)) (.ref (cls 5)) = some k
  o_NotTold : ∀ n k, tab n (.o 4) = some k → ExcC K (cls n) ∧ PySem.W.kitOne K (.ref (cls n)) (.ref (cls 4)) = some k
  o_ValueError : ∀ n k, tab n (.b "ValueError") = some k → ExcC K (cls n) ∧ PySem.W.kitOne K (.ref (cls n)) (.type "ValueError") = some k
  x_PartError : ∀ n, tab n (.o 0) = some true → PySem.W.exmOne K (.ref (cls n)) (.ref (cls 0)) = some true
  z_ValueError : mg "ValueError" = none
  z_abs : mg "abs" = none
  z_bool : mg "bool" = none
  z_int : mg "int" = none
  z_isinstance : mg "isinstance" = none
  z_len : mg "len" = none
  z_range : mg "range" = none
  z_tuple : mg "tuple" = none
end
section
variable {Pr : Program} {w : World} {K : PySem.W.Frag} {mg : Str → Option Value} {base : Heap} {ad : Nat → Addr} {fd : Nat → FuncData} {cls : Nat → Addr} {FF : Nat}
structure IH (Pr : Program) (w : World) (K : PySem.W.Frag) (mg : Str → Option Value) (base : Heap) (ad : Nat → Addr) (fd : Nat → FuncData) (cls : Nat → Addr) (FF n : Nat) : Prop where
  i_is_whole : FnOk Pr w K mg base (CXd Pr w) n (ad 0) (fd 0) ["thing"] (spD K cls 1 (callD tab fns FF n 0))
  i_is_fraction : FnOk Pr w K mg base (CXd Pr w) n (ad 1) (fd 1) ["thing"] (spD K cls 1 (callD tab fns FF n 1))
  i_common_divisor : FnOk Pr w K mg base (CXd Pr w) n (ad 2) (fd 2) ["one", "other"] (spD K cls 2 (callD tab fns FF n 2))
  i_fraction : FnOk Pr w K mg base (CXd Pr w) n (ad 3) (fd 3) ["top", "bottom"] (spD K cls 2 (callD tab fns FF n 3))
  i_plus : FnOk Pr w K mg base (CXd Pr w) n (ad 4) (fd 4) ["one", "other"] (spD K cls 2 (callD tab fns FF n 4))
  i_minus : FnOk Pr w K mg base (CXd Pr w) n (ad 5) (fd 5) ["one", "other"] (spD K cls 2 (callD tab fns FF n 5))
  i_times : FnOk Pr w K mg base (CXd Pr w) n (ad 6) (fd 6) ["one", "other"] (spD K cls 2 (callD tab fns FF n 6))
  i_under : FnOk Pr w K mg base (CXd Pr w) n (ad 7) (fd 7) ["one", "other"] (spD K cls 2 (callD tab fns FF n 7))
  i_floor_of : FnOk Pr w K mg base (CXd Pr w) n (ad 8) (fd 8) ["number"] (spD K cls 1 (callD tab fns FF n 8))
  i_ceiling_of : FnOk Pr w K mg base (CXd Pr w) n (ad 9) (fd 9) ["number"] (spD K cls 1 (callD tab fns FF n 9))
  i__law_cell_at : FnOk Pr w K mg base (CXd Pr w) n (ad 10) (fd 10) ["_law_script", "_law_k"] (spD K cls 2 (callD tab fns FF n 10))
  i__law_divisor : FnOk Pr w K mg base (CXd Pr w) n (ad 11) (fd 11) ["_law_one", "_law_other"] (spD K cls 2 (callD tab fns FF n 11))
  i__law_lowest : FnOk Pr w K mg base (CXd Pr w) n (ad 12) (fd 12) ["_law_top", "_law_bottom"] (spD K cls 2 (callD tab fns FF n 12))
  i__law_size : FnOk Pr w K mg base (CXd Pr w) n (ad 13) (fd 13) ["_law_cell"] (spD K cls 1 (callD tab fns FF n 13))
  i__law_refused : FnOk Pr w K mg base (CXd Pr w) n (ad 14) (fd 14) ["_law_top", "_law_bottom"] (spD K cls 2 (callD tab fns FF n 14))
  i__law_is : FnOk Pr w K mg base (CXd Pr w) n (ad 15) (fd 15) ["_law_found", "_law_top", "_law_bottom"] (spD K cls 3 (callD tab fns FF n 15))
  i__law_no_fraction : FnOk Pr w K mg base (CXd Pr w) n (ad 16) (fd 16) ["_law_cell"] (spD K cls 1 (callD tab fns FF n 16))
  i__law_pairs_right : FnOk Pr w K mg base (CXd Pr w) n (ad 17) (fd 17) ["_law_one", "_law_other"] (spD K cls 2 (callD tab fns FF n 17))
  i_law : FnOk Pr w K mg base (CXd Pr w) n (ad 18) (fd 18) ["_law_script"] (spD K cls 1 (callD tab fns FF n 18))
theorem sc_is_whole : FnScope ["thing"] ["thing"] (defScope st_is_whole) := ⟨rfl, rfl, rfl, by decide +kernel, rfl, by decide +kernel, by decide +kernel⟩
theorem lv_is_whole_0 : (defScope st_is_whole).names.lookup (Str.ofString "thing") = some NameKind.local := by decide +kernel
theorem ok_is_whole {n : Nat} (T : Txt K mg ad fd cls) (ih : IH Pr w K mg base ad fd cls FF n) : FnOk Pr w K mg base (CXd Pr w) (n + 1) (ad 0) (fd 0) ["thing"] (spD K cls 1 (callD tab fns FF (n + 1) 0)) := by
  refine fn_step (body' := c_is_whole) T.f_is_whole sc_is_whole rfl fun cdv A outer s H E hr => ?_
  have hu := hr.units
  refine ss_cons ?_ ?_
  · refine s_ret ?_
    · refine sd_and ?_ ?_
      · refine sd_isiB ?_ ?_ ?_ ?_ T.z_isinstance ?_ T.z_int ?_ ?_
        · rfl
        · decide
        · exact fun n => tab_b (by decide)
        · rfl
        · rfl
        · rfl
        · refine sd_var 0 ?_
          · exact pv 0 (hv := Or.inl lv_is_whole_0)
      · refine sd_one ?_
        · refine sd_not ?_
          · refine sd_isiB ?_ ?_ ?_ ?_ T.z_isinstance ?_ T.z_bool ?_ ?_
            · rfl
            · decide
            · exact fun n => tab_b (by decide)
            · rfl
            · rfl
            · rfl
            · refine sd_var 0 ?_
              · exact pv 0 (hv := Or.inl lv_is_whole_0)
  · exact ss_nil
theorem sc_is_fraction : FnScope ["thing", "top", "bottom"] ["thing"] (defScope st_is_fraction) := ⟨rfl, rfl, rfl, by decide +kernel, rfl, by decide +kernel, by decide +kernel⟩
theorem lv_is_fraction_0 : (defScope st_is_fraction).names.lookup (Str.ofString "thing") = some NameKind.local := by decide +kernel
theorem lv_is_fraction_1 : (defScope st_is_fraction).names.lookup (Str.ofString "top") = some NameKind.local := by decide +kernel
theorem lv_is_fraction_2 : (defScope st_is_fraction).names.lookup (Str.ofString "bottom") = some NameKind.local := by decide +kernel
theorem ok_is_fraction {n : Nat} (T : Txt K mg ad fd cls) (ih : IH Pr w K mg base ad fd cls FF n) : FnOk Pr w K mg base (CXd Pr w) (n + 1) (ad 1) (fd 1) ["thing"] (spD K cls 1 (callD tab fns FF (n + 1) 1)) := by
  refine fn_step (body' := c_is_fraction) T.f_is_fraction sc_is_fraction rfl fun cdv A outer s H E hr => ?_
  have hu := hr.units
  refine ss_cons ?_ ?_
  · refine s_if ?_ ?_ ?_
    · refine PW.pt ?_
      · refine sdt_or ?_ ?_
        · refine sdt_not ?_
          · refine sdt_val ?_ ?_ ?_ ?_
            · rfl
            · refine sd_isiB ?_ ?_ ?_ ?_ T.z_isinstance ?_ T.z_tuple ?_ ?_
              · rfl
              · decide
              · exact fun n => tab_b (by decide)
              · rfl
              · rfl
              · rfl
              · refine sd_var 0 ?_
                · exact pv 0 (hv := Or.inl lv_is_fraction_0)
            · exact hev_isi
            · intro _; rfl
        · refine sdt_or1 ?_
          · refine sdt_ne ?_ ?_ ?_ ?_
            · rfl
            · exact hu
            · refine sd_len ?_ ?_ T.z_len ?_
              · rfl
              · rfl
              · refine sdl_cons ?_ ?_
                · refine sd_var 0 ?_
                  · exact pv 0 (hv := Or.inl lv_is_fraction_0)
                · exact sdl_nil
            · exact sd_int
    · refine ss_cons ?_ ?_
      · refine s_ret ?_
        · exact sd_bl
      · exact ss_nil
    · exact ss_nil
  · refine ss_cons ?_ ?_
    · refine s_unp (is := [1, 2]) ?_ ?_
      · refine sd_var 0 ?_
        · exact pv 0 (hv := Or.inl lv_is_fraction_0)
      · refine pg_tup ?_ ?_
        · rfl
        · refine pgs_cons ?_ ?_
          · refine pg_name (i := 1) ?_ ?_ ?_
            · exact sc_is_fraction.nd
            · rfl
            · exact Or.inl lv_is_fraction_1
          · refine pgs_cons ?_ ?_
            · refine pg_name (i := 2) ?_ ?_ ?_
              · exact sc_is_fraction.nd
              · rfl
              · exact Or.inl lv_is_fraction_2
            · exact pgs_nil
    · refine ss_cons ?_ ?_
      · refine s_if ?_ ?_ ?_
        · refine PW.pt ?_
          · refine sdt_or ?_ ?_
            · refine sdt_not ?_
              · refine sdt_val ?_ ?_ ?_ ?_
                · rfl
                · refine sd_call ih.i_is_whole hr (by rfl) T.m_is_whole T.f_is_whole.kp T.b_is_whole .nil (fun _ _ => by simp [DD.RepL, DD.Rep]) pass_def (callD_len rfl) ?_
                  · refine sdl_cons ?_ ?_
                    · refine sd_var 1 ?_
                      · exact pv 1 (hv := Or.inl lv_is_fraction_1)
                    · exact sdl_nil
                · exact hev_call
                · intro _; rfl
            · refine sdt_or1 ?_
              · refine sdt_not ?_
                · refine sdt_val ?_ ?_ ?_ ?_
                  · rfl
                  · refine sd_call ih.i_is_whole hr (by rfl) T.m_is_whole T.f_is_whole.kp T.b_is_whole .nil (fun _ _ => by simp [DD.RepL, DD.Rep]) pass_def (callD_len rfl) ?_
                    · refine sdl_cons ?_ ?_
                      · refine sd_var 2 ?_
                        · exact pv 2 (hv := Or.inl lv_is_fraction_2)
                      · exact sdl_nil
                  · exact hev_call
                  · intro _; rfl
        · refine ss_cons ?_ ?_
          · refine s_ret ?_
            · exact sd_bl
          · exact ss_nil
        · exact ss_nil
      · refine ss_cons ?_ ?_
        · refine s_ret ?_
          · refine sd_and ?_ ?_
            · refine sd_ge ?_ ?_
              · refine sd_var 2 ?_
                · exact pv 2 (hv := Or.inl lv_is_fraction_2)
              · exact sd_int
            · refine sd_one ?_
              · refine sd_eq ?_ ?_ ?_ ?_
                · rfl
                · exact hu
                · refine sd_call ih.i_common_divisor hr (by rfl) T.m_common_divisor T.f_common_divisor.kp T.b_common_divisor .nil (fun _ _ => by simp [DD.RepL, DD.Rep]) pass_def (callD_len rfl) ?_
                  · refine sdl_cons ?_ ?_
                    · refine sd_var 1 ?_
                      · exact pv 1 (hv := Or.inl lv_is_fraction_1)
                    · refine sdl_cons ?_ ?_
                      · refine sd_var 2 ?_
                        · exact pv 2 (hv := Or.inl lv_is_fraction_2)
                      · exact sdl_nil
                · exact sd_int
        · exact ss_nil
theorem sc_common_divisor : FnScope ["one", "other"] ["one", "other"] (defScope st_common_divisor) := ⟨rfl, rfl, rfl, by decide +kernel, rfl, by decide +kernel, by decide +kernel⟩
theorem lv_common_divisor_0 : (defScope st_common_divisor).names.lookup (Str.ofString "one") = some NameKind.local := by decide +kernel
theorem lv_common_divisor_1 : (defScope st_common_divisor).names.lookup (Str.ofString "other") = some NameKind.local := by decide +kernel
theorem ok_common_divisor {n : Nat} (T : Txt K mg ad fd cls) (ih : IH Pr w K mg base ad fd cls FF n) : FnOk Pr w K mg base (CXd Pr w) (n + 1) (ad 2) (fd 2) ["one", "other"] (spD K cls 2 (callD tab fns FF (n + 1) 2)) := by
  refine fn_step (body' := c_common_divisor) T.f_common_divisor sc_common_divisor rfl fun cdv A outer s H E hr => ?_
  have hu := hr.units
  refine ss_cons ?_ ?_
  · refine s_par (i := 0) (j := 1) ?_ ?_ ?_ ?_ ?_ ?_ ?_ ?_ ?_ ?_
    · rfl
    · exact sc_common_divisor.nd
    · rfl
    · rfl
    · decide
    · exact lv_common_divisor_0
    · exact lv_common_divisor_1
    · refine sd_abs ?_ T.z_abs ?_
      · rfl
      · refine sdl_cons ?_ ?_
        · refine sd_var 0 ?_
          · exact pv 0 (hv := Or.inl lv_common_divisor_0)
        · exact sdl_nil
    · refine sd_abs ?_ T.z_abs ?_
      · rfl
      · refine sdl_cons ?_ ?_
        · refine sd_var 1 ?_
          · exact pv 1 (hv := Or.inl lv_common_divisor_1)
        · exact sdl_nil
    · rfl
  · refine ss_cons ?_ ?_
    · refine s_while ?_ ?_ ?_
      · exact PassesOwn.leaving
      · refine sdt_ne ?_ ?_ ?_ ?_
        · rfl
        · exact hu
        · refine sd_var 1 ?_
          · exact pv 1 (hv := Or.inl lv_common_divisor_1)
        · exact sd_int
      · refine ss_cons ?_ ?_
        · refine s_par (i := 0) (j := 1) ?_ ?_ ?_ ?_ ?_ ?_ ?_ ?_ ?_ ?_
          · rfl
          · exact sc_common_divisor.nd
          · rfl
          · rfl
          · decide
          · exact lv_common_divisor_0
          · exact lv_common_divisor_1
          · refine sd_var 1 ?_
            · exact pv 1 (hv := Or.inl lv_common_divisor_1)
          · refine sd_mod ?_ ?_
            · refine sd_var 0 ?_
              · exact pv 0 (hv := Or.inl lv_common_divisor_0)
            · refine sd_var 1 ?_
              · exact pv 1 (hv := Or.inl lv_common_divisor_1)
          · rfl
        · exact ss_nil
    · refine ss_cons ?_ ?_
      · refine s_ret ?_
        · refine sd_var 0 ?_
          · exact pv 0 (hv := Or.inl lv_common_divisor_0)
      · exact ss_nil
theorem sc_fraction : FnScope ["top", "bottom", "divisor"] ["top", "bottom"] (defScope st_fraction) := ⟨rfl, rfl, rfl, by decide +kernel, rfl, by decide +kernel, by decide +kernel⟩
theorem lv_fraction_0 : (defScope st_fraction).names.lookup (Str.ofString "top") = some NameKind.local := by decide +kernel
theorem lv_fraction_1 : (defScope st_fraction).names.lookup (Str.ofString "bottom") = some NameKind.local := by decide +kernel
theorem lv_fraction_2 : (defScope st_fraction).names.lookup (Str.ofString "divisor") = some NameKind.local := by decide +kernel
theorem ok_fraction {n : Nat} (T : Txt K mg ad fd cls) (ih : IH Pr w K mg base ad fd cls FF n) : FnOk Pr w K mg base (CXd Pr w) (n + 1) (ad 3) (fd 3) ["top", "bottom"] (spD K cls 2 (callD tab fns FF (n + 1) 3)) := by
  refine fn_step (body' := c_fraction) T.f_fraction sc_fraction rfl fun cdv A outer s H E hr => ?_
  have hu := hr.units
  refine ss_cons ?_ ?_
  · refine s_if ?_ ?_ ?_
    · refine PW.pt ?_
      · refine sdt_or ?_ ?_
        · refine sdt_not ?_
          · refine sdt_val ?_ ?_ ?_ ?_
            · rfl
            · refine sd_call ih.i_is_whole hr (by rfl) T.m_is_whole T.f_is_whole.kp T.b_is_whole .nil (fun _ _ => by simp [DD.RepL, DD.Rep]) pass_def (callD_len rfl) ?_
              · refine sdl_cons ?_ ?_
                · refine sd_var 0 ?_
                  · exact pv 0 (hv := Or.inl lv_fraction_0)
                · exact sdl_nil
            · exact hev_call
            · intro _; rfl
        · refine sdt_or1 ?_
          · refine sdt_not ?_
            · refine sdt_val ?_ ?_ ?_ ?_
              · rfl
              · refine sd_call ih.i_is_whole hr (by rfl) T.m_is_whole T.f_is_whole.kp T.b_is_whole .nil (fun _ _ => by simp [DD.RepL, DD.Rep]) pass_def (callD_len rfl) ?_
                · refine sdl_cons ?_ ?_
                  · refine sd_var 1 ?_
                    · exact pv 1 (hv := Or.inl lv_fraction_1)
                  · exact sdl_nil
              · exact hev_call
              · intro _; rfl
    · refine ss_cons ?_ ?_
      · refine s_raise ?_ ?_ ?_ T.nc_NoNumber T.mc_NoNumber T.xc_NoNumber
        · exact throws_def
        · exact hr.hd
        · rfl
      · exact ss_nil
    · exact ss_nil
  · refine ss_cons ?_ ?_
    · refine s_if ?_ ?_ ?_
      · refine sdt_eq ?_ ?_ ?_ ?_
        · rfl
        · exact hu
        · refine sd_var 1 ?_
          · exact pv 1 (hv := Or.inl lv_fraction_1)
        · exact sd_int
      · refine ss_cons ?_ ?_
        · refine s_raise ?_ ?_ ?_ T.nc_NoNumber T.mc_NoNumber T.xc_NoNumber
          · exact throws_def
          · exact hr.hd
          · rfl
        · exact ss_nil
      · exact ss_nil
    · refine ss_cons ?_ ?_
      · refine s_set (i := 2) ?_ ?_ ?_ ?_
        · exact sc_fraction.nd
        · rfl
        · exact Or.inl lv_fraction_2
        · refine sd_call ih.i_common_divisor hr (by rfl) T.m_common_divisor T.f_common_divisor.kp T.b_common_divisor .nil (fun _ _ => by simp [DD.RepL, DD.Rep]) pass_def (callD_len rfl) ?_
          · refine sdl_cons ?_ ?_
            · refine sd_var 0 ?_
              · exact pv 0 (hv := Or.inl lv_fraction_0)
            · refine sdl_cons ?_ ?_
              · refine sd_var 1 ?_
                · exact pv 1 (hv := Or.inl lv_fraction_1)
              · exact sdl_nil
      · refine ss_cons ?_ ?_
        · refine s_if ?_ ?_ ?_
          · refine sdt_lt ?_ ?_
            · refine sd_var 1 ?_
              · exact pv 1 (hv := Or.inl lv_fraction_1)
            · exact sd_int
          · refine ss_cons ?_ ?_
            · refine s_set (i := 2) ?_ ?_ ?_ ?_
              · exact sc_fraction.nd
              · rfl
              · exact Or.inl lv_fraction_2
              · refine sd_neg ?_
                · refine sd_var 2 ?_
                  · exact pv 2 (hv := Or.inl lv_fraction_2)
            · exact ss_nil
          · exact ss_nil
        · refine ss_cons ?_ ?_
          · refine s_ret ?_
            · refine sd_tup ?_
              · refine sdl_cons ?_ ?_
                · refine sd_fdiv ?_ ?_
                  · refine sd_var 0 ?_
                    · exact pv 0 (hv := Or.inl lv_fraction_0)
                  · refine sd_var 2 ?_
                    · exact pv 2 (hv := Or.inl lv_fraction_2)
                · refine sdl_cons ?_ ?_
                  · refine sd_fdiv ?_ ?_
                    · refine sd_var 1 ?_
                      · exact pv 1 (hv := Or.inl lv_fraction_1)
                    · refine sd_var 2 ?_
                      · exact pv 2 (hv := Or.inl lv_fraction_2)
                  · exact sdl_nil
          · exact ss_nil
theorem sc_plus : FnScope ["one", "other"] ["one", "other"] (defScope st_plus) := ⟨rfl, rfl, rfl, by decide +kernel, rfl, by decide +kernel, by decide +kernel⟩
theorem lv_plus_0 : (defScope st_plus).names.lookup (Str.ofString "one") = some NameKind.local := by decide +kernel
theorem lv_plus_1 : (defScope st_plus).names.lookup (Str.ofString "other") = some NameKind.local := by decide +kernel
theorem ok_plus {n : Nat} (T : Txt K mg ad fd cls) (ih : IH Pr w K mg base ad fd cls FF n) : FnOk Pr w K mg base (CXd Pr w) (n + 1) (ad 4) (fd 4) ["one", "other"] (spD K cls 2 (callD tab fns FF (n + 1) 4)) := by
  refine fn_step (body' := c_plus) T.f_plus sc_plus rfl fun cdv A outer s H E hr => ?_
  have hu := hr.units
  refine ss_cons ?_ ?_
  · refine s_if ?_ ?_ ?_
    · refine PW.pt ?_
      · refine sdt_and ?_ ?_
        · refine sdt_eq ?_ ?_ ?_ ?_
          · rfl
          · exact hu
          · refine sd_ix ?_ ?_ ?_ ?_
            · rfl
            · refine sd_var 0 ?_
              · exact pv 0 (hv := Or.inl lv_plus_0)
            · exact sd_int
            · intro _ _; rfl
          · exact sd_int
        · refine sdt_and1 ?_
          · refine sdt_eq ?_ ?_ ?_ ?_
            · rfl
            · exact hu
            · refine sd_ix ?_ ?_ ?_ ?_
              · rfl
              · refine sd_var 1 ?_
                · exact pv 1 (hv := Or.inl lv_plus_1)
              · exact sd_int
              · intro _ _; rfl
            · exact sd_int
    · refine ss_cons ?_ ?_
      · refine s_ret ?_
        · refine sd_tup ?_
          · refine sdl_cons ?_ ?_
            · refine sd_add ?_ ?_
              · refine sd_ix ?_ ?_ ?_ ?_
                · rfl
                · refine sd_var 0 ?_
                  · exact pv 0 (hv := Or.inl lv_plus_0)
                · exact sd_int
                · intro _ _; rfl
              · refine sd_ix ?_ ?_ ?_ ?_
                · rfl
                · refine sd_var 1 ?_
                  · exact pv 1 (hv := Or.inl lv_plus_1)
                · exact sd_int
                · intro _ _; rfl
            · refine sdl_cons ?_ ?_
              · exact sd_int
              · exact sdl_nil
      · exact ss_nil
    · exact ss_nil
  · refine ss_cons ?_ ?_
    · refine s_ret ?_
      · refine sd_call ih.i_fraction hr (by rfl) T.m_fraction T.f_fraction.kp T.b_fraction .nil (fun _ _ => by simp [DD.RepL, DD.Rep]) pass_def (callD_len rfl) ?_
        · refine sdl_cons ?_ ?_
          · refine sd_add ?_ ?_
            · refine sd_mul ?_ ?_
              · refine sd_ix ?_ ?_ ?_ ?_
                · rfl
                · refine sd_var 0 ?_
                  · exact pv 0 (hv := Or.inl lv_plus_0)
                · exact sd_int
                · intro _ _; rfl
              · refine sd_ix ?_ ?_ ?_ ?_
                · rfl
                · refine sd_var 1 ?_
                  · exact pv 1 (hv := Or.inl lv_plus_1)
                · exact sd_int
                · intro _ _; rfl
            · refine sd_mul ?_ ?_
              · refine sd_ix ?_ ?_ ?_ ?_
                · rfl
                · refine sd_var 1 ?_
                  · exact pv 1 (hv := Or.inl lv_plus_1)
                · exact sd_int
                · intro _ _; rfl
              · refine sd_ix ?_ ?_ ?_ ?_
                · rfl
                · refine sd_var 0 ?_
                  · exact pv 0 (hv := Or.inl lv_plus_0)
                · exact sd_int
                · intro _ _; rfl
          · refine sdl_cons ?_ ?_
            · refine sd_mul ?_ ?_
              · refine sd_ix ?_ ?_ ?_ ?_
                · rfl
                · refine sd_var 0 ?_
                  · exact pv 0 (hv := Or.inl lv_plus_0)
                · exact sd_int
                · intro _ _; rfl
              · refine sd_ix ?_ ?_ ?_ ?_
                · rfl
                · refine sd_var 1 ?_
                  · exact pv 1 (hv := Or.inl lv_plus_1)
                · exact sd_int
                · intro _ _; rfl
            · exact sdl_nil
    · exact ss_nil
theorem sc_minus : FnScope ["one", "other"] ["one", "other"] (defScope st_minus) := ⟨rfl, rfl, rfl, by decide +kernel, rfl, by decide +kernel, by decide +kernel⟩
theorem lv_minus_0 : (defScope st_minus).names.lookup (Str.ofString "one") = some NameKind.local := by decide +kernel
theorem lv_minus_1 : (defScope st_minus).names.lookup (Str.ofString "other") = some NameKind.local := by decide +kernel
theorem ok_minus {n : Nat} (T : Txt K mg ad fd cls) (ih : IH Pr w K mg base ad fd cls FF n) : FnOk Pr w K mg base (CXd Pr w) (n + 1) (ad 5) (fd 5) ["one", "other"] (spD K cls 2 (callD tab fns FF (n + 1) 5)) := by
  refine fn_step (body' := c_minus) T.f_minus sc_minus rfl fun cdv A outer s H E hr => ?_
  have hu := hr.units
  refine ss_cons ?_ ?_
  · refine s_ret ?_
    · refine sd_call ih.i_fraction hr (by rfl) T.m_fraction T.f_fraction.kp T.b_fraction .nil (fun _ _ => by simp [DD.RepL, DD.Rep]) pass_def (callD_len rfl) ?_
      · refine sdl_cons ?_ ?_
        · refine sd_sub ?_ ?_
          · refine sd_mul ?_ ?_
            · refine sd_ix ?_ ?_ ?_ ?_
              · rfl
              · refine sd_var 0 ?_
                · exact pv 0 (hv := Or.inl lv_minus_0)
              · exact sd_int
              · intro _ _; rfl
            · refine sd_ix ?_ ?_ ?_ ?_
              · rfl
              · refine sd_var 1 ?_
                · exact pv 1 (hv := Or.inl lv_minus_1)
              · exact sd_int
              · intro _ _; rfl
          · refine sd_mul ?_ ?_
            · refine sd_ix ?_ ?_ ?_ ?_
              · rfl
              · refine sd_var 1 ?_
                · exact pv 1 (hv := Or.inl lv_minus_1)
              · exact sd_int
              · intro _ _; rfl
            · refine sd_ix ?_ ?_ ?_ ?_
              · rfl
              · refine sd_var 0 ?_
                · exact pv 0 (hv := Or.inl lv_minus_0)
              · exact sd_int
              · intro _ _; rfl
        · refine sdl_cons ?_ ?_
          · refine sd_mul ?_ ?_
            · refine sd_ix ?_ ?_ ?_ ?_
              · rfl
              · refine sd_var 0 ?_
                · exact pv 0 (hv := Or.inl lv_minus_0)
              · exact sd_int
              · intro _ _; rfl
            · refine sd_ix ?_ ?_ ?_ ?_
              · rfl
              · refine sd_var 1 ?_
                · exact pv 1 (hv := Or.inl lv_minus_1)
              · exact sd_int
              · intro _ _; rfl
          · exact sdl_nil
  · exact ss_nil
theorem sc_times : FnScope ["one", "other"] ["one", "other"] (defScope st_times) := ⟨rfl, rfl, rfl, by decide +kernel, rfl, by decide +kernel, by decide +kernel⟩
theorem lv_times_0 : (defScope st_times).names.lookup (Str.ofString "one") = some NameKind.local := by decide +kernel
theorem lv_times_1 : (defScope st_times).names.lookup (Str.ofString "other") = some NameKind.local := by decide +kernel
theorem ok_times {n : Nat} (T : Txt K mg ad fd cls) (ih : IH Pr w K mg base ad fd cls FF n) : FnOk Pr w K mg base (CXd Pr w) (n + 1) (ad 6) (fd 6) ["one", "other"] (spD K cls 2 (callD tab fns FF (n + 1) 6)) := by
  refine fn_step (body' := c_times) T.f_times sc_times rfl fun cdv A outer s H E hr => ?_
  have hu := hr.units
  refine ss_cons ?_ ?_
  · refine s_if ?_ ?_ ?_
    · refine PW.pt ?_
      · refine sdt_and ?_ ?_
        · refine sdt_eq ?_ ?_ ?_ ?_
          · rfl
          · exact hu
          · refine sd_ix ?_ ?_ ?_ ?_
            · rfl
            · refine sd_var 0 ?_
              · exact pv 0 (hv := Or.inl lv_times_0)
            · exact sd_int
            · intro _ _; rfl
          · exact sd_int
        · refine sdt_and1 ?_
          · refine sdt_eq ?_ ?_ ?_ ?_
            · rfl
            · exact hu
            · refine sd_ix ?_ ?_ ?_ ?_
              · rfl
              · refine sd_var 1 ?_
                · exact pv 1 (hv := Or.inl lv_times_1)
              · exact sd_int
              · intro _ _; rfl
            · exact sd_int
    · refine ss_cons ?_ ?_
      · refine s_ret ?_
        · refine sd_tup ?_
          · refine sdl_cons ?_ ?_
            · refine sd_mul ?_ ?_
              · refine sd_ix ?_ ?_ ?_ ?_
                · rfl
                · refine sd_var 0 ?_
                  · exact pv 0 (hv := Or.inl lv_times_0)
                · exact sd_int
                · intro _ _; rfl
              · refine sd_ix ?_ ?_ ?_ ?_
                · rfl
                · refine sd_var 1 ?_
                  · exact pv 1 (hv := Or.inl lv_times_1)
                · exact sd_int
                · intro _ _; rfl
            · refine sdl_cons ?_ ?_
              · exact sd_int
              · exact sdl_nil
      · exact ss_nil
    · exact ss_nil
  · refine ss_cons ?_ ?_
    · refine s_ret ?_
      · refine sd_call ih.i_fraction hr (by rfl) T.m_fraction T.f_fraction.kp T.b_fraction .nil (fun _ _ => by simp [DD.RepL, DD.Rep]) pass_def (callD_len rfl) ?_
        · refine sdl_cons ?_ ?_
          · refine sd_mul ?_ ?_
            · refine sd_ix ?_ ?_ ?_ ?_
              · rfl
              · refine sd_var 0 ?_
                · exact pv 0 (hv := Or.inl lv_times_0)
              · exact sd_int
              · intro _ _; rfl
            · refine sd_ix ?_ ?_ ?_ ?_
              · rfl
              · refine sd_var 1 ?_
                · exact pv 1 (hv := Or.inl lv_times_1)
              · exact sd_int
              · intro _ _; rfl
          · refine sdl_cons ?_ ?_
            · refine sd_mul ?_ ?_
              · refine sd_ix ?_ ?_ ?_ ?_
                · rfl
                · refine sd_var 0 ?_
                  · exact pv 0 (hv := Or.inl lv_times_0)
                · exact sd_int
                · intro _ _; rfl
              · refine sd_ix ?_ ?_ ?_ ?_
                · rfl
                · refine sd_var 1 ?_
                  · exact pv 1 (hv := Or.inl lv_times_1)
                · exact sd_int
                · intro _ _; rfl
            · exact sdl_nil
    · exact ss_nil
theorem sc_under : FnScope ["one", "other"] ["one", "other"] (defScope st_under) := ⟨rfl, rfl, rfl, by decide +kernel, rfl, by decide +kernel, by decide +kernel⟩
theorem lv_under_0 : (defScope st_under).names.lookup (Str.ofString "one") = some NameKind.local := by decide +kernel
theorem lv_under_1 : (defScope st_under).names.lookup (Str.ofString "other") = some NameKind.local := by decide +kernel
theorem ok_under {n : Nat} (T : Txt K mg ad fd cls) (ih : IH Pr w K mg base ad fd cls FF n) : FnOk Pr w K mg base (CXd Pr w) (n + 1) (ad 7) (fd 7) ["one", "other"] (spD K cls 2 (callD tab fns FF (n + 1) 7)) := by
  refine fn_step (body' := c_under) T.f_under sc_under rfl fun cdv A outer s H E hr => ?_
  have hu := hr.units
  refine ss_cons ?_ ?_
  · refine s_ret ?_
    · refine sd_lt ?_ ?_
      · refine sd_mul ?_ ?_
        · refine sd_ix ?_ ?_ ?_ ?_
          · rfl
          · refine sd_var 0 ?_
            · exact pv 0 (hv := Or.inl lv_under_0)
          · exact sd_int
          · intro _ _; rfl
        · refine sd_ix ?_ ?_ ?_ ?_
          · rfl
          · refine sd_var 1 ?_
            · exact pv 1 (hv := Or.inl lv_under_1)
          · exact sd_int
          · intro _ _; rfl
      · refine sd_mul ?_ ?_
        · refine sd_ix ?_ ?_ ?_ ?_
          · rfl
          · refine sd_var 1 ?_
            · exact pv 1 (hv := Or.inl lv_under_1)
          · exact sd_int
          · intro _ _; rfl
        · refine sd_ix ?_ ?_ ?_ ?_
          · rfl
          · refine sd_var 0 ?_
            · exact pv 0 (hv := Or.inl lv_under_0)
          · exact sd_int
          · intro _ _; rfl
  · exact ss_nil
theorem sc_floor_of : FnScope ["number"] ["number"] (defScope st_floor_of) := ⟨rfl, rfl, rfl, by decide +kernel, rfl, by decide +kernel, by decide +kernel⟩
theorem lv_floor_of_0 : (defScope st_floor_of).names.lookup (Str.ofString "number") = some NameKind.local := by decide +kernel
theorem ok_floor_of {n : Nat} (T : Txt K mg ad fd cls) (ih : IH Pr w K mg base ad fd cls FF n) : FnOk Pr w K mg base (CXd Pr w) (n + 1) (ad 8) (fd 8) ["number"] (spD K cls 1 (callD tab fns FF (n + 1) 8)) := by
  refine fn_step (body' := c_floor_of) T.f_floor_of sc_floor_of rfl fun cdv A outer s H E hr => ?_
  have hu := hr.units
  refine ss_cons ?_ ?_
  · refine s_ret ?_
    · refine sd_fdiv ?_ ?_
      · refine sd_ix ?_ ?_ ?_ ?_
        · rfl
        · refine sd_var 0 ?_
          · exact pv 0 (hv := Or.inl lv_floor_of_0)
        · exact sd_int
        · intro _ _; rfl
      · refine sd_ix ?_ ?_ ?_ ?_
        · rfl
        · refine sd_var 0 ?_
          · exact pv 0 (hv := Or.inl lv_floor_of_0)
        · exact sd_int
        · intro _ _; rfl
  · exact ss_nil
theorem sc_ceiling_of : FnScope ["number"] ["number"] (defScope st_ceiling_of) := ⟨rfl, rfl, rfl, by decide +kernel, rfl, by decide +kernel, by decide +kernel⟩
theorem lv_ceiling_of_0 : (defScope st_ceiling_of).names.lookup (Str.ofString "number") = some NameKind.local := by decide +kernel
theorem ok_ceiling_of {n : Nat} (T : Txt K mg ad fd cls) (ih : IH Pr w K mg base ad fd cls FF n) : FnOk Pr w K mg base (CXd Pr w) (n + 1) (ad 9) (fd 9) ["number"] (spD K cls 1 (callD tab fns FF (n + 1) 9)) := by
  refine fn_step (body' := c_ceiling_of) T.f_ceiling_of sc_ceiling_of rfl fun cdv A outer s H E hr => ?_
  have hu := hr.units
  refine ss_cons ?_ ?_
  · refine s_ret ?_
    · refine sd_neg ?_
      · refine sd_fdiv ?_ ?_
        · refine sd_neg ?_
          · refine sd_ix ?_ ?_ ?_ ?_
            · rfl
            · refine sd_var 0 ?_
              · exact pv 0 (hv := Or.inl lv_ceiling_of_0)
            · exact sd_int
            · intro _ _; rfl
        · refine sd_ix ?_ ?_ ?_ ?_
          · rfl
          · refine sd_var 0 ?_
            · exact pv 0 (hv := Or.inl lv_ceiling_of_0)
          · exact sd_int
          · intro _ _; rfl
  · exact ss_nil
theorem sc__law_cell_at : FnScope ["_law_script", "_law_k"] ["_law_script", "_law_k"] (defScope st__law_cell_at) := ⟨rfl, rfl, rfl, by decide +kernel, rfl, by decide +kernel, by decide +kernel⟩
theorem lv__law_cell_at_0 : (defScope st__law_cell_at).names.lookup (Str.ofString "_law_script") = some NameKind.local := by decide +kernel
theorem lv__law_cell_at_1 : (defScope st__law_cell_at).names.lookup (Str.ofString "_law_k") = some NameKind.local := by decide +kernel
theorem ok__law_cell_at {n : Nat} (T : Txt K mg ad fd cls) (ih : IH Pr w K mg base ad fd cls FF n) : FnOk Pr w K mg base (CXd Pr w) (n + 1) (ad 10) (fd 10) ["_law_script", "_law_k"] (spD K cls 2 (callD tab fns FF (n + 1) 10)) := by
  refine fn_step (body' := c__law_cell_at) T.f__law_cell_at sc__law_cell_at rfl fun cdv A outer s H E hr => ?_
  have hu := hr.units
  refine ss_cons ?_ ?_
  · refine s_if ?_ ?_ ?_
    · refine sdt_lt ?_ ?_
      · refine sd_var 1 ?_
        · exact pv 1 (hv := Or.inl lv__law_cell_at_1)
      · refine sd_len ?_ ?_ T.z_len ?_
        · rfl
        · rfl
        · refine sdl_cons ?_ ?_
          · refine sd_var 0 ?_
            · exact pv 0 (hv := Or.inl lv__law_cell_at_0)
          · exact sdl_nil
    · refine ss_cons ?_ ?_
      · refine s_ret ?_
        · refine sd_ix ?_ ?_ ?_ ?_
          · rfl
          · refine sd_var 0 ?_
            · exact pv 0 (hv := Or.inl lv__law_cell_at_0)
          · refine sd_var 1 ?_
            · exact pv 1 (hv := Or.inl lv__law_cell_at_1)
          · intro _ _; rfl
      · exact ss_nil
    · exact ss_nil
  · refine ss_cons ?_ ?_
    · refine s_ret ?_
      · exact sd_int
    · exact ss_nil
theorem sc__law_divisor : FnScope ["_law_one", "_law_other"] ["_law_one", "_law_other"] (defScope st__law_divisor) := ⟨rfl, rfl, rfl, by decide +kernel, rfl, by decide +kernel, by decide +kernel⟩
theorem lv__law_divisor_0 : (defScope st__law_divisor).names.lookup (Str.ofString "_law_one") = some NameKind.local := by decide +kernel
theorem lv__law_divisor_1 : (defScope st__law_divisor).names.lookup (Str.ofString "_law_other") = some NameKind.local := by decide +kernel
theorem ok__law_divisor {n : Nat} (T : Txt K mg ad fd cls) (ih : IH Pr w K mg base ad fd cls FF n) : FnOk Pr w K mg base (CXd Pr w) (n + 1) (ad 11) (fd 11) ["_law_one", "_law_other"] (spD K cls 2 (callD tab fns FF (n + 1) 11)) := by
  refine fn_step (body' := c__law_divisor) T.f__law_divisor sc__law_divisor rfl fun cdv A outer s H E hr => ?_
  have hu := hr.units
  refine ss_cons ?_ ?_
  · refine s_while ?_ ?_ ?_
    · exact PassesOwn.leaving
    · refine sdt_ne ?_ ?_ ?_ ?_
      · rfl
      · exact hu
      · refine sd_var 1 ?_
        · exact pv 1 (hv := Or.inl lv__law_divisor_1)
      · exact sd_int
    · refine ss_cons ?_ ?_
      · refine s_par (i := 0) (j := 1) ?_ ?_ ?_ ?_ ?_ ?_ ?_ ?_ ?_ ?_
        · rfl
        · exact sc__law_divisor.nd
        · rfl
        · rfl
        · decide
        · exact lv__law_divisor_0
        · exact lv__law_divisor_1
        · refine sd_var 1 ?_
          · exact pv 1 (hv := Or.inl lv__law_divisor_1)
        · refine sd_mod ?_ ?_
          · refine sd_var 0 ?_
            · exact pv 0 (hv := Or.inl lv__law_divisor_0)
          · refine sd_var 1 ?_
            · exact pv 1 (hv := Or.inl lv__law_divisor_1)
        · rfl
      · exact ss_nil
  · refine ss_cons ?_ ?_
    · refine s_ret ?_
      · refine sd_abs ?_ T.z_abs ?_
        · rfl
        · refine sdl_cons ?_ ?_
          · refine sd_var 0 ?_
            · exact pv 0 (hv := Or.inl lv__law_divisor_0)
          · exact sdl_nil
    · exact ss_nil
theorem sc__law_lowest : FnScope ["_law_top", "_law_bottom", "_law_share"] ["_law_top", "_law_bottom"] (defScope st__law_lowest) := ⟨rfl, rfl, rfl, by decide +kernel, rfl, by decide +kernel, by decide +kernel⟩
theorem lv__law_lowest_0 : (defScope st__law_lowest).names.lookup (Str.ofString "_law_top") = some NameKind.local := by decide +kernel
theorem lv__law_lowest_1 : (defScope st__law_lowest).names.lookup (Str.ofString "_law_bottom") = some NameKind.local := by decide +kernel
theorem lv__law_lowest_2 : (defScope st__law_lowest).names.lookup (Str.ofString "_law_share") = some NameKind.local := by decide +kernel
theorem ok__law_lowest {n : Nat} (T : Txt K mg ad fd cls) (ih : IH Pr w K mg base ad fd cls FF n) : FnOk Pr w K mg base (CXd Pr w) (n + 1) (ad 12) (fd 12) ["_law_top", "_law_bottom"] (spD K cls 2 (callD tab fns FF (n + 1) 12)) := by
  refine fn_step (body' := c__law_lowest) T.f__law_lowest sc__law_lowest rfl fun cdv A outer s H E hr => ?_
  have hu := hr.units
  refine ss_cons ?_ ?_
  · refine s_set (i := 2) ?_ ?_ ?_ ?_
    · exact sc__law_lowest.nd
    · rfl
    · exact Or.inl lv__law_lowest_2
    · refine sd_mul ?_ ?_
      · refine sd_call ih.i__law_divisor hr (by rfl) T.m__law_divisor T.f__law_divisor.kp T.b__law_divisor .nil (fun _ _ => by simp [DD.RepL, DD.Rep]) pass_def (callD_len rfl) ?_
        · refine sdl_cons ?_ ?_
          · refine sd_var 0 ?_
            · exact pv 0 (hv := Or.inl lv__law_lowest_0)
          · refine sdl_cons ?_ ?_
            · refine sd_var 1 ?_
              · exact pv 1 (hv := Or.inl lv__law_lowest_1)
            · exact sdl_nil
      · refine sd_ix ?_ ?_ ?_ ?_
        · rfl
        · refine sd_lst ?_
          · refine sdl_cons ?_ ?_
            · exact sd_int
            · refine sdl_cons ?_ ?_
              · refine sd_sub ?_ ?_
                · exact sd_int
                · exact sd_int
              · exact sdl_nil
        · refine sd_int1 ?_ T.z_int ?_
          · rfl
          · refine sdl_cons ?_ ?_
            · refine sd_lt ?_ ?_
              · refine sd_var 1 ?_
                · exact pv 1 (hv := Or.inl lv__law_lowest_1)
              · exact sd_int
            · exact sdl_nil
        · intro _ _; rfl
  · refine ss_cons ?_ ?_
    · refine s_ret ?_
      · refine sd_tup ?_
        · refine sdl_cons ?_ ?_
          · refine sd_fdiv ?_ ?_
            · refine sd_var 0 ?_
              · exact pv 0 (hv := Or.inl lv__law_lowest_0)
            · refine sd_var 2 ?_
              · exact pv 2 (hv := Or.inl lv__law_lowest_2)
          · refine sdl_cons ?_ ?_
            · refine sd_fdiv ?_ ?_
              · refine sd_var 1 ?_
                · exact pv 1 (hv := Or.inl lv__law_lowest_1)
              · refine sd_var 2 ?_
                · exact pv 2 (hv := Or.inl lv__law_lowest_2)
            · exact sdl_nil
    · exact ss_nil
theorem sc__law_size : FnScope ["_law_cell"] ["_law_cell"] (defScope st__law_size) := ⟨rfl, rfl, rfl, by decide +kernel, rfl, by decide +kernel, by decide +kernel⟩
theorem lv__law_size_0 : (defScope st__law_size).names.lookup (Str.ofString "_law_cell") = some NameKind.local := by decide +kernel
theorem ok__law_size {n : Nat} (T : Txt K mg ad fd cls) (ih : IH Pr w K mg base ad fd cls FF n) : FnOk Pr w K mg base (CXd Pr w) (n + 1) (ad 13) (fd 13) ["_law_cell"] (spD K cls 1 (callD tab fns FF (n + 1) 13)) := by
  refine fn_step (body' := c__law_size) T.f__law_size sc__law_size rfl fun cdv A outer s H E hr => ?_
  have hu := hr.units
  refine ss_cons ?_ ?_
  · refine s_if ?_ ?_ ?_
    · refine sdt_eq ?_ ?_ ?_ ?_
      · rfl
      · exact hu
      · refine sd_mod ?_ ?_
        · refine sd_var 0 ?_
          · exact pv 0 (hv := Or.inl lv__law_size_0)
        · exact sd_int
      · exact sd_int
    · refine ss_cons ?_ ?_
      · refine s_ret ?_
        · refine sd_sub ?_ ?_
          · refine sd_mod ?_ ?_
            · refine sd_fdiv ?_ ?_
              · refine sd_var 0 ?_
                · exact pv 0 (hv := Or.inl lv__law_size_0)
              · exact sd_int
            · exact sd_int
          · exact sd_int
      · exact ss_nil
    · exact ss_nil
  · refine ss_cons ?_ ?_
    · refine s_if ?_ ?_ ?_
      · refine sdt_eq ?_ ?_ ?_ ?_
        · rfl
        · exact hu
        · refine sd_mod ?_ ?_
          · refine sd_var 0 ?_
            · exact pv 0 (hv := Or.inl lv__law_size_0)
          · exact sd_int
        · exact sd_int
      · refine ss_cons ?_ ?_
        · refine s_ret ?_
          · refine sd_sub ?_ ?_
            · refine sd_mod ?_ ?_
              · refine sd_fdiv ?_ ?_
                · refine sd_var 0 ?_
                  · exact pv 0 (hv := Or.inl lv__law_size_0)
                · exact sd_int
              · refine sd_pow ?_ ?_
                · exact sd_int
                · exact sd_int
            · refine sd_mul ?_ ?_
              · exact sd_int
              · refine sd_pow ?_ ?_
                · exact sd_int
                · exact sd_int
        · exact ss_nil
      · exact ss_nil
    · refine ss_cons ?_ ?_
      · refine s_ret ?_
        · refine sd_sub ?_ ?_
          · refine sd_mod ?_ ?_
            · refine sd_mul ?_ ?_
              · refine sd_fdiv ?_ ?_
                · refine sd_var 0 ?_
                  · exact pv 0 (hv := Or.inl lv__law_size_0)
                · exact sd_int
              · exact sd_int
            · refine sd_pow ?_ ?_
              · exact sd_int
              · exact sd_int
          · refine sd_mul ?_ ?_
            · exact sd_int
            · refine sd_pow ?_ ?_
              · exact sd_int
              · exact sd_int
      · exact ss_nil
theorem sc__law_refused : FnScope ["_law_top", "_law_bottom", "e", "_law_others"] ["_law_top", "_law_bottom"] (defScope st__law_refused) := ⟨rfl, rfl, rfl, by decide +kernel, rfl, by decide +kernel, by decide +kernel⟩
theorem lv__law_refused_0 : (defScope st__law_refused).names.lookup (Str.ofString "_law_top") = some NameKind.local := by decide +kernel
theorem lv__law_refused_1 : (defScope st__law_refused).names.lookup (Str.ofString "_law_bottom") = some NameKind.local := by decide +kernel
theorem lv__law_refused_2 : (defScope st__law_refused).names.lookup (Str.ofString "e") = some NameKind.local := by decide +kernel
theorem lv__law_refused_3 : (defScope st__law_refused).names.lookup (Str.ofString "_law_others") = some NameKind.local := by decide +kernel
theorem ok__law_refused {n : Nat} (T : Txt K mg ad fd cls) (ih : IH Pr w K mg base ad fd cls FF n) : FnOk Pr w K mg base (CXd Pr w) (n + 1) (ad 14) (fd 14) ["_law_top", "_law_bottom"] (spD K cls 2 (callD tab fns FF (n + 1) 14)) := by
  refine fn_step (body' := c__law_refused) T.f__law_refused sc__law_refused rfl fun cdv A outer s H E hr => ?_
  have hu := hr.units
  refine ss_cons ?_ ?_
  · refine s_try (i := 2) (C := 0) ?_ ?_ ?_ ?_ ?_ ?_ ?_ ?_ T.mc_PartError T.x_PartError ?_ ?_
    · intro _; rfl
    · rfl
    · rfl
    · rfl
    · exact sc__law_refused.nd
    · rfl
    · exact lv__law_refused_2
    · rfl
    · intro pn E0 xe0 hp0 hx0
      refine ss_cons ?_ ?_
      · refine s_ex ?_
        · refine sd_call ih.i_fraction hr (by rfl) T.m_fraction T.f_fraction.kp T.b_fraction .nil (fun _ _ => by simp [DD.RepL, DD.Rep]) hx0 (callD_len rfl) ?_
          · refine sdl_cons ?_ ?_
            · refine sd_var 0 ?_
              · exact pv 0 (hv := Or.inl lv__law_refused_0)
            · refine sdl_cons ?_ ?_
              · refine sd_var 1 ?_
                · exact pv 1 (hv := Or.inl lv__law_refused_1)
              · exact sdl_nil
      · exact ss_nil
    · intro a
      refine ss_cons ?_ ?_
      · refine s_set (i := 3) ?_ ?_ ?_ ?_
        · exact sc__law_refused.nd
        · rfl
        · exact Or.inl lv__law_refused_3
        · refine sd_lst ?_
          · refine sdl_cons ?_ ?_
            · refine sd_isiO ?_ T.o_BadNames ?_ T.z_isinstance ?_ T.mc_BadNames ?_
              · rfl
              · rfl
              · rfl
              · refine sd_var 2 ?_
                · exact pv 2 (hv := Or.inl lv__law_refused_2)
            · refine sdl_cons ?_ ?_
              · refine sd_isiO ?_ T.o_BadTerm ?_ T.z_isinstance ?_ T.mc_BadTerm ?_
                · rfl
                · rfl
                · rfl
                · refine sd_var 2 ?_
                  · exact pv 2 (hv := Or.inl lv__law_refused_2)
              · exact sdl_nil
      · refine ss_cons ?_ ?_
        · refine s_set (i := 3) ?_ ?_ ?_ ?_
          · exact sc__law_refused.nd
          · rfl
          · exact Or.inl lv__law_refused_3
          · refine sd_add ?_ ?_
            · refine sd_var 3 ?_
              · exact pv 3 (hv := Or.inl lv__law_refused_3)
            · refine sd_lst ?_
              · refine sdl_cons ?_ ?_
                · refine sd_isiO ?_ T.o_BadStatement ?_ T.z_isinstance ?_ T.mc_BadStatement ?_
                  · rfl
                  · rfl
                  · rfl
                  · refine sd_var 2 ?_
                    · exact pv 2 (hv := Or.inl lv__law_refused_2)
                · refine sdl_cons ?_ ?_
                  · refine sd_isiO ?_ T.o_NotTold ?_ T.z_isinstance ?_ T.mc_NotTold ?_
                    · rfl
                    · rfl
                    · rfl
                    · refine sd_var 2 ?_
                      · exact pv 2 (hv := Or.inl lv__law_refused_2)
                  · exact sdl_nil
        · refine ss_cons ?_ ?_
          · refine s_set (i := 3) ?_ ?_ ?_ ?_
            · exact sc__law_refused.nd
            · rfl
            · exact Or.inl lv__law_refused_3
            · refine sd_add ?_ ?_
              · refine sd_var 3 ?_
                · exact pv 3 (hv := Or.inl lv__law_refused_3)
              · refine sd_lst ?_
                · refine sdl_cons ?_ ?_
                  · refine sd_isiO ?_ T.o_NoText ?_ T.z_isinstance ?_ T.mc_NoText ?_
                    · rfl
                    · rfl
                    · rfl
                    · refine sd_var 2 ?_
                      · exact pv 2 (hv := Or.inl lv__law_refused_2)
                  · refine sdl_cons ?_ ?_
                    · refine sd_isiO ?_ T.o_NoRow ?_ T.z_isinstance ?_ T.mc_NoRow ?_
                      · rfl
                      · rfl
                      · rfl
                      · refine sd_var 2 ?_
                        · exact pv 2 (hv := Or.inl lv__law_refused_2)
                    · exact sdl_nil
          · refine ss_cons ?_ ?_
            · refine s_ret ?_
              · refine sd_and ?_ ?_
                · refine sd_isiO ?_ T.o_NoNumber ?_ T.z_isinstance ?_ T.mc_NoNumber ?_
                  · rfl
                  · rfl
                  · rfl
                  · refine sd_var 2 ?_
                    · exact pv 2 (hv := Or.inl lv__law_refused_2)
                · refine sd_and ?_ ?_
                  · refine sd_isiE ?_ ?_ ?_ T.o_ValueError ?_ T.z_isinstance ?_ T.z_ValueError ?_ ?_
                    · rfl
                    · decide
                    · decide
                    · rfl
                    · rfl
                    · rfl
                    · refine sd_var 2 ?_
                      · exact pv 2 (hv := Or.inl lv__law_refused_2)
                  · refine sd_one ?_
                    · refine sd_notIn ?_ ?_ ?_
                      · rfl
                      · exact sd_bl
                      · refine sd_var 3 ?_
                        · exact pv 3 (hv := Or.inl lv__law_refused_3)
            · exact ss_nil
  · refine ss_cons ?_ ?_
    · refine s_ret ?_
      · exact sd_bl
    · exact ss_nil
theorem sc__law_is : FnScope ["_law_found", "_law_top", "_law_bottom"] ["_law_found", "_law_top", "_law_bottom"] (defScope st__law_is) := ⟨rfl, rfl, rfl, by decide +kernel, rfl, by decide +kernel, by decide +kernel⟩
theorem lv__law_is_0 : (defScope st__law_is).names.lookup (Str.ofString "_law_found") = some NameKind.local := by decide +kernel
theorem lv__law_is_1 : (defScope st__law_is).names.lookup (Str.ofString "_law_top") = some NameKind.local := by decide +kernel
theorem lv__law_is_2 : (defScope st__law_is).names.lookup (Str.ofString "_law_bottom") = some NameKind.local := by decide +kernel
theorem ok__law_is {n : Nat} (T : Txt K mg ad fd cls) (ih : IH Pr w K mg base ad fd cls FF n) : FnOk Pr w K mg base (CXd Pr w) (n + 1) (ad 15) (fd 15) ["_law_found", "_law_top", "_law_bottom"] (spD K cls 3 (callD tab fns FF (n + 1) 15)) := by
  refine fn_step (body' := c__law_is) T.f__law_is sc__law_is rfl fun cdv A outer s H E hr => ?_
  have hu := hr.units
  refine ss_cons ?_ ?_
  · refine s_if ?_ ?_ ?_
    · refine PW.pt ?_
      · refine sdt_or ?_ ?_
        · refine sdt_not ?_
          · refine sdt_val ?_ ?_ ?_ ?_
            · rfl
            · refine sd_isiB ?_ ?_ ?_ ?_ T.z_isinstance ?_ T.z_tuple ?_ ?_
              · rfl
              · decide
              · exact fun n => tab_b (by decide)
              · rfl
              · rfl
              · rfl
              · refine sd_var 0 ?_
                · exact pv 0 (hv := Or.inl lv__law_is_0)
            · exact hev_isi
            · intro _; rfl
        · refine sdt_or ?_ ?_
          · refine sdt_ne ?_ ?_ ?_ ?_
            · rfl
            · exact hu
            · refine sd_len ?_ ?_ T.z_len ?_
              · rfl
              · rfl
              · refine sdl_cons ?_ ?_
                · refine sd_var 0 ?_
                  · exact pv 0 (hv := Or.inl lv__law_is_0)
                · exact sdl_nil
            · exact sd_int
          · refine sdt_or ?_ ?_
            · refine sdt_val ?_ ?_ ?_ ?_
              · rfl
              · refine sd_isiB ?_ ?_ ?_ ?_ T.z_isinstance ?_ T.z_bool ?_ ?_
                · rfl
                · decide
                · exact fun n => tab_b (by decide)
                · rfl
                · rfl
                · rfl
                · refine sd_ix ?_ ?_ ?_ ?_
                  · rfl
                  · refine sd_var 0 ?_
                    · exact pv 0 (hv := Or.inl lv__law_is_0)
                  · exact sd_int
                  · intro _ _; rfl
              · exact hev_isi
              · intro _; rfl
            · refine sdt_or1 ?_
              · refine sdt_val ?_ ?_ ?_ ?_
                · rfl
                · refine sd_isiB ?_ ?_ ?_ ?_ T.z_isinstance ?_ T.z_bool ?_ ?_
                  · rfl
                  · decide
                  · exact fun n => tab_b (by decide)
                  · rfl
                  · rfl
                  · rfl
                  · refine sd_ix ?_ ?_ ?_ ?_
                    · rfl
                    · refine sd_var 0 ?_
                      · exact pv 0 (hv := Or.inl lv__law_is_0)
                    · exact sd_int
                    · intro _ _; rfl
                · exact hev_isi
                · intro _; rfl
    · refine ss_cons ?_ ?_
      · refine s_ret ?_
        · exact sd_bl
      · exact ss_nil
    · exact ss_nil
  · refine ss_cons ?_ ?_
    · refine s_ret ?_
      · refine sd_eq ?_ ?_ ?_ ?_
        · rfl
        · exact hu
        · refine sd_var 0 ?_
          · exact pv 0 (hv := Or.inl lv__law_is_0)
        · refine sd_call ih.i__law_lowest hr (by rfl) T.m__law_lowest T.f__law_lowest.kp T.b__law_lowest .nil (fun _ _ => by simp [DD.RepL, DD.Rep]) pass_def (callD_len rfl) ?_
          · refine sdl_cons ?_ ?_
            · refine sd_var 1 ?_
              · exact pv 1 (hv := Or.inl lv__law_is_1)
            · refine sdl_cons ?_ ?_
              · refine sd_var 2 ?_
                · exact pv 2 (hv := Or.inl lv__law_is_2)
              · exact sdl_nil
    · exact ss_nil
theorem sc__law_no_fraction : FnScope ["_law_cell", "_law_some"] ["_law_cell"] (defScope st__law_no_fraction) := ⟨rfl, rfl, rfl, by decide +kernel, rfl, by decide +kernel, by decide +kernel⟩
theorem lv__law_no_fraction_0 : (defScope st__law_no_fraction).names.lookup (Str.ofString "_law_cell") = some NameKind.local := by decide +kernel
theorem lv__law_no_fraction_1 : (defScope st__law_no_fraction).names.lookup (Str.ofString "_law_some") = some NameKind.local := by decide +kernel
theorem ok__law_no_fraction {n : Nat} (T : Txt K mg ad fd cls) (ih : IH Pr w K mg base ad fd cls FF n) : FnOk Pr w K mg base (CXd Pr w) (n + 1) (ad 16) (fd 16) ["_law_cell"] (spD K cls 1 (callD tab fns FF (n + 1) 16)) := by
  refine fn_step (body' := c__law_no_fraction) T.f__law_no_fraction sc__law_no_fraction rfl fun cdv A outer s H E hr => ?_
  have hu := hr.units
  refine ss_cons ?_ ?_
  · refine s_set (i := 1) ?_ ?_ ?_ ?_
    · exact sc__law_no_fraction.nd
    · rfl
    · exact Or.inl lv__law_no_fraction_1
    · refine sd_lst ?_
      · refine sdl_cons ?_ ?_
        · refine sd_tup ?_
          · refine sdl_cons ?_ ?_
            · exact sd_int
            · refine sdl_cons ?_ ?_
              · exact sd_int
              · exact sdl_nil
        · refine sdl_cons ?_ ?_
          · refine sd_tup ?_
            · refine sdl_cons ?_ ?_
              · exact sd_int
              · refine sdl_cons ?_ ?_
                · exact sd_int
                · exact sdl_nil
          · refine sdl_cons ?_ ?_
            · refine sd_tup ?_
              · refine sdl_cons ?_ ?_
                · exact sd_int
                · refine sdl_cons ?_ ?_
                  · refine sd_sub ?_ ?_
                    · exact sd_int
                    · exact sd_int
                  · exact sdl_nil
            · refine sdl_cons ?_ ?_
              · refine sd_tup ?_
                · refine sdl_cons ?_ ?_
                  · exact sd_int
                  · refine sdl_cons ?_ ?_
                    · exact sd_int
                    · exact sdl_nil
              · refine sdl_cons ?_ ?_
                · refine sd_tup ?_
                  · refine sdl_cons ?_ ?_
                    · exact sd_bl
                    · refine sdl_cons ?_ ?_
                      · exact sd_int
                      · exact sdl_nil
                · refine sdl_cons ?_ ?_
                  · refine sd_tup ?_
                    · refine sdl_cons ?_ ?_
                      · exact sd_int
                      · refine sdl_cons ?_ ?_
                        · exact sd_bl
                        · exact sdl_nil
                  · exact sdl_nil
  · refine ss_cons ?_ ?_
    · refine s_set (i := 1) ?_ ?_ ?_ ?_
      · exact sc__law_no_fraction.nd
      · rfl
      · exact Or.inl lv__law_no_fraction_1
      · refine sd_add ?_ ?_
        · refine sd_var 1 ?_
          · exact pv 1 (hv := Or.inl lv__law_no_fraction_1)
        · refine sd_lst ?_
          · refine sdl_cons ?_ ?_
            · refine sd_lst ?_
              · refine sdl_cons ?_ ?_
                · exact sd_int
                · refine sdl_cons ?_ ?_
                  · exact sd_int
                  · exact sdl_nil
            · refine sdl_cons ?_ ?_
              · refine sd_tup ?_
                · refine sdl_cons ?_ ?_
                  · exact sd_int
                  · exact sdl_nil
              · refine sdl_cons ?_ ?_
                · refine sd_tup ?_
                  · refine sdl_cons ?_ ?_
                    · exact sd_int
                    · refine sdl_cons ?_ ?_
                      · exact sd_int
                      · refine sdl_cons ?_ ?_
                        · exact sd_int
                        · exact sdl_nil
                · refine sdl_cons ?_ ?_
                  · exact sd_int
                  · refine sdl_cons ?_ ?_
                    · exact sd_non
                    · refine sdl_cons ?_ ?_
                      · exact sd_str
                      · refine sdl_cons ?_ ?_
                        · refine sd_tup ?_
                          · refine sdl_cons ?_ ?_
                            · exact sd_str
                            · refine sdl_cons ?_ ?_
                              · exact sd_int
                              · exact sdl_nil
                        · exact sdl_nil
    · refine ss_cons ?_ ?_
      · refine s_ret ?_
        · refine sd_ix ?_ ?_ ?_ ?_
          · rfl
          · refine sd_add ?_ ?_
            · refine sd_var 1 ?_
              · exact pv 1 (hv := Or.inl lv__law_no_fraction_1)
            · refine sd_lst ?_
              · refine sdl_cons ?_ ?_
                · refine sd_tup ?_
                  · refine sdl_cons ?_ ?_
                    · exact sd_int
                    · refine sdl_cons ?_ ?_
                      · exact sd_non
                      · exact sdl_nil
                · refine sdl_cons ?_ ?_
                  · refine sd_tup ?_
                    · refine sdl_cons ?_ ?_
                      · exact sd_int
                      · refine sdl_cons ?_ ?_
                        · exact sd_int
                        · exact sdl_nil
                  · refine sdl_cons ?_ ?_
                    · refine sd_tup ?_
                      · exact sdl_nil
                    · refine sdl_cons ?_ ?_
                      · exact sd_dnew
                      · refine sdl_cons ?_ ?_
                        · refine sd_tup ?_
                          · refine sdl_cons ?_ ?_
                            · refine sd_add ?_ ?_
                              · exact sd_int
                              · refine sd_mod ?_ ?_
                                · refine sd_fdiv ?_ ?_
                                  · refine sd_var 0 ?_
                                    · exact pv 0 (hv := Or.inl lv__law_no_fraction_0)
                                  · exact sd_int
                                · refine sd_pow ?_ ?_
                                  · exact sd_int
                                  · exact sd_int
                            · refine sdl_cons ?_ ?_
                              · exact sd_int
                              · exact sdl_nil
                        · exact sdl_nil
          · refine sd_mod ?_ ?_
            · refine sd_var 0 ?_
              · exact pv 0 (hv := Or.inl lv__law_no_fraction_0)
            · exact sd_int
          · intro _ _; rfl
      · exact ss_nil
theorem sc__law_pairs_right : FnScope ["_law_one", "_law_other", "_law_a", "_law_b", "_law_c", "_law_d", "_law_told"] ["_law_one", "_law_other"] (defScope st__law_pairs_right) := ⟨rfl, rfl, rfl, by decide +kernel, rfl, by decide +kernel, by decide +kernel⟩
theorem lv__law_pairs_right_0 : (defScope st__law_pairs_right).names.lookup (Str.ofString "_law_one") = some NameKind.local := by decide +kernel
theorem lv__law_pairs_right_1 : (defScope st__law_pairs_right).names.lookup (Str.ofString "_law_other") = some NameKind.local := by decide +kernel
theorem lv__law_pairs_right_2 : (defScope st__law_pairs_right).names.lookup (Str.ofString "_law_a") = some NameKind.local := by decide +kernel
theorem lv__law_pairs_right_3 : (defScope st__law_pairs_right).names.lookup (Str.ofString "_law_b") = some NameKind.local := by decide +kernel
theorem lv__law_pairs_right_4 : (defScope st__law_pairs_right).names.lookup (Str.ofString "_law_c") = some NameKind.local := by decide +kernel
theorem lv__law_pairs_right_5 : (defScope st__law_pairs_right).names.lookup (Str.ofString "_law_d") = some NameKind.local := by decide +kernel
theorem lv__law_pairs_right_6 : (defScope st__law_pairs_right).names.lookup (Str.ofString "_law_told") = some NameKind.local := by decide +kernel
theorem ok__law_pairs_right {n : Nat} (T : Txt K mg ad fd cls) (ih : IH Pr w K mg base ad fd cls FF n) : FnOk Pr w K mg base (CXd Pr w) (n + 1) (ad 17) (fd 17) ["_law_one", "_law_other"] (spD K cls 2 (callD tab fns FF (n + 1) 17)) := by
  refine fn_step (body' := c__law_pairs_right) T.f__law_pairs_right sc__law_pairs_right rfl fun cdv A outer s H E hr => ?_
  have hu := hr.units
  refine ss_cons ?_ ?_
  · refine s_unp (is := [2, 3]) ?_ ?_
    · refine sd_var 0 ?_
      · exact pv 0 (hv := Or.inl lv__law_pairs_right_0)
    · refine pg_tup ?_ ?_
      · rfl
      · refine pgs_cons ?_ ?_
        · refine pg_name (i := 2) ?_ ?_ ?_
          · exact sc__law_pairs_right.nd
          · rfl
          · exact Or.inl lv__law_pairs_right_2
        · refine pgs_cons ?_ ?_
          · refine pg_name (i := 3) ?_ ?_ ?_
            · exact sc__law_pairs_right.nd
            · rfl
            · exact Or.inl lv__law_pairs_right_3
          · exact pgs_nil
  · refine ss_cons ?_ ?_
    · refine s_unp (is := [4, 5]) ?_ ?_
      · refine sd_var 1 ?_
        · exact pv 1 (hv := Or.inl lv__law_pairs_right_1)
      · refine pg_tup ?_ ?_
        · rfl
        · refine pgs_cons ?_ ?_
          · refine pg_name (i := 4) ?_ ?_ ?_
            · exact sc__law_pairs_right.nd
            · rfl
            · exact Or.inl lv__law_pairs_right_4
          · refine pgs_cons ?_ ?_
            · refine pg_name (i := 5) ?_ ?_ ?_
              · exact sc__law_pairs_right.nd
              · rfl
              · exact Or.inl lv__law_pairs_right_5
            · exact pgs_nil
    · refine ss_cons ?_ ?_
      · refine s_if ?_ ?_ ?_
        · refine PW.pt ?_
          · refine sdt_or ?_ ?_
            · refine sdt_not ?_
              · refine sdt_val ?_ ?_ ?_ ?_
                · rfl
                · refine sd_call ih.i__law_is hr (by rfl) T.m__law_is T.f__law_is.kp T.b__law_is .nil (fun _ _ => by simp [DD.RepL, DD.Rep]) pass_def (callD_len rfl) ?_
                  · refine sdl_cons ?_ ?_
                    · refine sd_call ih.i_plus hr (by rfl) T.m_plus T.f_plus.kp T.b_plus .nil (fun _ _ => by simp [DD.RepL, DD.Rep]) pass_def (callD_len rfl) ?_
                      · refine sdl_cons ?_ ?_
                        · refine sd_var 0 ?_
                          · exact pv 0 (hv := Or.inl lv__law_pairs_right_0)
                        · refine sdl_cons ?_ ?_
                          · refine sd_var 1 ?_
                            · exact pv 1 (hv := Or.inl lv__law_pairs_right_1)
                          · exact sdl_nil
                    · refine sdl_cons ?_ ?_
                      · refine sd_add ?_ ?_
                        · refine sd_mul ?_ ?_
                          · refine sd_var 2 ?_
                            · exact pv 2 (hv := Or.inl lv__law_pairs_right_2)
                          · refine sd_var 5 ?_
                            · exact pv 5 (hv := Or.inl lv__law_pairs_right_5)
                        · refine sd_mul ?_ ?_
                          · refine sd_var 4 ?_
                            · exact pv 4 (hv := Or.inl lv__law_pairs_right_4)
                          · refine sd_var 3 ?_
                            · exact pv 3 (hv := Or.inl lv__law_pairs_right_3)
                      · refine sdl_cons ?_ ?_
                        · refine sd_mul ?_ ?_
                          · refine sd_var 3 ?_
                            · exact pv 3 (hv := Or.inl lv__law_pairs_right_3)
                          · refine sd_var 5 ?_
                            · exact pv 5 (hv := Or.inl lv__law_pairs_right_5)
                        · exact sdl_nil
                · exact hev_call
                · intro _; rfl
            · refine sdt_or1 ?_
              · refine sdt_not ?_
                · refine sdt_val ?_ ?_ ?_ ?_
                  · rfl
                  · refine sd_call ih.i__law_is hr (by rfl) T.m__law_is T.f__law_is.kp T.b__law_is .nil (fun _ _ => by simp [DD.RepL, DD.Rep]) pass_def (callD_len rfl) ?_
                    · refine sdl_cons ?_ ?_
                      · refine sd_call ih.i_minus hr (by rfl) T.m_minus T.f_minus.kp T.b_minus .nil (fun _ _ => by simp [DD.RepL, DD.Rep]) pass_def (callD_len rfl) ?_
                        · refine sdl_cons ?_ ?_
                          · refine sd_var 0 ?_
                            · exact pv 0 (hv := Or.inl lv__law_pairs_right_0)
                          · refine sdl_cons ?_ ?_
                            · refine sd_var 1 ?_
                              · exact pv 1 (hv := Or.inl lv__law_pairs_right_1)
                            · exact sdl_nil
                      · refine sdl_cons ?_ ?_
                        · refine sd_sub ?_ ?_
                          · refine sd_mul ?_ ?_
                            · refine sd_var 2 ?_
                              · exact pv 2 (hv := Or.inl lv__law_pairs_right_2)
                            · refine sd_var 5 ?_
                              · exact pv 5 (hv := Or.inl lv__law_pairs_right_5)
                          · refine sd_mul ?_ ?_
                            · refine sd_var 4 ?_
                              · exact pv 4 (hv := Or.inl lv__law_pairs_right_4)
                            · refine sd_var 3 ?_
                              · exact pv 3 (hv := Or.inl lv__law_pairs_right_3)
                        · refine sdl_cons ?_ ?_
                          · refine sd_mul ?_ ?_
                            · refine sd_var 3 ?_
                              · exact pv 3 (hv := Or.inl lv__law_pairs_right_3)
                            · refine sd_var 5 ?_
                              · exact pv 5 (hv := Or.inl lv__law_pairs_right_5)
                          · exact sdl_nil
                  · exact hev_call
                  · intro _; rfl
        · refine ss_cons ?_ ?_
          · refine s_ret ?_
            · exact sd_bl
          · exact ss_nil
        · exact ss_nil
      · refine ss_cons ?_ ?_
        · refine s_if ?_ ?_ ?_
          · refine sdt_not ?_
            · refine sdt_val ?_ ?_ ?_ ?_
              · rfl
              · refine sd_call ih.i__law_is hr (by rfl) T.m__law_is T.f__law_is.kp T.b__law_is .nil (fun _ _ => by simp [DD.RepL, DD.Rep]) pass_def (callD_len rfl) ?_
                · refine sdl_cons ?_ ?_
                  · refine sd_call ih.i_times hr (by rfl) T.m_times T.f_times.kp T.b_times .nil (fun _ _ => by simp [DD.RepL, DD.Rep]) pass_def (callD_len rfl) ?_
                    · refine sdl_cons ?_ ?_
                      · refine sd_var 0 ?_
                        · exact pv 0 (hv := Or.inl lv__law_pairs_right_0)
                      · refine sdl_cons ?_ ?_
                        · refine sd_var 1 ?_
                          · exact pv 1 (hv := Or.inl lv__law_pairs_right_1)
                        · exact sdl_nil
                  · refine sdl_cons ?_ ?_
                    · refine sd_mul ?_ ?_
                      · refine sd_var 2 ?_
                        · exact pv 2 (hv := Or.inl lv__law_pairs_right_2)
                      · refine sd_var 4 ?_
                        · exact pv 4 (hv := Or.inl lv__law_pairs_right_4)
                    · refine sdl_cons ?_ ?_
                      · refine sd_mul ?_ ?_
                        · refine sd_var 3 ?_
                          · exact pv 3 (hv := Or.inl lv__law_pairs_right_3)
                        · refine sd_var 5 ?_
                          · exact pv 5 (hv := Or.inl lv__law_pairs_right_5)
                      · exact sdl_nil
              · exact hev_call
              · intro _; rfl
          · refine ss_cons ?_ ?_
            · refine s_ret ?_
              · exact sd_bl
            · exact ss_nil
          · exact ss_nil
        · refine ss_cons ?_ ?_
          · refine s_set (i := 6) ?_ ?_ ?_ ?_
            · exact sc__law_pairs_right.nd
            · rfl
            · exact Or.inl lv__law_pairs_right_6
            · refine sd_call ih.i_under hr (by rfl) T.m_under T.f_under.kp T.b_under .nil (fun _ _ => by simp [DD.RepL, DD.Rep]) pass_def (callD_len rfl) ?_
              · refine sdl_cons ?_ ?_
                · refine sd_var 0 ?_
                  · exact pv 0 (hv := Or.inl lv__law_pairs_right_0)
                · refine sdl_cons ?_ ?_
                  · refine sd_var 1 ?_
                    · exact pv 1 (hv := Or.inl lv__law_pairs_right_1)
                  · exact sdl_nil
          · refine ss_cons ?_ ?_
            · refine s_ret ?_
              · refine sd_and ?_ ?_
                · refine sd_isiB ?_ ?_ ?_ ?_ T.z_isinstance ?_ T.z_bool ?_ ?_
                  · rfl
                  · decide
                  · exact fun n => tab_b (by decide)
                  · rfl
                  · rfl
                  · rfl
                  · refine sd_var 6 ?_
                    · exact pv 6 (hv := Or.inl lv__law_pairs_right_6)
                · refine sd_one ?_
                  · refine sd_eq ?_ ?_ ?_ ?_
                    · rfl
                    · exact hu
                    · refine sd_var 6 ?_
                      · exact pv 6 (hv := Or.inl lv__law_pairs_right_6)
                    · refine sd_lt ?_ ?_
                      · refine sd_mul ?_ ?_
                        · refine sd_var 2 ?_
                          · exact pv 2 (hv := Or.inl lv__law_pairs_right_2)
                        · refine sd_var 5 ?_
                          · exact pv 5 (hv := Or.inl lv__law_pairs_right_5)
                      · refine sd_mul ?_ ?_
                        · refine sd_var 4 ?_
                          · exact pv 4 (hv := Or.inl lv__law_pairs_right_4)
                        · refine sd_var 3 ?_
                          · exact pv 3 (hv := Or.inl lv__law_pairs_right_3)
            · exact ss_nil
theorem sc_law : FnScope ["_law_script", "_law_top", "_law_bottom", "_law_wrong", "_law_some", "_law_k", "_law_beneath", "_law_one", "_law_other", "_law_things"] ["_law_script"] (defScope st_law) := ⟨rfl, rfl, rfl, by decide +kernel, rfl, by decide +kernel, by decide +kernel⟩
theorem lv_law_0 : (defScope st_law).names.lookup (Str.ofString "_law_script") = some NameKind.local := by decide +kernel
theorem lv_law_1 : (defScope st_law).names.lookup (Str.ofString "_law_top") = some NameKind.local := by decide +kernel
theorem lv_law_2 : (defScope st_law).names.lookup (Str.ofString "_law_bottom") = some NameKind.local := by decide +kernel
theorem lv_law_3 : (defScope st_law).names.lookup (Str.ofString "_law_wrong") = some NameKind.local := by decide +kernel
theorem lv_law_4 : (defScope st_law).names.lookup (Str.ofString "_law_some") = some NameKind.local := by decide +kernel
theorem lv_law_5 : (defScope st_law).names.lookup (Str.ofString "_law_k") = some NameKind.local := by decide +kernel
theorem lv_law_6 : (defScope st_law).names.lookup (Str.ofString "_law_beneath") = some NameKind.local := by decide +kernel
theorem lv_law_7 : (defScope st_law).names.lookup (Str.ofString "_law_one") = some NameKind.local := by decide +kernel
theorem lv_law_8 : (defScope st_law).names.lookup (Str.ofString "_law_other") = some NameKind.local := by decide +kernel
theorem lv_law_9 : (defScope st_law).names.lookup (Str.ofString "_law_things") = some NameKind.local := by decide +kernel
theorem ok_law {n : Nat} (T : Txt K mg ad fd cls) (ih : IH Pr w K mg base ad fd cls FF n) : FnOk Pr w K mg base (CXd Pr w) (n + 1) (ad 18) (fd 18) ["_law_script"] (spD K cls 1 (callD tab fns FF (n + 1) 18)) := by
  refine fn_step (body' := c_law) T.f_law sc_law rfl fun cdv A outer s H E hr => ?_
  have hu := hr.units
  refine ss_cons ?_ ?_
  · refine s_set (i := 1) ?_ ?_ ?_ ?_
    · exact sc_law.nd
    · rfl
    · exact Or.inl lv_law_1
    · refine sd_call ih.i__law_size hr (by rfl) T.m__law_size T.f__law_size.kp T.b__law_size .nil (fun _ _ => by simp [DD.RepL, DD.Rep]) pass_def (callD_len rfl) ?_
      · refine sdl_cons ?_ ?_
        · refine sd_call ih.i__law_cell_at hr (by rfl) T.m__law_cell_at T.f__law_cell_at.kp T.b__law_cell_at .nil (fun _ _ => by simp [DD.RepL, DD.Rep]) pass_def (callD_len rfl) ?_
          · refine sdl_cons ?_ ?_
            · refine sd_var 0 ?_
              · exact pv 0 (hv := Or.inl lv_law_0)
            · refine sdl_cons ?_ ?_
              · exact sd_int
              · exact sdl_nil
        · exact sdl_nil
  · refine ss_cons ?_ ?_
    · refine s_set (i := 2) ?_ ?_ ?_ ?_
      · exact sc_law.nd
      · rfl
      · exact Or.inl lv_law_2
      · refine sd_call ih.i__law_size hr (by rfl) T.m__law_size T.f__law_size.kp T.b__law_size .nil (fun _ _ => by simp [DD.RepL, DD.Rep]) pass_def (callD_len rfl) ?_
        · refine sdl_cons ?_ ?_
          · refine sd_call ih.i__law_cell_at hr (by rfl) T.m__law_cell_at T.f__law_cell_at.kp T.b__law_cell_at .nil (fun _ _ => by simp [DD.RepL, DD.Rep]) pass_def (callD_len rfl) ?_
            · refine sdl_cons ?_ ?_
              · refine sd_var 0 ?_
                · exact pv 0 (hv := Or.inl lv_law_0)
              · refine sdl_cons ?_ ?_
                · exact sd_int
                · exact sdl_nil
          · exact sdl_nil
    · refine ss_cons ?_ ?_
      · refine s_if ?_ ?_ ?_
        · refine sdt_eq ?_ ?_ ?_ ?_
          · rfl
          · exact hu
          · refine sd_var 2 ?_
            · exact pv 2 (hv := Or.inl lv_law_2)
          · exact sd_int
        · refine ss_cons ?_ ?_
          · refine s_if ?_ ?_ ?_
            · refine sdt_not ?_
              · refine sdt_val ?_ ?_ ?_ ?_
                · rfl
                · refine sd_call ih.i__law_refused hr (by rfl) T.m__law_refused T.f__law_refused.kp T.b__law_refused .nil (fun _ _ => by simp [DD.RepL, DD.Rep]) pass_def (callD_len rfl) ?_
                  · refine sdl_cons ?_ ?_
                    · refine sd_var 1 ?_
                      · exact pv 1 (hv := Or.inl lv_law_1)
                    · refine sdl_cons ?_ ?_
                      · exact sd_int
                      · exact sdl_nil
                · exact hev_call
                · intro _; rfl
            · refine ss_cons ?_ ?_
              · refine s_ret ?_
                · exact sd_bl
              · exact ss_nil
            · exact ss_nil
          · refine ss_cons ?_ ?_
            · refine s_set (i := 2) ?_ ?_ ?_ ?_
              · exact sc_law.nd
              · rfl
              · exact Or.inl lv_law_2
              · exact sd_int
            · exact ss_nil
        · exact ss_nil
      · refine ss_cons ?_ ?_
        · refine s_if ?_ ?_ ?_
          · refine PW.pt ?_
            · refine sdt_or ?_ ?_
              · refine sdt_not ?_
                · refine sdt_val ?_ ?_ ?_ ?_
                  · rfl
                  · refine sd_call ih.i__law_is hr (by rfl) T.m__law_is T.f__law_is.kp T.b__law_is .nil (fun _ _ => by simp [DD.RepL, DD.Rep]) pass_def (callD_len rfl) ?_
                    · refine sdl_cons ?_ ?_
                      · refine sd_call ih.i_fraction hr (by rfl) T.m_fraction T.f_fraction.kp T.b_fraction .nil (fun _ _ => by simp [DD.RepL, DD.Rep]) pass_def (callD_len rfl) ?_
                        · refine sdl_cons ?_ ?_
                          · refine sd_var 1 ?_
                            · exact pv 1 (hv := Or.inl lv_law_1)
                          · refine sdl_cons ?_ ?_
                            · refine sd_var 2 ?_
                              · exact pv 2 (hv := Or.inl lv_law_2)
                            · exact sdl_nil
                      · refine sdl_cons ?_ ?_
                        · refine sd_var 1 ?_
                          · exact pv 1 (hv := Or.inl lv_law_1)
                        · refine sdl_cons ?_ ?_
                          · refine sd_var 2 ?_
                            · exact pv 2 (hv := Or.inl lv_law_2)
                          · exact sdl_nil
                  · exact hev_call
                  · intro _; rfl
              · refine sdt_or1 ?_
                · refine sdt_not ?_
                  · refine sdt_val ?_ ?_ ?_ ?_
                    · rfl
                    · refine sd_call ih.i__law_is hr (by rfl) T.m__law_is T.f__law_is.kp T.b__law_is .nil (fun _ _ => by simp [DD.RepL, DD.Rep]) pass_def (callD_len rfl) ?_
                      · refine sdl_cons ?_ ?_
                        · refine sd_call ih.i_fraction hr (by rfl) T.m_fraction T.f_fraction.kp T.bd_fraction.choose_spec.2 T.bd_fraction.choose_spec.1 (fun _ _ => by simp [DD.RepL, DD.Rep]) pass_def (callD_len rfl) ?_
                          · refine sdl_cons ?_ ?_
                            · refine sd_var 1 ?_
                              · exact pv 1 (hv := Or.inl lv_law_1)
                            · exact sdl_nil
                        · refine sdl_cons ?_ ?_
                          · refine sd_var 1 ?_
                            · exact pv 1 (hv := Or.inl lv_law_1)
                          · refine sdl_cons ?_ ?_
                            · exact sd_int
                            · exact sdl_nil
                    · exact hev_call
                    · intro _; rfl
          · refine ss_cons ?_ ?_
            · refine s_ret ?_
              · exact sd_bl
            · exact ss_nil
          · exact ss_nil
        · refine ss_cons ?_ ?_
          · refine s_forL (is := [3]) ?_ ?_ ?_ ?_ ?_ ?_
            · rfl
            · exact PassesOwn.leaving
            · rfl
            · refine sd_lst ?_
              · refine sdl_cons ?_ ?_
                · exact sd_bl
                · refine sdl_cons ?_ ?_
                  · exact sd_non
                  · refine sdl_cons ?_ ?_
                    · exact sd_str
                    · refine sdl_cons ?_ ?_
                      · refine sd_tup ?_
                        · refine sdl_cons ?_ ?_
                          · exact sd_int
                          · refine sdl_cons ?_ ?_
                            · exact sd_int
                            · exact sdl_nil
                      · refine sdl_cons ?_ ?_
                        · refine sd_lst ?_
                          · refine sdl_cons ?_ ?_
                            · exact sd_int
                            · exact sdl_nil
                        · exact sdl_nil
            · refine tg_one ?_ ?_ ?_
              · exact sc_law.nd
              · rfl
              · exact Or.inl lv_law_3
            · refine ss_cons ?_ ?_
              · refine s_if ?_ ?_ ?_
                · refine PW.pt ?_
                  · refine sdt_or ?_ ?_
                    · refine sdt_not ?_
                      · refine sdt_val ?_ ?_ ?_ ?_
                        · rfl
                        · refine sd_call ih.i__law_refused hr (by rfl) T.m__law_refused T.f__law_refused.kp T.b__law_refused .nil (fun _ _ => by simp [DD.RepL, DD.Rep]) pass_def (callD_len rfl) ?_
                          · refine sdl_cons ?_ ?_
                            · refine sd_var 3 ?_
                              · exact pv 3 (hv := Or.inl lv_law_3)
                            · refine sdl_cons ?_ ?_
                              · refine sd_var 2 ?_
                                · exact pv 2 (hv := Or.inl lv_law_2)
                              · exact sdl_nil
                        · exact hev_call
                        · intro _; rfl
                    · refine sdt_or1 ?_
                      · refine sdt_not ?_
                        · refine sdt_val ?_ ?_ ?_ ?_
                          · rfl
                          · refine sd_call ih.i__law_refused hr (by rfl) T.m__law_refused T.f__law_refused.kp T.b__law_refused .nil (fun _ _ => by simp [DD.RepL, DD.Rep]) pass_def (callD_len rfl) ?_
                            · refine sdl_cons ?_ ?_
                              · refine sd_var 1 ?_
                                · exact pv 1 (hv := Or.inl lv_law_1)
                              · refine sdl_cons ?_ ?_
                                · refine sd_var 3 ?_
                                  · exact pv 3 (hv := Or.inl lv_law_3)
                                · exact sdl_nil
                          · exact hev_call
                          · intro _; rfl
                · refine ss_cons ?_ ?_
                  · refine s_ret ?_
                    · exact sd_bl
                  · exact ss_nil
                · exact ss_nil
              · exact ss_nil
          · refine ss_cons ?_ ?_
            · refine s_set (i := 4) ?_ ?_ ?_ ?_
              · exact sc_law.nd
              · rfl
              · exact Or.inl lv_law_4
              · refine sd_lst ?_
                · exact sdl_nil
            · refine ss_cons ?_ ?_
              · refine s_forR (is := [5]) ?_ ?_ ?_ T.z_range ?_ ?_ ?_
                · exact PassesOwn.leaving
                · rfl
                · rfl
                · exact sd_int
                · refine tg_one ?_ ?_ ?_
                  · exact sc_law.nd
                  · rfl
                  · exact Or.inl lv_law_5
                · refine ss_cons ?_ ?_
                  · refine s_set (i := 6) ?_ ?_ ?_ ?_
                    · exact sc_law.nd
                    · rfl
                    · exact Or.inl lv_law_6
                    · refine sd_add ?_ ?_
                      · exact sd_int
                      · refine sd_abs ?_ T.z_abs ?_
                        · rfl
                        · refine sdl_cons ?_ ?_
                          · refine sd_call ih.i__law_size hr (by rfl) T.m__law_size T.f__law_size.kp T.b__law_size .nil (fun _ _ => by simp [DD.RepL, DD.Rep]) pass_def (callD_len rfl) ?_
                            · refine sdl_cons ?_ ?_
                              · refine sd_call ih.i__law_cell_at hr (by rfl) T.m__law_cell_at T.f__law_cell_at.kp T.b__law_cell_at .nil (fun _ _ => by simp [DD.RepL, DD.Rep]) pass_def (callD_len rfl) ?_
                                · refine sdl_cons ?_ ?_
                                  · refine sd_var 0 ?_
                                    · exact pv 0 (hv := Or.inl lv_law_0)
                                  · refine sdl_cons ?_ ?_
                                    · refine sd_add ?_ ?_
                                      · exact sd_int
                                      · refine sd_mul ?_ ?_
                                        · exact sd_int
                                        · refine sd_var 5 ?_
                                          · exact pv 5 (hv := Or.inl lv_law_5)
                                    · exact sdl_nil
                              · exact sdl_nil
                          · exact sdl_nil
                  · refine ss_cons ?_ ?_
                    · refine s_ex ?_
                      · refine sd_append ?_ ?_ ?_
                        · rfl
                        · refine sd_var 4 ?_
                          · exact pv 4 (hv := Or.inl lv_law_4)
                        · refine sd_call ih.i__law_lowest hr (by rfl) T.m__law_lowest T.f__law_lowest.kp T.b__law_lowest .nil (fun _ _ => by simp [DD.RepL, DD.Rep]) pass_def (callD_len rfl) ?_
                          · refine sdl_cons ?_ ?_
                            · refine sd_call ih.i__law_size hr (by rfl) T.m__law_size T.f__law_size.kp T.b__law_size .nil (fun _ _ => by simp [DD.RepL, DD.Rep]) pass_def (callD_len rfl) ?_
                              · refine sdl_cons ?_ ?_
                                · refine sd_call ih.i__law_cell_at hr (by rfl) T.m__law_cell_at T.f__law_cell_at.kp T.b__law_cell_at .nil (fun _ _ => by simp [DD.RepL, DD.Rep]) pass_def (callD_len rfl) ?_
                                  · refine sdl_cons ?_ ?_
                                    · refine sd_var 0 ?_
                                      · exact pv 0 (hv := Or.inl lv_law_0)
                                    · refine sdl_cons ?_ ?_
                                      · refine sd_add ?_ ?_
                                        · exact sd_int
                                        · refine sd_mul ?_ ?_
                                          · exact sd_int
                                          · refine sd_var 5 ?_
                                            · exact pv 5 (hv := Or.inl lv_law_5)
                                      · exact sdl_nil
                                · exact sdl_nil
                            · refine sdl_cons ?_ ?_
                              · refine sd_var 6 ?_
                                · exact pv 6 (hv := Or.inl lv_law_6)
                              · exact sdl_nil
                    · exact ss_nil
              · refine ss_cons ?_ ?_
                · refine s_forL (is := [7]) ?_ ?_ ?_ ?_ ?_ ?_
                  · rfl
                  · exact PassesOwn.leaving
                  · rfl
                  · refine sd_var 4 ?_
                    · exact pv 4 (hv := Or.inl lv_law_4)
                  · refine tg_one ?_ ?_ ?_
                    · exact sc_law.nd
                    · rfl
                    · exact Or.inl lv_law_7
                  · refine ss_cons ?_ ?_
                    · refine s_if ?_ ?_ ?_
                      · refine PW.pt ?_
                        · refine sdt_or ?_ ?_
                          · refine sdt_not ?_
                            · refine sdt_val ?_ ?_ ?_ ?_
                              · rfl
                              · refine sd_call ih.i_is_fraction hr (by rfl) T.m_is_fraction T.f_is_fraction.kp T.b_is_fraction .nil (fun _ _ => by simp [DD.RepL, DD.Rep]) pass_def (callD_len rfl) ?_
                                · refine sdl_cons ?_ ?_
                                  · refine sd_var 7 ?_
                                    · exact pv 7 (hv := Or.inl lv_law_7)
                                  · exact sdl_nil
                              · exact hev_call
                              · intro _; rfl
                          · refine sdt_or ?_ ?_
                            · refine sdt_ne ?_ ?_ ?_ ?_
                              · rfl
                              · exact hu
                              · refine sd_call ih.i_floor_of hr (by rfl) T.m_floor_of T.f_floor_of.kp T.b_floor_of .nil (fun _ _ => by simp [DD.RepL, DD.Rep]) pass_def (callD_len rfl) ?_
                                · refine sdl_cons ?_ ?_
                                  · refine sd_var 7 ?_
                                    · exact pv 7 (hv := Or.inl lv_law_7)
                                  · exact sdl_nil
                              · refine sd_fdiv ?_ ?_
                                · refine sd_ix ?_ ?_ ?_ ?_
                                  · rfl
                                  · refine sd_var 7 ?_
                                    · exact pv 7 (hv := Or.inl lv_law_7)
                                  · exact sd_int
                                  · intro _ _; rfl
                                · refine sd_ix ?_ ?_ ?_ ?_
                                  · rfl
                                  · refine sd_var 7 ?_
                                    · exact pv 7 (hv := Or.inl lv_law_7)
                                  · exact sd_int
                                  · intro _ _; rfl
                            · refine sdt_or1 ?_
                              · refine sdt_ne ?_ ?_ ?_ ?_
                                · rfl
                                · exact hu
                                · refine sd_call ih.i_ceiling_of hr (by rfl) T.m_ceiling_of T.f_ceiling_of.kp T.b_ceiling_of .nil (fun _ _ => by simp [DD.RepL, DD.Rep]) pass_def (callD_len rfl) ?_
                                  · refine sdl_cons ?_ ?_
                                    · refine sd_var 7 ?_
                                      · exact pv 7 (hv := Or.inl lv_law_7)
                                    · exact sdl_nil
                                · refine sd_sub ?_ ?_
                                  · exact sd_int
                                  · refine sd_fdiv ?_ ?_
                                    · refine sd_sub ?_ ?_
                                      · exact sd_int
                                      · refine sd_ix ?_ ?_ ?_ ?_
                                        · rfl
                                        · refine sd_var 7 ?_
                                          · exact pv 7 (hv := Or.inl lv_law_7)
                                        · exact sd_int
                                        · intro _ _; rfl
                                    · refine sd_ix ?_ ?_ ?_ ?_
                                      · rfl
                                      · refine sd_var 7 ?_
                                        · exact pv 7 (hv := Or.inl lv_law_7)
                                      · exact sd_int
                                      · intro _ _; rfl
                      · refine ss_cons ?_ ?_
                        · refine s_ret ?_
                          · exact sd_bl
                        · exact ss_nil
                      · exact ss_nil
                    · refine ss_cons ?_ ?_
                      · refine s_forL (is := [8]) ?_ ?_ ?_ ?_ ?_ ?_
                        · rfl
                        · exact PassesOwn.leaving
                        · rfl
                        · refine sd_var 4 ?_
                          · exact pv 4 (hv := Or.inl lv_law_4)
                        · refine tg_one ?_ ?_ ?_
                          · exact sc_law.nd
                          · rfl
                          · exact Or.inl lv_law_8
                        · refine ss_cons ?_ ?_
                          · refine s_if ?_ ?_ ?_
                            · refine sdt_not ?_
                              · refine sdt_val ?_ ?_ ?_ ?_
                                · rfl
                                · refine sd_call ih.i__law_pairs_right hr (by rfl) T.m__law_pairs_right T.f__law_pairs_right.kp T.b__law_pairs_right .nil (fun _ _ => by simp [DD.RepL, DD.Rep]) pass_def (callD_len rfl) ?_
                                  · refine sdl_cons ?_ ?_
                                    · refine sd_var 7 ?_
                                      · exact pv 7 (hv := Or.inl lv_law_7)
                                    · refine sdl_cons ?_ ?_
                                      · refine sd_var 8 ?_
                                        · exact pv 8 (hv := Or.inl lv_law_8)
                                      · exact sdl_nil
                                · exact hev_call
                                · intro _; rfl
                            · refine ss_cons ?_ ?_
                              · refine s_ret ?_
                                · exact sd_bl
                              · exact ss_nil
                            · exact ss_nil
                          · exact ss_nil
                      · exact ss_nil
                · refine ss_cons ?_ ?_
                  · refine s_if ?_ ?_ ?_
                    · refine sdt_val ?_ ?_ ?_ ?_
                      · rfl
                      · refine sd_call ih.i_is_fraction hr (by rfl) T.m_is_fraction T.f_is_fraction.kp T.b_is_fraction .nil (fun _ _ => by simp [DD.RepL, DD.Rep]) pass_def (callD_len rfl) ?_
                        · refine sdl_cons ?_ ?_
                          · refine sd_call ih.i__law_no_fraction hr (by rfl) T.m__law_no_fraction T.f__law_no_fraction.kp T.b__law_no_fraction .nil (fun _ _ => by simp [DD.RepL, DD.Rep]) pass_def (callD_len rfl) ?_
                            · refine sdl_cons ?_ ?_
                              · refine sd_call ih.i__law_cell_at hr (by rfl) T.m__law_cell_at T.f__law_cell_at.kp T.b__law_cell_at .nil (fun _ _ => by simp [DD.RepL, DD.Rep]) pass_def (callD_len rfl) ?_
                                · refine sdl_cons ?_ ?_
                                  · refine sd_var 0 ?_
                                    · exact pv 0 (hv := Or.inl lv_law_0)
                                  · refine sdl_cons ?_ ?_
                                    · exact sd_int
                                    · exact sdl_nil
                              · exact sdl_nil
                          · exact sdl_nil
                      · exact hev_call
                      · intro _; rfl
                    · refine ss_cons ?_ ?_
                      · refine s_ret ?_
                        · exact sd_bl
                      · exact ss_nil
                    · exact ss_nil
                  · refine ss_cons ?_ ?_
                    · refine s_set (i := 9) ?_ ?_ ?_ ?_
                      · exact sc_law.nd
                      · rfl
                      · exact Or.inl lv_law_9
                      · refine sd_lst ?_
                        · refine sdl_cons ?_ ?_
                          · refine sd_var 1 ?_
                            · exact pv 1 (hv := Or.inl lv_law_1)
                          · refine sdl_cons ?_ ?_
                            · exact sd_int
                            · refine sdl_cons ?_ ?_
                              · refine sd_sub ?_ ?_
                                · exact sd_int
                                · exact sd_int
                              · refine sdl_cons ?_ ?_
                                · exact sd_bl
                                · refine sdl_cons ?_ ?_
                                  · exact sd_bl
                                  · refine sdl_cons ?_ ?_
                                    · exact sd_non
                                    · refine sdl_cons ?_ ?_
                                      · exact sd_str
                                      · refine sdl_cons ?_ ?_
                                        · refine sd_tup ?_
                                          · refine sdl_cons ?_ ?_
                                            · exact sd_int
                                            · refine sdl_cons ?_ ?_
                                              · exact sd_int
                                              · exact sdl_nil
                                        · refine sdl_cons ?_ ?_
                                          · refine sd_lst ?_
                                            · refine sdl_cons ?_ ?_
                                              · exact sd_int
                                              · exact sdl_nil
                                          · exact sdl_nil
                    · refine ss_cons ?_ ?_
                      · refine s_ret ?_
                        · refine sd_eq ?_ ?_ ?_ ?_
                          · rfl
                          · exact hu
                          · refine sd_comp ?_ ?_ ?_ ?_ ?_ ?_ ?_ ?_ ?_ ?_
                            · rfl
                            · rfl
                            · rfl
                            · decide
                            · decide
                            · decide
                            · refine scope_nc ?_ ?_
                              · decide
                              · decide
                            · rfl
                            · refine sd_var 9 ?_
                              · exact pv 9 (hv := Or.inl lv_law_9)
                            · intro L s0 H0 fp pn
                              refine sd_call ih.i_is_whole hr (by rfl) T.m_is_whole T.f_is_whole.kp T.b_is_whole .nil (fun _ _ => by simp [DD.RepL, DD.Rep]) passF (callD_len rfl) ?_
                              · refine sdl_cons ?_ ?_
                                · refine sd_var 0 ?_
                                  · exact pv 0
                                · exact sdl_nil
                          · refine sd_add ?_ ?_
                            · refine sd_mul ?_ ?_
                              · refine sd_lst ?_
                                · refine sdl_cons ?_ ?_
                                  · exact sd_bl
                                  · exact sdl_nil
                              · exact sd_int
                            · refine sd_mul ?_ ?_
                              · refine sd_lst ?_
                                · refine sdl_cons ?_ ?_
                                  · exact sd_bl
                                  · exact sdl_nil
                              · exact sd_int
                      · exact ss_nil
theorem all_ok (T : Txt K mg ad fd cls) : ∀ n, IH Pr w K mg base ad fd cls FF n
  | 0 => ⟨fn_zero, fn_zero, fn_zero, fn_zero, fn_zero, fn_zero, fn_zero, fn_zero, fn_zero, fn_zero, fn_zero, fn_zero, fn_zero, fn_zero, fn_zero, fn_zero, fn_zero, fn_zero, fn_zero⟩
  | n + 1 => by
    have ih := all_ok T n
    exact ⟨ok_is_whole T ih, ok_is_fraction T ih, ok_common_divisor T ih, ok_fraction T ih, ok_plus T ih, ok_minus T ih, ok_times T ih, ok_under T ih, ok_floor_of T ih, ok_ceiling_of T ih, ok__law_cell_at T ih, ok__law_divisor T ih, ok__law_lowest T ih, ok__law_size T ih, ok__law_refused T ih, ok__law_is T ih, ok__law_no_fraction T ih, ok__law_pairs_right T ih, ok_law T ih⟩
end
abbrev adOf (l : List Addr) : Nat → Addr := fun i => l.getD i 0
instance : Inhabited FuncData := ⟨PySem.W.fnOf "" "" (defArgs (.Pass ⟨0, 0, 0, 0⟩)) (defBody (.Pass ⟨0, 0, 0, 0⟩)) (defScope (.Pass ⟨0, 0, 0, 0⟩)) .none .none .none .none none .none .none⟩
theorem bind_law (kV doc pm : Value) (an : Option Addr) (cdv ct : Value) (us : List Value) (hl : us.length = 1) : bindArgs (PySem.W.fnOf "law" "law" (defArgs st_law) (defBody st_law) (defScope st_law) .none kV doc pm an cdv ct) ⟨us, []⟩ = pure ((["_law_script"] : List Str).zip us) := match us, hl with | [_], _ => rfl
theorem top_mk {K : PySem.W.Frag} {mg : Str → Option Value} {h : Heap} (X : K.In h) (G : h.Ns mainGlobals mg)
    {f0 : Addr} {oc0 kv0 dc0 pm0 cd0 ct0 : Value} {od0 an0 : Option Addr} {sl0 : Array (Option Value)}
    {f1 : Addr} {oc1 kv1 dc1 pm1 cd1 ct1 : Value} {od1 an1 : Option Addr} {sl1 : Array (Option Value)}
    {f2 : Addr} {oc2 kv2 dc2 pm2 cd2 ct2 : Value} {od2 an2 : Option Addr} {sl2 : Array (Option Value)}
    {f3 : Addr} {oc3 kv3 dc3 pm3 cd3 ct3 : Value} {od3 an3 : Option Addr} {sl3 : Array (Option Value)}
    {t3 : Addr} {to3 : Value} {td3 : Option Addr} {tn3 : Nat} {ts3 : Array (Option Value)} {tk3_0 : Nat}
    {f4 : Addr} {oc4 kv4 dc4 pm4 cd4 ct4 : Value} {od4 an4 : Option Addr} {sl4 : Array (Option Value)}
    {f5 : Addr} {oc5 kv5 dc5 pm5 cd5 ct5 : Value} {od5 an5 : Option Addr} {sl5 : Array (Option Value)}
    {f6 : Addr} {oc6 kv6 dc6 pm6 cd6 ct6 : Value} {od6 an6 : Option Addr} {sl6 : Array (Option Value)}
    {f7 : Addr} {oc7 kv7 dc7 pm7 cd7 ct7 : Value} {od7 an7 : Option Addr} {sl7 : Array (Option Value)}
    {f8 : Addr} {oc8 kv8 dc8 pm8 cd8 ct8 : Value} {od8 an8 : Option Addr} {sl8 : Array (Option Value)}
    {f9 : Addr} {oc9 kv9 dc9 pm9 cd9 ct9 : Value} {od9 an9 : Option Addr} {sl9 : Array (Option Value)}
    {f10 : Addr} {oc10 kv10 dc10 pm10 cd10 ct10 : Value} {od10 an10 : Option Addr} {sl10 : Array (Option Value)}
    {f11 : Addr} {oc11 kv11 dc11 pm11 cd11 ct11 : Value} {od11 an11 : Option Addr} {sl11 : Array (Option Value)}
    {f12 : Addr} {oc12 kv12 dc12 pm12 cd12 ct12 : Value} {od12 an12 : Option Addr} {sl12 : Array (Option Value)}
    {f13 : Addr} {oc13 kv13 dc13 pm13 cd13 ct13 : Value} {od13 an13 : Option Addr} {sl13 : Array (Option Value)}
    {f14 : Addr} {oc14 kv14 dc14 pm14 cd14 ct14 : Value} {od14 an14 : Option Addr} {sl14 : Array (Option Value)}
    {f15 : Addr} {oc15 kv15 dc15 pm15 cd15 ct15 : Value} {od15 an15 : Option Addr} {sl15 : Array (Option Value)}
    {f16 : Addr} {oc16 kv16 dc16 pm16 cd16 ct16 : Value} {od16 an16 : Option Addr} {sl16 : Array (Option Value)}
    {f17 : Addr} {oc17 kv17 dc17 pm17 cd17 ct17 : Value} {od17 an17 : Option Addr} {sl17 : Array (Option Value)}
    {f18 : Addr} {oc18 kv18 dc18 pm18 cd18 ct18 : Value} {od18 an18 : Option Addr} {sl18 : Array (Option Value)}
    {g0 : Addr}
    {g1 : Addr}
    {g2 : Addr}
    {g3 : Addr}
    {g4 : Addr}
    {g5 : Addr}
    {g6 : Addr}
    {g7 : Addr}
    {ci7 : _}
    (a0 : PySem.W.nsIn K mainGlobals "is_whole" = some (some (.ref f0)))
    (l0 : K.lookup f0 = some ⟨oc0, od0, .func (PySem.W.fnOf "is_whole" "is_whole" (defArgs st_is_whole) (defBody st_is_whole) (defScope st_is_whole) .none kv0 dc0 pm0 an0 cd0 ct0), sl0⟩)
    (c0 : PySem.W.codeIn K cd0 "is_whole" = true)
    (k0 : PySem.W.keepIn K (.ref f0) = true)
    (a1 : PySem.W.nsIn K mainGlobals "is_fraction" = some (some (.ref f1)))
    (l1 : K.lookup f1 = some ⟨oc1, od1, .func (PySem.W.fnOf "is_fraction" "is_fraction" (defArgs st_is_fraction) (defBody st_is_fraction) (defScope st_is_fraction) .none kv1 dc1 pm1 an1 cd1 ct1), sl1⟩)
    (c1 : PySem.W.codeIn K cd1 "is_fraction" = true)
    (k1 : PySem.W.keepIn K (.ref f1) = true)
    (a2 : PySem.W.nsIn K mainGlobals "common_divisor" = some (some (.ref f2)))
    (l2 : K.lookup f2 = some ⟨oc2, od2, .func (PySem.W.fnOf "common_divisor" "common_divisor" (defArgs st_common_divisor) (defBody st_common_divisor) (defScope st_common_divisor) .none kv2 dc2 pm2 an2 cd2 ct2), sl2⟩)
    (c2 : PySem.W.codeIn K cd2 "common_divisor" = true)
    (k2 : PySem.W.keepIn K (.ref f2) = true)
    (a3 : PySem.W.nsIn K mainGlobals "fraction" = some (some (.ref f3)))
    (l3 : K.lookup f3 = some ⟨oc3, od3, .func (PySem.W.fnOf "fraction" "fraction" (defArgs st_fraction) (defBody st_fraction) (defScope st_fraction) (.ref t3) kv3 dc3 pm3 an3 cd3 ct3), sl3⟩)
    (c3 : PySem.W.codeIn K cd3 "fraction" = true)
    (k3 : PySem.W.keepIn K (.ref f3) = true)
    (t3_l : K.lookup t3 = some ⟨to3, td3, .seq #[.int 1 tk3_0] tn3, ts3⟩)
    (a4 : PySem.W.nsIn K mainGlobals "plus" = some (some (.ref f4)))
    (l4 : K.lookup f4 = some ⟨oc4, od4, .func (PySem.W.fnOf "plus" "plus" (defArgs st_plus) (defBody st_plus) (defScope st_plus) .none kv4 dc4 pm4 an4 cd4 ct4), sl4⟩)
    (c4 : PySem.W.codeIn K cd4 "plus" = true)
    (k4 : PySem.W.keepIn K (.ref f4) = true)
    (a5 : PySem.W.nsIn K mainGlobals "minus" = some (some (.ref f5)))
    (l5 : K.lookup f5 = some ⟨oc5, od5, .func (PySem.W.fnOf "minus" "minus" (defArgs st_minus) (defBody st_minus) (defScope st_minus) .none kv5 dc5 pm5 an5 cd5 ct5), sl5⟩)
    (c5 : PySem.W.codeIn K cd5 "minus" = true)
    (k5 : PySem.W.keepIn K (.ref f5) = true)
    (a6 : PySem.W.nsIn K mainGlobals "times" = some (some (.ref f6)))
    (l6 : K.lookup f6 = some ⟨oc6, od6, .func (PySem.W.fnOf "times" "times" (defArgs st_times) (defBody st_times) (defScope st_times) .none kv6 dc6 pm6 an6 cd6 ct6), sl6⟩)
    (c6 : PySem.W.codeIn K cd6 "times" = true)
    (k6 : PySem.W.keepIn K (.ref f6) = true)
    (a7 : PySem.W.nsIn K mainGlobals "under" = some (some (.ref f7)))
    (l7 : K.lookup f7 = some ⟨oc7, od7, .func (PySem.W.fnOf "under" "under" (defArgs st_under) (defBody st_under) (defScope st_under) .none kv7 dc7 pm7 an7 cd7 ct7), sl7⟩)
    (c7 : PySem.W.codeIn K cd7 "under" = true)
    (k7 : PySem.W.keepIn K (.ref f7) = true)
    (a8 : PySem.W.nsIn K mainGlobals "floor_of" = some (some (.ref f8)))
    (l8 : K.lookup f8 = some ⟨oc8, od8, .func (PySem.W.fnOf "floor_of" "floor_of" (defArgs st_floor_of) (defBody st_floor_of) (defScope st_floor_of) .none kv8 dc8 pm8 an8 cd8 ct8), sl8⟩)
    (c8 : PySem.W.codeIn K cd8 "floor_of" = true)
    (k8 : PySem.W.keepIn K (.ref f8) = true)
    (a9 : PySem.W.nsIn K mainGlobals "ceiling_of" = some (some (.ref f9)))
    (l9 : K.lookup f9 = some ⟨oc9, od9, .func (PySem.W.fnOf "ceiling_of" "ceiling_of" (defArgs st_ceiling_of) (defBody st_ceiling_of) (defScope st_ceiling_of) .none kv9 dc9 pm9 an9 cd9 ct9), sl9⟩)
    (c9 : PySem.W.codeIn K cd9 "ceiling_of" = true)
    (k9 : PySem.W.keepIn K (.ref f9) = true)
    (a10 : PySem.W.nsIn K mainGlobals "_law_cell_at" = some (some (.ref f10)))
    (l10 : K.lookup f10 = some ⟨oc10, od10, .func (PySem.W.fnOf "_law_cell_at" "_law_cell_at" (defArgs st__law_cell_at) (defBody st__law_cell_at) (defScope st__law_cell_at) .none kv10 dc10 pm10 an10 cd10 ct10), sl10⟩)
    (c10 : PySem.W.codeIn K cd10 "_law_cell_at" = true)
    (k10 : PySem.W.keepIn K (.ref f10) = true)
    (a11 : PySem.W.nsIn K mainGlobals "_law_divisor" = some (some (.ref f11)))
    (l11 : K.lookup f11 = some ⟨oc11, od11, .func (PySem.W.fnOf "_law_divisor" "_law_divisor" (defArgs st__law_divisor) (defBody st__law_divisor) (defScope st__law_divisor) .none kv11 dc11 pm11 an11 cd11 ct11), sl11⟩)
    (c11 : PySem.W.codeIn K cd11 "_law_divisor" = true)
    (k11 : PySem.W.keepIn K (.ref f11) = true)
    (a12 : PySem.W.nsIn K mainGlobals "_law_lowest" = some (some (.ref f12)))
    (l12 : K.lookup f12 = some ⟨oc12, od12, .func (PySem.W.fnOf "_law_lowest" "_law_lowest" (defArgs st__law_lowest) (defBody st__law_lowest) (defScope st__law_lowest) .none kv12 dc12 pm12 an12 cd12 ct12), sl12⟩)
    (c12 : PySem.W.codeIn K cd12 "_law_lowest" = true)
    (k12 : PySem.W.keepIn K (.ref f12) = true)
    (a13 : PySem.W.nsIn K mainGlobals "_law_size" = some (some (.ref f13)))
    (l13 : K.lookup f13 = some ⟨oc13, od13, .func (PySem.W.fnOf "_law_size" "_law_size" (defArgs st__law_size) (defBody st__law_size) (defScope st__law_size) .none kv13 dc13 pm13 an13 cd13 ct13), sl13⟩)
    (c13 : PySem.W.codeIn K cd13 "_law_size" = true)
    (k13 : PySem.W.keepIn K (.ref f13) = true)
    (a14 : PySem.W.nsIn K mainGlobals "_law_refused" = some (some (.ref f14)))
    (l14 : K.lookup f14 = some ⟨oc14, od14, .func (PySem.W.fnOf "_law_refused" "_law_refused" (defArgs st__law_refused) (defBody st__law_refused) (defScope st__law_refused) .none kv14 dc14 pm14 an14 cd14 ct14), sl14⟩)
    (c14 : PySem.W.codeIn K cd14 "_law_refused" = true)
    (k14 : PySem.W.keepIn K (.ref f14) = true)
    (a15 : PySem.W.nsIn K mainGlobals "_law_is" = some (some (.ref f15)))
    (l15 : K.lookup f15 = some ⟨oc15, od15, .func (PySem.W.fnOf "_law_is" "_law_is" (defArgs st__law_is) (defBody st__law_is) (defScope st__law_is) .none kv15 dc15 pm15 an15 cd15 ct15), sl15⟩)
    (c15 : PySem.W.codeIn K cd15 "_law_is" = true)
    (k15 : PySem.W.keepIn K (.ref f15) = true)
    (a16 : PySem.W.nsIn K mainGlobals "_law_no_fraction" = some (some (.ref f16)))
    (l16 : K.lookup f16 = some ⟨oc16, od16, .func (PySem.W.fnOf "_law_no_fraction" "_law_no_fraction" (defArgs st__law_no_fraction) (defBody st__law_no_fraction) (defScope st__law_no_fraction) .none kv16 dc16 pm16 an16 cd16 ct16), sl16⟩)
    (c16 : PySem.W.codeIn K cd16 "_law_no_fraction" = true)
    (k16 : PySem.W.keepIn K (.ref f16) = true)
    (a17 : PySem.W.nsIn K mainGlobals "_law_pairs_right" = some (some (.ref f17)))
    (l17 : K.lookup f17 = some ⟨oc17, od17, .func (PySem.W.fnOf "_law_pairs_right" "_law_pairs_right" (defArgs st__law_pairs_right) (defBody st__law_pairs_right) (defScope st__law_pairs_right) .none kv17 dc17 pm17 an17 cd17 ct17), sl17⟩)
    (c17 : PySem.W.codeIn K cd17 "_law_pairs_right" = true)
    (k17 : PySem.W.keepIn K (.ref f17) = true)
    (a18 : PySem.W.nsIn K mainGlobals "law" = some (some (.ref f18)))
    (l18 : K.lookup f18 = some ⟨oc18, od18, .func (PySem.W.fnOf "law" "law" (defArgs st_law) (defBody st_law) (defScope st_law) .none kv18 dc18 pm18 an18 cd18 ct18), sl18⟩)
    (c18 : PySem.W.codeIn K cd18 "law" = true)
    (k18 : PySem.W.keepIn K (.ref f18) = true)
    (ac0 : PySem.W.nsIn K mainGlobals "PartError" = some (some (.ref g0)))
    (ac1 : PySem.W.nsIn K mainGlobals "BadNames" = some (some (.ref g1)))
    (ac2 : PySem.W.nsIn K mainGlobals "BadTerm" = some (some (.ref g2)))
    (ac3 : PySem.W.nsIn K mainGlobals "BadStatement" = some (some (.ref g3)))
    (ac4 : PySem.W.nsIn K mainGlobals "NotTold" = some (some (.ref g4)))
    (ac5 : PySem.W.nsIn K mainGlobals "NoText" = some (some (.ref g5)))
    (ac6 : PySem.W.nsIn K mainGlobals "NoRow" = some (some (.ref g6)))
    (ac7 : PySem.W.nsIn K mainGlobals "NoNumber" = some (some (.ref g7)))
    (xc7 : PySem.W.excIn K g7 [.type "ValueError", .type "Exception", .type "BaseException", .type "object"] "ValueError.__new__" = true)
    (ecl7 : PySem.W.clsIn K g7 = some ci7)
    (ega7 : PySem.W.findIn K (.ref g7) "__getattribute__" = some (some (.builtin "BaseException.__getattribute__")))
    (egn7 : PySem.W.findIn K (.ref g7) "__getattr__" = some none)
    (eha7 : PySem.W.findIn K (.ref g7) "__class__" = some (some (.builtin "object.__class__")))
    (eob7 : PySem.W.mroIn K g7 (.type "object") = some true)
    (ebe7 : PySem.W.mroIn K g7 (.type "BaseException") = some true)
    (ehn : PySem.W.specialIn K (.builtin "object.__class__") "__get__" = some (some (.builtin "getset_descriptor.__get__")))
    (etk : PySem.W.takesIn K (.builtin "object.__class__") = some true)
    (kt_NoNumber_BadNames : PySem.W.kitOne K (.ref g7) (.ref g1) = some false)
    (kt_NoNumber_BadStatement : PySem.W.kitOne K (.ref g7) (.ref g3) = some false)
    (kt_NoNumber_BadTerm : PySem.W.kitOne K (.ref g7) (.ref g2) = some false)
    (kt_NoNumber_NoNumber : PySem.W.kitOne K (.ref g7) (.ref g7) = some true)
    (kt_NoNumber_NoRow : PySem.W.kitOne K (.ref g7) (.ref g6) = some false)
    (kt_NoNumber_NoText : PySem.W.kitOne K (.ref g7) (.ref g5) = some false)
    (kt_NoNumber_NotTold : PySem.W.kitOne K (.ref g7) (.ref g4) = some false)
    (kt_NoNumber_ValueError : PySem.W.kitOne K (.ref g7) (.type "ValueError") = some true)
    (xm_NoNumber_PartError : PySem.W.exmOne K (.ref g7) (.ref g0) = some true)
    (z_ValueError : PySem.W.nsIn K mainGlobals "ValueError" = some none)
    (z_abs : PySem.W.nsIn K mainGlobals "abs" = some none)
    (z_bool : PySem.W.nsIn K mainGlobals "bool" = some none)
    (z_int : PySem.W.nsIn K mainGlobals "int" = some none)
    (z_isinstance : PySem.W.nsIn K mainGlobals "isinstance" = some none)
    (z_len : PySem.W.nsIn K mainGlobals "len" = some none)
    (z_range : PySem.W.nsIn K mainGlobals "range" = some none)
    (z_tuple : PySem.W.nsIn K mainGlobals "tuple" = some none)
    : ∃ (ad : Nat → Addr) (fd : Nat → FuncData) (cls : Nat → Addr), Txt K mg ad fd cls ∧ ∀ (s : Shared) (u : Value), BindsTo s (fd 18) ⟨[u], []⟩ [("_law_script", u)] := by
  refine ⟨(adOf [f0, f1, f2, f3, f4, f5, f6, f7, f8, f9, f10, f11, f12, f13, f14, f15, f16, f17, f18]), (fun i => ([PySem.W.fnOf "is_whole" "is_whole" (defArgs st_is_whole) (defBody st_is_whole) (defScope st_is_whole) .none kv0 dc0 pm0 an0 cd0 ct0, PySem.W.fnOf "is_fraction" "is_fraction" (defArgs st_is_fraction) (defBody st_is_fraction) (defScope st_is_fraction) .none kv1 dc1 pm1 an1 cd1 ct1, PySem.W.fnOf "common_divisor" "common_divisor" (defArgs st_common_divisor) (defBody st_common_divisor) (defScope st_common_divisor) .none kv2 dc2 pm2 an2 cd2 ct2, PySem.W.fnOf "fraction" "fraction" (defArgs st_fraction) (defBody st_fraction) (defScope st_fraction) (.ref t3) kv3 dc3 pm3 an3 cd3 ct3, PySem.W.fnOf "plus" "plus" (defArgs st_plus) (defBody st_plus) (defScope st_plus) .none kv4 dc4 pm4 an4 cd4 ct4, PySem.W.fnOf "minus" "minus" (defArgs st_minus) (defBody st_minus) (defScope st_minus) .none kv5 dc5 pm5 an5 cd5 ct5, PySem.W.fnOf "times" "times" (defArgs st_times) (defBody st_times) (defScope st_times) .none kv6 dc6 pm6 an6 cd6 ct6, PySem.W.fnOf "under" "under" (defArgs st_under) (defBody st_under) (defScope st_under) .none kv7 dc7 pm7 an7 cd7 ct7, PySem.W.fnOf "floor_of" "floor_of" (defArgs st_floor_of) (defBody st_floor_of) (defScope st_floor_of) .none kv8 dc8 pm8 an8 cd8 ct8, PySem.W.fnOf "ceiling_of" "ceiling_of" (defArgs st_ceiling_of) (defBody st_ceiling_of) (defScope st_ceiling_of) .none kv9 dc9 pm9 an9 cd9 ct9, PySem.W.fnOf "_law_cell_at" "_law_cell_at" (defArgs st__law_cell_at) (defBody st__law_cell_at) (defScope st__law_cell_at) .none kv10 dc10 pm10 an10 cd10 ct10, PySem.W.fnOf "_law_divisor" "_law_divisor" (defArgs st__law_divisor) (defBody st__law_divisor) (defScope st__law_divisor) .none kv11 dc11 pm11 an11 cd11 ct11, PySem.W.fnOf "_law_lowest" "_law_lowest" (defArgs st__law_lowest) (defBody st__law_lowest) (defScope st__law_lowest) .none kv12 dc12 pm12 an12 cd12 ct12, PySem.W.fnOf "_law_size" "_law_size" (defArgs st__law_size) (defBody st__law_size) (defScope st__law_size) .none kv13 dc13 pm13 an13 cd13 ct13, PySem.W.fnOf "_law_refused" "_law_refused" (defArgs st__law_refused) (defBody st__law_refused) (defScope st__law_refused) .none kv14 dc14 pm14 an14 cd14 ct14, PySem.W.fnOf "_law_is" "_law_is" (defArgs st__law_is) (defBody st__law_is) (defScope st__law_is) .none kv15 dc15 pm15 an15 cd15 ct15, PySem.W.fnOf "_law_no_fraction" "_law_no_fraction" (defArgs st__law_no_fraction) (defBody st__law_no_fraction) (defScope st__law_no_fraction) .none kv16 dc16 pm16 an16 cd16 ct16, PySem.W.fnOf "_law_pairs_right" "_law_pairs_right" (defArgs st__law_pairs_right) (defBody st__law_pairs_right) (defScope st__law_pairs_right) .none kv17 dc17 pm17 an17 cd17 ct17, PySem.W.fnOf "law" "law" (defArgs st_law) (defBody st_law) (defScope st_law) .none kv18 dc18 pm18 an18 cd18 ct18] : List FuncData).getD i default), (adOf [g0, g1, g2, g3, g4, g5, g6, g7]), ⟨
    (fund_mk (st := st_is_whole) l0 c0 k0),
    (PySem.W.mg_of X G a0),
    (Binds.all fun us hl => match us, hl with | [_], _ => rfl),
    (fund_mk (st := st_is_fraction) l1 c1 k1),
    (PySem.W.mg_of X G a1),
    (Binds.all fun us hl => match us, hl with | [_], _ => rfl),
    (fund_mk (st := st_common_divisor) l2 c2 k2),
    (PySem.W.mg_of X G a2),
    (Binds.all fun us hl => match us, hl with | [_, _], _ => rfl),
    (fund_mk (st := st_fraction) l3 c3 k3),
    (PySem.W.mg_of X G a3),
    (by
    intro s us KX hl
    have hl2 : us.length = 2 := by simpa using hl
    match us, hl2 with
    | [_, _], _ => exact .of_defaults (T := t3) rfl (KX _ _ t3_l) rfl rfl rfl),
    (by
    refine ⟨[.int 1 tk3_0], .cons ⟨_, rfl⟩ (.nil), ?_⟩
    intro s us KX hl
    have hl2 : us.length = 1 := by simpa using hl
    match us, hl2 with
    | [_], _ => exact .of_defaults (T := t3) rfl (KX _ _ t3_l) rfl rfl rfl),
    (fund_mk (st := st_plus) l4 c4 k4),
    (PySem.W.mg_of X G a4),
    (Binds.all fun us hl => match us, hl with | [_, _], _ => rfl),
    (fund_mk (st := st_minus) l5 c5 k5),
    (PySem.W.mg_of X G a5),
    (Binds.all fun us hl => match us, hl with | [_, _], _ => rfl),
    (fund_mk (st := st_times) l6 c6 k6),
    (PySem.W.mg_of X G a6),
    (Binds.all fun us hl => match us, hl with | [_, _], _ => rfl),
    (fund_mk (st := st_under) l7 c7 k7),
    (PySem.W.mg_of X G a7),
    (Binds.all fun us hl => match us, hl with | [_, _], _ => rfl),
    (fund_mk (st := st_floor_of) l8 c8 k8),
    (PySem.W.mg_of X G a8),
    (Binds.all fun us hl => match us, hl with | [_], _ => rfl),
    (fund_mk (st := st_ceiling_of) l9 c9 k9),
    (PySem.W.mg_of X G a9),
    (Binds.all fun us hl => match us, hl with | [_], _ => rfl),
    (fund_mk (st := st__law_cell_at) l10 c10 k10),
    (PySem.W.mg_of X G a10),
    (Binds.all fun us hl => match us, hl with | [_, _], _ => rfl),
    (fund_mk (st := st__law_divisor) l11 c11 k11),
    (PySem.W.mg_of X G a11),
    (Binds.all fun us hl => match us, hl with | [_, _], _ => rfl),
    (fund_mk (st := st__law_lowest) l12 c12 k12),
    (PySem.W.mg_of X G a12),
    (Binds.all fun us hl => match us, hl with | [_, _], _ => rfl),
    (fund_mk (st := st__law_size) l13 c13 k13),
    (PySem.W.mg_of X G a13),
    (Binds.all fun us hl => match us, hl with | [_], _ => rfl),
    (fund_mk (st := st__law_refused) l14 c14 k14),
    (PySem.W.mg_of X G a14),
    (Binds.all fun us hl => match us, hl with | [_, _], _ => rfl),
    (fund_mk (st := st__law_is) l15 c15 k15),
    (PySem.W.mg_of X G a15),
    (Binds.all fun us hl => match us, hl with | [_, _, _], _ => rfl),
    (fund_mk (st := st__law_no_fraction) l16 c16 k16),
    (PySem.W.mg_of X G a16),
    (Binds.all fun us hl => match us, hl with | [_], _ => rfl),
    (fund_mk (st := st__law_pairs_right) l17 c17 k17),
    (PySem.W.mg_of X G a17),
    (Binds.all fun us hl => match us, hl with | [_, _], _ => rfl),
    (fund_mk (st := st_law) l18 c18 k18),
    (PySem.W.mg_of X G a18),
    (Binds.all fun us hl => match us, hl with | [_], _ => rfl),
    (PySem.W.mg_of X G ac1),
    (PySem.W.mg_of X G ac3),
    (PySem.W.mg_of X G ac2),
    (PySem.W.mg_of X G ac7),
    (PySem.W.mg_of X G ac6),
    (PySem.W.mg_of X G ac5),
    (PySem.W.mg_of X G ac4),
    (PySem.W.mg_of X G ac0),
    (ac7),
    (xc7),
    (by
    intro n k h
    unfold tab at h
    split at h
    · have e := Option.some.inj (h.symm.trans (by rfl : _ = some false)); subst e; exact ⟨⟨Option.isSome_iff_exists.mpr ⟨_, ecl7⟩, ega7, egn7, eha7, ehn, etk, eob7, ebe7⟩, kt_NoNumber_BadNames⟩
    · cases h),
    (by
    intro n k h
    unfold tab at h
    split at h
    · have e := Option.some.inj (h.symm.trans (by rfl : _ = some false)); subst e; exact ⟨⟨Option.isSome_iff_exists.mpr ⟨_, ecl7⟩, ega7, egn7, eha7, ehn, etk, eob7, ebe7⟩, kt_NoNumber_BadStatement⟩
    · cases h),
    (by
    intro n k h
    unfold tab at h
    split at h
    · have e := Option.some.inj (h.symm.trans (by rfl : _ = some false)); subst e; exact ⟨⟨Option.isSome_iff_exists.mpr ⟨_, ecl7⟩, ega7, egn7, eha7, ehn, etk, eob7, ebe7⟩, kt_NoNumber_BadTerm⟩
    · cases h),
    (by
    intro n k h
    unfold tab at h
    split at h
    · have e := Option.some.inj (h.symm.trans (by rfl : _ = some true)); subst e; exact ⟨⟨Option.isSome_iff_exists.mpr ⟨_, ecl7⟩, ega7, egn7, eha7, ehn, etk, eob7, ebe7⟩, kt_NoNumber_NoNumber⟩
    · cases h),
    (by
    intro n k h
    unfold tab at h
    split at h
    · have e := Option.some.inj (h.symm.trans (by rfl : _ = some false)); subst e; exact ⟨⟨Option.isSome_iff_exists.mpr ⟨_, ecl7⟩, ega7, egn7, eha7, ehn, etk, eob7, ebe7⟩, kt_NoNumber_NoRow⟩
    · cases h),
    (by
    intro n k h
    unfold tab at h
    split at h
    · have e := Option.some.inj (h.symm.trans (by rfl : _ = some false)); subst e; exact ⟨⟨Option.isSome_iff_exists.mpr ⟨_, ecl7⟩, ega7, egn7, eha7, ehn, etk, eob7, ebe7⟩, kt_NoNumber_NoText⟩
    · cases h),
    (by
    intro n k h
    unfold tab at h
    split at h
    · have e := Option.some.inj (h.symm.trans (by rfl : _ = some false)); subst e; exact ⟨⟨Option.isSome_iff_exists.mpr ⟨_, ecl7⟩, ega7, egn7, eha7, ehn, etk, eob7, ebe7⟩, kt_NoNumber_NotTold⟩
    · cases h),
    (by
    intro n k h
    unfold tab at h
    split at h
    · have e := Option.some.inj (h.symm.trans (by rfl : _ = some true)); subst e; exact ⟨⟨Option.isSome_iff_exists.mpr ⟨_, ecl7⟩, ega7, egn7, eha7, ehn, etk, eob7, ebe7⟩, kt_NoNumber_ValueError⟩
    · cases h),
    (by
    intro n h
    unfold tab at h
    split at h
    · exact xm_NoNumber_PartError
    · cases h),
    (PySem.W.mg_none_of X G z_ValueError),
    (PySem.W.mg_none_of X G z_abs),
    (PySem.W.mg_none_of X G z_bool),
    (PySem.W.mg_none_of X G z_int),
    (PySem.W.mg_none_of X G z_isinstance),
    (PySem.W.mg_none_of X G z_len),
    (PySem.W.mg_none_of X G z_range),
    (PySem.W.mg_none_of X G z_tuple)⟩, fun s u => .of_eq (bind_law _ _ _ _ _ _ [u] rfl)⟩
def runLaw (FF n : Nat) : List D → Sto → Res D := callD tab fns FF n 18
theorem walk {n : Nat} {l : PySem.W.OpenLaw} {q : Program} {loose : List Str} {XP : (Str → Option Value) → Heap → Prop} {YP : World → Heap → Prop} {d : DefRec} {K : Params → PySem.W.Frag} (hn : l.most = some 63) (hdf : d.params.defaults = []) (hN : d.name = "law") (hr : Room n callerA)
    (hY : ∀ (w : World) (h : Heap), YP w h → (K w.params).In h)
    (hT : ∀ (w : World) (mg : Str → Option Value) (h : Heap), (K w.params).In h → h.Ns mainGlobals mg → ∃ (ad : Nat → Addr) (fd : Nat → FuncData) (cls : Nat → Addr), Txt (K w.params) mg ad fd cls ∧ ∀ (s : Shared) (u : Value), BindsTo s (fd 18) ⟨[u], []⟩ [("_law_script", u)])
    (hm : ∀ ns : List Int, ns.length ≤ 63 → ∃ FF st, runLaw FF n [.loc 0] [.frz (ns.map D.int)] = .ok (.bl true) st) :
    PySem.W.WalkO q loose XP YP l.row.toRowW d [] (fun f vs => PySem.call f vs) := by
  refine L2.walk_of (n := 63) (k := n) (x := "_law_script") (CX := fun w => CXd l.prog w) (sp := fun w vs H Q E => ∀ cls, ∃ FF, spD (K w.params) cls 1 (runLaw FF n) vs H Q E) hn (by decide) hdf hr hY ?_ ?_ fun w H s e s' z => cx_none H s e s' z
  · intro w mg fa h X G hfa
    obtain ⟨ad, fd, cls, T, hb⟩ := hT w mg h X G
    rw [hN, T.m_law] at hfa
    cases hfa
    refine ⟨fd 18, hb, fun base _ _ => ?_⟩
    have F := fun FF => (all_ok (Pr := l.prog) (w := w) (base := base) (FF := FF) T n).i_law
    exact ⟨fun vs H Q E h => let ⟨FF, h⟩ := h cls; (F FF).len vs H Q E h, fun A outer s H args us vs Q E h1 h2 h3 h4 h => let ⟨FF, h⟩ := h cls; (F FF).run A outer s H args us vs Q E h1 h2 h3 h4 h⟩
  · exact fun w H a ns hl hO hS cls => let ⟨FF, st, e⟩ := hm ns hl; ⟨FF, sp_start e H a hO hS⟩
end My
set_option Elab.async false
set_option linter.all false
set_option maxRecDepth 100000
namespace My
open PySem L2 DD
section
variable {FF n : Nat}
abbrev C (FF n : Nat) := callD tab fns FF n
theorem call_at {FF n f : Nat} {args : List D} {st : Sto} {fn : Fn} (h : fns[f]? = some fn) (hl : args.length = fn.np) (hn : fn.np ≤ fn.nl) :
    C FF (n + 1) f args st = fin (execSs tab (C FF n) FF fn.body (args.map some ++ List.replicate (fn.nl - fn.np) none) st) := by
  show (match fns[f]? with
      | some fn => if args.length = fn.np ∧ fn.np ≤ fn.nl then fin (execSs tab (callD tab fns FF n) FF fn.body (args.map some ++ List.replicate (fn.nl - fn.np) none) st) else .bad
      | none => .bad) = _
  rw [h]; simp only; rw [if_pos ⟨hl, hn⟩]
theorem whole_int (i : Int) (st : Sto) : C FF (n + 1) 0 [.int i] st = .ok (.bl true) st := by
  rw [call_at (fn := ⟨1, 1, c_is_whole⟩) rfl rfl (by decide)]
  simp [c_is_whole, execSs, execS, evalE, evalT, fin, getV, tyOf, subT, subB]
end
end My
set_option Elab.async false
set_option linter.all false
set_option maxRecDepth 100000
set_option maxHeartbeats 1000000
namespace My
open PySem L2 DD
section
variable {FF n : Nat}
theorem eqV_int (st : Sto) (a b : Int) : DD.eqV st (.int a) (.int b) = some (decide (a = b)) := by
  simp [DD.eqV, pyOf, PyData.eqv]; rfl
theorem fmod_lt {a b : Int} (h : b ≠ 0) : (a.fmod b).natAbs < b.natAbs := by
  rcases Int.lt_or_gt_of_ne h with h | h
  · have e := Int.neg_fmod_neg a b
    have h1 := Int.fmod_lt_of_pos (-a) (b := -b) (by omega)
    have h2 := Int.fmod_eq_emod_of_nonneg (-a) (b := -b) (by omega)
    have h3 := Int.emod_nonneg (-a) (b := -b) (by omega)
    omega
  · have h1 := Int.fmod_lt_of_pos a h
    have h2 := Int.fmod_eq_emod_of_nonneg a (b := b) (by omega)
    have h3 := Int.emod_nonneg a (b := b) (by omega)
    omega
theorem fmod_gcd (a b : Int) : b.gcd (a.fmod b) = a.gcd b := by
  rw [Int.fmod_def, Int.mul_comm b, Int.gcd_sub_mul_right_right, Int.gcd_comm]
theorem loop_gcd (call : Or) : ∀ (F : Nat) (a b : Int) (st : Sto), b.natAbs < F → ∃ g : Int,
    whileLoop (evalT tab call (.cm .ne (.var 1) (.cst (.int 0)))) (execSs tab call FF (.cons (.par 0 1 (.var 1) (.op .mod (.var 0) (.var 1))) .nil)) F [some (.int a), some (.int b)] st = .ok (.next [some (.int g), some (.int 0)]) st ∧ g.natAbs = a.gcd b ∧ (0 ≤ a → 0 ≤ b → 0 ≤ g)
  | 0, a, b, st, h => by omega
  | F + 1, a, b, st, h => by
    by_cases hb : b = 0
    · subst hb
      refine ⟨a, ?_, by rw [Int.gcd_zero_right], fun h _ => h⟩
      simp [whileLoop, evalT, evalE, getV, cmD, eqV_int]
    · obtain ⟨g, e, h1, h2⟩ := loop_gcd call F b (a.fmod b) st (by have := fmod_lt (a := a) hb; omega)
      refine ⟨g, ?_, by rw [h1, fmod_gcd], fun ha hb' => h2 hb' (Int.fmod_nonneg ha hb')⟩
      rw [← e]
      simp [whileLoop, evalT, evalE, getV, cmD, eqV_int, hb, execSs, execS, opD]
theorem divisor (a b : Int) (st : Sto) (h : b.natAbs < FF) : C FF (n + 1) 2 [.int a, .int b] st = .ok (.int (a.gcd b)) st := by
  rw [call_at (fn := ⟨2, 2, c_common_divisor⟩) rfl rfl (by decide)]
  obtain ⟨g, e, h1, h2⟩ := loop_gcd (FF := FF) (C FF n) FF (if a < 0 then -a else a) (if b < 0 then -b else b) st (by split <;> omega)
  have hg : g = (a.gcd b : Nat) := by
    have := h2 (by split <;> omega) (by split <;> omega)
    have h3 : g.natAbs = a.gcd b := by rw [h1]; split <;> split <;> simp [Int.gcd_neg, Int.neg_gcd]
    omega
  rw [← x_while] at e
  simp [c_common_divisor, x_nil, x_cons, x_set, x_unp, x_par, x_if, x_ret, x_ex, x_raise, evalE, evalEs, btD, fin, getV, e, hg]
theorem divisorL (a b : Int) (st : Sto) (h : b.natAbs < FF) : C FF (n + 1) 11 [.int a, .int b] st = .ok (.int (a.gcd b)) st := by
  rw [call_at (fn := ⟨2, 2, c__law_divisor⟩) rfl rfl (by decide)]
  obtain ⟨g, e, h1, h2⟩ := loop_gcd (FF := FF) (C FF n) FF a b st h
  rw [← x_while] at e
  simp [c__law_divisor, x_nil, x_cons, x_set, x_unp, x_par, x_if, x_ret, x_ex, x_raise, evalE, evalEs, btD, fin, getV, e]
  split <;> omega
def sg (b : Int) : Int := if b < 0 then -1 else 1
def low (t b : Int) : D := .tup [.int (t.fdiv (t.gcd b * sg b)), .int (b.fdiv (t.gcd b * sg b))]
theorem gcd_le {t b : Int} (hb : b ≠ 0) : t.gcd b ≤ b.natAbs := by
  have := Int.gcd_dvd_right t b
  have h2 := Int.natAbs_dvd_natAbs.mpr this
  exact Nat.le_of_dvd (by omega) (by simpa using h2)
theorem gcd_pos {t b : Int} (hb : b ≠ 0) : 0 < t.gcd b := Int.gcd_pos_of_ne_zero_right t hb
theorem sg_abs (b : Int) : (sg b).natAbs = 1 := by unfold sg; split <;> rfl
theorem div_ok {t b : Int} (hb : b ≠ 0) (hB : b.natAbs < BIG) : divOk (t.gcd b * sg b) := by
  have h1 := gcd_le (t := t) hb
  have h2 := gcd_pos (t := t) hb
  have h3 := sg_abs b
  have h4 : (t.gcd b * sg b).natAbs = t.gcd b := by rw [Int.natAbs_mul, h3]; simp
  refine ⟨fun z => ?_, by omega⟩
  rw [z] at h4; simp at h4; omega
theorem fraction_ok {a b : Int} (st : Sto) (hb : b ≠ 0) (hF : b.natAbs < FF) (hB : b.natAbs < BIG) : C FF (n + 2) 3 [.int a, .int b] st = .ok (low a b) st := by
  rw [call_at (fn := ⟨2, 3, c_fraction⟩) rfl rfl (by decide)]
  have hd := div_ok (t := a) hb hB
  have hs : sizeLine = 2 ^ 24 := rfl
  by_cases hn : b < 0
  · have es : (a.gcd b : Int) * sg b = -(a.gcd b : Int) := by unfold sg; rw [if_pos hn]; omega
    rw [es] at hd
    simp [c_fraction, x_nil, x_cons, x_set, x_unp, x_par, x_if, x_ret, x_ex, x_raise, evalE, evalEs, evalT, fin, getV, whole_int, truth, cmD, eqV_int, hb, divisor _ _ _ hF, hn, opD, hd, hs, low, es]
  · have es : (a.gcd b : Int) * sg b = (a.gcd b : Int) := by unfold sg; rw [if_neg hn]; omega
    rw [es] at hd
    simp [c_fraction, x_nil, x_cons, x_set, x_unp, x_par, x_if, x_ret, x_ex, x_raise, evalE, evalEs, evalT, fin, getV, whole_int, truth, cmD, eqV_int, hb, divisor _ _ _ hF, hn, opD, hd, hs, low, es]
end
end My
set_option Elab.async false
set_option linter.all false
set_option maxRecDepth 100000
set_option maxHeartbeats 1000000
namespace My
open PySem L2 DD
section
variable {FF n : Nat}
theorem hsz : 2 ≤ sizeLine := by decide
theorem at_sg (b : Int) : L2.atI [D.int 1, D.int (-1)] (if b < 0 then 1 else 0) = some (.int (sg b)) := by
  unfold sg; split <;> rfl
theorem mul_sg (a b : Int) : mulOk (a.gcd b) (sg b) := by
  refine .inr (.inl ?_)
  unfold sg smallI
  split <;> omega
theorem p1 (call : Or) (env : DD.Env) (st : Sto) : evalE tab call (.lstE (.cons (.cst (.int 1)) (.cons (.op .sub (.cst (.int 0)) (.cst (.int 1))) .nil))) env st = .ok (.loc st.length) (st ++ [.lst [.int 1, .int (-1)]]) := by
  simp [evalE, evalEs, opD, hsz]
theorem p2 (call : Or) (a b : Int) (x : Option D) (st : Sto) : evalE tab call (.bt .intB (.cons (.cm .lt (.var 1) (.cst (.int 0))) .nil)) [some (.int a), some (.int b), x] st = .ok (.int (if b < 0 then 1 else 0)) st := by
  simp [evalE, evalEs, btD, cmD, getV]
theorem p3 (call : Or) (a b : Int) (x : Option D) (st : Sto) : evalE tab call (.ix (.lstE (.cons (.cst (.int 1)) (.cons (.op .sub (.cst (.int 0)) (.cst (.int 1))) .nil))) (.bt .intB (.cons (.cm .lt (.var 1) (.cst (.int 0))) .nil))) [some (.int a), some (.int b), x] st = .ok (.int (sg b)) (st ++ [.lst [.int 1, .int (-1)]]) := by
  rw [evalE, p1, bind_ok, p2, bind_ok]
  simp [ixD, seqOf, lstOf, atD, at_sg]
theorem share {a b : Int} {x : Option D} (st : Sto) (hF : b.natAbs < FF) : evalE tab (C FF (n + 1)) (.op .mul (.call 11 (.cons (.var 0) (.cons (.var 1) .nil)) []) (.ix (.lstE (.cons (.cst (.int 1)) (.cons (.op .sub (.cst (.int 0)) (.cst (.int 1))) .nil))) (.bt .intB (.cons (.cm .lt (.var 1) (.cst (.int 0))) .nil)))) [some (.int a), some (.int b), x] st = .ok (.int (a.gcd b * sg b)) (st ++ [.lst [.int 1, .int (-1)]]) := by
  have e1 : evalE tab (C FF (n + 1)) (.call 11 (.cons (.var 0) (.cons (.var 1) .nil)) []) [some (.int a), some (.int b), x] st = .ok (.int (a.gcd b)) st := by
    simp [evalE, evalEs, getV, divisorL _ _ _ hF]
  rw [evalE, e1, bind_ok, p3, bind_ok, o_mul (mul_sg a b)]
theorem lowB {a b c : Int} (st : Sto) (hd : divOk c) : evalE tab (C FF (n + 1)) (.tupE (.cons (.op .fdiv (.var 0) (.var 2)) (.cons (.op .fdiv (.var 1) (.var 2)) .nil))) [some (.int a), some (.int b), some (.int c)] st = .ok (.tup [.int (a.fdiv c), .int (b.fdiv c)]) st := by
  simp [x_cons, x_nil, x_set, x_unp, x_par, x_if, x_ret, x_ex, x_raise, evalE, evalEs, evalT, fin, getV, o_add, o_sub, m_eqi, m_nei, m_lt, m_le, m_gt, m_ge, t_bl, b_abs, b_intb, o_fdiv hd, hsz]
theorem lowest {a b : Int} (st : Sto) (hb : b ≠ 0) (hF : b.natAbs < FF) (hB : b.natAbs < BIG) : C FF (n + 2) 12 [.int a, .int b] st = .ok (low a b) (st ++ [.lst [.int 1, .int (-1)]]) := by
  rw [call_at (fn := ⟨2, 3, c__law_lowest⟩) rfl rfl (by decide)]
  have hd := div_ok (t := a) hb hB
  show fin (execSs tab (C FF (n + 1)) FF c__law_lowest [some (.int a), some (.int b), none] st) = _
  unfold c__law_lowest
  rw [x_cons, x_set, share st hF]
  simp only [bind_ok, List.length_cons, List.length_nil]
  rw [if_pos (by decide), bind_ok]
  simp only [x_cons, x_ret]
  rw [show (List.set [some (D.int a), some (D.int b), none] 2 (some (D.int (a.gcd b * sg b)))) = [some (D.int a), some (D.int b), some (D.int (a.gcd b * sg b))] from rfl, lowB _ hd]
  rfl
theorem law_is {a b : Int} (st : Sto) (hb : b ≠ 0) (hF : b.natAbs < FF) (hB : b.natAbs < BIG) : C FF (n + 3) 15 [low a b, .int a, .int b] st = .ok (.bl true) (st ++ [.lst [.int 1, .int (-1)]]) := by
  rw [call_at (fn := ⟨3, 3, c__law_is⟩) rfl rfl (by decide)]
  have hl := lowest (FF := FF) (n := n) (a := a) st hb hF hB
  simp only [low] at hl ⊢
  simp [c__law_is, x_cons, x_nil, x_set, x_unp, x_par, x_if, x_ret, x_ex, x_raise, evalE, evalEs, evalT, fin, getV, o_add, o_sub, m_eqi, m_nei, m_lt, m_le, m_gt, m_ge, t_bl, b_abs, b_intb, hl, cmD, tyOf, subT, subB, btD, seqOf, ixD, atD, L2.atI, L2.ixN, DD.eqV, pyOf, optAll, PyData.eqv, PyData.eqvAll]
end
end My
set_option Elab.async false
set_option linter.all false
set_option maxRecDepth 100000
set_option maxHeartbeats 1000000
namespace My
open PySem L2 DD
section
variable {FF n : Nat}
def cell (ns : List Int) (k : Nat) : Int := (ns[k]?).getD 0
theorem atI_nat {α : Type} (xs : List α) (k : Nat) : L2.atI xs (k : Int) = xs[k]? := by
  unfold L2.atI L2.ixN
  by_cases h : k < xs.length
  · simp [h]
  · simp [h]
theorem cell_at {ns : List Int} (k : Nat) (st : Sto) (h0 : st[0]? = some (.frz (ns.map D.int))) : C FF (n + 1) 10 [.loc 0, .int k] st = .ok (.int (cell ns k)) st := by
  rw [call_at (fn := ⟨2, 2, c__law_cell_at⟩) rfl rfl (by decide)]
  have hq : seqOf st (.loc 0) = some (ns.map D.int) := by simp [seqOf, lstOf, h0]
  by_cases hk : k < ns.length
  · have e : L2.atI (ns.map D.int) (k : Int) = some (.int (cell ns k)) := by
      rw [atI_nat, List.getElem?_map]; simp [cell, hk]
    simp [c__law_cell_at, x_cons, x_nil, x_set, x_unp, x_par, x_if, x_ret, x_ex, x_raise, evalE, evalEs, evalT, fin, getV, o_add, o_sub, m_eqi, m_nei, m_lt, m_le, m_gt, m_ge, t_bl, b_abs, b_intb, b_len hq, i_at hq e, hk]
  · have : cell ns k = 0 := by unfold cell; rw [List.getElem?_eq_none (by omega)]; rfl
    simp [c__law_cell_at, x_cons, x_nil, x_set, x_unp, x_par, x_if, x_ret, x_ex, x_raise, evalE, evalEs, evalT, fin, getV, o_add, o_sub, m_eqi, m_nei, m_lt, m_le, m_gt, m_ge, t_bl, b_abs, b_intb, b_len hq, hk, this]
theorem fmodB (x : Int) {m : Int} (h : 0 < m) : 0 ≤ x.fmod m ∧ x.fmod m < m := by
  rw [Int.fmod_eq_emod_of_nonneg x (by omega)]
  exact ⟨Int.emod_nonneg _ (by omega), Int.emod_lt_of_pos _ h⟩
theorem size_is (c : Int) (st : Sto) : ∃ v : Int, C FF (n + 1) 13 [.int c] st = .ok (.int v) st ∧ v.natAbs < 2 ^ 200 := by
  have hc : (10 : Int) ^ 60 = 1000000000000000000000000000000000000000000000000000000000000 := by decide
  have p1 : powOk 10 60 := by decide
  have p2 : powOk 10 59 := by decide
  have p3 : powOk 10 50 := by decide
  have p4 : powOk 10 49 := by decide
  have d3 : divOk 3 := ⟨by decide, by show (3 : Nat) < 2 ^ 4000; exact Nat.lt_of_lt_of_le (by decide : 3 < 2 ^ 2) (Nat.pow_le_pow_right (by decide) (by decide))⟩
  have s5 : ∀ x : Int, mulOk 5 x := fun x => .inl (by unfold smallI; omega)
  have s4 : ∀ x : Int, mulOk x 48271 := fun x => .inr (.inl (by unfold smallI; omega))
  by_cases h0 : c.fmod 3 = 0
  · refine ⟨(c.fdiv 3).fmod 19 - 9, ?_, ?_⟩
    · rw [call_at (fn := ⟨1, 1, c__law_size⟩) rfl rfl (by decide)]
      simp [c__law_size, x_cons, x_nil, x_set, x_unp, x_par, x_if, x_ret, x_ex, x_raise, evalE, evalEs, evalT, fin, getV, o_add, o_sub, m_eqi, m_nei, m_lt, m_le, m_gt, m_ge, t_bl, b_abs, b_intb, o_mod, h0, o_fdiv d3]
    · have := fmodB (c.fdiv 3) (m := 19) (by decide); omega
  · by_cases h1 : c.fmod 3 = 1
    · refine ⟨(c.fdiv 3).fmod (10 ^ 60) - 5 * 10 ^ 59, ?_, ?_⟩
      · rw [call_at (fn := ⟨1, 1, c__law_size⟩) rfl rfl (by decide)]
        simp [c__law_size, x_cons, x_nil, x_set, x_unp, x_par, x_if, x_ret, x_ex, x_raise, evalE, evalEs, evalT, fin, getV, o_add, o_sub, m_eqi, m_nei, m_lt, m_le, m_gt, m_ge, t_bl, b_abs, b_intb, o_mod, h0, h1, o_fdiv d3, o_pow p1, o_pow p2, o_mul (s5 _)]
      · have := fmodB (c.fdiv 3) (m := 10 ^ 60) (by decide); omega
    · refine ⟨((c.fdiv 3) * 48271).fmod (10 ^ 50) - 5 * 10 ^ 49, ?_, ?_⟩
      · rw [call_at (fn := ⟨1, 1, c__law_size⟩) rfl rfl (by decide)]
        simp [c__law_size, x_cons, x_nil, x_set, x_unp, x_par, x_if, x_ret, x_ex, x_raise, evalE, evalEs, evalT, fin, getV, o_add, o_sub, m_eqi, m_nei, m_lt, m_le, m_gt, m_ge, t_bl, b_abs, b_intb, o_mod, h0, h1, o_fdiv d3, o_pow p3, o_pow p4, o_mul (s5 _), o_mul (s4 _)]
      · have := fmodB ((c.fdiv 3) * 48271) (m := 10 ^ 50) (by decide); omega
def NoWhole (st : Sto) : D → Prop
  | .int _ => False
  | .loc m => ∃ c, st[m]? = some c ∧ (∃ ds, c = .lst ds)
  | _ => True
theorem whole_no {d : D} {st : Sto} (h : NoWhole st d) : C FF (n + 1) 0 [d] st = .ok (.bl false) st := by
  rw [call_at (fn := ⟨1, 1, c_is_whole⟩) rfl rfl (by decide)]
  cases d with
  | int i => exact h.elim
  | loc m =>
    obtain ⟨c, e, ds, rfl⟩ := h
    simp [c_is_whole, x_cons, x_nil, x_set, x_unp, x_par, x_if, x_ret, x_ex, x_raise, evalE, evalEs, evalT, fin, getV, o_add, o_sub, m_eqi, m_nei, m_lt, m_le, m_gt, m_ge, t_bl, b_abs, b_intb, tyOf, subT, subB, e, cellTy]
  | _ => simp [c_is_whole, x_cons, x_nil, x_set, x_unp, x_par, x_if, x_ret, x_ex, x_raise, evalE, evalEs, evalT, fin, getV, o_add, o_sub, m_eqi, m_nei, m_lt, m_le, m_gt, m_ge, t_bl, b_abs, b_intb, tyOf, subT, subB]
theorem frac_no1 {d e : D} {st : Sto} (h : NoWhole st d) : C FF (n + 2) 3 [d, e] st = .exc 7 st := by
  rw [call_at (fn := ⟨2, 3, c_fraction⟩) rfl rfl (by decide)]
  simp [c_fraction, x_cons, x_nil, x_set, x_unp, x_par, x_if, x_ret, x_ex, x_raise, evalE, evalEs, evalT, fin, getV, o_add, o_sub, m_eqi, m_nei, m_lt, m_le, m_gt, m_ge, t_bl, b_abs, b_intb, whole_no h]
theorem frac_no2 {i : Int} {e : D} {st : Sto} (h : NoWhole st e) : C FF (n + 2) 3 [.int i, e] st = .exc 7 st := by
  rw [call_at (fn := ⟨2, 3, c_fraction⟩) rfl rfl (by decide)]
  simp [c_fraction, x_cons, x_nil, x_set, x_unp, x_par, x_if, x_ret, x_ex, x_raise, evalE, evalEs, evalT, fin, getV, o_add, o_sub, m_eqi, m_nei, m_lt, m_le, m_gt, m_ge, t_bl, b_abs, b_intb, whole_no h, whole_int]
theorem frac_no3 {i : Int} {st : Sto} : C FF (n + 2) 3 [.int i, .int 0] st = .exc 7 st := by
  rw [call_at (fn := ⟨2, 3, c_fraction⟩) rfl rfl (by decide)]
  simp [c_fraction, x_cons, x_nil, x_set, x_unp, x_par, x_if, x_ret, x_ex, x_raise, evalE, evalEs, evalT, fin, getV, o_add, o_sub, m_eqi, m_nei, m_lt, m_le, m_gt, m_ge, t_bl, b_abs, b_intb, whole_int]
def refM : Sto := [.exn 7, .lst [.bl false, .bl false], .lst [.bl false, .bl false], .lst [.bl false, .bl false, .bl false, .bl false], .lst [.bl false, .bl false], .lst [.bl false, .bl false, .bl false, .bl false, .bl false, .bl false]]
theorem refused {x y : D} {st : Sto} (h : C FF (n + 2) 3 [x, y] st = .exc 7 st) : C FF (n + 3) 14 [x, y] st = .ok (.bl true) (st ++ refM) := by
  rw [call_at (fn := ⟨2, 4, c__law_refused⟩) rfl rfl (by decide)]
  have ht : tab 7 (.o 0) = some true := rfl
  have hs2 : 2 ≤ sizeLine := by decide
  have hs4 : 4 ≤ sizeLine := by decide
  have hs6 : 6 ≤ sizeLine := by decide
  simp [c__law_refused, x_try, x_cons, x_nil, x_set, x_unp, x_par, x_if, x_ret, x_ex, x_raise, evalE, evalEs, evalT, fin, getV, o_add, o_sub, m_eqi, m_nei, m_lt, m_le, m_gt, m_ge, t_bl, b_abs, b_intb, h, ht, blank, tyOf, cellTy, subT, tab, hs2, hs4, hs6, cmD, seqOf, lstOf, flatD, toV, L2.inV, L2.eqV, refM, opD]
end
end My
set_option Elab.async false
set_option linter.all false
set_option maxRecDepth 100000
set_option maxHeartbeats 1000000
namespace My
open PySem L2 DD
section
variable {FF n : Nat}
structure Good (a b : Int) : Prop where
  pos : 1 ≤ b
  one : a.gcd b = 1
  ha : a.natAbs < 2 ^ 202
  hb : b.natAbs < 2 ^ 202
theorem low_good {t b : Int} (hb : 1 ≤ b) (ht : t.natAbs < 2 ^ 202) (hB : b.natAbs < 2 ^ 202) : ∃ x y, low t b = .tup [.int x, .int y] ∧ Good x y := by
  have hs : sg b = 1 := by unfold sg; rw [if_neg (by omega)]
  have hg := gcd_pos (t := t) (b := b) (by omega)
  have d1 := Int.gcd_dvd_left t b
  have d2 := Int.gcd_dvd_right t b
  refine ⟨t / (t.gcd b : Int), b / (t.gcd b : Int), ?_, ?_, ?_, ?_, ?_⟩
  · unfold low
    rw [hs, Int.mul_one, Int.fdiv_eq_ediv_of_dvd d1, Int.fdiv_eq_ediv_of_dvd d2]
  · have := Int.ediv_pos_of_pos_of_dvd (a := b) (b := (t.gcd b : Int)) (by omega) (by omega) d2
    omega
  · rw [Int.gcd_ediv d1 d2]
    show t.gcd b / t.gcd b = 1
    exact Nat.div_self hg
  · rw [Int.natAbs_ediv_of_dvd d1]
    exact Nat.lt_of_le_of_lt (Nat.div_le_self _ _) ht
  · rw [Int.natAbs_ediv_of_dvd d2]
    exact Nat.lt_of_le_of_lt (Nat.div_le_self _ _) hB
theorem isf {a b : Int} (hF : b.natAbs < FF) (st : Sto) : C FF (n + 2) 1 [.tup [.int a, .int b]] st = .ok (.bl (decide (1 ≤ b) && decide (a.gcd b = 1))) st := by
  rw [call_at (fn := ⟨1, 3, c_is_fraction⟩) rfl rfl (by decide)]
  by_cases h : 1 ≤ b
  · simp [c_is_fraction, x_cons, x_nil, x_set, x_unp, x_par, x_if, x_ret, x_ex, x_raise, evalE, evalEs, evalT, fin, getV, o_add, o_sub, m_eqi, m_nei, m_lt, m_le, m_gt, m_ge, t_bl, b_abs, b_intb, tyOf, subT, subB, btD, seqOf, whole_int, store, setAll, divisor _ _ _ hF, h]
    omega
  · simp [c_is_fraction, x_cons, x_nil, x_set, x_unp, x_par, x_if, x_ret, x_ex, x_raise, evalE, evalEs, evalT, fin, getV, o_add, o_sub, m_eqi, m_nei, m_lt, m_le, m_gt, m_ge, t_bl, b_abs, b_intb, tyOf, subT, subB, btD, seqOf, whole_int, store, setAll, h]
theorem nf_ty {d : D} {t : String} {st : Sto} (h : tyOf st d = some (.b t)) (ht : t ≠ "tuple") : C FF (n + 2) 1 [d] st = .ok (.bl false) st := by
  rw [call_at (fn := ⟨1, 3, c_is_fraction⟩) rfl rfl (by decide)]
  simp [c_is_fraction, x_cons, x_nil, x_set, x_unp, x_par, x_if, x_ret, x_ex, x_raise, evalE, evalEs, evalT, fin, getV, o_add, o_sub, m_eqi, m_nei, m_lt, m_le, m_gt, m_ge, t_bl, b_abs, b_intb, h, subT, subB, ht]
theorem nf_len {ds : List D} {st : Sto} (h : ds.length ≠ 2) : C FF (n + 2) 1 [.tup ds] st = .ok (.bl false) st := by
  rw [call_at (fn := ⟨1, 3, c_is_fraction⟩) rfl rfl (by decide)]
  have : ¬ ((ds.length : Int) = 2) := by omega
  simp [c_is_fraction, x_cons, x_nil, x_set, x_unp, x_par, x_if, x_ret, x_ex, x_raise, evalE, evalEs, evalT, fin, getV, o_add, o_sub, m_eqi, m_nei, m_lt, m_le, m_gt, m_ge, t_bl, b_abs, b_intb, tyOf, subT, subB, btD, seqOf, this]
theorem nf_w1 {x y : D} {st : Sto} (h : NoWhole st x) : C FF (n + 2) 1 [.tup [x, y]] st = .ok (.bl false) st := by
  rw [call_at (fn := ⟨1, 3, c_is_fraction⟩) rfl rfl (by decide)]
  simp [c_is_fraction, x_cons, x_nil, x_set, x_unp, x_par, x_if, x_ret, x_ex, x_raise, evalE, evalEs, evalT, fin, getV, o_add, o_sub, m_eqi, m_nei, m_lt, m_le, m_gt, m_ge, t_bl, b_abs, b_intb, tyOf, subT, subB, btD, seqOf, whole_no h, store, setAll]
theorem nf_w2 {i : Int} {y : D} {st : Sto} (h : NoWhole st y) : C FF (n + 2) 1 [.tup [.int i, y]] st = .ok (.bl false) st := by
  rw [call_at (fn := ⟨1, 3, c_is_fraction⟩) rfl rfl (by decide)]
  simp [c_is_fraction, x_cons, x_nil, x_set, x_unp, x_par, x_if, x_ret, x_ex, x_raise, evalE, evalEs, evalT, fin, getV, o_add, o_sub, m_eqi, m_nei, m_lt, m_le, m_gt, m_ge, t_bl, b_abs, b_intb, tyOf, subT, subB, btD, seqOf, whole_no h, whole_int, store, setAll]
theorem i0 (x y : D) (st : Sto) : ixD (.tup [x, y]) (.int 0) st = .ok x st := rfl
theorem i1 (x y : D) (st : Sto) : ixD (.tup [x, y]) (.int 1) st = .ok y st := rfl
theorem bigM {i j : Int} (hi : i.natAbs < 2 ^ 202) (hj : j.natAbs < 2 ^ 202) : mulOk i j := by
  refine .inr (.inr ⟨?_, ?_⟩)
  · exact Nat.lt_of_lt_of_le hi (Nat.pow_le_pow_right (by decide) (by decide))
  · exact Nat.lt_of_lt_of_le hj (Nat.pow_le_pow_right (by decide) (by decide))
theorem mulB {i j : Int} (hi : i.natAbs < 2 ^ 202) (hj : j.natAbs < 2 ^ 202) : (i * j).natAbs < 2 ^ 404 := by
  rw [Int.natAbs_mul]
  calc i.natAbs * j.natAbs < 2 ^ 202 * 2 ^ 202 := Nat.mul_lt_mul'' hi hj
    _ = 2 ^ 404 := by rw [← Nat.pow_add]
theorem mulNe {i j : Int} (hi : 1 ≤ i) (hj : 1 ≤ j) : i * j ≠ 0 := by
  have := Int.mul_pos (a := i) (b := j) (by omega) (by omega)
  omega
theorem lt_big {x : Nat} (h : x < 2 ^ 404) : x < BIG := Nat.lt_of_lt_of_le h (Nat.pow_le_pow_right (by decide) (by decide))
theorem low_one (x : Int) : low x 1 = .tup [.int x, .int 1] := by
  simp [low, sg]
section
variable {a b c d : Int} (ga : Good a b) (gc : Good c d) (hF : 2 ^ 404 ≤ FF)
include ga gc hF
theorem plus_is (st : Sto) : C FF (n + 3) 4 [.tup [.int a, .int b], .tup [.int c, .int d]] st = .ok (low (a * d + c * b) (b * d)) st := by
  rw [call_at (fn := ⟨2, 2, c_plus⟩) rfl rfl (by decide)]
  have hb := mulB ga.hb gc.hb
  have e := fraction_ok (FF := FF) (n := n) (a := a * d + c * b) (b := b * d) st (mulNe ga.pos gc.pos) (by omega) (lt_big hb)
  have hs2 : 2 ≤ sizeLine := by decide
  by_cases h1 : b = 1
  · by_cases h2 : d = 1
    · subst h1; subst h2
      simp [c_plus, x_cons, x_nil, x_set, x_unp, x_par, x_if, x_ret, x_ex, x_raise, evalE, evalEs, evalT, fin, getV, o_add, o_sub, m_eqi, m_nei, m_lt, m_le, m_gt, m_ge, t_bl, b_abs, b_intb, i0, i1, hs2, low_one]
    · simp [c_plus, x_cons, x_nil, x_set, x_unp, x_par, x_if, x_ret, x_ex, x_raise, evalE, evalEs, evalT, fin, getV, o_add, o_sub, m_eqi, m_nei, m_lt, m_le, m_gt, m_ge, t_bl, b_abs, b_intb, i0, i1, h1, h2, o_mul (bigM ga.ha gc.hb)]
      rw [h1] at e
      have q1 := bigM ga.ha gc.hb
      have q2 := bigM gc.ha ga.hb
      have q3 := bigM ga.hb gc.hb
      rw [h1] at q2 q3
      simp only [Int.mul_one, Int.one_mul] at e
      simp [o_mul q2, o_mul q3, o_add, e]
  · simp [c_plus, x_cons, x_nil, x_set, x_unp, x_par, x_if, x_ret, x_ex, x_raise, evalE, evalEs, evalT, fin, getV, o_add, o_sub, m_eqi, m_nei, m_lt, m_le, m_gt, m_ge, t_bl, b_abs, b_intb, i0, i1, h1, o_mul (bigM ga.ha gc.hb), o_mul (bigM gc.ha ga.hb), o_mul (bigM ga.hb gc.hb), e]
theorem minus_is (st : Sto) : C FF (n + 3) 5 [.tup [.int a, .int b], .tup [.int c, .int d]] st = .ok (low (a * d - c * b) (b * d)) st := by
  rw [call_at (fn := ⟨2, 2, c_minus⟩) rfl rfl (by decide)]
  have hb := mulB ga.hb gc.hb
  have e := fraction_ok (FF := FF) (n := n) (a := a * d - c * b) (b := b * d) st (mulNe ga.pos gc.pos) (by omega) (lt_big hb)
  simp [c_minus, x_cons, x_nil, x_set, x_unp, x_par, x_if, x_ret, x_ex, x_raise, evalE, evalEs, evalT, fin, getV, o_add, o_sub, m_eqi, m_nei, m_lt, m_le, m_gt, m_ge, t_bl, b_abs, b_intb, i0, i1, o_mul (bigM ga.ha gc.hb), o_mul (bigM gc.ha ga.hb), o_mul (bigM ga.hb gc.hb), e]
theorem times_is (st : Sto) : C FF (n + 3) 6 [.tup [.int a, .int b], .tup [.int c, .int d]] st = .ok (low (a * c) (b * d)) st := by
  rw [call_at (fn := ⟨2, 2, c_times⟩) rfl rfl (by decide)]
  have hb := mulB ga.hb gc.hb
  have e := fraction_ok (FF := FF) (n := n) (a := a * c) (b := b * d) st (mulNe ga.pos gc.pos) (by omega) (lt_big hb)
  have hs2 : 2 ≤ sizeLine := by decide
  by_cases h1 : b = 1
  · by_cases h2 : d = 1
    · subst h1; subst h2
      simp [c_times, x_cons, x_nil, x_set, x_unp, x_par, x_if, x_ret, x_ex, x_raise, evalE, evalEs, evalT, fin, getV, o_add, o_sub, m_eqi, m_nei, m_lt, m_le, m_gt, m_ge, t_bl, b_abs, b_intb, i0, i1, hs2, low_one, o_mul (bigM ga.ha gc.ha)]
    · simp [c_times, x_cons, x_nil, x_set, x_unp, x_par, x_if, x_ret, x_ex, x_raise, evalE, evalEs, evalT, fin, getV, o_add, o_sub, m_eqi, m_nei, m_lt, m_le, m_gt, m_ge, t_bl, b_abs, b_intb, i0, i1, h1, h2, o_mul (bigM ga.ha gc.ha)]
      rw [h1] at e
      have q3 := bigM ga.hb gc.hb
      rw [h1] at q3
      simp only [Int.one_mul] at e
      simp [o_mul q3, e]
  · simp [c_times, x_cons, x_nil, x_set, x_unp, x_par, x_if, x_ret, x_ex, x_raise, evalE, evalEs, evalT, fin, getV, o_add, o_sub, m_eqi, m_nei, m_lt, m_le, m_gt, m_ge, t_bl, b_abs, b_intb, i0, i1, h1, o_mul (bigM ga.ha gc.ha), o_mul (bigM ga.hb gc.hb), e]
theorem under_is (st : Sto) : C FF (n + 1) 7 [.tup [.int a, .int b], .tup [.int c, .int d]] st = .ok (.bl (decide (a * d < c * b))) st := by
  rw [call_at (fn := ⟨2, 2, c_under⟩) rfl rfl (by decide)]
  simp [c_under, x_cons, x_nil, x_set, x_unp, x_par, x_if, x_ret, x_ex, x_raise, evalE, evalEs, evalT, fin, getV, o_add, o_sub, m_eqi, m_nei, m_lt, m_le, m_gt, m_ge, t_bl, b_abs, b_intb, i0, i1, o_mul (bigM ga.ha gc.hb), o_mul (bigM gc.ha ga.hb)]
def lstM : Cell := .lst [.int 1, .int (-1)]
theorem pairs (st : Sto) : C FF (n + 4) 17 [.tup [.int a, .int b], .tup [.int c, .int d]] st = .ok (.bl true) (st ++ [lstM, lstM, lstM]) := by
  rw [call_at (fn := ⟨2, 7, c__law_pairs_right⟩) rfl rfl (by decide)]
  have hb := mulB ga.hb gc.hb
  have hn := mulNe ga.pos gc.pos
  have e1 := fun st => plus_is (n := n) ga gc hF st
  have e2 := fun st => minus_is (n := n) ga gc hF st
  have e3 := fun st => times_is (n := n) ga gc hF st
  have e4 := fun st => under_is (n := n + 2) ga gc hF st
  have l1 := fun st => law_is (FF := FF) (n := n) (a := a * d + c * b) (b := b * d) st hn (by omega) (lt_big hb)
  have l2 := fun st => law_is (FF := FF) (n := n) (a := a * d - c * b) (b := b * d) st hn (by omega) (lt_big hb)
  have l3 := fun st => law_is (FF := FF) (n := n) (a := a * c) (b := b * d) st hn (by omega) (lt_big hb)
  simp [c__law_pairs_right, x_cons, x_nil, x_set, x_unp, x_par, x_if, x_ret, x_ex, x_raise, evalE, evalEs, evalT, fin, getV, o_add, o_sub, m_eqi, m_nei, m_lt, m_le, m_gt, m_ge, t_bl, b_abs, b_intb, store, setAll, o_mul (bigM ga.ha gc.hb), o_mul (bigM gc.ha ga.hb), o_mul (bigM ga.hb gc.hb), o_mul (bigM ga.ha gc.ha), e1, e2, e3, e4, l1, l2, l3, tyOf, subT, subB, cmD, DD.eqV, pyOf, PyData.eqv, lstM]
end
theorem divG {a b : Int} (g : Good a b) : divOk b := ⟨by have := g.pos; omega, Nat.lt_of_lt_of_le g.hb (Nat.pow_le_pow_right (by decide) (by decide))⟩
theorem floor_is {a b : Int} (g : Good a b) (st : Sto) : C FF (n + 1) 8 [.tup [.int a, .int b]] st = .ok (.int (a.fdiv b)) st := by
  rw [call_at (fn := ⟨1, 1, c_floor_of⟩) rfl rfl (by decide)]
  simp [c_floor_of, x_cons, x_nil, x_set, x_unp, x_par, x_if, x_ret, x_ex, x_raise, evalE, evalEs, evalT, fin, getV, o_add, o_sub, m_eqi, m_nei, m_lt, m_le, m_gt, m_ge, t_bl, b_abs, b_intb, i0, i1, o_fdiv (divG g)]
theorem ceil_is {a b : Int} (g : Good a b) (st : Sto) : C FF (n + 1) 9 [.tup [.int a, .int b]] st = .ok (.int (-((-a).fdiv b))) st := by
  rw [call_at (fn := ⟨1, 1, c_ceiling_of⟩) rfl rfl (by decide)]
  simp [c_ceiling_of, x_cons, x_nil, x_set, x_unp, x_par, x_if, x_ret, x_ex, x_raise, evalE, evalEs, evalT, fin, getV, o_add, o_sub, m_eqi, m_nei, m_lt, m_le, m_gt, m_ge, t_bl, b_abs, b_intb, i0, i1, o_fdiv (divG g)]
end
end My
set_option Elab.async false
set_option linter.all false
set_option maxRecDepth 100000
set_option maxHeartbeats 2000000
namespace My
open PySem L2 DD
section
variable {FF n : Nat}
def nf6 : List D := [.tup [.int 2, .int 4], .tup [.int 1, .int 0], .tup [.int 1, .int (-1)], .tup [.int 0, .int 2], .tup [.bl true, .int 1], .tup [.int 1, .bl true]]
def nf7 (k : Nat) : List D := [.loc (k + 1), .tup [.int 1], .tup [.int 1, .int 2, .int 3], .int 5, .non, .str (Str.ofString "1/2"), .tup [.str (Str.ofString "1"), .int 1]]
def nf5 (k : Nat) (v : Int) : List D := [.tup [.int 1, .non], .tup [.int 0, .int 0], .tup [], .loc (k + 4), .tup [.int v, .int 0]]
def nfV (c : Int) : Int := 1 + (c.fdiv 18).fmod 100000000000000000000
def nfM (k : Nat) (c : Int) : Sto := [.lst nf6, .lst [.int 1, .int 2], .lst (nf7 k), .lst (nf6 ++ nf7 k), .dct [], .lst (nf5 k (nfV c)), .lst (nf6 ++ nf7 k ++ nf5 k (nfV c))]
theorem sz (k : Nat) (h : k ≤ 100) : k ≤ sizeLine := Nat.le_trans h (by decide)
theorem nf_eval (c : Int) (st : Sto) : C FF (n + 1) 16 [.int c] st = ixD (.loc (st.length + 6)) (.int (c.fmod 18)) (st ++ nfM st.length c) := by
  rw [call_at (fn := ⟨1, 2, c__law_no_fraction⟩) rfl rfl (by decide)]
  have d18 : divOk 18 := ⟨by decide, Nat.lt_of_lt_of_le (by decide : 18 < 2 ^ 5) (Nat.pow_le_pow_right (by decide) (by decide))⟩
  have p1 : powOk 10 20 := by decide
  have hs0 := sz 0 (by decide)
  have hs1 := sz 1 (by decide)
  have hs2 := sz 2 (by decide)
  have hs3 := sz 3 (by decide)
  have hs5 := sz 5 (by decide)
  have hs6 := sz 6 (by decide)
  have hs7 := sz 7 (by decide)
  have hs13 := sz 13 (by decide)
  have hs18 := sz 18 (by decide)
  simp [c__law_no_fraction, x_cons, x_nil, x_set, x_ret, evalE, evalEs, fin, getV, o_add, o_sub, o_pow p1, o_fdiv d18, o_mod, hs0, hs1, hs2, hs3, hs5, hs6, hs7, hs13, hs18, opD, p1, d18, gg, gg0, Nat.add_assoc, nfM, nf6, nf7, nf5, nfV]
  generalize ixD _ _ _ = r
  cases r <;> rfl
end
end My
set_option Elab.async false
set_option linter.all false
set_option maxRecDepth 100000
set_option maxHeartbeats 2000000
namespace My
open PySem L2 DD
section
variable {FF n : Nat}
theorem nf_no (n' : Nat) (c : Int) (st : Sto) (hF : 2 ^ 404 ≤ FF) : ∃ d m, C FF (n + 1) 16 [.int c] st = .ok d (st ++ m) ∧ C FF (n' + 2) 1 [d] (st ++ m) = .ok (.bl false) (st ++ m) := by
  have hF2 : 4 < FF := Nat.lt_of_lt_of_le (Nat.lt_of_lt_of_le (by decide : 4 < 2 ^ 3) (Nat.pow_le_pow_right (by decide) (by decide))) hF
  have hb := fmodB c (m := 18) (by decide)
  have hq : seqOf (st ++ nfM st.length c) (.loc (st.length + 6)) = some (nf6 ++ nf7 st.length ++ nf5 st.length (nfV c)) := by
    simp [seqOf, lstOf, gg, nfM]
  have ha : ∀ d ∈ nf6 ++ nf7 st.length ++ nf5 st.length (nfV c), C FF (n' + 2) 1 [d] (st ++ nfM st.length c) = .ok (.bl false) (st ++ nfM st.length c) := by
    intro d hd
    have h1 : tyOf (st ++ nfM st.length c) (.loc (st.length + 1)) = some (.b "list") := by simp [tyOf, gg, nfM, cellTy]
    have h4 : tyOf (st ++ nfM st.length c) (.loc (st.length + 4)) = some (.b "dict") := by simp [tyOf, gg, nfM, cellTy]
    simp only [nf6, nf7, nf5, List.cons_append, List.nil_append, List.mem_cons, List.not_mem_nil, or_false] at hd
    rcases hd with h | h | h | h | h | h | h | h | h | h | h | h | h | h | h | h | h | h <;> subst h
    · rw [isf (by omega)]; rfl
    · rw [isf (by omega)]; rfl
    · rw [isf (by omega)]; rfl
    · rw [isf (by omega)]; rfl
    · exact nf_w1 trivial
    · exact nf_w2 trivial
    · exact nf_ty h1 (by decide)
    · exact nf_len (by decide)
    · exact nf_len (by decide)
    · exact nf_ty (t := "int") rfl (by decide)
    · exact nf_ty (t := "NoneType") rfl (by decide)
    · exact nf_ty (t := "str") rfl (by decide)
    · exact nf_w1 trivial
    · exact nf_w2 trivial
    · rw [isf (by omega)]; rfl
    · exact nf_len (by decide)
    · exact nf_ty h4 (by decide)
    · rw [isf (by omega)]; simp
  have hl : (nf6 ++ nf7 st.length ++ nf5 st.length (nfV c)).length = 18 := rfl
  obtain ⟨k, hk⟩ : ∃ k : Nat, c.fmod 18 = k := ⟨(c.fmod 18).toNat, by omega⟩
  have hk2 : k < (nf6 ++ nf7 st.length ++ nf5 st.length (nfV c)).length := by rw [hl]; omega
  refine ⟨(nf6 ++ nf7 st.length ++ nf5 st.length (nfV c))[k], nfM st.length c, ?_, ha _ (List.getElem_mem _)⟩
  rw [nf_eval, hk]
  exact i_at hq (by rw [atI_nat]; exact List.getElem?_eq_getElem hk2)
theorem keep0 {st m : Sto} {k : Nat} {c : Cell} (h : st[k]? = some c) : (st ++ m)[k]? = some c := by
  rw [List.getElem?_append_left (List.getElem?_eq_some_iff.mp h).1]; exact h
def fr (t b : Int) (w s k be o1 o2 th : Option D) : DD.Env := [some (.loc 0), some (.int t), some (.int b), w, s, k, be, o1, o2, th]
theorem seq_ok {t : Nat → Ty → Option Bool} {call : Or} {F : Nat} {s : S} {r : Ss} {env env' : DD.Env} {st st' : Sto} (h : execS t call F s env st = .ok (.next env') st') : execSs t call F (.cons s r) env st = execSs t call F r env' st' := by
  rw [x_cons, h]; rfl
variable {ns : List Int} (hF : 2 ^ 404 ≤ FF)
include hF
theorem lt_F {b : Int} (h : b.natAbs < 2 ^ 202) : b.natAbs < FF := Nat.lt_of_lt_of_le h (Nat.le_trans (Nat.pow_le_pow_right (by decide) (by decide)) hF)
theorem lt_B {b : Int} (h : b.natAbs < 2 ^ 202) : b.natAbs < BIG := Nat.lt_of_lt_of_le h (Nat.pow_le_pow_right (by decide) (by decide))
theorem seg3 {t b : Int} {st : Sto} (hb : b.natAbs < 2 ^ 202) : ∃ b' m, execS tab (C FF (n + 4)) FF (.ifS (.cm .eq (.var 2) (.cst (.int 0))) (.cons (.ifS (.notE (.call 14 (.cons (.var 1) (.cons (.cst (.int 0)) .nil)) [])) (.cons (.ret (.cst (.bl false))) .nil) .nil) (.cons (.set 2 (.cst (.int 1))) .nil)) .nil) (fr t b none none none none none none none) st = .ok (.next (fr t b' none none none none none none none)) (st ++ m) ∧ b' ≠ 0 ∧ b'.natAbs < 2 ^ 202 := by
  by_cases h : b = 0
  · refine ⟨1, refM, ?_, by decide, by decide⟩
    have e := refused (n := n + 1) (frac_no3 (FF := FF) (n := n + 1) (i := t) (st := st))
    simp [x_cons, x_nil, x_set, x_unp, x_par, x_if, x_ret, x_ex, x_raise, evalE, evalEs, evalT, fin, getV, o_add, o_sub, m_eqi, m_nei, m_lt, m_le, m_gt, m_ge, t_bl, b_abs, b_intb, h, fr, e]
  · refine ⟨b, [], ?_, h, hb⟩
    simp [x_cons, x_nil, x_set, x_unp, x_par, x_if, x_ret, x_ex, x_raise, evalE, evalEs, evalT, fin, getV, o_add, o_sub, m_eqi, m_nei, m_lt, m_le, m_gt, m_ge, t_bl, b_abs, b_intb, h, fr]
theorem seg4 {t b : Int} {st : Sto} (hb0 : b ≠ 0) (hb : b.natAbs < 2 ^ 202) : execS tab (C FF (n + 4)) FF (.ifS (.orE (.notE (.call 15 (.cons (.call 3 (.cons (.var 1) (.cons (.var 2) .nil)) []) (.cons (.var 1) (.cons (.var 2) .nil))) [])) (.notE (.call 15 (.cons (.call 3 (.cons (.var 1) .nil) [(.int 1)]) (.cons (.var 1) (.cons (.cst (.int 1)) .nil))) []))) (.cons (.ret (.cst (.bl false))) .nil) .nil) (fr t b none none none none none none none) st = .ok (.next (fr t b none none none none none none none)) (st ++ [lstM, lstM]) := by
  have f1 := fun st => fraction_ok (FF := FF) (n := n + 2) (a := t) (b := b) st hb0 (lt_F hF hb) (lt_B hF hb)
  have f2 := fun st => fraction_ok (FF := FF) (n := n + 2) (a := t) (b := 1) st (by decide) (lt_F hF (by decide)) (lt_B hF (by decide))
  have l1 := fun st => law_is (FF := FF) (n := n + 1) (a := t) (b := b) st hb0 (lt_F hF hb) (lt_B hF hb)
  have l2 := fun st => law_is (FF := FF) (n := n + 1) (a := t) (b := 1) st (by decide) (lt_F hF (by decide)) (lt_B hF (by decide))
  simp [x_cons, x_nil, x_set, x_unp, x_par, x_if, x_ret, x_ex, x_raise, evalE, evalEs, evalT, fin, getV, o_add, o_sub, m_eqi, m_nei, m_lt, m_le, m_gt, m_ge, t_bl, b_abs, b_intb, fr, f1, f2, l1, l2, lstM]
def wrongs (k : Nat) : List D := [.bl true, .non, .str (Str.ofString "1"), .tup [.int 1, .int 1], .loc k]
theorem wrong_no {st : Sto} {m : Sto} {d : D} (h : d ∈ wrongs st.length) : NoWhole (st ++ [.lst [.int 1], .lst (wrongs st.length)] ++ m) d := by
  simp only [wrongs, List.mem_cons, List.not_mem_nil, or_false] at h
  rcases h with h | h | h | h | h <;> subst h <;> simp only [NoWhole]
  exact ⟨_, keep0 (gg0 (m := [.lst [.int 1], .lst _])), _, rfl⟩
theorem seg5 {t b : Int} {st : Sto} (hb0 : b ≠ 0) (hb : b.natAbs < 2 ^ 202) : ∃ w m, execS tab (C FF (n + 4)) FF (.forS [3] true false (.lstE (.cons (.cst (.bl true)) (.cons (.cst .non) (.cons (.cst (.str (Str.ofString "1"))) (.cons (.tupE (.cons (.cst (.int 1)) (.cons (.cst (.int 1)) .nil))) (.cons (.lstE (.cons (.cst (.int 1)) .nil)) .nil)))))) (.cons (.ifS (.orE (.notE (.call 14 (.cons (.var 3) (.cons (.var 2) .nil)) [])) (.notE (.call 14 (.cons (.var 1) (.cons (.var 3) .nil)) []))) (.cons (.ret (.cst (.bl false))) .nil) .nil) .nil)) (fr t b none none none none none none none) st = .ok (.next (fr t b w none none none none none none)) (st ++ m) := by
  have hs1 := sz 1 (by decide)
  have hs2 := sz 2 (by decide)
  have hs5 := sz 5 (by decide)
  have hw : evalE tab (C FF (n + 4)) (.lstE (.cons (.cst (.bl true)) (.cons (.cst .non) (.cons (.cst (.str (Str.ofString "1"))) (.cons (.tupE (.cons (.cst (.int 1)) (.cons (.cst (.int 1)) .nil))) (.cons (.lstE (.cons (.cst (.int 1)) .nil)) .nil)))))) (fr t b none none none none none none none) st = .ok (.loc (st.length + 1)) (st ++ [.lst [.int 1], .lst (wrongs st.length)]) := by
    simp [evalE, evalEs, hs1, hs2, hs5, wrongs]
  have hwk : walkOf false (st ++ [.lst [.int 1], .lst (wrongs st.length)]) (.loc (st.length + 1)) = some (wrongs st.length, some (st.length + 1)) := by
    simp [walkOf, lstOf, gg]
  rw [x_forAt hw hwk]
  obtain ⟨env', st', h1, w, m, h2, h3⟩ := for_keep (p := some (st.length + 1)) (all := wrongs st.length) (J := fun _ env st' => ∃ w m, env = fr t b w none none none none none none ∧ st' = st ++ [.lst [.int 1], .lst (wrongs st.length)] ++ m)
    (body := turn tab (C FF (n + 4)) FF [3] true (.cons (.ifS (.orE (.notE (.call 14 (.cons (.var 3) (.cons (.var 2) .nil)) [])) (.notE (.call 14 (.cons (.var 1) (.cons (.var 3) .nil)) []))) (.cons (.ret (.cst (.bl false))) .nil) .nil) .nil)) (by
      rintro i env st' ⟨w, m, rfl, rfl⟩
      simp [stays, lstOf, gg]) (wrongs st.length) 0 (fr t b none none none none none none none) (st ++ [.lst [.int 1], .lst (wrongs st.length)]) ⟨none, [], rfl, by simp⟩ (by
      rintro j d hj env st' ⟨w, m, rfl, rfl⟩
      have hd : d ∈ wrongs st.length := List.mem_of_getElem? hj
      have r1 := refused (n := n + 1) (frac_no1 (FF := FF) (n := n + 1) (e := .int b) (wrong_no hF (m := m) hd))
      have r2 := refused (n := n + 1) (frac_no2 (FF := FF) (n := n + 1) (i := t) (wrong_no hF (m := m ++ refM) hd))
      refine ⟨fr t b (some d) none none none none none none, st ++ [.lst [.int 1], .lst (wrongs st.length)] ++ (m ++ refM ++ refM), ?_, some d, m ++ refM ++ refM, rfl, rfl⟩
      have hs : store [3] true d (fr t b w none none none none none none) = some (fr t b (some d) none none none none none none) := rfl
      rw [turn_at hs]
      simp only [List.append_assoc, List.cons_append, List.nil_append] at r1 r2 ⊢
      simp [x_cons, x_nil, x_set, x_unp, x_par, x_if, x_ret, x_ex, x_raise, evalE, evalEs, evalT, fin, getV, o_add, o_sub, m_eqi, m_nei, m_lt, m_le, m_gt, m_ge, t_bl, b_abs, b_intb, fr, r1, r2])
  refine ⟨w, [.lst [.int 1], .lst (wrongs st.length)] ++ m, ?_⟩
  rw [h1, h2, h3, List.append_assoc]
end
end My
set_option Elab.async false
set_option linter.all false
set_option maxRecDepth 100000
set_option maxHeartbeats 2000000
namespace My
open PySem L2 DD
section
variable {FF n : Nat} {ns : List Int} (hF : 2 ^ 404 ≤ FF)
def GoodD (d : D) : Prop := ∃ a b, d = .tup [.int a, .int b] ∧ Good a b
structure Held (ns : List Int) (S : Nat) (ds : List D) (st : Sto) : Prop where
  h0 : st[0]? = some (.frz (ns.map D.int))
  hS : st[S]? = some (.lst ds)
theorem Held.app {S : Nat} {ds : List D} {st m : Sto} (h : Held ns S ds st) : Held ns S ds (st ++ m) := ⟨keep0 h.h0, keep0 h.hS⟩
abbrev b7 : Ss := (.cons (.set 6 (.op .add (.cst (.int 1)) (.bt .absB (.cons (.call 13 (.cons (.call 10 (.cons (.var 0) (.cons (.op .add (.cst (.int 3)) (.op .mul (.cst (.int 2)) (.var 5))) .nil)) []) .nil) []) .nil)))) (.cons (.ex (.mt .append (.var 4) (.cons (.call 12 (.cons (.call 13 (.cons (.call 10 (.cons (.var 0) (.cons (.op .add (.cst (.int 2)) (.op .mul (.cst (.int 2)) (.var 5))) .nil)) []) .nil) []) (.cons (.var 6) .nil)) []) .nil))) .nil))
include hF
theorem seg7 {t b : Int} {w : Option D} {st : Sto} {S : Nat} (hS0 : 0 < S) (h : Held ns S [] st) : ∃ k be ds st', execS tab (C FF (n + 4)) FF (.forR [5] (.cons (.cst (.int 3)) .nil) b7) (fr t b w (some (.loc S)) none none none none none) st = .ok (.next (fr t b w (some (.loc S)) k be none none none)) st' ∧ Held ns S ds st' ∧ ∀ d ∈ ds, GoodD d := by
  have hx : evalEs tab (C FF (n + 4)) (.cons (.cst (.int 3)) .nil) (fr t b w (some (.loc S)) none none none none none) st = .ok [.int 3] st := by simp [evalEs, evalE]
  have hr : rngOf [.int 3] = some [.int 0, .int 1, .int 2] := by decide
  rw [x_forRAt hx hr]
  obtain ⟨env', st', h1, k, be, ds, h2, h3, h4, h5⟩ := for_keep (p := none) (all := [.int 0, .int 1, .int 2]) (body := turn tab (C FF (n + 4)) FF [5] true b7)
    (J := fun i env st' => ∃ k be ds, env = fr t b w (some (.loc S)) k be none none none ∧ Held ns S ds st' ∧ ds.length = i ∧ ∀ d ∈ ds, GoodD d)
    (fun _ _ _ _ => rfl) [.int 0, .int 1, .int 2] 0 (fr t b w (some (.loc S)) none none none none none) st ⟨none, none, [], rfl, h, rfl, fun d hd => by cases hd⟩ (by
      rintro j d hj env st' ⟨k, be, ds, rfl, hh, hl, hg⟩
      obtain ⟨q, rfl⟩ : ∃ q : Nat, d = .int q := by
        rcases j with _ | _ | _ | j
        · cases hj; exact ⟨0, rfl⟩
        · cases hj; exact ⟨1, rfl⟩
        · cases hj; exact ⟨2, rfl⟩
        · simp at hj
      have hs : store [5] true (.int q) (fr t b w (some (.loc S)) k be none none none) = some (fr t b w (some (.loc S)) (some (.int q)) be none none none) := rfl
      rw [turn_at hs]
      have hjl : j < 3 := by have := (List.getElem?_eq_some_iff.mp hj).1; simpa using this
      obtain ⟨v, ev, hv⟩ := size_is (FF := FF) (n := n + 3) (cell ns (3 + 2 * q)) st'
      obtain ⟨u, eu, hu⟩ := size_is (FF := FF) (n := n + 3) (cell ns (2 + 2 * q)) st'
      have c1 := cell_at (FF := FF) (n := n + 3) (3 + 2 * q) st' hh.h0
      have c2 := cell_at (FF := FF) (n := n + 3) (2 + 2 * q) st' hh.h0
      have m2 : mulOk 2 (q : Int) := .inl (by unfold smallI; omega)
      have hbb : (1 + if v < 0 then -v else v).natAbs < 2 ^ 202 := by split <;> omega
      have hb1 : 1 ≤ (1 + if v < 0 then -v else v) := by split <;> omega
      generalize hbe : (1 + if v < 0 then -v else v) = bb at hbb hb1
      have lo := lowest (FF := FF) (n := n + 2) (a := u) (b := bb) st' (by omega) (lt_F hF hbb) (lt_B hF hbb)
      obtain ⟨x, y, e1, g1⟩ := low_good (t := u) hb1 (by omega) hbb
      rw [e1] at lo
      have hSl : S < st'.length := (List.getElem?_eq_some_iff.mp hh.hS).1
      have hlen : ds.length < sizeLine := Nat.lt_of_lt_of_le (show ds.length < 100 by omega) (by decide)
      refine ⟨fr t b w (some (.loc S)) (some (.int q)) (some (.int bb)) none none none, (st' ++ [lstM]).set S (.lst (ds ++ [.tup [.int x, .int y]])), ?_, some (.int q), some (.int bb), ds ++ [.tup [.int x, .int y]], rfl, ⟨?_, ?_⟩, by simp [hl], ?_⟩
      · have c1' : C FF (n + 4) 10 [.loc 0, .int (3 + 2 * (q : Int))] st' = .ok (.int (cell ns (3 + 2 * q))) st' := by simpa using c1
        have c2' : C FF (n + 4) 10 [.loc 0, .int (2 + 2 * (q : Int))] st' = .ok (.int (cell ns (2 + 2 * q))) st' := by simpa using c2
        have hS2 := hh.hS
        have hS3 : (st' ++ [Cell.lst [D.int 1, D.int (-1)]])[S]? = some (.lst ds) := keep0 hh.hS
        simp [b7, x_cons, x_nil, x_set, x_unp, x_par, x_if, x_ret, x_ex, x_raise, evalE, evalEs, evalT, fin, getV, o_add, o_sub, m_eqi, m_nei, m_lt, m_le, m_gt, m_ge, t_bl, b_abs, b_intb, fr, c1', c2', ev, eu, o_mul m2, hbe, isLst, hS2, lo, mtD, hS3, hlen, lstM]
      · rw [List.getElem?_set_ne (by omega)]; exact keep0 hh.h0
      · rw [List.getElem?_set]; simp; omega
      · intro d hd
        rcases List.mem_append.mp hd with hd | hd
        · exact hg d hd
        · simp at hd; subst hd; exact ⟨x, y, rfl, g1⟩)
  exact ⟨k, be, ds, st', by rw [h1, h2], h3, h5⟩
abbrev b9 : Ss := (.cons (.ifS (.notE (.call 17 (.cons (.var 7) (.cons (.var 8) .nil)) [])) (.cons (.ret (.cst (.bl false))) .nil) .nil) .nil)
abbrev b8 : Ss := (.cons (.ifS (.orE (.notE (.call 1 (.cons (.var 7) .nil) [])) (.orE (.cm .ne (.call 8 (.cons (.var 7) .nil) []) (.op .fdiv (.ix (.var 7) (.cst (.int 0))) (.ix (.var 7) (.cst (.int 1))))) (.cm .ne (.call 9 (.cons (.var 7) .nil) []) (.op .sub (.cst (.int 0)) (.op .fdiv (.op .sub (.cst (.int 0)) (.ix (.var 7) (.cst (.int 0)))) (.ix (.var 7) (.cst (.int 1)))))))) (.cons (.ret (.cst (.bl false))) .nil) .nil) (.cons (.forS [8] true false (.var 4) b9) .nil))
theorem walk_at {ns : List Int} {S : Nat} {ds : List D} {st : Sto} (h : Held ns S ds st) : walkOf false st (.loc S) = some (ds, some S) := by
  simp [walkOf, lstOf, h.hS]
theorem seg9 {t b : Int} {w k be o2 : Option D} {st : Sto} {S : Nat} {ds : List D} {x y : Int} (h : Held ns S ds st) (hg : ∀ d ∈ ds, GoodD d) (g : Good x y) : ∃ o2' st', execS tab (C FF (n + 4)) FF (.forS [8] true false (.var 4) b9) (fr t b w (some (.loc S)) k be (some (.tup [.int x, .int y])) o2 none) st = .ok (.next (fr t b w (some (.loc S)) k be (some (.tup [.int x, .int y])) o2' none)) st' ∧ Held ns S ds st' := by
  have hx : evalE tab (C FF (n + 4)) (.var 4) (fr t b w (some (.loc S)) k be (some (.tup [.int x, .int y])) o2 none) st = .ok (.loc S) st := by simp [evalE, fr, getV]
  rw [x_forAt hx (walk_at hF h)]
  obtain ⟨env', st', h1, o2', h2, h3⟩ := for_keep (p := some S) (all := ds) (body := turn tab (C FF (n + 4)) FF [8] true b9)
    (J := fun i env st' => ∃ o2, env = fr t b w (some (.loc S)) k be (some (.tup [.int x, .int y])) o2 none ∧ Held ns S ds st')
    (by rintro i env st' ⟨o2, _, hh⟩; simp [stays, lstOf, hh.hS]) ds 0 _ st ⟨o2, rfl, h⟩ (by
      rintro j d hj env st' ⟨o2, rfl, hh⟩
      obtain ⟨a, c, rfl, g2⟩ := hg d (List.mem_of_getElem? hj)
      have hs : store [8] true (.tup [.int a, .int c]) (fr t b w (some (.loc S)) k be (some (.tup [.int x, .int y])) o2 none) = some (fr t b w (some (.loc S)) k be (some (.tup [.int x, .int y])) (some (.tup [.int a, .int c])) none) := rfl
      rw [turn_at hs]
      have e := pairs (n := n) g g2 hF st'
      refine ⟨_, st' ++ [lstM, lstM, lstM], ?_, some (.tup [.int a, .int c]), rfl, hh.app⟩
      simp [b9, x_cons, x_nil, x_set, x_unp, x_par, x_if, x_ret, x_ex, x_raise, evalE, evalEs, evalT, fin, getV, o_add, o_sub, m_eqi, m_nei, m_lt, m_le, m_gt, m_ge, t_bl, b_abs, b_intb, fr, e])
  exact ⟨o2', st', by rw [h1, h2], h3⟩
theorem seg8 {t b : Int} {w k be : Option D} {st : Sto} {S : Nat} {ds : List D} (h : Held ns S ds st) (hg : ∀ d ∈ ds, GoodD d) : ∃ o1 o2 st', execS tab (C FF (n + 4)) FF (.forS [7] true false (.var 4) b8) (fr t b w (some (.loc S)) k be none none none) st = .ok (.next (fr t b w (some (.loc S)) k be o1 o2 none)) st' ∧ Held ns S ds st' := by
  have hx : evalE tab (C FF (n + 4)) (.var 4) (fr t b w (some (.loc S)) k be none none none) st = .ok (.loc S) st := by simp [evalE, fr, getV]
  rw [x_forAt hx (walk_at hF h)]
  obtain ⟨env', st', h1, o1, o2, h2, h3⟩ := for_keep (p := some S) (all := ds) (body := turn tab (C FF (n + 4)) FF [7] true b8)
    (J := fun i env st' => ∃ o1 o2, env = fr t b w (some (.loc S)) k be o1 o2 none ∧ Held ns S ds st')
    (by rintro i env st' ⟨o1, o2, _, hh⟩; simp [stays, lstOf, hh.hS]) ds 0 _ st ⟨none, none, rfl, h⟩ (by
      rintro j d hj env st' ⟨o1, o2, rfl, hh⟩
      obtain ⟨a, c, rfl, g2⟩ := hg d (List.mem_of_getElem? hj)
      have hs : store [7] true (.tup [.int a, .int c]) (fr t b w (some (.loc S)) k be o1 o2 none) = some (fr t b w (some (.loc S)) k be (some (.tup [.int a, .int c])) o2 none) := rfl
      rw [turn_at hs]
      have e1 := isf (FF := FF) (n := n + 2) (a := a) (lt_F hF g2.hb) st'
      have e2 := floor_is (FF := FF) (n := n + 3) g2 st'
      have e3 := ceil_is (FF := FF) (n := n + 3) g2 st'
      obtain ⟨o2', st'', e4, h4⟩ := seg9 (n := n) (t := t) (b := b) (w := w) (k := k) (be := be) (o2 := o2) hF hh hg g2
      refine ⟨_, st'', ?_, some (.tup [.int a, .int c]), o2', rfl, h4⟩
      rw [seq_ok (env' := fr t b w (some (.loc S)) k be (some (.tup [.int a, .int c])) o2 none) (st' := st'), seq_ok e4, x_nil]
      simp [x_cons, x_nil, x_set, x_unp, x_par, x_if, x_ret, x_ex, x_raise, evalE, evalEs, evalT, fin, getV, o_add, o_sub, m_eqi, m_nei, m_lt, m_le, m_gt, m_ge, t_bl, b_abs, b_intb, fr, e1, e2, e3, g2.pos, g2.one, i0, i1, o_fdiv (divG g2)])
  exact ⟨o1, o2, st', by rw [h1, h2], h3⟩
end
end My
set_option Elab.async false
set_option linter.all false
set_option maxRecDepth 100000
set_option maxHeartbeats 2000000
namespace My
open PySem L2 DD
section
variable {FF n : Nat} {ns : List Int} (hF : 2 ^ 404 ≤ FF)
def things (t : Int) (k : Nat) : List D := [.int t, .int 0, .int (-7), .bl true, .bl false, .non, .str (Str.ofString "5"), .tup [.int 1, .int 1], .loc k]
def isW : D → D
  | .int _ => .bl true
  | _ => .bl false
abbrev wl : Es := (.cons (.var 1) (.cons (.cst (.int 0)) (.cons (.op .sub (.cst (.int 0)) (.cst (.int 7))) (.cons (.cst (.bl true)) (.cons (.cst (.bl false)) (.cons (.cst .non) (.cons (.cst (.str (Str.ofString "5"))) (.cons (.tupE (.cons (.cst (.int 1)) (.cons (.cst (.int 1)) .nil))) (.cons (.lstE (.cons (.cst (.int 3)) .nil)) .nil)))))))))
abbrev fin9 : Ss := (.cons (.set 9 (.lstE wl)) (.cons (.ret (.cm .eq (.comp 0 [] [] (.var 9) .nil (.call 0 (.cons (.var 0) .nil) [])) (.op .add (.op .mul (.lstE (.cons (.cst (.bl true)) .nil)) (.cst (.int 3))) (.op .mul (.lstE (.cons (.cst (.bl false)) .nil)) (.cst (.int 6)))))) .nil))
theorem seg11 {t b : Int} {w s k be o1 o2 : Option D} {st : Sto} : ∃ st', execSs tab (C FF (n + 4)) FF fin9 (fr t b w s k be o1 o2 none) st = .ok (.ret (.bl true)) st' := by
  have hs1 := sz 1 (by decide)
  have hs2 := sz 2 (by decide)
  have hs9 := sz 9 (by decide)
  have hs3 := sz 3 (by decide)
  have hs6 := sz 6 (by decide)
  have e1 : execS tab (C FF (n + 4)) FF (.set 9 (.lstE wl)) (fr t b w s k be o1 o2 none) st = .ok (.next (fr t b w s k be o1 o2 (some (.loc (st.length + 1))))) (st ++ [.lst [.int 3], .lst (things t st.length)]) := by
    simp [x_cons, x_nil, x_set, x_unp, x_par, x_if, x_ret, x_ex, x_raise, evalE, evalEs, evalT, fin, getV, o_add, o_sub, m_eqi, m_nei, m_lt, m_le, m_gt, m_ge, t_bl, b_abs, b_intb, fr, hs1, hs2, hs9, things]
  rw [seq_ok e1]
  have e2 : evalE tab (C FF (n + 4)) (.comp 0 [] [] (.var 9) .nil (.call 0 (.cons (.var 0) .nil) [])) (fr t b w s k be o1 o2 (some (.loc (st.length + 1)))) (st ++ [.lst [.int 3], .lst (things t st.length)]) = .ok (.loc (st.length + 2)) (st ++ [.lst [.int 3], .lst (things t st.length)] ++ [.lst ((things t st.length).map isW)]) := by
    have hw : walkOf false (st ++ [.lst [.int 3], .lst (things t st.length)]) (.loc (st.length + 1)) = some (things t st.length, some (st.length + 1)) := by simp [walkOf, lstOf, gg]
    have hl : lstOf (st ++ [.lst [.int 3], .lst (things t st.length)]) (st.length + 1) = some (things t st.length) := by simp [lstOf, gg]
    have cm := comp_map (f := isW) (body := fun d st => evalE tab (C FF (n + 4)) (.call 0 (.cons (.var 0) .nil) []) [some d] st) hl (by simp) (show 9 ≤ sizeLine by decide) (things t st.length) [] (by show 0 + 9 ≤ sizeLine; decide) (by
      intro d hd c
      have hx : ∀ st', evalE tab (C FF (n + 4)) (.call 0 (.cons (.var 0) .nil) []) [some d] st' = C FF (n + 4) 0 [d] st' := fun st' => by simp [evalE, evalEs, getV]
      rw [hx]
      simp only [things, List.mem_cons, List.not_mem_nil, or_false] at hd
      rcases hd with h | h | h | h | h | h | h | h | h <;> subst h
      · exact whole_int _ _
      · exact whole_int _ _
      · exact whole_int _ _
      · exact whole_no trivial
      · exact whole_no trivial
      · exact whole_no trivial
      · exact whole_no trivial
      · exact whole_no trivial
      · exact whole_no ⟨_, keep0 (gg0 (m := [.lst [.int 3], .lst _])), _, rfl⟩)
    rw [List.nil_append] at cm
    rw [evalE]
    simp only [evalE, getV, fr, List.getElem?_cons_succ, List.getElem?_cons_zero, Option.join_some, bind_ok]
    rw [show ((0 : Nat) == 1) = false from rfl, hw]
    dsimp only
    simp only [evalE, getV] at cm
    rw [cm]
    simp
  rw [x_cons, x_ret, evalE, e2, bind_ok]
  have hm1 : things t st.length = things t st.length := rfl
  simp [evalE, evalEs, hs1, hs3, hs6, hs9, opD, gg, gg0, Nat.add_assoc, cmD, DD.eqV, pyOf, lstOf, things, isW, optAll, PyData.eqv, PyData.eqvAll]
include hF
theorem law_true : ∃ st, C FF (n + 5) 18 [.loc 0] [.frz (ns.map D.int)] = .ok (.bl true) st := by
  rw [call_at (fn := ⟨1, 10, c_law⟩) rfl rfl (by decide)]
  show ∃ st, fin (execSs tab (C FF (n + 4)) FF c_law [some (.loc 0), none, none, none, none, none, none, none, none, none] [.frz (ns.map D.int)]) = .ok (.bl true) st
  suffices h : ∃ st, execSs tab (C FF (n + 4)) FF c_law [some (.loc 0), none, none, none, none, none, none, none, none, none] [.frz (ns.map D.int)] = .ok (.ret (.bl true)) st by
    obtain ⟨st, e⟩ := h
    exact ⟨st, by rw [e]; rfl⟩
  have h0 : ([.frz (ns.map D.int)] : Sto)[0]? = some (.frz (ns.map D.int)) := rfl
  obtain ⟨t, et, ht⟩ := size_is (FF := FF) (n := n + 3) (cell ns 0) [.frz (ns.map D.int)]
  obtain ⟨b, eb, hb⟩ := size_is (FF := FF) (n := n + 3) (cell ns 1) [.frz (ns.map D.int)]
  have c0 : C FF (n + 4) 10 [.loc 0, .int 0] [.frz (ns.map D.int)] = .ok (.int (cell ns 0)) [.frz (ns.map D.int)] := cell_at (FF := FF) (n := n + 3) 0 [.frz (ns.map D.int)] h0
  have c1 : C FF (n + 4) 10 [.loc 0, .int 1] [.frz (ns.map D.int)] = .ok (.int (cell ns 1)) [.frz (ns.map D.int)] := cell_at (FF := FF) (n := n + 3) 1 [.frz (ns.map D.int)] h0
  unfold c_law
  rw [seq_ok (env' := [some (.loc 0), some (.int t), none, none, none, none, none, none, none, none]) (st' := [.frz (ns.map D.int)]) (by simp [x_cons, x_nil, x_set, x_unp, x_par, x_if, x_ret, x_ex, x_raise, evalE, evalEs, evalT, fin, getV, o_add, o_sub, m_eqi, m_nei, m_lt, m_le, m_gt, m_ge, t_bl, b_abs, b_intb, c0, et])]
  rw [seq_ok (env' := fr t b none none none none none none none) (st' := [.frz (ns.map D.int)]) (by simp [x_cons, x_nil, x_set, x_unp, x_par, x_if, x_ret, x_ex, x_raise, evalE, evalEs, evalT, fin, getV, o_add, o_sub, m_eqi, m_nei, m_lt, m_le, m_gt, m_ge, t_bl, b_abs, b_intb, c1, eb, fr])]
  obtain ⟨b', m3, e3, hb0, hb2⟩ := seg3 (n := n) (t := t) (b := b) (st := [.frz (ns.map D.int)]) hF (by omega)
  rw [seq_ok e3, seq_ok (seg4 (n := n) hF hb0 hb2)]
  obtain ⟨w, m5, e5⟩ := seg5 (n := n) (t := t) (b := b') (st := [.frz (ns.map D.int)] ++ m3 ++ [lstM, lstM]) hF hb0 hb2
  rw [seq_ok e5]
  generalize hst : ([.frz (ns.map D.int)] ++ m3 ++ [lstM, lstM] ++ m5 : Sto) = st5
  have hz : st5[0]? = some (.frz (ns.map D.int)) := by rw [← hst]; rfl
  have hpos : 0 < st5.length := (List.getElem?_eq_some_iff.mp hz).1
  have hs0 := sz 0 (by decide)
  rw [seq_ok (env' := fr t b' w (some (.loc st5.length)) none none none none none) (st' := st5 ++ [.lst []]) (by simp [x_cons, x_nil, x_set, x_unp, x_par, x_if, x_ret, x_ex, x_raise, evalE, evalEs, evalT, fin, getV, o_add, o_sub, m_eqi, m_nei, m_lt, m_le, m_gt, m_ge, t_bl, b_abs, b_intb, fr, hs0])]
  have hh : Held ns st5.length [] (st5 ++ [.lst []]) := ⟨keep0 hz, gg0⟩
  obtain ⟨k, be, ds, st7, e7, h7, hg⟩ := seg7 (n := n) (t := t) (b := b') (w := w) hF hpos hh
  rw [seq_ok e7]
  obtain ⟨o1, o2, st8, e8, h8⟩ := seg8 (n := n) (t := t) (b := b') (w := w) (k := k) (be := be) hF h7 hg
  rw [seq_ok e8]
  obtain ⟨d, m9, e9, f9⟩ := nf_no (FF := FF) (n := n + 3) (n + 2) (cell ns 8) st8 hF
  have c8 : C FF (n + 4) 10 [.loc 0, .int 8] st8 = .ok (.int (cell ns 8)) st8 := cell_at (FF := FF) (n := n + 3) 8 st8 h8.h0
  rw [seq_ok (env' := fr t b' w (some (.loc st5.length)) k be o1 o2 none) (st' := st8 ++ m9) (by simp [x_cons, x_nil, x_set, x_unp, x_par, x_if, x_ret, x_ex, x_raise, evalE, evalEs, evalT, fin, getV, o_add, o_sub, m_eqi, m_nei, m_lt, m_le, m_gt, m_ge, t_bl, b_abs, b_intb, fr, c8, e9, f9])]
  exact seg11
end
end My
set_option Elab.async false
set_option maxRecDepth 100000
namespace My
open PySem L2 DD
abbrev calls : Nat := 5
theorem law_end : ∀ ns : List Int, ns.length ≤ 63 → ∃ FF st, callD tab fns FF calls 18 [.loc 0] [.frz (ns.map D.int)] = .ok (.bl true) st := fun ns _ =>
  let ⟨st, e⟩ := law_true (FF := 2 ^ 404) (n := 0) (ns := ns) (Nat.le_refl _)
  ⟨_, st, e⟩
end My
open PySem PySem.W PyProof.Rows
set_option maxRecDepth 100000 in
set_option maxHeartbeats 0 in
theorem PySem.Challenge.cw_partproof_k01_fractions_holds : PySem.Challenge.rw_partproof_k01_fractions.Holds := by
  w_on; o_law; k_head; (case hw => w_witness2)
  k_fill
  refine My.walk (n := My.calls) (l := PySem.Challenge.rw_partproof_k01_fractions) rfl rfl rfl ⟨rfl, by decide, by decide⟩ (fun w h Y => PySem.W.kIn_of Y) ?lawTop ?lawEnd
  case lawTop =>
    intro w mg h KX G
    refine' My.top_mk KX G ?a0 ?l0 ?c0 ?k0 ?a1 ?l1 ?c1 ?k1 ?a2 ?l2 ?c2 ?k2 ?a3 ?l3 ?c3 ?k3 ?t3_l ?a4 ?l4 ?c4 ?k4 ?a5 ?l5 ?c5 ?k5 ?a6 ?l6 ?c6 ?k6 ?a7 ?l7 ?c7 ?k7 ?a8 ?l8 ?c8 ?k8 ?a9 ?l9 ?c9 ?k9 ?a10 ?l10 ?c10 ?k10 ?a11 ?l11 ?c11 ?k11 ?a12 ?l12 ?c12 ?k12 ?a13 ?l13 ?c13 ?k13 ?a14 ?l14 ?c14 ?k14 ?a15 ?l15 ?c15 ?k15 ?a16 ?l16 ?c16 ?k16 ?a17 ?l17 ?c17 ?k17 ?a18 ?l18 ?c18 ?k18 ?ac0 ?ac1 ?ac2 ?ac3 ?ac4 ?ac5 ?ac6 ?ac7 ?xc7 ?ecl7 ?ega7 ?egn7 ?eha7 ?eob7 ?ebe7 ?ehn ?etk ?kt_NoNumber_BadNames ?kt_NoNumber_BadStatement ?kt_NoNumber_BadTerm ?kt_NoNumber_NoNumber ?kt_NoNumber_NoRow ?kt_NoNumber_NoText ?kt_NoNumber_NotTold ?kt_NoNumber_ValueError ?xm_NoNumber_PartError ?z_ValueError ?z_abs ?z_bool ?z_int ?z_isinstance ?z_len ?z_range ?z_tuple
    (case a0 => k_is)
    (case l0 => k_is)
    (case c0 => k_is)
    (case k0 => k_is)
    (case a1 => k_is)
    (case l1 => k_is)
    (case c1 => k_is)
    (case k1 => k_is)
    (case a2 => k_is)
    (case l2 => k_is)
    (case c2 => k_is)
    (case k2 => k_is)
    (case a3 => k_is)
    (case l3 => k_is)
    (case c3 => k_is)
    (case k3 => k_is)
    (case t3_l => k_is)
    (case a4 => k_is)
    (case l4 => k_is)
    (case c4 => k_is)
    (case k4 => k_is)
    (case a5 => k_is)
    (case l5 => k_is)
    (case c5 => k_is)
    (case k5 => k_is)
    (case a6 => k_is)
    (case l6 => k_is)
    (case c6 => k_is)
    (case k6 => k_is)
    (case a7 => k_is)
    (case l7 => k_is)
    (case c7 => k_is)
    (case k7 => k_is)
    (case a8 => k_is)
    (case l8 => k_is)
    (case c8 => k_is)
    (case k8 => k_is)
    (case a9 => k_is)
    (case l9 => k_is)
    (case c9 => k_is)
    (case k9 => k_is)
    (case a10 => k_is)
    (case l10 => k_is)
    (case c10 => k_is)
    (case k10 => k_is)
    (case a11 => k_is)
    (case l11 => k_is)
    (case c11 => k_is)
    (case k11 => k_is)
    (case a12 => k_is)
    (case l12 => k_is)
    (case c12 => k_is)
    (case k12 => k_is)
    (case a13 => k_is)
    (case l13 => k_is)
    (case c13 => k_is)
    (case k13 => k_is)
    (case a14 => k_is)
    (case l14 => k_is)
    (case c14 => k_is)
    (case k14 => k_is)
    (case a15 => k_is)
    (case l15 => k_is)
    (case c15 => k_is)
    (case k15 => k_is)
    (case a16 => k_is)
    (case l16 => k_is)
    (case c16 => k_is)
    (case k16 => k_is)
    (case a17 => k_is)
    (case l17 => k_is)
    (case c17 => k_is)
    (case k17 => k_is)
    (case a18 => k_is)
    (case l18 => k_is)
    (case c18 => k_is)
    (case k18 => k_is)
    (case ac0 => k_is)
    (case ac1 => k_is)
    (case ac2 => k_is)
    (case ac3 => k_is)
    (case ac4 => k_is)
    (case ac5 => k_is)
    (case ac6 => k_is)
    (case ac7 => k_is)
    (case xc7 => k_exc)
    (case ecl7 => k_is)
    (case ega7 => k_is)
    (case egn7 => k_is)
    (case eha7 => k_is)
    (case eob7 => k_is)
    (case ebe7 => k_is)
    (case ehn => k_is)
    (case etk => k_is)
    (case kt_NoNumber_BadNames => kit_is)
    (case kt_NoNumber_BadStatement => kit_is)
    (case kt_NoNumber_BadTerm => kit_is)
    (case kt_NoNumber_NoNumber => kit_is)
    (case kt_NoNumber_NoRow => kit_is)
    (case kt_NoNumber_NoText => kit_is)
    (case kt_NoNumber_NotTold => kit_is)
    (case kt_NoNumber_ValueError => kit_is)
    (case xm_NoNumber_PartError => kts_exm)
    (case z_ValueError => k_is)
    (case z_abs => k_is)
    (case z_bool => k_is)
    (case z_int => k_is)
    (case z_isinstance => k_is)
    (case z_len => k_is)
    (case z_range => k_is)
    (case z_tuple => k_is)
  case lawEnd => exact My.law_end
