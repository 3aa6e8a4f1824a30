import PyProof.Rows.All
import Wide.All
import OpenK.AllK
import Wide.FinOn
import Lean
import PyProof.EqAt
import PyProof.EqKinds
import PyProof.TupleCall
import PyProof.NsDelKeeps
import KE.KLam
import PyProof.DictWalks
import KE.KEqDict
import KE.KDictLaws
import KE.KDictList
import PyProof.Rows.SetFrom
import PyProof.WalksEnum
import PyProof.LayNew
import PyProof.Rows.EnumRows
import PyProof.DictItems
import PyProof.Rows.ZipGen
import KE.KTab
import Wide.Seal
import KE.KNest
import PyProof.NeKinds
import PySem.Challenge.RW_partproof_k21_forms_of_terms
set_option Elab.async false
set_option linter.all false
set_option maxRecDepth 100000
set_option maxHeartbeats 4000000
noncomputable section
namespace L2
open PySem PySem.Spec PyProof.Rows
abbrev Key := Sum Int Str
def Hf : Key → Value → Bool
 | .inl k, v => Value.isInt k v
 | .inr x, v => Value.isStrOf x v
def Vj (w : World) : Key → Int
 | .inl k => hashInt k
 | .inr x => hashStr w x
theorem Ek : ∀ {k : Key} {v : Value}, Hf k v = true → (∃ i t, k = Sum.inl i ∧ v = Value.int i t) ∨ (∃ x t, k = Sum.inr x ∧ v = Value.str x t)
 | .inl i, v, h => by
  obtain ⟨t, e⟩ := Value.isInt_shape (k := i) (v := v) h
  exact .inl ⟨i, t, rfl, e⟩
 | .inr x, v, h => by
  obtain ⟨t, e⟩ := Value.isStrOf_shape (x := x) (v := v) h
  exact .inr ⟨x, t, rfl, e⟩
theorem vk (i : Int) (t : Tok) : Hf (.inl i) (.int i t) = true := by simp [Hf, Value.isInt]
theorem Vk (x : Str) (t : Tok) : Hf (.inr x) (.str x t) = true := by simp [Hf, Value.isStrOf]
theorem Vl (a b : Int) : decide ((Sum.inl a : Key) = Sum.inl b) = (a == b) := by
 by_cases e : a = b
 · subst e; simp
 · have h : ¬ (Sum.inl a : Key) = Sum.inl b := fun q => e (Sum.inl.inj q)
   rw [decide_eq_false h]
   exact (beq_eq_false_iff_ne.mpr e).symm
theorem vm (a b : Str) : decide ((Sum.inr a : Key) = Sum.inr b) = decide (a = b) := by
 by_cases e : a = b
 · subst e; simp
 · have h : ¬ (Sum.inr a : Key) = Sum.inr b := fun q => e (Sum.inr.inj q)
   rw [decide_eq_false h, decide_eq_false e]
theorem Vm (a : Int) (b : Str) : decide ((Sum.inl a : Key) = Sum.inr b) = false := decide_eq_false (fun q => nomatch q)
theorem vn (a : Str) (b : Int) : decide ((Sum.inr a : Key) = Sum.inl b) = false := decide_eq_false (fun q => nomatch q)
def fg (prog : Program) (w : World) : PySem.KeyKind prog w Key where
 is := Hf
 hash := Vj w
 inj := fun v a b ha hb => by
  rcases Ek ha with ⟨i, t, rfl, rfl⟩ | ⟨x, t, rfl, rfl⟩
  · rcases Ek hb with ⟨j, u, rfl, e⟩ | ⟨y, u, rfl, e⟩
    · injection e with e1 _; rw [e1]
    · exact nomatch e
  · rcases Ek hb with ⟨j, u, rfl, e⟩ | ⟨y, u, rfl, e⟩
    · exact nomatch e
    · injection e with e1 _; rw [e1]
 byValue := fun k v h => by
  rcases Ek h with ⟨i, t, rfl, rfl⟩ | ⟨x, t, rfl, rfl⟩ <;> rfl
 pyHash := fun hv h => by
  rcases Ek hv with ⟨i, t, rfl, rfl⟩ | ⟨x, t, rfl, rfl⟩
  · exact wpAny_pyHash_int h
  · exact wpAny_pyHash_str h
 eqBool := fun hu hv h => by
  rcases Ek hu with ⟨i, t, rfl, rfl⟩ | ⟨x, t, rfl, rfl⟩
  · rcases Ek hv with ⟨j, u, rfl, rfl⟩ | ⟨y, u, rfl, rfl⟩
    · rw [Vl] at h; exact wpAny_eqBool_int h
    · rw [Vm] at h; exact SeqAt.EqAt.int_str i t y u _ _ _ _ h
  · rcases Ek hv with ⟨j, u, rfl, rfl⟩ | ⟨y, u, rfl, rfl⟩
    · rw [vn] at h; exact SeqAt.EqAt.str_int x t j u _ _ _ _ h
    · rw [vm] at h; exact wpAny_eqBool_str h
 «strs» := fun k x t v h => by
  rcases Ek h with ⟨i, u, rfl, e⟩ | ⟨y, u, rfl, e⟩
  · exact nomatch e
  · injection e with e1 _
    subst e1
    cases v <;> rfl
theorem Vn (prog : Program) (w : World) (i : Int) (t : Tok) : (fg prog w).is (.inl i) (.int i t) = true := vk i t
theorem vo (prog : Program) (w : World) (x : Str) (t : Tok) : (fg prog w).is (.inr x) (.str x t) = true := Vk x t
inductive V where
 | non | bl (b : Bool) | int (i : Int) | str (x : Str) | byt (b : Array UInt8) | flt (b : UInt64) | ref (a : Addr) | ty (n : String)
 deriving DecidableEq
def RelV : V → Value → Prop
 | .non, u => u = Value.none
 | .bl b, u => u = Value.bool b
 | .int i, u => ∃ t, u = Value.int i t
 | .str x, u => ∃ t, u = Value.str x t
 | .byt b, u => ∃ t, u = Value.bytes b t
 | .flt b, u => ∃ t, u = Value.float b t
 | .ref a, u => u = Value.ref a
 | .ty n, u => u = Value.type n
abbrev Vals : List V → List Value → Prop := Paired RelV
theorem Vals.length {xs : List V} {us : List Value} (r : Vals xs us) : xs.length = us.length := Paired.length r
theorem Vals.get : ∀ {xs : List V} {us : List Value} {i : Nat} {x : V}, Vals xs us → xs[i]? = some x → ∃ u, us[i]? = some u ∧ RelV x u
 | _, _, _, _, .nil, e => by simp at e
 | _, _, 0, _, .cons r _, e => by simp at e; subst e; exact ⟨_, rfl, r⟩
 | _, _, i + 1, x, .cons _ t, e => by
  obtain ⟨u, h1, h2⟩ := Vals.get (i := i) (x := x) t (by simpa using e)
  exact ⟨u, by simpa using h1, h2⟩
theorem Vals.set {x : V} {u : Value} (r : RelV x u) : ∀ {xs : List V} {us : List Value} (i : Nat), Vals xs us → Vals (xs.set i x) (us.set i u)
 | _, _, _, .nil => .nil
 | _, _, 0, .cons _ t => .cons r t
 | _, _, i + 1, .cons q t => .cons q (Vals.set r i t)
theorem Vals.append : ∀ {xs ys : List V} {us ws : List Value}, Vals xs us → Vals ys ws → Vals (xs ++ ys) (us ++ ws)
 | _, _, _, _, .nil, s => s
 | _, _, _, _, .cons r t, s => .cons r (Vals.append t s)
theorem Vals.take : ∀ {xs : List V} {us : List Value} (n : Nat), Vals xs us → Vals (xs.take n) (us.take n)
 | _, _, 0, _ => .nil
 | _, _, _ + 1, .nil => .nil
 | _, _, n + 1, .cons r t => .cons r (Vals.take n t)
theorem Vals.drop : ∀ {xs : List V} {us : List Value} (n : Nat), Vals xs us → Vals (xs.drop n) (us.drop n)
 | _, _, 0, r => r
 | _, _, _ + 1, .nil => .nil
 | _, _, n + 1, .cons _ t => Vals.drop n t
def Hg : Option V → Option Value → Prop
 | some v, some u => RelV v u
 | none, none => True
 | _, _ => False
def KV {κ : Type} : List (κ × V) → List (κ × Value) → Prop := Paired fun (p : κ × V) (q : κ × Value) => p.1 = q.1 ∧ RelV p.2 q.2
def kV : Key → V
 | .inl i => .int i
 | .inr x => .str x
inductive HO where
 | lst (xs : List V)
 | tup (xs : List V)
 | dK (kvs : List (Key × V)) | dT (kvs : List (List Key × V))
 | set (S : Int → Bool) (n : Nat)
 | ins (C dx : Addr) (fs : List (Str × V))
 | own (x : Addr)
 | xd (fs : List (Str × V))
 | met (f x : Addr)
 | rng (lo hi : Int)
 | frz (o : Obj) (u : HO)
 | tbl (ps : Array Value)
 | ext (φ : Heap → Prop)
abbrev Hp := Addr → Option HO
def upd (H : Hp) (a : Addr) (o : HO) : Hp := fun b => if b = a then some o else H b
theorem Bm {H : Hp} {a : Addr} {o : HO} : upd H a o a = some o := by unfold upd; rw [if_pos rfl]
theorem As {H : Hp} {a b : Addr} {o : HO} (h : b ≠ a) : upd H a o b = H b := by unfold upd; rw [if_neg h]
theorem Cz {H : Hp} {a b : Addr} {o u : HO} (h : H a = some o) (h' : H b = some u) (d : o ≠ u) : a ≠ b := by
 intro e; subst e; rw [h] at h'; exact d (Option.some.inj h')
theorem El {H : Hp} {a b : Addr} {o : HO} (h : H a = some o) (h' : H b = none) : a ≠ b := by
 intro e; subst e; rw [h] at h'; cases h'
section
variable (P : Program) (w : World)
def Bs (H : Hp) (h : Heap) (a : Addr) : HO → Prop
 | .lst xs => xs.length ≤ sizeLine ∧ ∃ (its : List Value) (n : Nat), Vals xs its ∧ h.get? a = some { cls := .type "list", data := .seq its.toArray n }
 | .tup xs => xs.length ≤ sizeLine ∧ ∃ its : List Value, Vals xs its ∧ IsTup h a its.toArray
 | .dK kvs => kvs.length ≤ sizeLine ∧ (a == sysModules) = false ∧ ∃ vs, KV kvs vs ∧ h.DictOf (fg P w) a vs
 | .dT kvs => kvs.length ≤ sizeLine ∧ (a == sysModules) = false ∧ ∃ xs : List (List Key × Addr × Value),
  Paired (fun (p : List Key × V) (q : List Key × Addr × Value) => p.1 = q.1 ∧ H q.2.1 = some (.tup (p.1.map kV)) ∧ RelV p.2 q.2.2) kvs xs ∧
  ∃ o es ep, h.get? a = some o ∧ o.ExactDict ∧ o.data = .dict es ep ∧ es.toList = xs.map (entryOfKey (tupleKind (fg P w))) ∧ (xs.map (·.1)).Nodup
 | .set S n => h.SetOf (intKind P w) a S n
 | .ins C dx fs => H dx = some (.own a) ∧ fs.length ≤ 1000 ∧ dx ≠ a ∧ h.get? a = some (PySem.W.instObj C dx) ∧
  ∃ mA, h.Ns1 dx mA ∧ (∀ f, Hg (fs.lookup f) (mA f)) ∧ PySem.Within mA (fs.map (·.1))
 | .own _ => ∃ o, h.get? a = some o
 | .xd fs => ∃ mA, h.Ns1 a mA ∧ ∀ f, Hg (fs.lookup f) (mA f)
 | .rng lo hi => ∃ t u v, h.get? a = some { cls := .type "range", data := .fields #[.int lo t, .int hi u, .int 1 v] }
 | .frz o u => h.get? a = some o ∧ Bs H h a u
 | .tbl ps => h.get? a = some { cls := .none, data := .fields ps }
 | .met f x => h.get? a = some (PySem.W.methodObj (.ref f) (.ref x))
 | .ext φ => φ h ∧ (∃ o, h.get? a = some o) ∧ ∀ h1 h2 : Heap, φ h1 → (∀ o, h1.get? a = some o → h2.get? a = some o) → φ h2
def HOk (H : Hp) (h : Heap) : Prop := ∀ a o, H a = some o → Bs P w H h a o
end
section
variable {P : Program} {w : World} {H H' : Hp} {h h' : Heap} {a : Addr} {o : HO}
theorem Bs.lt (x : Bs P w H h a o) : a < h.objs.size := by
 cases o with
 | lst xs => obtain ⟨_, _, _, _, e⟩ := x; exact Heap.lt_size e
 | tup xs => obtain ⟨_, _, _, p⟩ := x; exact p.lt
 | dK kvs => obtain ⟨_, _, _, _, o, _, _, e, _⟩ := x; exact Heap.lt_size e
 | dT kvs => obtain ⟨_, _, _, _, o, _, _, e, _⟩ := x; exact Heap.lt_size e
 | set S n => obtain ⟨o, _, _, _, e, _⟩ := x; exact Heap.lt_size e
 | ins C dx fs => obtain ⟨_, _, _, e, _⟩ := x; exact Heap.lt_size e
 | own y => obtain ⟨_, e⟩ := x; exact Heap.lt_size e
 | xd fs => obtain ⟨_, ⟨_, _, _, e, _⟩, _⟩ := x; exact Heap.lt_size e
 | rng lo hi => obtain ⟨_, _, _, e⟩ := x; exact Heap.lt_size e
 | frz ob u => obtain ⟨e, _⟩ := x; exact Heap.lt_size e
 | tbl ps => exact Heap.lt_size (show h.get? a = some _ from x)
 | met f y => exact Heap.lt_size (show h.get? a = some _ from x)
 | ext φ => obtain ⟨_, ⟨_, e⟩, _⟩ := x; exact Heap.lt_size e
theorem Paired.mapP {α β : Type} {F G : α → β → Prop} : ∀ {l₁ : List α} {l₂ : List β}, Paired F l₁ l₂ → (∀ a b, F a b → G a b) → Paired G l₁ l₂
 | _, _, .nil, _ => .nil
 | _, _, .cons r t, f => .cons (f _ _ r) (Paired.mapP t f)
theorem Bs.stay (x : Bs P w H h a o) (k : ∀ b u, (b = a ∨ H b = some (.own a)) → h.get? b = some u → h'.get? b = some u)
 (ho : ∀ b, H b = some (.own a) → H' b = some (.own a)) (ht : ∀ b xs, H b = some (.tup xs) → H' b = some (.tup xs)) : Bs P w H' h' a o := by
 induction o with
 | lst xs => obtain ⟨z, its, n, r, e⟩ := x; exact ⟨z, its, n, r, k _ _ (.inl rfl) e⟩
 | tup xs => obtain ⟨z, its, r, ob, e, c⟩ := x; exact ⟨z, its, r, ob, k _ _ (.inl rfl) e, c⟩
 | dK kvs => obtain ⟨z, y, vs, r, ob, es, ep, e, c⟩ := x; exact ⟨z, y, vs, r, ob, es, ep, k _ _ (.inl rfl) e, c⟩
 | dT kvs =>
  obtain ⟨z, y, xs, r, ob, es, ep, e, c⟩ := x
  exact ⟨z, y, xs, Paired.mapP r fun p q z => ⟨z.1, ht _ _ z.2.1, z.2.2⟩, ob, es, ep, k _ _ (.inl rfl) e, c⟩
 | set S n => obtain ⟨ob, es, ep, t, e, c⟩ := x; exact ⟨ob, es, ep, t, k _ _ (.inl rfl) e, c⟩
 | ins C dx fs =>
  obtain ⟨d, z, ne, e, mA, ⟨od, es, ep, e2, c⟩, r⟩ := x
  exact ⟨ho _ d, z, ne, k _ _ (.inl rfl) e, mA, ⟨od, es, ep, k _ _ (.inr d) e2, c⟩, r⟩
 | own y => obtain ⟨ob, e⟩ := x; exact ⟨ob, k _ _ (.inl rfl) e⟩
 | xd fs => obtain ⟨mA, ⟨od, es, ep, e, c⟩, r⟩ := x; exact ⟨mA, ⟨od, es, ep, k _ _ (.inl rfl) e, c⟩, r⟩
 | rng lo hi => obtain ⟨t, u, v, e⟩ := x; exact ⟨t, u, v, k _ _ (.inl rfl) e⟩
 | frz ob u ih => obtain ⟨e, q⟩ := x; exact ⟨k _ _ (.inl rfl) e, ih q⟩
 | tbl ps =>
  have e : h.get? a = some { cls := .none, data := .fields ps } := x
  show h'.get? a = some { cls := .none, data := .fields ps }
  exact k a _ (.inl rfl) e
 | met f y =>
  have e : h.get? a = some (PySem.W.methodObj (.ref f) (.ref y)) := x
  show h'.get? a = some (PySem.W.methodObj (.ref f) (.ref y))
  exact k a _ (.inl rfl) e
 | ext φ => obtain ⟨p, ⟨o, e⟩, st⟩ := x; exact ⟨st _ _ p fun o q => k _ _ (.inl rfl) q, ⟨o, k _ _ (.inl rfl) e⟩, st⟩
theorem HOk.lt (x : HOk P w H h) (e : H a = some o) : a < h.objs.size := (x a o e).lt
theorem HOk.fresh (x : HOk P w H h) (e : h.objs.size ≤ a) : H a = none := by
 cases q : H a with
 | none => rfl
 | some u => exact absurd (Nat.lt_of_lt_of_le (x.lt q) e) (Nat.lt_irrefl _)
theorem HOk.kept (x : HOk P w H h) (k : ∀ b u, h.get? b = some u → h'.get? b = some u) : HOk P w H h' := fun a o e =>
 (x a o e).stay (fun b u _ q => k b u q) (fun _ q => q) fun _ _ q => q
theorem HOk.laid (x : HOk P w H h) (k : ∀ b u, h.get? b = some u → h'.get? b = some u) (hp : h.objs.size ≤ a) (new : Bs P w (upd H a o) h' a o) : HOk P w (upd H a o) h' := fun b u e => by
 have hn := x.fresh hp
 by_cases hb : b = a
 · subst hb; rw [Bm] at e; cases e; exact new
 · rw [As hb] at e
   exact (x b u e).stay (fun c v _ q => k c v q) (fun c q => by rw [As (El q hn)]; exact q) fun c xs q => by rw [As (El q hn)]; exact q
end
def Rd (H : Hp) (a : Addr) (u : HO) : Prop := H a = some u ∨ ∃ o, H a = some (.frz o u)
theorem Rd.ok {P : Program} {w : World} {H : Hp} {h : Heap} {a : Addr} {u : HO} (r : Rd H a u) (x : HOk P w H h) : Bs P w H h a u := by
 rcases r with r | ⟨o, r⟩
 · exact x a u r
 · obtain ⟨_, q⟩ := x a _ r
   exact q
def Mut : Option HO → Prop
 | some (.lst _) => True
 | some (.dK _) => True
 | some (.dT _) => True
 | some (.set _ _) => True
 | some (.ins _ _ _) => True
 | some (.ext _) => True
 | _ => False
section
variable {P : Program} {w : World} {H : Hp} {h h' : Heap} {x e : Addr} {o' : HO}
theorem HOk.write (ok : HOk P w H h) (mu : Mut (H x)) (he : e = x ∨ H e = some (.own x)) (k : ∀ b u, b ≠ e → h.get? b = some u → h'.get? b = some u) (heo : ∃ u, h'.get? e = some u)
 (new : Bs P w (upd H x o') h' x o') : HOk P w (upd H x o') h' := fun b u q => by
 have nown : ∀ c y, H c = some (.own y) → c ≠ x := fun c y r z => by subst z; rw [r] at mu; exact mu
 have ntup : ∀ c xs, H c = some (.tup xs) → c ≠ x := fun c xs r z => by subst z; rw [r] at mu; exact mu
 by_cases hb : b = x
 · subst hb; rw [Bm] at q; cases q; exact new
 · rw [As hb] at q
   by_cases hbe : b = e
   · have q' : H b = some (.own x) := by
      rcases he with z | z
      · exact absurd (hbe.trans z) hb
      · rw [hbe]; exact z
     rw [q] at q'; cases q'
     obtain ⟨v, hv⟩ := heo
     exact ⟨v, by rw [hbe]; exact hv⟩
   · refine (ok b u q).stay (fun c v hc r => k c v ?_ r) (fun c r => by rw [As (nown c b r)]; exact r) fun c xs r => by rw [As (ntup c xs r)]; exact r
     rcases hc with rfl | hc
     · exact hbe
     · rintro rfl
       rcases he with z | z
       · exact nown c b hc z
       · rw [hc] at z; cases z; exact hb rfl
end
structure Un (fs ex : List Addr) (H H' : Hp) (h h' : Heap) : Prop where
 keep : ∀ b o, h.get? b = some o → H b = none → b ∉ fs → b ∉ ex → h'.get? b = some o
 slot : ∀ b o, h.get? b = some o → H b = none → b ∈ fs → b ∉ ex → ∃ sl, h'.get? b = some { o with slots := sl }
 free : ∀ b o, h.get? b = some o → H b = none → b ∉ ex → H' b = none
 there : ∀ b o, h.get? b = some o → b ∉ ex → ∃ o', h'.get? b = some o'
 tups : ∀ b xs, H b = some (.tup xs) → H' b = some (.tup xs)
 frzs : ∀ b o u, H b = some (.frz o u) → H' b = some (.frz o u)
 tbls : ∀ b ps, H b = some (.tbl ps) → ∃ more, H' b = some (.tbl (ps ++ more))
section
variable {fs fs' ex ex' : List Addr} {H H1 H2 : Hp} {h h1 h2 h' : Heap} {a x e : Addr} {o : HO}
theorem Un.any (u : Un fs ex H H1 h h1) {b : Addr} {ob : Obj} (q : h.get? b = some ob) (n : H b = none) (hx : b ∉ ex) : ∃ sl, h1.get? b = some { ob with slots := sl } := by
 by_cases hb : b ∈ fs
 · exact u.slot b ob q n hb hx
 · exact ⟨ob.slots, u.keep b ob q n hb hx⟩
theorem Un.kept (k : ∀ b u, h.get? b = some u → h'.get? b = some u) : Un fs ex H H h h' :=
 ⟨fun b ob q _ _ _ => k b ob q, fun b ob q _ _ _ => ⟨ob.slots, k b ob q⟩, fun _ _ _ n _ => n, fun b ob q _ => ⟨ob, k b ob q⟩, fun _ _ q => q, fun _ _ _ q => q, fun _ ps q => ⟨#[], by rw [q]; simp⟩⟩
theorem Un.refl : Un fs ex H H h h := Un.kept fun _ _ q => q
theorem Un.laid (k : ∀ b u, h.get? b = some u → h'.get? b = some u) (hp : h.objs.size ≤ a) (hn : H a = none) : Un fs ex H (upd H a o) h h' where
 keep := fun b u q _ _ _ => k b u q
 slot := fun b u q _ _ _ => ⟨u.slots, k b u q⟩
 free := fun b u q n _ => by rw [As (Nat.ne_of_lt (Nat.lt_of_lt_of_le (Heap.lt_size q) hp))]; exact n
 there := fun b u q _ => ⟨u, k b u q⟩
 tups := fun b xs q => by rw [As (El q hn)]; exact q
 frzs := fun b u xs q => by rw [As (El q hn)]; exact q
 tbls := fun b ps q => ⟨#[], by rw [As (El q hn), q]; simp⟩
theorem Un.write (mu : Mut (H x)) (he : e = x ∨ H e = some (.own x)) (k : ∀ b u, b ≠ e → h.get? b = some u → h'.get? b = some u) (heo : ∃ u, h'.get? e = some u) : Un fs ex H (upd H x o) h h' := by
 have hx : ∀ b, H b = none → b ≠ x := fun b n z => by subst z; rw [n] at mu; exact mu
 have hb : ∀ b, H b = none → b ≠ e := fun b n z => by
  subst z
  rcases he with r | r
  · exact hx b n r
  · rw [n] at r; cases r
 have hm : ∀ b u, H b = some u → ¬ Mut (some u) → b ≠ x := fun b u q nm z => by subst z; rw [q] at mu; exact nm mu
 refine ⟨fun b u q n _ _ => k b u (hb b n) q, fun b u q n _ _ => ⟨u.slots, k b u (hb b n) q⟩, fun b u q n _ => by rw [As (hx b n)]; exact n, fun b u q _ => ?_,
  fun b xs q => by rw [As (hm b _ q fun z => z)]; exact q, fun b u xs q => by rw [As (hm b _ q fun z => z)]; exact q, fun b ps q => ⟨#[], by rw [As (hm b _ q fun z => z), q]; simp⟩⟩
 by_cases hbe : b = e
 · subst hbe; exact heo
 · exact ⟨u, k b u hbe q⟩
end
def trk (h : Heap) (H : Hp) : List Addr := (List.range h.objs.size).filter fun a => (H a).isSome
def Em (h : Heap) (H : Hp) : Heap := PySem.W.hideAll h (trk h H)
theorem Vo (h : Heap) (H : Hp) : (Em h H).objs.size = h.objs.size := PySem.W.hideAll_size _ _
theorem vp {h : Heap} {H : Hp} {b : Addr} {o : Obj} (e : h.get? b = some o) (n : H b = none) : (Em h H).get? b = some o :=
 PySem.W.hideAll_get _ e fun hm => by
  have q : (H b).isSome = true := (List.mem_filter.mp hm).2
  rw [n] at q; simp at q
theorem Vp {h : Heap} {H : Hp} {b : Addr} {o : Obj} (e : (Em h H).get? b = some o) : h.get? b = some o ∧ H b = none := by
 have e' : h.get? b = some o := PySem.W.of_hideAll (trk h H) e
 refine ⟨e', ?_⟩
 cases q : H b with
 | none => rfl
 | some x =>
  have hm : b ∈ trk h H := List.mem_filter.mpr ⟨List.mem_range.mpr (Heap.lt_size e'), by simp [q]⟩
  have z : (Em h H).get? b = none := PySem.W.hideAll_none (trk h H) hm
  rw [z] at e; cases e
structure Mod (K : PySem.W.Frag) (mg : Str → Option Value) (base : Heap) : Prop where
 kin : K.In base
 glob : base.Ns mainGlobals mg
 blt : ∃ mb, base.Ns builtinsNs mb ∧ ∀ x : Str, x ≠ "__name__" → mb x = bootBuiltins x
 nolimit : base.NoLimit
structure Cx where
 prog : Program
 w : World
 K : PySem.W.Frag
 mg : Str → Option Value
 base : Heap
 A : Around
 N : List Str
 s₀ : Shared
 H₀ : Hp
 env : Env
 outer : List Env
 stack : List Env
 ex : List Addr
 fn : Str → Bool
 calm : Bool
 pn : List (Addr × Obj)
 xe : Value → Shared → Prop
def frs (l : List Env) : List Addr := l.filterMap (·.frame)
abbrev Cx.fs (X : Cx) : List Addr := frs X.outer
def Vis (sc : Scope) (x : Str) : Prop := sc.names.lookup x = some .local ∨ sc.names.lookup x = some .cell ∨ sc.names.lookup x = some .free
def Loc (sc : Scope) (x : Str) : Prop := sc.names.lookup x = some .local ∨ sc.names.lookup x = some .cell
def Look (env : Env) (h : Heap) (m : Str → Option Value) (x : Str) (u : Value) : Prop :=
 (env.kindOf x = some .local ∧ m x = some u) ∨ ((env.kindOf x = some .cell ∨ env.kindOf x = some .free) ∧ ∃ c, env.cells.lookup x = some c ∧ h.IsCell c (some u))
structure Cx.Ok (X : Cx) : Prop where
 mod : Mod X.K X.mg X.base
 kind : X.env.scope.kind = .function
 glob : X.env.globals = mainGlobals
 blt : X.env.builtins = builtinsNs
 above : X.s₀.heap.objs.size ≤ X.env.locals
 inj : ∀ x y c, X.env.cells.lookup x = some c → X.env.cells.lookup y = some c → x = y
 has : ∀ x, (X.env.kindOf x = some .cell ∨ X.env.kindOf x = some .free) → ∃ c, X.env.cells.lookup x = some c
 cab : ∀ x c, X.fn x = true → X.env.cells.lookup x = some c → X.s₀.heap.objs.size ≤ c
 hd : X.calm = true → X.A.handled = none
 frames : X.A.frames = some X.stack
 stk : X.stack = X.outer ∨ (X.stack = X.env :: X.outer ∧ X.env.frame = some X.env.locals)
 exf : ∀ b ∈ X.ex, b ≠ X.env.locals ∧ ∀ x c, X.env.cells.lookup x = some c → c ≠ b
 bs : ∀ b o, X.base.get? b = some o → X.s₀.heap.get? b = some o ∧ X.H₀ b = none
 bsz : X.base.objs.size ≤ X.s₀.heap.objs.size
 noex : ∀ b o, X.base.get? b = some o → b ∉ X.ex
 exfs : ∀ b ∈ X.ex, b ∉ X.fs
 funs : X.s₀.heap.FunFrames X.base X.outer
 frf : ∀ b ∈ X.fs, X.H₀ b = none
structure Inv (X : Cx) (pins : List (Addr × Obj)) (σ : List (Option V)) (H : Hp) (s : Shared) : Prop where
 ok : X.Ok
 os : s.os = X.s₀.os
 bare : AllBare s.gens
 base : Un X.fs X.ex X.H₀ H X.s₀.heap s.heap
 loc : ∃ m, s.heap.Ns X.env.locals m ∧ ∀ (i : Nat) (x : Str) (v : V), X.N[i]? = some x → σ[i]? = some (some v) → Vis X.env.scope x → ∃ u, RelV v u ∧ Look X.env s.heap m x u
 cell : ∀ x c, X.env.cells.lookup x = some c → ∃ v, s.heap.IsCell c v
 free : H X.env.locals = none
 freeC : ∀ x c, X.env.cells.lookup x = some c → H c = none
 pin : ∀ p ∈ X.pn ++ pins, s.heap.get? p.1 = some p.2 ∧ H p.1 = none ∧ p.1 ≠ X.env.locals ∧ p.1 ∉ X.fs ∧ ∀ v, p.2.data ≠ .cell v
 hok : HOk X.prog X.w H s.heap
 len : σ.length = X.N.length
section
variable {X : Cx} {pins : List (Addr × Obj)} {σ : List (Option V)} {H H' : Hp} {s : Shared} {h' : Heap}
theorem Cx.Ok.nofr (ok : X.Ok) {b : Addr} {o : Obj} (e : X.base.get? b = some o) : b ∉ X.fs := fun hb => by
 have := (ok.funs.mem hb).1
 rw [e] at this; cases this
theorem Inv.bs (I : Inv X pins σ H s) : ∀ b o, X.base.get? b = some o → s.heap.get? b = some o ∧ H b = none := fun b o e =>
 ⟨I.base.keep b o (I.ok.bs b o e).1 (I.ok.bs b o e).2 (I.ok.nofr e) (I.ok.noex b o e), I.base.free b o (I.ok.bs b o e).1 (I.ok.bs b o e).2 (I.ok.noex b o e)⟩
theorem Inv.bk (I : Inv X pins σ H s) : ∀ b o, X.base.get? b = some o → s.heap.get? b = some o := fun b o e => (I.bs b o e).1
theorem Inv.mod (I : Inv X pins σ H s) : Mod X.K X.mg X.base := I.ok.mod
theorem Inv.kIn (I : Inv X pins σ H s) : X.K.In s.heap := I.ok.mod.kin.keeps I.bk
theorem Inv.lt (I : Inv X pins σ H s) : X.env.locals < s.heap.objs.size := let ⟨_, hn, _⟩ := I.loc; hn.lt
theorem Inv.sz (I : Inv X pins σ H s) : X.s₀.heap.objs.size ≤ s.heap.objs.size := Nat.le_trans I.ok.above (Nat.le_of_lt I.lt)
theorem Inv.nofs (I : Inv X pins σ H s) {a : Addr} (h : s.heap.objs.size ≤ a) : a ∉ X.fs := fun hb => by
 obtain ⟨_, o, ho, _⟩ := I.ok.funs.mem hb
 exact absurd (Nat.lt_of_lt_of_le (Heap.lt_size ho) (Nat.le_trans I.sz h)) (Nat.lt_irrefl _)
theorem Inv.cne (I : Inv X pins σ H s) : ∀ x c, X.env.cells.lookup x = some c → c ≠ X.env.locals := fun x c e z => by
 obtain ⟨v, o, ho, hd⟩ := I.cell x c e
 obtain ⟨m, ⟨o', es, ep, ho', hd', _⟩, _⟩ := I.loc
 rw [z, ho'] at ho; cases ho; rw [hd'] at hd; cases hd
theorem Inv.funs (I : Inv X pins σ H s) : s.heap.FunFrames X.base X.outer := by
 have all : ∀ (l : List Env), (∀ b ∈ frs l, b ∈ X.fs) → X.s₀.heap.FunFrames X.base l → s.heap.FunFrames X.base l := by
  intro l
  induction l with
  | nil => intro _ _; trivial
  | cons env r ih =>
   intro hs hl
   obtain ⟨hk, ⟨L, o, hf, hn, ho, hd⟩, hr⟩ := hl
   have hL : L ∈ X.fs := hs L (by unfold frs; rw [List.filterMap_cons, hf]; exact List.mem_cons_self)
   obtain ⟨sl, e⟩ := I.base.slot L o ho (I.ok.frf L hL) hL fun z => I.ok.exfs L z hL
   exact ⟨hk, ⟨L, _, hf, hn, e, hd⟩, ih (fun b hb => hs b (by unfold frs; rw [List.filterMap_cons, hf]; exact List.mem_cons_of_mem _ hb)) hr⟩
 exact all X.outer (fun _ hb => hb) I.ok.funs
theorem Inv.stack (I : Inv X pins σ H s) : s.heap.FunFrames X.base X.stack := by
 rcases I.ok.stk with e | ⟨e, hf⟩
 · rw [e]; exact I.funs
 · rw [e]
   obtain ⟨m, hn, _⟩ := I.loc
   refine .cons (by rw [I.ok.kind]; decide) hf hn ?_ I.funs
   exact Heap.get?_none_of_le (Nat.le_trans I.ok.bsz I.ok.above)
theorem Inv.stkSub (I : Inv X pins σ H s) : ∀ b ∈ frs X.stack, b ∈ X.env.locals :: X.fs := fun b hb => by
 rcases I.ok.stk with e | ⟨e, hf⟩
 · rw [e] at hb; exact List.mem_cons_of_mem _ hb
 · rw [e] at hb
   unfold frs at hb
   rw [List.filterMap_cons, hf] at hb
   exact hb
theorem Inv.stkFree (I : Inv X pins σ H s) : ∀ b ∈ frs X.stack, H b = none := fun b hb => by
 rcases List.mem_cons.mp (I.stkSub b hb) with e | hb
 · rw [e]; exact I.free
 · obtain ⟨_, o, ho, _⟩ := I.ok.funs.mem hb
   exact I.base.free b o ho (I.ok.frf b hb) fun z => I.ok.exfs b z hb
theorem Inv.step {g' : Array GenState} {t' : Nat} {d' : Drawn} {ch : List Addr} (I : Inv X pins σ H s)
 (hch : ∀ b ∈ ch, (b ∈ X.ex ∨ X.s₀.heap.objs.size ≤ b) ∧ b ≠ X.env.locals ∧ (∀ x c, X.env.cells.lookup x = some c → c ≠ b) ∧ ∀ p ∈ X.pn ++ pins, p.1 ≠ b)
 (keep : ∀ b o, b ≠ X.env.locals → b ∉ X.fs → b ∉ ch → s.heap.get? b = some o → H b = none → h'.get? b = some o)
 (slot : ∀ b o, b ≠ X.env.locals → b ∈ X.fs → b ∉ ch → s.heap.get? b = some o → H b = none → ∃ sl, h'.get? b = some { o with slots := sl }) (free : ∀ b o, b ∉ ch → s.heap.get? b = some o → H b = none → H' b = none)
 (there : ∀ b o, b ∉ ch → s.heap.get? b = some o → ∃ o', h'.get? b = some o')
 (tups : ∀ b xs, H b = some (.tup xs) → H' b = some (.tup xs)) (frzs : ∀ b o u, H b = some (.frz o u) → H' b = some (.frz o u)) (tbls : ∀ b ps, H b = some (.tbl ps) → ∃ more, H' b = some (.tbl (ps ++ more)))
 (ns : ∀ m, s.heap.Ns X.env.locals m → h'.Ns X.env.locals m) (hok : HOk X.prog X.w H' h') (hg : AllBare g') :
 Inv X pins σ H' { s with heap := h', gens := g', drawn := d', toks := t' } := by
 have neL : ∀ b o, X.s₀.heap.get? b = some o → b ≠ X.env.locals := fun b o e => Nat.ne_of_lt (Nat.lt_of_lt_of_le (Heap.lt_size e) I.ok.above)
 have neC : ∀ b o, X.s₀.heap.get? b = some o → b ∉ X.ex → b ∉ ch := fun b o e hx hb => by
  rcases (hch b hb).1 with z | z
  · exact hx z
  · exact absurd (Nat.lt_of_lt_of_le (Heap.lt_size e) z) (Nat.lt_irrefl _)
 have cellK : ∀ x c, X.env.cells.lookup x = some c → ∀ v, s.heap.IsCell c v → h'.IsCell c v := fun x c e v ⟨o, ho, hd⟩ => by
  have nch : c ∉ ch := fun z => (hch c z).2.2.1 x c e rfl
  by_cases hc : c ∈ X.fs
  · obtain ⟨sl, q⟩ := slot c o (I.cne x c e) hc nch ho (I.freeC x c e)
    exact ⟨_, q, hd⟩
  · exact ⟨o, keep c o (I.cne x c e) hc nch ho (I.freeC x c e), hd⟩
 refine ⟨I.ok, I.os, hg, ⟨fun b o e n hb hx => ?_, fun b o e n hb hx => ?_, fun b o e n hx => ?_, fun b o e hx => ?_, fun b xs e => tups b xs (I.base.tups b xs e), fun b o xs e => frzs b o xs (I.base.frzs b o xs e), fun b ps e => ?_⟩, ?_, fun x c e => ?_, ?_, fun x c e => ?_, fun p hp => ?_, hok, I.len⟩
 · exact keep b o (neL b o e) hb (neC b o e hx) (I.base.keep b o e n hb hx) (I.base.free b o e n hx)
 · obtain ⟨sl, e1⟩ := I.base.slot b o e n hb hx
   obtain ⟨sl', e2⟩ := slot b _ (neL b o e) hb (neC b o e hx) e1 (I.base.free b o e n hx)
   exact ⟨sl', e2⟩
 · obtain ⟨o', e1⟩ := I.base.there b o e hx
   exact free b o' (neC b o e hx) e1 (I.base.free b o e n hx)
 · obtain ⟨o', e1⟩ := I.base.there b o e hx
   exact there b o' (neC b o e hx) e1
 · obtain ⟨m1, e1⟩ := I.base.tbls b ps e
   obtain ⟨m2, e2⟩ := tbls b _ e1
   exact ⟨m1 ++ m2, by rw [e2, Array.append_assoc]⟩
 · obtain ⟨m, hn, hl⟩ := I.loc
   refine ⟨m, ns m hn, fun i x v e1 e2 e3 => ?_⟩
   obtain ⟨u, r, l⟩ := hl i x v e1 e2 e3
   refine ⟨u, r, ?_⟩
   rcases l with l | ⟨k, c, e, z⟩
   · exact .inl l
   · exact .inr ⟨k, c, e, cellK x c e _ z⟩
 · obtain ⟨v, z⟩ := I.cell x c e
   exact ⟨v, cellK x c e v z⟩
 · obtain ⟨m, ⟨o, _, _, ho, _⟩, _⟩ := I.loc
   exact free _ o (fun z => (hch _ z).2.1 rfl) ho I.free
 · obtain ⟨v, o, ho, hd⟩ := I.cell x c e
   exact free c o (fun z => (hch c z).2.2.1 x c e rfl) ho (I.freeC x c e)
 · obtain ⟨e, n, ne, nf, d⟩ := I.pin p hp
   have nch : p.1 ∉ ch := fun z => (hch p.1 z).2.2.2 p hp rfl
   exact ⟨keep p.1 p.2 ne nf nch e n, free p.1 p.2 nch e n, ne, nf, d⟩
theorem Inv.un {t' : Nat} (I : Inv X pins σ H s) (u : Un X.fs [] H H' s.heap h') (hok : HOk X.prog X.w H' h') : Inv X pins σ H' { s with heap := h', toks := t' } := by
 obtain ⟨m, ⟨o, es, ep, ho, r⟩, _⟩ := id I.loc
 obtain ⟨sl, hL⟩ := u.any ho I.free (by simp)
 exact I.step (g' := s.gens) (d' := s.drawn) (ch := []) (fun _ z => nomatch z) (fun b o _ hb _ e n => u.keep b o e n hb (by simp)) (fun b o _ hb _ e n => u.slot b o e n hb (by simp)) (fun b o _ e n => u.free b o e n (by simp)) (fun b o _ e => u.there b o e (by simp)) u.tups u.frzs u.tbls (fun m' hm => by
  obtain ⟨o', es', ep', ho', r'⟩ := hm
  rw [ho] at ho'; cases ho'
  exact ⟨_, es', ep', hL, r'⟩) hok I.bare
theorem Inv.call {g' : Array GenState} {t' : Nat} {d' : Drawn} {ch : List Addr} (I : Inv X pins σ H s) (u : Un (frs X.stack) ch H H' s.heap h') (hok : HOk X.prog X.w H' h') (hg : AllBare g')
 (hch : ∀ b ∈ ch, (b ∈ X.ex ∨ X.s₀.heap.objs.size ≤ b) ∧ b ≠ X.env.locals ∧ (∀ x c, X.env.cells.lookup x = some c → c ≠ b) ∧ ∀ p ∈ X.pn ++ pins, p.1 ≠ b) :
 Inv X pins σ H' { s with heap := h', gens := g', drawn := d', toks := t' } := by
 obtain ⟨m, ⟨o, es, ep, ho, r⟩, _⟩ := id I.loc
 obtain ⟨sl, hL⟩ := u.any ho I.free fun z => (hch _ z).2.1 rfl
 exact I.step (ch := ch) hch (fun b o hL hb hc e n => u.keep b o e n (fun z => (List.mem_cons.mp (I.stkSub b z)).elim hL hb) hc) (fun b o _ _ hc e n => u.any e n hc) (fun b o hc e n => u.free b o e n hc) (fun b o hc e => u.there b o e hc) u.tups u.frzs u.tbls (fun m' hm => by
  obtain ⟨o', es', ep', ho', r'⟩ := hm
  rw [ho] at ho'; cases ho'
  exact ⟨_, es', ep', hL, r'⟩) hok hg
theorem Inv.turned {t' : Nat} {it : Addr} (I : Inv X pins σ H s) (k : ∀ b o, b ≠ it → s.heap.get? b = some o → h'.get? b = some o) (hn : H it = none) (hL : it ≠ X.env.locals)
 (h1 : it ∈ X.ex ∨ X.s₀.heap.objs.size ≤ it) (h2 : ∀ x c, X.env.cells.lookup x = some c → c ≠ it) (h3 : ∀ p ∈ X.pn ++ pins, p.1 ≠ it) : Inv X pins σ H { s with heap := h', toks := t' } := by
 have nit : ∀ b u, H b = some u → b ≠ it := fun b u e z => by rw [z, hn] at e; cases e
 refine I.step (g' := s.gens) (d' := s.drawn) (ch := [it]) (fun b hb => ?_) (fun b o _ _ hc e _ => k b o (fun z => hc (by simp [z])) e) (fun b o _ _ hc e _ => ⟨o.slots, k b o (fun z => hc (by simp [z])) e⟩) (fun _ _ _ _ n => n)
  (fun b o hc e => ⟨o, k b o (fun z => hc (by simp [z])) e⟩) (fun _ _ e => e) (fun _ _ _ e => e) (fun b ps e => ⟨#[], by rw [e]; simp⟩) (fun m hm => ?_) (fun b u e => ?_) I.bare
 · have e : b = it := by simpa using hb
   subst e
   exact ⟨h1, hL, h2, h3⟩
 · obtain ⟨o, es, ep, ho, r⟩ := hm
   exact ⟨o, es, ep, k _ o (Ne.symm hL) ho, r⟩
 · refine (I.hok b u e).stay (fun c v hc q => k c v ?_ q) (fun _ q => q) fun _ _ q => q
   rcases hc with z | z
   · rw [z]; exact nit b u e
   · exact nit c _ z
theorem Inv.tok (I : Inv X pins σ H s) (t : Nat) : Inv X pins σ H { s with toks := t } := I.un (h' := s.heap) (t' := t) Un.refl I.hok
theorem Inv.kept {t' : Nat} (I : Inv X pins σ H s) (k : ∀ b u, s.heap.get? b = some u → h'.get? b = some u) : Inv X pins σ H { s with heap := h', toks := t' } := I.un (Un.kept k) (I.hok.kept k)
theorem Inv.laid {a : Addr} {o : HO} {t' : Nat} (I : Inv X pins σ H s) (k : ∀ b u, s.heap.get? b = some u → h'.get? b = some u) (hp : s.heap.objs.size ≤ a) (new : Bs X.prog X.w (upd H a o) h' a o) :
 Inv X pins σ (upd H a o) { s with heap := h', toks := t' } := I.un (Un.laid k hp (I.hok.fresh hp)) (I.hok.laid k hp new)
theorem Inv.write {x e : Addr} {o : HO} {t' : Nat} (I : Inv X pins σ H s) (mu : Mut (H x)) (he : e = x ∨ H e = some (.own x)) (k : ∀ b u, b ≠ e → s.heap.get? b = some u → h'.get? b = some u) (heo : ∃ u, h'.get? e = some u)
 (new : Bs X.prog X.w (upd H x o) h' x o) : Inv X pins σ (upd H x o) { s with heap := h', toks := t' } := I.un (Un.write mu he k heo) (I.hok.write mu he k heo new)
theorem Inv.pins_of {pins' : List (Addr × Obj)} (I : Inv X pins σ H s) (h : ∀ p ∈ pins', s.heap.get? p.1 = some p.2 ∧ H p.1 = none ∧ p.1 ≠ X.env.locals ∧ p.1 ∉ X.fs ∧ ∀ v, p.2.data ≠ .cell v) : Inv X pins' σ H s :=
 ⟨I.ok, I.os, I.bare, I.base, I.loc, I.cell, I.free, I.freeC, fun p hp => (List.mem_append.mp hp).elim (fun z => I.pin p (List.mem_append_left _ z)) (h p), I.hok, I.len⟩
theorem pf {N : List Str} (hN : N.Nodup) {i j : Nat} {x : Str} (a : N[i]? = some x) (b : N[j]? = some x) : i = j := by
 obtain ⟨h1, e1⟩ := List.getElem?_eq_some_iff.mp a
 obtain ⟨h2, e2⟩ := List.getElem?_eq_some_iff.mp b
 exact (List.getElem_inj hN).mp (e1.trans e2.symm)
theorem Pf {M : Model} {A : Around} {E : Value → Shared → Prop} {i : Nat} {x : Str} {v : V} {u : Value} {Q : Unit → Shared → Prop} (I : Inv X pins σ H s) (hN : X.N.Nodup) (hi : X.N[i]? = some x) (hx : Loc X.env.scope x) (r : RelV v u)
 (h : ∀ s', Inv X pins (σ.set i (some v)) H s' → (∃ a, Heap.SameBut a s.heap s'.heap ∧ (a = X.env.locals ∨ X.env.cells.lookup x = some a)) → Q () s') (hf : X.fn x = true ∨ X.env.scope.names.lookup x = some .local := by first | exact .inl rfl | exact .inr rfl | assumption) : wpAny M A (storeName X.env x u) Q E s := by
 obtain ⟨m, hn, hl⟩ := id I.loc
 have hcls : (X.env.scope.kind == .class || (X.env.scope.kind == .module && X.env.locals != X.env.globals)) = false := by rw [I.ok.kind]; rfl
 have hiσ : i < σ.length := by rw [I.len]; exact (List.getElem?_eq_some_iff.mp hi).1
 have cne := I.cne
 have tracked : ∀ {a : Addr} {h' : Heap}, (∃ o, s.heap.get? a = some o ∧ H a = none) → Heap.SameBut a s.heap h' → HOk X.prog X.w H h' := fun {a h'} ha hs b ob e => by
  obtain ⟨_, _, hfree⟩ := ha
  refine (I.hok b ob e).stay (fun c w' hc q => (hs.2 c ?_).trans q) (fun _ q => q) fun _ _ q => q
  rintro rfl
  rcases hc with rfl | hc
  · rw [hfree] at e; cases e
  · rw [hfree] at hc; cases hc
 rcases hx with hk | hk
 · refine wpAny_storeName_local hk hn (fun h' hn' hs => ?_) hcls
   obtain ⟨oL, _, _, hoL, _⟩ := id hn
   refine h _ ⟨I.ok, I.os, I.bare, ⟨fun b o e n hb hx => ?_, fun b o e n hb hx => ?_, I.base.free, fun b o e hx => ?_, I.base.tups, I.base.frzs, I.base.tbls⟩, ⟨_, hn', fun j y v' e1 e2 e3 => ?_⟩, fun y c e => ?_, I.free, I.freeC, fun p hp => ?_, tracked ⟨oL, hoL, I.free⟩ hs, by simpa using I.len⟩ ⟨_, hs, .inl rfl⟩
   · exact (hs.2 b (Nat.ne_of_lt (Nat.lt_of_lt_of_le (Heap.lt_size e) I.ok.above))).trans (I.base.keep b o e n hb hx)
   · obtain ⟨sl, e1⟩ := I.base.slot b o e n hb hx
     exact ⟨sl, (hs.2 b (Nat.ne_of_lt (Nat.lt_of_lt_of_le (Heap.lt_size e) I.ok.above))).trans e1⟩
   · obtain ⟨o', e1⟩ := I.base.there b o e hx
     exact ⟨o', (hs.2 b (Nat.ne_of_lt (Nat.lt_of_lt_of_le (Heap.lt_size e) I.ok.above))).trans e1⟩
   · by_cases hj : j = i
     · subst hj
       rw [hi] at e1; cases e1
       rw [List.getElem?_set_self hiσ] at e2
       cases e2
       exact ⟨u, r, .inl ⟨hk, by simp⟩⟩
     · rw [List.getElem?_set_ne (Ne.symm hj)] at e2
       obtain ⟨u', r', q⟩ := hl j y v' e1 e2 e3
       refine ⟨u', r', ?_⟩
       rcases q with ⟨k, e⟩ | ⟨k, c, e, z⟩
       · refine .inl ⟨k, ?_⟩
         have : y ≠ x := fun e => hj (pf hN e1 (e ▸ hi))
         simp [this, e]
       · exact .inr ⟨k, c, e, z.sameBut hs (cne y c e)⟩
   · obtain ⟨w', z⟩ := I.cell y c e
     exact ⟨w', z.sameBut hs (cne y c e)⟩
   · obtain ⟨e, n, ne, nf, d⟩ := I.pin p hp
     exact ⟨(hs.2 p.1 ne).trans e, n, ne, nf, d⟩
 · have hfn : X.fn x = true := by
    rcases hf with z | z
    · exact z
    · rw [z] at hk; cases hk
   obtain ⟨c, hc⟩ := I.ok.has x (.inl hk)
   obtain ⟨w', z⟩ := I.cell x c hc
   refine wpAny_storeName_cell I.ok.kind hk hc z (fun h' hc' hs => ?_)
   obtain ⟨oc, hoc, hocd⟩ := id z
   refine h { s with heap := h' } ⟨I.ok, I.os, I.bare, ⟨fun b o e n hb hx => ?_, fun b o e n hb hx => ?_, I.base.free, fun b o e hx => ?_, I.base.tups, I.base.frzs, I.base.tbls⟩, ⟨m, hn.sameBut hs (Ne.symm (cne x c hc)), fun j y v' e1 e2 e3 => ?_⟩, fun y c' e => ?_, I.free, I.freeC, fun p hp => ?_, tracked ⟨oc, hoc, I.freeC x c hc⟩ hs, by simpa using I.len⟩ ⟨c, hs, .inr hc⟩
   · exact (hs.2 b (Nat.ne_of_lt (Nat.lt_of_lt_of_le (Heap.lt_size e) (I.ok.cab x c hfn hc)))).trans (I.base.keep b o e n hb hx)
   · obtain ⟨sl, e1⟩ := I.base.slot b o e n hb hx
     exact ⟨sl, (hs.2 b (Nat.ne_of_lt (Nat.lt_of_lt_of_le (Heap.lt_size e) (I.ok.cab x c hfn hc)))).trans e1⟩
   · obtain ⟨o', e1⟩ := I.base.there b o e hx
     exact ⟨o', (hs.2 b (Nat.ne_of_lt (Nat.lt_of_lt_of_le (Heap.lt_size e) (I.ok.cab x c hfn hc)))).trans e1⟩
   · by_cases hj : j = i
     · subst hj
       rw [hi] at e1; cases e1
       rw [List.getElem?_set_self hiσ] at e2
       cases e2
       exact ⟨u, r, .inr ⟨.inl hk, c, hc, hc'⟩⟩
     · rw [List.getElem?_set_ne (Ne.symm hj)] at e2
       obtain ⟨u', r', q⟩ := hl j y v' e1 e2 e3
       refine ⟨u', r', ?_⟩
       rcases q with q | ⟨k, c', e, z'⟩
       · exact .inl q
       · refine .inr ⟨k, c', e, z'.sameBut hs ?_⟩
         rintro rfl
         exact hj (pf hN e1 (I.ok.inj _ _ _ e hc ▸ hi))
   · by_cases hcc : c' = c
     · subst hcc; exact ⟨_, hc'⟩
     · obtain ⟨w2, z2⟩ := I.cell y c' e
       exact ⟨w2, z2.sameBut hs hcc⟩
   · obtain ⟨e, n, ne, nf, d⟩ := I.pin p hp
     refine ⟨(hs.2 p.1 ?_).trans e, n, ne, nf, d⟩
     intro q
     rw [q, hoc] at e
     have q' : oc = p.2 := Option.some.inj e
     exact d w' (by rw [← q']; exact hocd)
theorem Jv {M : Model} {A : Around} {E : Value → Shared → Prop} {i : Nat} {x : Str} {v : V} {u : Value} {Q : Unit → Shared → Prop} (I : Inv X pins σ H s) (hN : X.N.Nodup) (hi : X.N[i]? = some x) (hx : Loc X.env.scope x) (r : RelV v u)
 (h : ∀ s', Inv X pins (σ.set i (some v)) H s' → Q () s') (hf : X.fn x = true ∨ X.env.scope.names.lookup x = some .local := by first | exact .inl rfl | exact .inr rfl | assumption) : wpAny M A (storeName X.env x u) Q E s :=
 Pf I hN hi hx r (fun s' I' _ => h s' I') hf
theorem Inv.call' {s' : Shared} {ch : List Addr} (I : Inv X pins σ H s) (ho : s'.os = s.os) (u : Un (frs X.stack) ch H H' s.heap s'.heap) (hok : HOk X.prog X.w H' s'.heap) (hg : AllBare s'.gens)
 (hch : ∀ b ∈ ch, (b ∈ X.ex ∨ X.s₀.heap.objs.size ≤ b) ∧ b ≠ X.env.locals ∧ (∀ x c, X.env.cells.lookup x = some c → c ≠ b) ∧ ∀ p ∈ X.pn ++ pins, p.1 ≠ b) : Inv X pins σ H' s' := by
 obtain ⟨h', g', d', t', o'⟩ := s'
 have e : o' = s.os := ho
 subst e
 exact I.call (g' := g') (t' := t') (d' := d') u hok hg hch
end
abbrev XK := Value → Option Addr → Hp → Prop
abbrev St := List (Option V)
abbrev VK := V → Hp → Prop
abbrev TE := St → Hp → VK → Prop
abbrev TT := St → Hp → (Bool → Hp → Prop) → Prop
abbrev TA := St → Hp → (List V → Hp → Prop) → Prop
structure Ends where
 nx : St → Hp → Prop
 rt : VK
 bk : St → Hp → Prop := fun _ _ => False
 ct : St → Hp → Prop := fun _ _ => False
abbrev TS := Ends → St → Hp → Prop
def EP (X : Cx) (pins : List (Addr × Obj)) (σ : St) (Q : VK) (u : Value) (s' : Shared) : Prop := ∃ v H', Inv X pins σ H' s' ∧ RelV v u ∧ Q v H'
def TP (X : Cx) (pins : List (Addr × Obj)) (σ : St) (Q : Bool → Hp → Prop) (b : Bool) (s' : Shared) : Prop := ∃ H', Inv X pins σ H' s' ∧ Q b H'
def AP (X : Cx) (pins : List (Addr × Obj)) (σ : St) (Q : List V → Hp → Prop) (us : List Value) (s' : Shared) : Prop := ∃ vs H', Inv X pins σ H' s' ∧ Vals vs us ∧ Q vs H'
def SP (X : Cx) (pins : List (Addr × Obj)) (D : Ends) (f : Flow) (s' : Shared) : Prop :=
 match f with
 | .next => ∃ σ' H', Inv X pins σ' H' s' ∧ D.nx σ' H'
 | .brk => ∃ σ' H', Inv X pins σ' H' s' ∧ D.bk σ' H'
 | .cont => ∃ σ' H', Inv X pins σ' H' s' ∧ D.ct σ' H'
 | .ret u => ∃ v σ' H', Inv X pins σ' H' s' ∧ RelV v u ∧ D.rt v H'
def PE (X : Cx) (e : Expr) (t : TE) : Prop :=
 ∀ (pins : List (Addr × Obj)) (s : Shared) (σ : St) (H : Hp) (Q : VK), Inv X pins σ H s → t σ H Q → wpAny (model X.prog X.w) X.A (eval e X.env) (EP X pins σ Q) X.xe s
def PT (X : Cx) (e : Expr) (t : TT) : Prop :=
 ∀ (pins : List (Addr × Obj)) (s : Shared) (σ : St) (H : Hp) (Q : Bool → Hp → Prop), Inv X pins σ H s → t σ H Q → wpAny (model X.prog X.w) X.A (isTrue e X.env (eval e X.env)) (TP X pins σ Q) X.xe s
def PW (X : Cx) (e : Expr) (t : TT) : Prop :=
 ∀ (whole : Sem Value) (pins : List (Addr × Obj)) (s : Shared) (σ : St) (H : Hp) (Q : Bool → Hp → Prop), Inv X pins σ H s → t σ H Q → wpAny (model X.prog X.w) X.A (isTrue e X.env whole) (TP X pins σ Q) X.xe s
theorem PW.pt {X : Cx} {e : Expr} {t : TT} (h : PW X e t) : PT X e t := h _
def PA (X : Cx) (es : List Expr) (t : TA) : Prop :=
 ∀ (pos : Pos) (pins : List (Addr × Obj)) (s : Shared) (σ : St) (H : Hp) (Q : List V → Hp → Prop), Inv X pins σ H s → t σ H Q → wpAny (model X.prog X.w) X.A (spliced (backTo pos (starEach es X.env))) (AP X pins σ Q) X.xe s
def PS (X : Cx) (st : Stmt) (t : TS) : Prop :=
 ∀ (pins : List (Addr × Obj)) (s : Shared) (σ : St) (H : Hp) (D : Ends), Inv X pins σ H s → t D σ H → wpAny (model X.prog X.w) X.A (exec st X.env) (SP X pins D) X.xe s
def PSs (X : Cx) (st : List Stmt) (t : TS) : Prop :=
 ∀ (pins : List (Addr × Obj)) (s : Shared) (σ : St) (H : Hp) (D : Ends), Inv X pins σ H s → t D σ H → wpAny (model X.prog X.w) X.A (execs st X.env) (SP X pins D) X.xe s
theorem thn {α : Type} {t : Sem α} {Q Q' : α → Shared → Prop} {M : Model} {A : Around} {E : Value → Shared → Prop} {s : Shared} (h : wpAny M A t Q E s) (hQ : ∀ a s, Q a s → Q' a s) : wpAny M A t Q' E s := wpAny_mono h hQ fun _ _ x => x
section
variable {X : Cx}
def Lz (i : Nat) : TE := fun σ H Q => ∃ v, σ[i]? = some (some v) ∧ Q v H
def tC (v : V) : TE := fun _ H Q => Q v H
theorem pg {i : Nat} {x : Str} {pos : Pos} (hN : X.N[i]? = some x) (hv : Vis X.env.scope x) (hd : (x == ("__debug__" : Str)) = false := by decide) (hcd : (x == ("__classdict__" : Str)) = false := by decide) : PE X (.Name x pos) (Lz i) := by
 intro pins s σ H Q I h
 obtain ⟨v, e, h⟩ := h
 obtain ⟨m, hn, hl⟩ := I.loc
 obtain ⟨u, r, l⟩ := hl i x v hN e hv
 have fin : EP X pins σ Q u s := ⟨v, H, I, r, h⟩
 rcases l with ⟨hk, hm⟩ | ⟨hk, c, hc, hcell⟩
 · exact wpAny_Name (wpAny_loadName_local I.ok.kind hk hn hm fin) hd
 · rcases hk with hk | hk
   · exact wpAny_Name (wpAny_loadName_cell I.ok.kind hk hc hcell fin) hd
   · exact wpAny_Name (wpAny_loadName_free I.ok.kind hk hc hcell fin hcd) hd
theorem vq {i j pos} : PE X (.Constant (.int i) j pos) (tC (.int i)) := fun _ _ _ H _ I h => wpAny_Constant_int ⟨.int i, H, I.tok _, ⟨_, rfl⟩, h⟩
theorem Vq {b j pos} : PE X (.Constant (.bool b) j pos) (tC (.bl b)) := fun _ _ _ H _ I h => Constant_bool ⟨.bl b, H, I, rfl, h⟩
theorem Vr {x j pos} : PE X (.Constant (.str x) j pos) (tC (.str x)) := fun _ _ _ H _ I h => Calls.Constant_str ⟨.str x, H, I.tok _, ⟨_, rfl⟩, h⟩
def Gl (X : Cx) (x : Str) : Prop := X.env.kindOf x = some .globalImplicit
theorem Pg {E : Value → Shared → Prop} {pins : List (Addr × Obj)} {s : Shared} {σ : St} {H : Hp} {x : Str} {u : Value} {pos : Pos} {Q : Value → Shared → Prop} (I : Inv X pins σ H s) (hg : Gl X x) (hm : X.mg x = some u) (h : Q u s)
 (hd : (x == ("__debug__" : Str)) = false := by decide) : wpAny (model X.prog X.w) X.A (eval (.Name x pos) X.env) Q E s :=
 Calls.Name_function_global I.ok.kind hg (Calls.loadGlobal_global (by rw [I.ok.glob]; exact I.mod.glob.keeps I.bk) hm h) hd
theorem Hh {E : Value → Shared → Prop} {pins : List (Addr × Obj)} {s : Shared} {σ : St} {H : Hp} {x : Str} {u : Value} {pos : Pos} {Q : Value → Shared → Prop} (I : Inv X pins σ H s) (hg : Gl X x) (hm : X.mg x = none) (hv : bootBuiltins x = some u) (h : Q u s)
 (hn : x ≠ "__name__" := by decide) (hd : (x == ("__debug__" : Str)) = false := by decide) : wpAny (model X.prog X.w) X.A (eval (.Name x pos) X.env) Q E s := by
 obtain ⟨mb, h1, h2⟩ := I.mod.blt
 exact Calls.Name_function_global I.ok.kind hg (Calls.loadGlobal_builtin (by rw [I.ok.glob]; exact I.mod.glob.keeps I.bk) hm (by rw [I.ok.blt]; exact h1.keeps I.bk) ((h2 x hn).trans hv) h) hd
theorem Vs {x : Str} {v : V} {u : Value} {pos : Pos} (hg : Gl X x) (hm : X.mg x = some u) (r : RelV v u) (hd : (x == ("__debug__" : Str)) = false := by decide) : PE X (.Name x pos) (tC v) :=
 fun _ _ _ H _ I h => Pg I hg hm ⟨v, H, I, r, h⟩ hd
theorem vt {x : Str} {v : V} {u : Value} {pos : Pos} (hg : Gl X x) (hm : X.mg x = none) (hv : bootBuiltins x = some u) (r : RelV v u) (hn : x ≠ "__name__" := by decide) (hd : (x == ("__debug__" : Str)) = false := by decide) : PE X (.Name x pos) (tC v) :=
 fun _ _ _ H _ I h => Hh I hg hm hv ⟨v, H, I, r, h⟩ hn hd
variable {a b : Expr} {ta tb : TE} {pos : Pos}
variable {tA tB' : TT} {rest : List Expr}
def Vt (t u : TT) : TT := fun σ H Q => t σ H fun c H1 => if c = true then u σ H1 Q else Q false H1
def tOr (t u : TT) : TT := fun σ H Q => t σ H fun c H1 => if c = true then Q true H1 else u σ H1 Q
def Vu (t : TT) : TT := fun σ H Q => t σ H fun c H1 => Q (!c) H1
theorem Vv (ha : PT X a tA) : PW X (.BoolOp .And [a] pos) tA := by
 intro wh pins s σ H Q I h
 refine isTrue_and (thn (ha pins s σ H Q I h) fun c s1 e => ?_)
 cases c with
 | true => exact isTrue_and_nil e
 | false => exact e
theorem vw (ha : PT X a tA) : PW X (.BoolOp .Or [a] pos) tA := by
 intro wh pins s σ H Q I h
 refine isTrue_or (thn (ha pins s σ H Q I h) fun c s1 e => ?_)
 cases c with
 | false => exact isTrue_or_nil e
 | true => exact e
theorem Vw (ha : PT X a tA) (hb : PW X (.BoolOp .And (b :: rest) pos) tB') : PW X (.BoolOp .And (a :: b :: rest) pos) (Vt tA tB') := by
 intro wh pins s σ H Q I h
 refine isTrue_and (thn (ha pins s σ H _ I h) fun c s1 ⟨H1, I1, q1⟩ => ?_)
 cases c with
 | true => exact hb wh pins s1 σ H1 Q I1 q1
 | false => exact ⟨H1, I1, q1⟩
theorem Vx (ha : PT X a tA) (hb : PW X (.BoolOp .Or (b :: rest) pos) tB') : PW X (.BoolOp .Or (a :: b :: rest) pos) (tOr tA tB') := by
 intro wh pins s σ H Q I h
 refine isTrue_or (thn (ha pins s σ H _ I h) fun c s1 ⟨H1, I1, q1⟩ => ?_)
 cases c with
 | true => exact ⟨H1, I1, q1⟩
 | false => exact hb wh pins s1 σ H1 Q I1 q1
theorem vy (ha : PT X a tA) : PT X (.UnaryOp .Not a pos) (Vu tA) := by
 intro pins s σ H Q I h
 exact isTrue_not (ha pins s σ H (fun c H1 => Q (!c) H1) I h)
def Vy (ta tb : TE) : TE := fun σ H Q => ta σ H fun x H1 => ∃ c, x = .bl c ∧ if c = true then tb σ H1 Q else Q (.bl false) H1
def vz (ta tb : TE) : TE := fun σ H Q => ta σ H fun x H1 => ∃ c, x = .bl c ∧ if c = true then Q (.bl true) H1 else tb σ H1 Q
def Vz (ta : TE) : TE := fun σ H Q => ta σ H fun x H1 => ∃ c, x = .bl c ∧ Q (.bl (!c)) H1
theorem wa {op} {t : TE} (h : PE X a t) : PE X (.BoolOp op [a] pos) t := fun pins s σ H Q I hw => BoolOp_one (h pins s σ H Q I hw)
theorem Wa (ha : PE X a ta) (hb : PE X (.BoolOp .And (b :: rest) pos) tb) : PE X (.BoolOp .And (a :: b :: rest) pos) (Vy ta tb) := by
 intro pins s σ H Q I h
 refine BoolOp_and (thn (ha pins s σ H _ I h) fun v s1 ⟨x, H1, I1, r1, q1⟩ => ?_)
 obtain ⟨c, rfl, q1⟩ := q1
 cases r1
 refine wpAny_truthy_bool ?_
 cases c with
 | true => exact hb pins s1 σ H1 Q I1 q1
 | false => exact ⟨.bl false, H1, I1, rfl, q1⟩
theorem wb (ha : PE X a ta) (hb : PE X (.BoolOp .Or (b :: rest) pos) tb) : PE X (.BoolOp .Or (a :: b :: rest) pos) (vz ta tb) := by
 intro pins s σ H Q I h
 refine BoolOp_or (thn (ha pins s σ H _ I h) fun v s1 ⟨x, H1, I1, r1, q1⟩ => ?_)
 obtain ⟨c, rfl, q1⟩ := q1
 cases r1
 refine wpAny_truthy_bool ?_
 cases c with
 | false => exact hb pins s1 σ H1 Q I1 q1
 | true => exact ⟨.bl true, H1, I1, rfl, q1⟩
theorem Wb (ha : PE X a ta) : PE X (.UnaryOp .Not a pos) (Vz ta) := by
 intro pins s σ H Q I h
 refine UnaryOp_ (thn (ha pins s σ H _ I h) fun v s1 ⟨x, H1, I1, r1, q1⟩ => ?_)
 obtain ⟨c, rfl, q1⟩ := q1
 cases r1
 exact not_of (wpAny_truthy_bool ⟨.bl (!c), H1, I1, rfl, q1⟩)
end
def SqL (K : PySem.W.Frag) (H : Hp) (a : Addr) (xs : List V) : Prop :=
 Rd H a (.lst xs) ∨
  ∃ (o : Obj) (its : Array Value) (n : Nat), K.lookup a = some o ∧ o.cls = .type "list" ∧ o.dict = none ∧ o.data = .seq its n ∧ its.size ≤ sizeLine ∧ Vals xs its.toList
def SqT (K : PySem.W.Frag) (H : Hp) (a : Addr) (xs : List V) : Prop :=
 Rd H a (.tup xs) ∨
  ∃ (o : Obj) (its : Array Value) (n : Nat), K.lookup a = some o ∧ o.cls = .type "tuple" ∧ o.data = .seq its n ∧ its.size ≤ sizeLine ∧ Vals xs its.toList
def wc : Value → Option V
 | .none => some .non
 | .bool b => some (.bl b)
 | .int i _ => some (.int i)
 | .str x _ => some (.str x)
 | .bytes b _ => some (.byt b)
 | .float b _ => some (.flt b)
 | .ref a => some (.ref a)
 | .type n => some (.ty n)
 | _ => none
theorem RelV.abs {x : V} {u : Value} (r : RelV x u) : wc u = some x := by
 cases x with
 | non => cases r; rfl
 | bl _ => cases r; rfl
 | int _ => obtain ⟨t, rfl⟩ := r; rfl
 | str _ => obtain ⟨t, rfl⟩ := r; rfl
 | byt _ => obtain ⟨t, rfl⟩ := r; rfl
 | flt _ => obtain ⟨t, rfl⟩ := r; rfl
 | ref _ => cases r; rfl
 | ty _ => cases r; rfl
theorem RelV.inj {x y : V} {u : Value} (r : RelV x u) (q : RelV y u) : x = y := Option.some.inj (r.abs.symm.trans q.abs)
theorem Vals.inj : ∀ {xs ys : List V} {us : List Value}, Vals xs us → Vals ys us → xs = ys
 | _, _, _, .nil, .nil => rfl
 | _, _, _, .cons r t, .cons r' t' => by rw [r.inj r', Vals.inj t t']
section
variable {X : Cx} {pins : List (Addr × Obj)} {σ : St} {H : Hp} {s : Shared} {a : Addr} {xs ys : List V}
theorem SqL.of {K : PySem.W.Frag} (h : H a = some (.lst xs)) : SqL K H a xs := .inl (.inl h)
theorem SqT.of {K : PySem.W.Frag} (h : H a = some (.tup xs)) : SqT K H a xs := .inl (.inl h)
theorem Inv.list (I : Inv X pins σ H s) (h : SqL X.K H a xs) : ∃ its : List Value, Vals xs its ∧ PlainL s.heap a its.toArray ∧ xs.length ≤ sizeLine := by
 rcases h with h | ⟨o, its, n, hk, hc, hd, hs, hz, r⟩
 · obtain ⟨z, its, n, r, e⟩ := h.ok I.hok
   exact ⟨its, r, ⟨_, n, e, rfl, rfl, rfl⟩, z⟩
 · refine ⟨its.toList, r, ⟨o, n, I.kIn a o hk, hc, hd, by simpa using hs⟩, ?_⟩
   have e := r.length
   simp only [Array.length_toList] at e
   omega
theorem Inv.tuple (I : Inv X pins σ H s) (h : SqT X.K H a xs) : ∃ its : List Value, Vals xs its ∧ IsTup s.heap a its.toArray ∧ xs.length ≤ sizeLine := by
 rcases h with h | ⟨o, its, n, hk, hc, hs, hz, r⟩
 · obtain ⟨z, its, r, p⟩ := h.ok I.hok
   exact ⟨its, r, p, z⟩
 · refine ⟨its.toList, r, ⟨o, I.kIn a o hk, hc, n, by simpa using hs⟩, ?_⟩
   have e := r.length
   simp only [Array.length_toList] at e
   omega
theorem Inv.list_inj (I : Inv X pins σ H s) (h : SqL X.K H a xs) (h' : SqL X.K H a ys) : xs = ys := by
 obtain ⟨its, r, ⟨o, n, e, _, _, d⟩, _⟩ := I.list h
 obtain ⟨its', r', ⟨o', n', e', _, _, d'⟩, _⟩ := I.list h'
 rw [e] at e'; cases e'
 rw [d] at d'
 injection d' with d1 _
 have : its = its' := by simpa using congrArg Array.toList d1
 subst this
 exact r.inj r'
theorem Inv.tuple_inj (I : Inv X pins σ H s) (h : SqT X.K H a xs) (h' : SqT X.K H a ys) : xs = ys := by
 obtain ⟨its, r, ⟨o, e, _, n, d⟩, _⟩ := I.tuple h
 obtain ⟨its', r', ⟨o', e', _, n', d'⟩, _⟩ := I.tuple h'
 rw [e] at e'; cases e'
 rw [d] at d'
 injection d' with d1 _
 have : its = its' := by simpa using congrArg Array.toList d1
 subst this
 exact r.inj r'
end
section
variable {X : Cx} {pins : List (Addr × Obj)} {σ : St} {H : Hp} {s : Shared} {E : Value → Shared → Prop}
end
section
variable {X : Cx} {st : Stmt} {rest : List Stmt} {t u : TS} {e : Expr} {te : TE} {pos : Pos}
def Wc : TS := fun D σ H => D.nx σ H
def wd (t u : TS) : TS := fun D σ H => t { D with nx := u D } σ H
theorem Wd : PSs X [] Wc := fun _ _ σ H _ I h => wpAny_execs_nil ⟨σ, H, I, h⟩
theorem we (h1 : PS X st t) (h2 : PSs X rest u) : PSs X (st :: rest) (wd t u) := by
 intro pins s σ H D I h
 refine wpAny_execs_cons (thn (h1 pins s σ H { D with nx := u D } I h) fun f s1 q => ?_)
 cases f with
 | next =>
  obtain ⟨σ', H', I', q⟩ := q
  exact h2 pins s1 σ' H' D I' q
 | ret v => exact q
 | brk => exact q
 | cont => exact q
theorem Inv.quiet {pins : List (Addr × Obj)} {σ : St} {H : Hp} {s : Shared} (I : Inv X pins σ H s) : interactive X.env = false := by simp [interactive, I.ok.kind]
def We (te : TE) : TS := fun D σ H => te σ H fun _ H1 => D.nx σ H1
theorem wg (he : PE X e te) (hs : swapsWith e none pos.line X.env = pure false := by rfl) : PS X (.Expr e pos) (We te) := by
 intro pins s σ H D I h
 exact wpAny_Expr_any (thn (he pins s σ H _ I h) fun v s1 ⟨x, H1, I1, r1, q1⟩ => ⟨σ, H1, I1, q1⟩) I.quiet hs
def Wg (te : TE) : TS := fun D σ H => te σ H D.rt
theorem Wh (he : PE X e te) : PS X (.Return (some e) pos) (Wg te) := by
 intro pins s σ H D I h
 exact wpAny_Return_some (thn (he pins s σ H _ I h) fun v s1 ⟨x, H1, I1, r1, q1⟩ => ⟨x, σ, H1, I1, r1, q1⟩)
def Wi (c : TT) (t u : TS) : TS := fun D σ H => c σ H fun b H1 => if b = true then t D σ H1 else u D σ H1
theorem wj {c : Expr} {a b : List Stmt} {tc : TT} (hc : PT X c tc) (ha : PSs X a t) (hb : PSs X b u) : PS X (.If c a b pos) (Wi tc t u) := by
 intro pins s σ H D I h
 refine wpAny_If (thn (hc pins s σ H _ I h) fun d s1 ⟨H1, I1, q1⟩ => ?_)
 cases d with
 | true => exact ha pins s1 σ H1 D I1 q1
 | false => exact hb pins s1 σ H1 D I1 q1
end
abbrev TG := V → St → Hp → (St → Hp → Prop) → Prop
abbrev TGs := List V → St → Hp → (St → Hp → Prop) → Prop
def PG (X : Cx) (target : Expr) (t : TG) : Prop :=
 ∀ (pins : List (Addr × Obj)) (s : Shared) (σ : St) (H : Hp) (v : V) (u : Value) (Q : St → Hp → Prop), Inv X pins σ H s → RelV v u → t v σ H Q →
  wpAny (model X.prog X.w) X.A (assign target X.env u) (fun _ s' => ∃ σ' H', Inv X pins σ' H' s' ∧ Q σ' H') X.xe s
def PGs (X : Cx) (ts : List Expr) (t : TGs) : Prop :=
 ∀ (pins : List (Addr × Obj)) (s : Shared) (σ : St) (H : Hp) (vs : List V) (us : List Value) (Q : St → Hp → Prop), Inv X pins σ H s → Vals vs us → t vs σ H Q →
  wpAny (model X.prog X.w) X.A (assignInOrder ((assignEach ts X.env).map (·.2)) us) (fun _ s' => ∃ σ' H', Inv X pins σ' H' s' ∧ Q σ' H') X.xe s
abbrev Wj := V → V → V → Hp → (Hp → Prop) → Prop
def Wk (X : Cx) (t : Wj) : Prop :=
 ∀ (pins : List (Addr × Obj)) (s : Shared) (σ : St) (H : Hp) (o i v : V) (ov iv u : Value) (Q : Hp → Prop), Inv X pins σ H s → RelV o ov → RelV i iv → RelV v u → t o i v H Q →
  wpAny (model X.prog X.w) X.A (setItem ov iv u) (fun _ s' => ∃ H', Inv X pins σ H' s' ∧ Q H') X.xe s
section
variable {X : Cx} {pos : Pos}
def jw (i : Nat) : TG := fun v σ H Q => Q (σ.set i (some v)) H
theorem cu {i : Nat} {x : Str} (hN : X.N.Nodup) (hi : X.N[i]? = some x) (hx : Loc X.env.scope x) (hf : X.fn x = true ∨ X.env.scope.names.lookup x = some .local := by first | exact .inl rfl | exact .inr rfl | assumption) : PG X (.Name x pos) (jw i) := by
 intro pins s σ H v u Q I r h
 exact wpAny_assign_Name (Jv I hN hi hx r (fun s' I' => ⟨_, H, I', h⟩) hf)
def ma : TGs := fun vs σ H Q => vs = [] ∧ Q σ H
def Jw (t : TG) (u : TGs) : TGs := fun vs σ H Q => ∃ v r, vs = v :: r ∧ t v σ H fun σ' H' => u r σ' H' Q
theorem Fg : PGs X [] ma := by
 intro pins s σ H vs us Q I r h
 obtain ⟨e, h⟩ := h
 subst e
 cases r
 exact assignInOrder_nil ⟨σ, H, I, h⟩
theorem cq {e : Expr} {es : List Expr} {t : TG} {u : TGs} (h1 : PG X e t) (h2 : PGs X es u)
 (hs : (assignEach (e :: es) X.env).map (·.2) = assign e X.env :: (assignEach es X.env).map (·.2) := by rfl) : PGs X (e :: es) (Jw t u) := by
 intro pins s σ H vs us Q I r h
 obtain ⟨v, vr, e1, h⟩ := h
 subst e1
 cases r with
 | cons r rr =>
  rw [hs]
  refine assignInOrder_cons (thn (h1 pins s σ H _ _ _ I r h) fun _ s1 ⟨σ1, H1, I1, q1⟩ => ?_)
  exact h2 pins s1 σ1 H1 _ _ Q I1 rr q1
def Ma (K : PySem.W.Frag) (n : Nat) (t : TGs) : TG := fun v σ H Q => ∃ a xs, v = .ref a ∧ SqT K H a xs ∧ xs.length = n ∧ t xs σ H Q
theorem fh {es : List Expr} {k : Nat} {t : TGs} {n : Nat} (hc : X.calm = true) (h : PGs X es t)
 (hn : (assignEach es X.env).length = n := by rfl) (hst : (assignEach es X.env).findIdx? (·.1) = none := by rfl) : PG X (.Tuple es k pos) (Ma X.K n t) := by
 intro pins s σ H v u Q I r hw
 obtain ⟨a, xs, e1, hq, hl, hw⟩ := hw
 subst e1
 cases r
 obtain ⟨its, rv, ht, hz⟩ := I.tuple hq
 refine assign_Tuple_tuple (I.ok.hd hc) ht (by simp [hn, ← hl, rv.length]) hst fun h' hx => ?_
 have I1 : Inv X pins σ H { s with heap := h' } := I.kept (t' := s.toks) fun b o e => hx b o (Nat.ne_of_lt (Heap.lt_size e)) e
 exact h pins _ σ H xs _ Q I1 (by simpa using rv) hw
def ph (te : TE) (g : TG) : TS := fun D σ H => te σ H fun x H1 => g x σ H1 D.nx
theorem Wl {tg e : Expr} {te : TE} {g : TG} (he : PE X e te) (hg : PG X tg g) (hs : swapsWithSole [tg] e pos.line X.env = pure false := by rfl) (hw : swappedStores [tg] e X.env = pure none := by rfl)
 (h1 : (assignEach [tg] X.env).map (·.2) = [assign tg X.env] := by rfl) : PS X (.Assign [tg] e pos) (ph te g) := by
 intro pins s σ H D I h
 refine wpAny_Assign_stores (thn (he pins s σ H _ I h) fun v s1 ⟨x, H1, I1, r1, q1⟩ => ?_) hs hw
 rw [h1]
 exact thn (hg pins s1 σ H1 x v _ I1 r1 q1) fun _ s2 q => q
theorem wm {i : Nat} {x : Str} {e : Expr} {te : TE} {pos' : Pos} (hN : X.N.Nodup) (hi : X.N[i]? = some x) (hx : Loc X.env.scope x) (he : PE X e te) (hs : swapsWith e (some (.Name x pos')) pos.line X.env = pure false := by rfl) (hf : X.fn x = true ∨ X.env.scope.names.lookup x = some .local := by first | exact .inl rfl | exact .inr rfl | assumption) :
 PS X (.Assign [.Name x pos'] e pos) (ph te (jw i)) := by
 intro pins s σ H D I h
 refine wpAny_Assign_Name (thn (he pins s σ H _ I h) fun v s1 ⟨y, H1, I1, r1, q1⟩ => ?_) hs
 exact Jv I1 hN hi hx r1 (fun s2 I2 => ⟨_, H1, I2, q1⟩) hf
def Wm (i j : Nat) (ta : TA) : TS := fun D σ H => ta σ H fun vs H1 => ∃ v w, vs = [v, w] ∧ D.nx ((σ.set i (some v)).set j (some w)) H1
theorem Wn {i j : Nat} {x y : Str} {a b : Expr} {ta : TA} {px py pt : Pos} {kt k2 pt2} (hc : X.calm = true) (hN : X.N.Nodup) (hi : X.N[i]? = some x) (hj : X.N[j]? = some y) (hij : i ≠ j)
 (hx : X.env.scope.names.lookup x = some .local) (hy : X.env.scope.names.lookup y = some .local) (ha : PA X [a, b] ta)
 (hw : swappedStores [.Tuple [.Name x px, .Name y py] kt pt] (.Tuple [a, b] k2 pt2) X.env = pure (some [x, y]))
 (hs : swapsWithSole [.Tuple [.Name x px, .Name y py] kt pt] (.Tuple [a, b] k2 pt2) pos.line X.env = pure false := by rfl) :
 PS X (.Assign [.Tuple [.Name x px, .Name y py] kt pt] (.Tuple [a, b] k2 pt2) pos) (Wm i j ta) := by
 intro pins s σ H D I h
 rw [exec_Assign_arm]
 refine wpAny_bind (wpAny_standAt ?_)
 rw [hs]
 refine wpAny_bind (wpAny_pure ?_)
 rw [if_neg (by decide)]
 refine wpAny_bind (Tuple_ (thn (ha _ pins s σ H _ I h) fun us s1 ⟨vs, H1, I1, r1, q1⟩ => ?_))
 obtain ⟨v, w, e1, q1⟩ := q1
 subst e1
 obtain ⟨u1, u2, rfl, rv, rw'⟩ : ∃ u1 u2, us = [u1, u2] ∧ RelV v u1 ∧ RelV w u2 := by
  cases r1 with
  | cons p q =>
   cases q with
   | cons p' q' =>
    cases q'
    exact ⟨_, _, rfl, p, p'⟩
 refine wpAny_newObj_type ?_ (by show 2 ≤ sizeLine; decide)
 have I2 : Inv X pins σ H1 { s1 with heap := s1.heap.push { cls := .type "tuple", data := .seq [u1, u2].toArray } } := I1.kept (t' := s1.toks) fun b o e => Heap.get?_push_of_some _ e
 rw [hw]
 refine wpAny_bind (wpAny_pure ?_)
 show wpAny (model X.prog X.w) X.A (do rule "assign.swapped-stores"; let items ← unpackItems (.ref s1.heap.objs.size) 2 none; assignInOrder [fun v => bindName X.env y v, fun v => bindName X.env x v] items.reverse; pure Flow.next) _ _ _
 refine wpAny_bind (wpAny_rule (wpAny_bind (unpackItems_tuple (items := #[u1, u2]) (I.ok.hd hc) (IsTup.new s1.heap _) fun h' hx' => ?_)))
 have I3 := I2.kept (h' := h') (t' := s1.toks) fun b o e => hx' b o (Nat.ne_of_lt (Heap.lt_size e)) e
 show wpAny _ _ (assignInOrder [fun v => bindName X.env y v, fun v => bindName X.env x v] [u2, u1] >>= fun _ => pure Flow.next) _ _ _
 refine wpAny_bind (assignInOrder_cons (wpAny_bindName (Jv I3 hN hj (.inl hy) rw' (fun s2 I4 => ?_) (.inr hy))))
 refine assignInOrder_cons (wpAny_bindName (Jv I4 hN hi (.inl hx) rv (fun s3 I5 => assignInOrder_nil (wpAny_pure ?_)) (.inr hx)))
 rw [List.set_comm _ _ (Ne.symm hij)] at I5
 exact ⟨_, H1, I5, q1⟩
end
section
variable {X : Cx} {pos : Pos}
def wo (c : TT) (tb : TS) : TS := fun D σ H => ∃ W : Nat → St → Hp → Prop, (∃ m, W m σ H) ∧ ∀ m σ H, W m σ H →
 c σ H fun b H1 => if b = true then ∃ N : St → Hp → Prop, (∀ σ' H', N σ' H' → ∃ m', m' < m ∧ W m' σ' H') ∧ tb { D with nx := N, ct := N, bk := D.nx } σ H1 else D.nx σ H1
theorem Wo {c : Expr} {body : List Stmt} {tc : TT} {tb : TS} (hp : PassesOwn (model X.prog X.w) X.A X.env X.xe) (hc : PT X c tc) (hb : PSs X body tb) : PS X (.While c body [] pos) (wo tc tb) := by
 intro pins s σ H D I h
 obtain ⟨W, ⟨m0, w0⟩, turn⟩ := h
 refine wpAny_While (codeAny_whileLoop (fun n s' => ∃ σ' H', Inv X pins σ' H' s' ∧ W n σ' H') ?_ m0 ⟨σ, H, I, w0⟩)
 rintro n s1 ⟨σ1, H1, I1, w1⟩
 refine wpAny_passesOwn hp (thn (hc pins s1 σ1 H1 _ I1 (turn n σ1 H1 w1)) fun b s2 ⟨H2, I2, q2⟩ => ?_)
 cases b with
 | true =>
  obtain ⟨N, hN, q2⟩ := q2
  rw [if_pos rfl]
  refine wpAny_passesOwn hp (thn (hb pins s2 σ1 H2 _ I2 q2) fun f s3 q3 => ?_)
  cases f with
  | next =>
   obtain ⟨σ3, H3, I3, n3⟩ := q3
   obtain ⟨m', hm, w3⟩ := hN σ3 H3 n3
   exact ⟨m', hm, σ3, H3, I3, w3⟩
  | cont =>
   obtain ⟨σ3, H3, I3, n3⟩ := q3
   obtain ⟨m', hm, w3⟩ := hN σ3 H3 n3
   exact ⟨m', hm, σ3, H3, I3, w3⟩
  | brk => exact q3
  | ret v => exact q3
 | false =>
  rw [if_neg Bool.false_ne_true]
  exact wpAny_execs_nil ⟨σ1, H2, I2, q2⟩
end
structure It where
 go : Nat → Hp → Prop
 yld : Nat → Hp → V → Hp → Prop
 stop : Nat → Hp → Prop
def Co (X : Cx) (pins : List (Addr × Obj)) (H : Hp) (b : Addr) : Prop :=
 H b = none ∧ b ≠ X.env.locals ∧ b ∉ X.fs ∧ (b ∈ X.ex ∨ X.s₀.heap.objs.size ≤ b) ∧ (∀ x c, X.env.cells.lookup x = some c → c ≠ b) ∧ ∀ p ∈ X.pn ++ pins, p.1 ≠ b
theorem Inv.fpOk {X : Cx} {pins : List (Addr × Obj)} {σ : St} {H H' : Hp} {s : Shared} {b : Addr} (I : Inv X pins σ H s) (hb : s.heap.objs.size ≤ b) (hn : H' b = none) : Co X pins H' b := by
 refine ⟨hn, Nat.ne_of_gt (Nat.lt_of_lt_of_le I.lt hb), I.nofs hb, .inr (Nat.le_trans I.sz hb), fun x c e z => ?_, fun p hp z => ?_⟩
 · obtain ⟨v, q⟩ := I.cell x c e
   exact absurd (Nat.lt_of_lt_of_le q.lt (by rw [z]; exact hb)) (Nat.lt_irrefl _)
 · exact absurd (Nat.lt_of_lt_of_le (Heap.lt_size (I.pin p hp).1) (by rw [z]; exact hb)) (Nat.lt_irrefl _)
structure Turn (P : Program) (w : World) (K : PySem.W.Frag) (tg : Expr) (J : It) (fp : List Addr) (it : Addr) (tn : Nat → Heap → Prop) : Prop where
 mem : it ∈ fp
 obj : ∀ i h, tn i h → ∀ b ∈ fp, ∃ o, h.get? b = some o ∧ ∀ v, o.data ≠ .cell v
 keep : ∀ i h h', tn i h → (∀ b ∈ fp, ∀ o, h.get? b = some o → h'.get? b = some o) → tn i h'
 item : ∀ (X : Cx), X.prog = P → X.w = w → X.K = K → X.calm = true → ∀ (i : Nat) (pins : List (Addr × Obj)) (s : Shared) (σ : St) (H : Hp) (E : Value → Shared → Prop), Inv X pins σ H s → (∀ b ∈ fp, Co X pins H b) → tn i s.heap → J.go i H →
  wpAny (model P w) X.A (pyNext (.ref it)) (fun r s1 => ∃ u, r = some u ∧
   wpAny (model P w) X.A (letOwnedTupleGo tg (.ref it) u) (fun _ s2 => ∃ x H', Inv X pins σ H' s2 ∧ RelV x u ∧ J.yld i H x H' ∧ tn (i + 1) s2.heap ∧ ∀ b ∈ fp, H' b = none) E s1) E s
 done : ∀ (X : Cx), X.prog = P → X.w = w → X.K = K → X.calm = true → ∀ (i : Nat) (pins : List (Addr × Obj)) (s : Shared) (σ : St) (H : Hp) (E : Value → Shared → Prop), Inv X pins σ H s → (∀ b ∈ fp, Co X pins H b) → tn i s.heap → J.stop i H →
  wpAny (model P w) X.A (pyNext (.ref it)) (fun r s1 => r = none ∧ Inv X pins σ H s1) E s
 self : ∀ (A : Around) (i : Nat) (s : Shared) (Q : Value → Shared → Prop) (E : Value → Shared → Prop), tn i s.heap → Q (.ref it) s → wpAny (model P w) A (pyIter (.ref it)) Q E s
abbrev TI := St → Hp → (It → Hp → Prop) → Prop
def PIE (X : Cx) (pins : List (Addr × Obj)) (σ : St) (tg : Expr) (R : It → Hp → Prop) (itv : Value) (s2 : Shared) : Prop :=
 ∃ (it : Addr) (fp : List Addr) (tn : Nat → Heap → Prop) (J : It) (H' : Hp), itv = .ref it ∧ Inv X pins σ H' s2 ∧ Turn X.prog X.w X.K tg J fp it tn ∧ tn 0 s2.heap ∧ (∀ b ∈ fp, Co X pins H' b) ∧ R J H'
def PI (X : Cx) (tg iter : Expr) (wi : TI) : Prop :=
 ∀ (pins : List (Addr × Obj)) (s : Shared) (σ : St) (H : Hp) (R : It → Hp → Prop), Inv X pins σ H s → wi σ H R →
  wpAny (model X.prog X.w) X.A (eval iter X.env) (fun v s1 => wpAny (model X.prog X.w) X.A (pyIter v) (PIE X pins σ tg R) X.xe s1) X.xe s
theorem jx {M : Model} {A : Around} {E : Value → Shared → Prop} {s : Shared} {tg : Expr} {it : Addr} {u : Value} {o : Obj} {n : String} {vs : Array Value} {Q : Unit → Shared → Prop} (ho : s.heap.get? it = some o) (hc : o.cls = .type n) (hd : o.data = .fields vs)
    (hn : ["enumerate", "zip", "dict_itemiterator", "dict_reverseitemiterator", "odict_iterator", "itertools.zip_longest", "itertools.pairwise"].contains n = false) (hQ : Q () s) : wpAny M A (letOwnedTupleGo tg (.ref it) u) Q E s := by
  unfold letOwnedTupleGo
  cases tg <;> first
    | exact wpAny_pure hQ
    | (cases u <;> first
        | exact wpAny_pure hQ
        | (refine wpAny_bind (wpAny_load ho ?_)
           rw [hc, hd]
           show wpAny M A (if (["enumerate", "zip", "dict_itemiterator", "dict_reverseitemiterator", "odict_iterator", "itertools.zip_longest", "itertools.pairwise"].contains n && vs[0]? == some (rawInt _)) = true then _ else _) Q E s
           rw [if_neg (by intro h; rw [hn, Bool.false_and] at h; cases h)]
           exact wpAny_pure hQ))
def Itl (K : PySem.W.Frag) (a : Addr) : It :=
 ⟨fun i H => ∃ xs x, SqL K H a xs ∧ xs[i]? = some x, fun i H x H' => H' = H ∧ ∀ xs, SqL K H a xs → xs[i]? = some x, fun i H => ∃ xs, SqL K H a xs ∧ xs.length ≤ i⟩
def Itt (K : PySem.W.Frag) (a : Addr) : It :=
 ⟨fun i H => ∃ xs x, SqT K H a xs ∧ xs[i]? = some x, fun i H x H' => H' = H ∧ ∀ xs, SqT K H a xs → xs[i]? = some x, fun i H => ∃ xs, SqT K H a xs ∧ xs.length ≤ i⟩
def Itr (lo : Int) (n : Nat) : It := ⟨fun i _ => i < n, fun i H x H' => H' = H ∧ x = .int (lo + i), fun i _ => n ≤ i⟩
theorem wq {P : Program} {w : World} {K : PySem.W.Frag} {tg : Expr} (a it : Addr) : Turn P w K tg (Itl K a) [it] it (fun i h => h.IsListIter it a i) where
 mem := by simp
 obj := fun i h st b hb => by
  have e : b = it := by simpa using hb
  subst e
  obtain ⟨o, e, c, d⟩ := st
  exact ⟨o, e, fun v z => by rw [d] at z; cases z⟩
 keep := fun i h h' st k => st.at fun o e => k it (by simp) o e
 item := by
  intro X hP hw hK hc i pins s σ H E I hf st hg
  subst hP hw hK
  obtain ⟨xs, x, hq, hx⟩ := hg
  obtain ⟨its, rv, p, hz⟩ := I.list hq
  obtain ⟨u, hu, ru⟩ := rv.get hx
  obtain ⟨f0, f1, f2, f3, f4, f5⟩ := hf it (by simp)
  refine wpAny_pyNext_list_item st p.isList (x := u) (by simpa using hu) fun h' st' sb => ?_
  have I1 : Inv X pins σ H { s with heap := h' } := I.turned (t' := s.toks) (fun b o hb e => (sb.2 b hb).trans e) f0 f1 f3 f4 f5
  obtain ⟨o, e, c, d⟩ := id st'
  exact ⟨u, rfl, jx (s := { s with heap := h' }) e c d (by decide) ⟨x, H, I1, ru, ⟨rfl, fun ys hy => by rw [I.list_inj hy hq]; exact hx⟩, st', fun b hb => (hf b hb).1⟩⟩
 done := by
  intro X hP hw hK hc i pins s σ H E I hf st hg
  subst hP hw hK
  obtain ⟨xs, hq, hx⟩ := hg
  obtain ⟨its, rv, p, hz⟩ := I.list hq
  obtain ⟨f0, f1, f2, f3, f4, f5⟩ := hf it (by simp)
  have hl := rv.length
  exact wpAny_pyNext_list_end (I.ok.hd hc) st p.isList (by simp; omega) fun h' eb => ⟨rfl, I.turned (t' := s.toks) (fun b o hb e => eb b o hb e) f0 f1 f3 f4 f5⟩
 self := fun _ _ _ _ _ st h => wpAny_pyIter_listiter st h
theorem Wq {P : Program} {w : World} {K : PySem.W.Frag} {tg : Expr} (a it : Addr) : Turn P w K tg (Itt K a) [it] it (fun i h => h.IsTupleIter it a i) where
 mem := by simp
 obj := fun i h st b hb => by
  have e : b = it := by simpa using hb
  subst e
  obtain ⟨o, e, c, d⟩ := st
  exact ⟨o, e, fun v z => by rw [d] at z; cases z⟩
 keep := fun i h h' st k => st.at fun o e => k it (by simp) o e
 item := by
  intro X hP hw hK hc i pins s σ H E I hf st hg
  subst hP hw hK
  obtain ⟨xs, x, hq, hx⟩ := hg
  obtain ⟨its, rv, p, hz⟩ := I.tuple hq
  obtain ⟨u, hu, ru⟩ := rv.get hx
  obtain ⟨f0, f1, f2, f3, f4, f5⟩ := hf it (by simp)
  refine wpAny_pyNext_tuple_item st (show s.heap.IsTuple a its.toArray from p) (x := u) (by simpa using hu) fun h' st' sb => ?_
  have I1 : Inv X pins σ H { s with heap := h' } := I.turned (t' := s.toks) (fun b o hb e => (sb.2 b hb).trans e) f0 f1 f3 f4 f5
  obtain ⟨o, e, c, d⟩ := id st'
  exact ⟨u, rfl, jx (s := { s with heap := h' }) e c d (by decide) ⟨x, H, I1, ru, ⟨rfl, fun ys hy => by rw [I.tuple_inj hy hq]; exact hx⟩, st', fun b hb => (hf b hb).1⟩⟩
 done := by
  intro X hP hw hK hc i pins s σ H E I hf st hg
  subst hP hw hK
  obtain ⟨xs, hq, hx⟩ := hg
  obtain ⟨its, rv, p, hz⟩ := I.tuple hq
  obtain ⟨f0, f1, f2, f3, f4, f5⟩ := hf it (by simp)
  have hl := rv.length
  exact wpAny_pyNext_tuple_end (I.ok.hd hc) st (show s.heap.IsTuple a its.toArray from p) (by simp; omega) fun h' eb => ⟨rfl, I.turned (t' := s.toks) (fun b o hb e => eb b o hb e) f0 f1 f3 f4 f5⟩
 self := fun _ _ _ _ _ st h => wpAny_pyIter_tupleiter st h
theorem Ws {P : Program} {w : World} {K : PySem.W.Frag} {tg : Expr} (it : Addr) (lo : Int) (n : Nat) : Turn P w K tg (Itr lo n) [it] it (fun i h => IsRangeIter h it (lo + (i : Nat) * 1) ((n : Int) - (i : Nat)) 1) where
 mem := by simp
 obj := fun i h st b hb => by
  have e : b = it := by simpa using hb
  subst e
  exact ⟨_, st, fun v z => by
   have z' : Data.fields _ = Data.cell v := z
   cases z'⟩
 keep := fun i h h' st k => k it (by simp) _ st
 item := by
  intro X hP hw hK hc i pins s σ H E I hf st hg
  subst hP hw hK
  obtain ⟨f0, f1, f2, f3, f4, f5⟩ := hf it (by simp)
  have W := Walks.range (prog := X.prog) (w := X.w) (I.ok.hd hc) it lo 1 n
  refine W.item i s _ _ hg st fun v h' tk hv st' kk => ?_
  obtain ⟨t, rfl⟩ := hv
  have I1 : Inv X pins σ H { s with heap := h', toks := tk } := I.turned (fun b o hb e => kk b o (by simpa using hb) e) f0 f1 f3 f4 f5
  refine ⟨_, rfl, jx (s := { s with heap := h', toks := tk }) (n := "range_iterator") st' rfl rfl (by decide) ⟨.int (lo + i), H, I1, ⟨t, ?_⟩, ⟨rfl, rfl⟩, st', fun b hb => (hf b hb).1⟩⟩
  rw [Int.mul_one]
 done := by
  intro X hP hw hK hc i pins s σ H E I hf st hg
  subst hP hw hK
  obtain ⟨f0, f1, f2, f3, f4, f5⟩ := hf it (by simp)
  exact wpAny_pyNext_range_end (I.ok.hd hc) st (by have : n ≤ i := hg; omega) fun h' eb => ⟨rfl, I.turned (t' := s.toks) (fun b o hb e => eb b o hb e) f0 f1 f3 f4 f5⟩
 self := fun _ _ _ _ _ st h => wpAny_pyIter_rangeiter st h
section
variable {X : Cx} {tg : Expr}
def wt (K : PySem.W.Frag) (tl : TE) : TI := fun σ H R => tl σ H fun x H1 => ∃ a, x = .ref a ∧ (∃ xs, SqL K H1 a xs) ∧ R (Itl K a) H1
def wu (K : PySem.W.Frag) (tl : TE) : TI := fun σ H R => tl σ H fun x H1 => ∃ a, x = .ref a ∧ (∃ xs, SqT K H1 a xs) ∧ R (Itt K a) H1
theorem Ph {l : Expr} {tl : TE} (hl : PE X l tl) : PI X tg l (wt X.K tl) := by
 intro pins s σ H R I h
 refine thn (hl pins s σ H _ I h) fun v s1 ⟨x, H1, I1, r1, q1⟩ => ?_
 obtain ⟨a, e, ⟨xs, hq⟩, q⟩ := q1
 subst e
 cases r1
 obtain ⟨its, rv, p, hz⟩ := I1.list hq
 refine wpAny_pyIter_list p.isList ?_
 refine ⟨s1.heap.objs.size, [s1.heap.objs.size], _, _, H1, rfl, I1.kept (t' := s1.toks) fun b o e => Heap.get?_push_of_some _ e, wq a _, ⟨_, Heap.get?_push_size _ rfl, rfl, rfl⟩, fun b hb => ?_, q⟩
 have e : b = s1.heap.objs.size := by simpa using hb
 subst e
 exact I1.fpOk (Nat.le_refl _) (I1.hok.fresh (Nat.le_refl _))
theorem pj {l : Expr} {tl : TE} (hl : PE X l tl) : PI X tg l (wu X.K tl) := by
 intro pins s σ H R I h
 refine thn (hl pins s σ H _ I h) fun v s1 ⟨x, H1, I1, r1, q1⟩ => ?_
 obtain ⟨a, e, ⟨xs, hq⟩, q⟩ := q1
 subst e
 cases r1
 obtain ⟨its, rv, p, hz⟩ := I1.tuple hq
 refine wpAny_pyIter_tuple (show s1.heap.IsTuple a its.toArray from p) ?_
 refine ⟨s1.heap.objs.size, [s1.heap.objs.size], _, _, H1, rfl, I1.kept (t' := s1.toks) fun b o e => Heap.get?_push_of_some _ e, Wq a _, ⟨_, Heap.get?_push_size _ rfl, rfl, rfl⟩, fun b hb => ?_, q⟩
 have e : b = s1.heap.objs.size := by simpa using hb
 subst e
 exact I1.fpOk (Nat.le_refl _) (I1.hok.fresh (Nat.le_refl _))
theorem Wu {pins : List (Addr × Obj)} {σ : St} {H : Hp} {s : Shared} {R : It → Hp → Prop} {E : Value → Shared → Prop} {lo hi : Int} {t u v : Tok} {tk : Nat} (I : Inv X pins σ H s) (h1 : -(2 ^ 62) ≤ lo) (h2 : lo < 2 ^ 62) (h3 : -(2 ^ 62) ≤ hi) (h4 : hi < 2 ^ 62)
 (q : R (Itr lo (hi - lo).toNat) H) : wpAny (model X.prog X.w) X.A (pyIter (.ref s.heap.objs.size)) (PIE X pins σ tg R) E { s with heap := s.heap.push { cls := .type "range", data := .fields #[.int lo t, .int hi u, .int 1 v] }, toks := tk } := by
 refine wpAny_pyIter_range (IsRange.new ..) (small_one h1 h2 h3 h4) ?_
 have I1 : Inv X pins σ H { s with heap := s.heap.push { cls := .type "range", data := .fields #[.int lo t, .int hi u, .int 1 v] }, toks := tk } := I.kept fun b o e => Heap.get?_push_of_some _ e
 refine ⟨(s.heap.push { cls := .type "range", data := .fields #[.int lo t, .int hi u, .int 1 v] }).objs.size, [(s.heap.push { cls := .type "range", data := .fields #[.int lo t, .int hi u, .int 1 v] }).objs.size], _, _, H, rfl,
  I1.kept (t' := tk) fun b o e => Heap.get?_push_of_some _ e, Ws _ lo (hi - lo).toNat, ?_, fun b hb => ?_, q⟩
 · have e1 : lo + ((0 : Nat) : Int) * 1 = lo := by simp
   have e2 : (((hi - lo).toNat : Nat) : Int) - ((0 : Nat) : Int) = Builtin.Range.rangeSize lo hi 1 := by rw [rangeSize_one]; split <;> omega
   show IsRangeIter _ _ (lo + ((0 : Nat) : Int) * 1) ((((hi - lo).toNat : Nat) : Int) - ((0 : Nat) : Int)) 1
   rw [e1, e2]
   exact Heap.get?_push_size _ rfl
 · have e : b = (s.heap.push { cls := .type "range", data := .fields #[.int lo t, .int hi u, .int 1 v] }).objs.size := by simpa using hb
   subst e
   exact I1.fpOk (Nat.le_refl _) (I1.hok.fresh (Nat.le_refl _))
def Wv (ta : TA) : TI := fun σ H R => ta σ H fun vs H1 => ∃ j : Int, vs = [.int j] ∧ -(2 ^ 62) ≤ j ∧ j < 2 ^ 62 ∧ R (Itr 0 j.toNat) H1
theorem Ww {a : Expr} {ta : TA} {p pos : Pos} (hg : Gl X "range") (hm : X.mg "range" = none) (ha : PA X [a] ta) (hs : starEach [a] X.env = [(false, eval a X.env)] := by rfl) : PI X tg (.Call (.Name "range" p) [a] [] pos) (Wv ta) := by
 intro pins s σ H R I h
 refine Call_ (Hh I hg hm boot_range (PyProof.Rows.callWith_type1 (thn (ha pos pins s σ H _ I h) fun us s1 ⟨vs, H1, I1, r1, q1⟩ => ?_) hs rfl))
 obtain ⟨j, e, q1, q2, q⟩ := q1
 subst e
 cases r1 with
 | cons r rr =>
  cases rr
  obtain ⟨t, rfl⟩ := r
  exact call_range_1 (Wu I1 (by omega) (by omega) q1 q2 (by simpa using q))
def wx (wi : TI) (g : TG) (tb : TS) : TS := fun D σ H => wi σ H fun J H1 => ∃ W : Nat → Nat → St → Hp → Prop, (∃ m, W 0 m σ H1) ∧ ∀ i m σ H, W i m σ H →
 (J.stop i H ∧ D.nx σ H) ∨ (J.go i H ∧ ∃ N : St → Hp → Prop, (∀ σ' H', N σ' H' → ∃ m', m' < m ∧ W (i + 1) m' σ' H') ∧ ∀ x H', J.yld i H x H' → g x σ H' fun σ2 H2 => tb { D with nx := N, ct := N, bk := D.nx } σ2 H2)
def Hi (fp : List Addr) (h : Heap) : List (Addr × Obj) := fp.filterMap fun b => (h.get? b).map fun o => (b, o)
theorem Hj {fp : List Addr} {h : Heap} {b : Addr} {o : Obj} (hb : b ∈ fp) (e : h.get? b = some o) : (b, o) ∈ Hi fp h := List.mem_filterMap.mpr ⟨b, hb, by rw [e]; rfl⟩
theorem Wx {fp : List Addr} {h : Heap} {p : Addr × Obj} (hp : p ∈ Hi fp h) : p.1 ∈ fp ∧ h.get? p.1 = some p.2 := by
 obtain ⟨b, hb, e⟩ := List.mem_filterMap.mp hp
 cases q : h.get? b with
 | none => rw [q] at e; cases e
 | some o =>
  rw [q] at e
  have e' : (b, o) = p := Option.some.inj e
  subst e'
  exact ⟨hb, q⟩
theorem Inv.pinned {pins : List (Addr × Obj)} {σ : St} {H : Hp} {s : Shared} {fp : List Addr} (I : Inv X pins σ H s) (hf : ∀ b ∈ fp, Co X pins H b) (ho : ∀ b ∈ fp, ∃ o, s.heap.get? b = some o ∧ ∀ v, o.data ≠ .cell v) : Inv X (pins ++ Hi fp s.heap) σ H s :=
 I.pins_of fun p hp => (List.mem_append.mp hp).elim (fun z => I.pin p (List.mem_append_right _ z)) fun z => by
  obtain ⟨hb, e⟩ := Wx z
  obtain ⟨f0, f1, f2, _⟩ := hf p.1 hb
  obtain ⟨o, e', d⟩ := ho p.1 hb
  rw [e] at e'; cases e'
  exact ⟨e, f0, f1, f2, d⟩
theorem Inv.unpinned {pins pl : List (Addr × Obj)} {σ : St} {H : Hp} {s : Shared} (I : Inv X (pins ++ pl) σ H s) : Inv X pins σ H s := I.pins_of fun p hp => I.pin p (List.mem_append_right _ (List.mem_append_left _ hp))
theorem Hk {iter : Expr} {body : List Stmt} {wi : TI} {g : TG} {tb : TS} {pos : Pos} (hp : PassesOwn (model X.prog X.w) X.A X.env X.xe) (hc : X.calm = true) (hi : PI X tg iter wi) (hg : PG X tg g) (hb : PSs X body tb)
 (hs : ∀ x, foldedSetIterable iter X.env x = pure x := by intro _; rfl) : PS X (.For tg iter body [] pos) (wx wi g tb) := by
 intro pins s σ H D I h
 refine wpAny_For (thn (hi pins s σ H _ I h) fun v s1 h1 => thn h1 fun itv s2 h2 => ?_) hs
 obtain ⟨it, fp, tn, J, H2, e, I2, T, st2, f2, W, ⟨m0, w0⟩, turn⟩ := h2
 subst e
 have stat : ∀ {H' : Hp}, (∀ b ∈ fp, H' b = none) → ∀ b ∈ fp, Co X pins H' b := fun hn b hb => ⟨hn b hb, (f2 b hb).2⟩
 refine codeAny_forLoop_any (fun n s' => ∃ i σ' H', Inv X pins σ' H' s' ∧ tn i s'.heap ∧ (∀ b ∈ fp, H' b = none) ∧ W i n σ' H') ?_ m0 ⟨0, σ, H2, I2, st2, fun b hb => (f2 b hb).1, w0⟩
 rintro n s3 ⟨i, σ3, H3, I3, st3, fr3, w3⟩
 rcases turn i n σ3 H3 w3 with ⟨stop, qn⟩ | ⟨go, N, hN, step⟩
 · refine wpAny_passesOwn hp (thn (T.done X rfl rfl rfl hc i pins s3 σ3 H3 X.xe I3 (stat fr3) st3 stop) fun r s4 ⟨hr, I4⟩ => ?_)
   subst hr
   exact wpAny_execs_nil ⟨σ3, H3, I4, qn⟩
 · refine wpAny_passesOwn hp (thn (T.item X rfl rfl rfl hc i pins s3 σ3 H3 X.xe I3 (stat fr3) st3 go) fun r s4 ⟨u, hr, h4⟩ => ?_)
   subst hr
   refine wpAny_passesOwn hp (thn h4 fun _ s5 ⟨x, H5, I5, r5, y5, st5, fr5⟩ => ?_)
   have I5' := I5.pinned (stat fr5) (T.obj _ _ st5)
   refine wpAny_passesOwn hp (thn (hg _ s5 σ3 H5 x u _ I5' r5 (step x H5 y5)) fun _ s6 ⟨σ6, H6, I6, q6⟩ => ?_)
   refine wpAny_passesOwn hp (thn (hb _ s6 σ6 H6 _ I6 q6) fun f s7 q7 => ?_)
   have again : ∀ {σ7 : St} {H7 : Hp}, Inv X (pins ++ Hi fp s5.heap) σ7 H7 s7 → N σ7 H7 → ∃ m, m < n ∧ ∃ i σ' H', Inv X pins σ' H' s7 ∧ tn i s7.heap ∧ (∀ b ∈ fp, H' b = none) ∧ W i m σ' H' := fun {σ7 H7} I7 n7 => by
    obtain ⟨m', hm, w7⟩ := hN σ7 H7 n7
    refine ⟨m', hm, i + 1, σ7, H7, I7.unpinned, T.keep _ _ _ st5 fun b hb o e => (I7.pin (b, o) (List.mem_append_right _ (List.mem_append_right _ (Hj hb e)))).1, fun b hb => ?_, w7⟩
    obtain ⟨o, e, d⟩ := T.obj _ _ st5 b hb
    exact (I7.pin (b, o) (List.mem_append_right _ (List.mem_append_right _ (Hj hb e)))).2.1
   cases f with
   | next => obtain ⟨σ7, H7, I7, n7⟩ := q7; exact again I7 n7
   | cont => obtain ⟨σ7, H7, I7, n7⟩ := q7; exact again I7 n7
   | brk => obtain ⟨σ7, H7, I7, q7⟩ := q7; exact ⟨σ7, H7, I7.unpinned, q7⟩
   | ret v => obtain ⟨x7, σ7, H7, I7, r7, q7⟩ := q7; exact ⟨x7, σ7, H7, I7.unpinned, r7, q7⟩
end
abbrev R2 := V → V → Hp → VK → Prop
def OpR (X : Cx) (f : Value → Value → Sem Value) (r : R2) : Prop :=
 ∀ (pins : List (Addr × Obj)) (s : Shared) (σ : St) (H : Hp) (x y : V) (v u : Value) (Q : VK), Inv X pins σ H s → RelV x v → RelV y u → r x y H Q →
  wpAny (model X.prog X.w) X.A (f v u) (EP X pins σ Q) X.xe s
def UnR (X : Cx) (f : Value → Sem Value) (r : V → Hp → VK → Prop) : Prop :=
 ∀ (pins : List (Addr × Obj)) (s : Shared) (σ : St) (H : Hp) (x : V) (v : Value) (Q : VK), Inv X pins σ H s → RelV x v → r x H Q →
  wpAny (model X.prog X.w) X.A (f v) (EP X pins σ Q) X.xe s
def Dc (X : Cx) (f : Value) (r : List V → Hp → VK → Prop) : Prop :=
 ∀ (pins : List (Addr × Obj)) (s : Shared) (σ : St) (H : Hp) (xs : List V) (us : List Value) (Q : VK), Inv X pins σ H s → Vals xs us → r xs H Q →
  wpAny (model X.prog X.w) X.A (call f us) (EP X pins σ Q) X.xe s
def wy (X : Cx) (r : V → Hp → (Bool → Hp → Prop) → Prop) : Prop :=
 ∀ (pins : List (Addr × Obj)) (s : Shared) (σ : St) (H : Hp) (x : V) (v : Value) (Q : Bool → Hp → Prop), Inv X pins σ H s → RelV x v → r x H Q →
  wpAny (model X.prog X.w) X.A (truthy v) (TP X pins σ Q) X.xe s
def tOp (r : R2) (ta tb : TE) : TE := fun σ H Q => ta σ H fun x H1 => tb σ H1 fun y H2 => r x y H2 Q
def tUn (r : V → Hp → VK → Prop) (ta : TE) : TE := fun σ H Q => ta σ H fun x H1 => r x H1 Q
def rI (C : Int → Int → Prop) (g : Int → Int → V) : R2 := fun x y H Q => ∃ i j, x = .int i ∧ y = .int j ∧ C i j ∧ Q (g i j) H
def rI0 (g : Int → Int → V) : R2 := fun x y H Q => ∃ i j, x = .int i ∧ y = .int j ∧ Q (g i j) H
def rU (g : Int → V) : V → Hp → VK → Prop := fun x H Q => ∃ i, x = .int i ∧ Q (g i) H
section
variable {X : Cx} {a b c : Expr} {ta tb tc : TE} {pos : Pos}
theorem Mb (ha : PE X a ta) (hb : PE X b tb) {pins : List (Addr × Obj)} {s : Shared} {σ : St} {H : Hp} {R : V → V → Hp → Prop} (I : Inv X pins σ H s)
 (h : ta σ H fun x H1 => tb σ H1 fun y H2 => R x y H2) {Q : Value → Shared → Prop} {f : Value → Value → Sem Value}
 (hf : ∀ v u s2 x y H2, Inv X pins σ H2 s2 → RelV x v → RelV y u → R x y H2 → wpAny (model X.prog X.w) X.A (f v u) Q X.xe s2) :
 wpAny (model X.prog X.w) X.A (eval a X.env) (fun v s₁ => wpAny (model X.prog X.w) X.A (eval b X.env) (fun u s₂ => wpAny (model X.prog X.w) X.A (f v u) Q X.xe s₂) X.xe s₁) X.xe s := by
 refine thn (ha pins s σ H _ I h) fun v s1 ⟨x, H1, I1, r1, q1⟩ => ?_
 refine thn (hb pins s1 σ H1 _ I1 q1) fun u s2 ⟨y, H2, I2, r2, q2⟩ => ?_
 exact hf v u s2 x y H2 I2 r1 r2 q2
theorem Hl {op : Operator} {r : R2} (ho : OpR X (binaryOp op) r) (ha : PE X a ta) (hb : PE X b tb) : PE X (.BinOp a op b pos) (tOp r ta tb) := by
 intro pins s σ H Q I h
 exact wpAny_BinOp (Mb ha hb I h fun v u s2 x y H2 I2 rx ry q => ho pins s2 σ H2 x y v u Q I2 rx ry q)
theorem Wy {op : UnaryOp} {r : V → Hp → VK → Prop} (ho : UnR X (unaryOp op) r) (ha : PE X a ta) : PE X (.UnaryOp op a pos) (tUn r ta) := by
 intro pins s σ H Q I h
 exact UnaryOp_ (thn (ha pins s σ H _ I h) fun v s1 ⟨x, H1, I1, r1, q1⟩ => ho pins s1 σ H1 x v Q I1 r1 q1)
theorem opI {f : Value → Value → Sem Value} {C : Int → Int → Prop} {g : Int → Int → Int}
 (rule : ∀ (i j : Int) (t u : Tok) (s : Shared) (Q : Value → Shared → Prop) (E : Value → Shared → Prop), C i j → Q (.int (g i j) s.toks) { s with toks := s.toks + 1 } → wpAny (model X.prog X.w) X.A (f (.int i t) (.int j u)) Q E s) :
 OpR X f (rI C fun i j => .int (g i j)) := by
 intro pins s σ H x y v u Q I rx ry h
 obtain ⟨i, j, rfl, rfl, hc, q⟩ := h
 obtain ⟨t, rfl⟩ := rx
 obtain ⟨t', rfl⟩ := ry
 exact rule i j t t' s _ _ hc ⟨.int (g i j), H, I.tok _, ⟨_, rfl⟩, q⟩
theorem Pj {f : Value → Value → Sem Value} {g : Int → Int → Int}
 (rule : ∀ (i j : Int) (t u : Tok) (s : Shared) (Q : Value → Shared → Prop) (E : Value → Shared → Prop), Q (.int (g i j) s.toks) { s with toks := s.toks + 1 } → wpAny (model X.prog X.w) X.A (f (.int i t) (.int j u)) Q E s) :
 OpR X f (rI0 fun i j => .int (g i j)) := by
 intro pins s σ H x y v u Q I rx ry h
 obtain ⟨i, j, rfl, rfl, q⟩ := h
 obtain ⟨t, rfl⟩ := rx
 obtain ⟨t', rfl⟩ := ry
 exact rule i j t t' s _ _ ⟨.int (g i j), H, I.tok _, ⟨_, rfl⟩, q⟩
theorem Mc {f : Value → Value → Sem Value} {g : Int → Int → Bool}
 (rule : ∀ (i j : Int) (t u : Tok) (s : Shared) (Q : Value → Shared → Prop) (E : Value → Shared → Prop), Q (.bool (g i j)) s → wpAny (model X.prog X.w) X.A (f (.int i t) (.int j u)) Q E s) :
 OpR X f (rI0 fun i j => .bl (g i j)) := by
 intro pins s σ H x y v u Q I rx ry h
 obtain ⟨i, j, rfl, rfl, q⟩ := h
 obtain ⟨t, rfl⟩ := rx
 obtain ⟨t', rfl⟩ := ry
 exact rule i j t t' s _ _ ⟨.bl (g i j), H, I, rfl, q⟩
def wz (i j : Int) : Prop := 0 ≤ j ∧ j ≤ 1000000 ∧ i.natAbs < 2 ^ 64
theorem Wz : OpR X (binaryOp .Add) (rI0 fun i j => .int (i + j)) := Pj fun _ _ _ _ _ _ _ q => add_int q
theorem Xa : OpR X (binaryOp .Sub) (rI0 fun i j => .int (i - j)) := Pj fun _ _ _ _ _ _ _ q => sub_int q
theorem Xb : OpR X (binaryOp .Mod) (rI (fun _ j => j ≠ 0) fun i j => .int (i.fmod j)) := opI fun _ _ _ _ _ _ _ hc q => mod_int' hc q
theorem xc : OpR X (binaryOp .Pow) (rI wz fun i j => .int (i ^ j.toNat)) := opI fun _ _ _ _ _ _ _ hc q => pow_int_small hc.1 hc.2.1 hc.2.2 q
theorem unI {f : Value → Sem Value} {g : Int → Int}
 (rule : ∀ (i : Int) (t : Tok) (s : Shared) (Q : Value → Shared → Prop) (E : Value → Shared → Prop), Q (.int (g i) s.toks) { s with toks := s.toks + 1 } → wpAny (model X.prog X.w) X.A (f (.int i t)) Q E s) :
 UnR X f (rU fun i => .int (g i)) := by
 intro pins s σ H x v Q I rx h
 obtain ⟨i, rfl, q⟩ := h
 obtain ⟨t, rfl⟩ := rx
 exact rule i t s _ _ ⟨.int (g i), H, I.tok _, ⟨_, rfl⟩, q⟩
theorem Xc : UnR X (unaryOp .USub) (rU fun i => .int (-i)) := unI fun _ _ _ _ _ q => neg_int q
end
section
variable {X : Cx} {a b c : Expr} {ta tb tc : TE} {pos : Pos}
theorem Xd : OpR X (compareOp .Lt) (rI0 fun i j => .bl (decide (i < j))) := Mc fun _ _ _ _ _ _ _ q => lt_int q
theorem pk : OpR X (compareOp .LtE) (rI0 fun i j => .bl (decide (i ≤ j))) := Mc fun _ _ _ _ _ _ _ q => le_int q
theorem Xe : OpR X (compareOp .GtE) (rI0 fun i j => .bl (decide (j ≤ i))) := Mc fun _ _ _ _ _ _ _ q => ge_int q
theorem OpR.or {f : Value → Value → Sem Value} {r r' : R2} (h : OpR X f r) (h' : OpR X f r') : OpR X f (fun x y H Q => r x y H Q ∨ r' x y H Q) := by
 intro pins s σ H x y v u Q I rx ry q
 rcases q with q | q
 · exact h pins s σ H x y v u Q I rx ry q
 · exact h' pins s σ H x y v u Q I rx ry q
theorem gj (b : Expr) {op : CmpOp} (h : op ≠ .In := by decide) (h2 : op ≠ .NotIn := by decide) : behindInMarks op b = false := by
 have e1 : (op == CmpOp.In) = false := by cases op <;> first | rfl | exact absurd rfl h
 have e2 : (op == CmpOp.NotIn) = false := by cases op <;> first | rfl | exact absurd rfl h2
 cases b <;> simp [behindInMarks, e1, e2]
theorem Pk {op : CmpOp} {r : R2} (ho : OpR X (compareOp op) r) (ha : PE X a ta) (hb : PE X b tb) (hm : behindInMarks op b = false) : PE X (.Compare a [op] [b] pos) (tOp r ta tb) := by
 intro pins s σ H Q I h
 exact wpAny_Compare1 (Mb ha hb I h fun v u s2 x y H2 I2 rx ry q => ho pins s2 σ H2 x y v u Q I2 rx ry q) hm
def xf (t : TE) : TT := fun σ H Q => t σ H fun x H' => ∃ k, x = .bl k ∧ Q k H'
theorem Gj {op : CmpOp} {r : R2} (ho : OpR X (compareOp op) r) (ha : PE X a ta) (hb : PE X b tb) (hm : behindInMarks op b = false) : PT X (.Compare a [op] [b] pos) (xf (tOp r ta tb)) := by
 intro pins s σ H Q I h
 refine wpAny_isTrue_Compare1 (thn (ha pins s σ H _ I h) fun v s1 ⟨x, H1, I1, r1, q1⟩ => thn (hb pins s1 σ H1 _ I1 q1) fun u s2 ⟨y, H2, I2, r2, q2⟩ =>
  thn (ho pins s2 σ H2 x y v u _ I2 r1 r2 q2) fun c s3 ⟨z, H3, I3, r3, k, e, q3⟩ => ?_) hm
 subst e
 cases r3
 exact wpAny_truthy_bool ⟨H3, I3, q3⟩
def md (K : PySem.W.Frag) (x : V) (H : Hp) (k : Bool) : Prop :=
 match x with
 | .non => k = false
 | .bl b => k = b
 | .int i => k = (i != 0)
 | .str y => y.length ≤ sizeLine ∧ k = ((y.length : Int) != 0)
 | .byt y => y.size ≤ sizeLine ∧ k = ((y.size : Int) != 0)
 | .ref p => (∃ xs, SqL K H p xs ∧ k = !xs.isEmpty) ∨ (∃ xs, SqT K H p xs ∧ k = !xs.isEmpty) ∨ ∃ kvs, H p = some (.dK kvs) ∧ k = !kvs.isEmpty
 | _ => False
theorem Xf {κ : Type} {kvs : List (κ × V)} {vs : List (κ × Value)} (r : KV kvs vs) : (!vs.isEmpty) = !kvs.isEmpty := by
 cases r <;> rfl
theorem Pl {xs : List V} {its : List Value} (r : Vals xs its) : (!its.toArray.isEmpty) = !xs.isEmpty := by
 cases r <;> simp
theorem gk : (sizeLine : Nat) < 2 ^ 63 := by rw [sizeLine_eq]; decide
theorem xg : wy X (fun x H Q => ∃ k, md X.K x H k ∧ Q k H) := by
 intro pins s σ H x v Q I rx h
 obtain ⟨k, e, q⟩ := h
 have hl := gk
 have hs : sizeLine = 16777216 := sizeLine_eq
 cases x with
 | non =>
  cases rx
  have e' : k = false := e
  subst e'
  exact truthy_none ⟨H, I, q⟩
 | bl b =>
  cases rx
  have e' : k = b := e
  subst e'
  exact wpAny_truthy_bool ⟨H, I, q⟩
 | int i =>
  obtain ⟨t, rfl⟩ := rx
  have e' : k = (i != 0) := e
  subst e'
  exact PySem.P.truthy_int ⟨H, I, q⟩
 | str y =>
  obtain ⟨t, rfl⟩ := rx
  obtain ⟨hy, e'⟩ : y.length ≤ sizeLine ∧ k = ((y.length : Int) != 0) := e
  subst e'
  exact PySem.P.truthy_str (by omega) ⟨H, I.tok _, q⟩
 | byt y =>
  obtain ⟨t, rfl⟩ := rx
  obtain ⟨hy, e'⟩ : y.size ≤ sizeLine ∧ k = ((y.size : Int) != 0) := e
  subst e'
  exact PySem.W.truthy_bytes (by omega) ⟨H, I.tok _, q⟩
 | ref p =>
  cases rx
  have e' : (∃ xs, SqL X.K H p xs ∧ k = !xs.isEmpty) ∨ (∃ xs, SqT X.K H p xs ∧ k = !xs.isEmpty) ∨ ∃ kvs, H p = some (.dK kvs) ∧ k = !kvs.isEmpty := e
  rcases e' with ⟨xs, hx, e'⟩ | ⟨xs, hx, e'⟩ | ⟨kvs, hx, e'⟩
  · subst e'
    obtain ⟨its, r, pl, hz⟩ := I.list hx
    have hlen := r.length
    exact wpAny_truthy_list pl.isList (by simp only [List.size_toArray]; omega) ⟨H, I.tok _, by rw [Pl r]; exact q⟩
  · subst e'
    obtain ⟨its, r, pl, hz⟩ := I.tuple hx
    have hlen := r.length
    exact truthy_tuple pl (by simp only [List.size_toArray]; omega) ⟨H, I.tok _, by rw [Pl r]; exact q⟩
  · subst e'
    obtain ⟨hz, hS, vs, r, m⟩ : kvs.length ≤ sizeLine ∧ (p == sysModules) = false ∧ ∃ vs, KV kvs vs ∧ s.heap.DictOf (fg X.prog X.w) p vs := I.hok p _ hx
    have hlen : kvs.length = vs.length := Paired.length r
    exact wpAny_truthy_dict hS m (by omega) ⟨H, I.tok _, by rw [Xf r]; exact q⟩
 | _ => exact (show False from e).elim
theorem Xg (ha : PE X a ta) (he : ∀ whole, isTrue a X.env whole = (do let v ← whole; standAt a.pos; holding [v] (truthy v))) :
 PT X a (fun σ H Q => ta σ H fun x H' => ∃ k, md X.K x H' k ∧ Q k H') := by
 intro pins s σ H Q I h
 exact isTrue_plain (thn (ha pins s σ H _ I h) fun v s1 ⟨x, H1, I1, r1, q1⟩ => xg pins s1 σ H1 x v Q I1 r1 q1) (he _)
theorem vals1 {x : V} {us : List Value} (r : Vals [x] us) : ∃ u, us = [u] ∧ RelV x u := by
 cases r with
 | cons r1 r2 => cases r2; exact ⟨_, rfl, r1⟩
theorem vals2 {x y : V} {us : List Value} (r : Vals [x, y] us) : ∃ u w', us = [u, w'] ∧ RelV x u ∧ RelV y w' := by
 cases r with
 | cons r1 r2 =>
  cases r2 with
  | cons r3 r4 => cases r4; exact ⟨_, _, rfl, r1, r3⟩
theorem xh : Dc X (.builtin "abs") (fun xs H Q => ∃ i, xs = [.int i] ∧ Q (.int (if i < 0 then -i else i)) H) := by
 intro pins s σ H xs us Q I r h
 obtain ⟨i, rfl, q⟩ := h
 obtain ⟨u, rfl, t, rfl⟩ := vals1 r
 exact call_abs_int fun u tk => ⟨.int (if i < 0 then -i else i), H, I.tok _, ⟨_, rfl⟩, q⟩
theorem Xh (hc : X.calm = true) : Dc X (.builtin "max") (fun xs H Q => ∃ i j, xs = [.int i, .int j] ∧ Q (.int (if j > i then j else i)) H) := by
 intro pins s σ H xs us Q I r h
 obtain ⟨i, j, rfl, q⟩ := h
 obtain ⟨u, w', rfl, ⟨t, rfl⟩, ⟨t', rfl⟩⟩ := vals2 r
 refine max_two_ints (I.ok.hd hc) fun h' tk k => ⟨_, H, I.kept k, ?_, q⟩
 by_cases hj : j > i
 · rw [if_pos hj, if_pos hj]; exact ⟨_, rfl⟩
 · rw [if_neg hj, if_neg hj]; exact ⟨_, rfl⟩
end
section
variable {prog : Program} {w : World} {A : Around} {E : Value → Shared → Prop} {s : Shared} {K : PySem.W.Frag} {x dx C f : Addr} {mA : Str → Option Value} {name : Str} {v : Value}
end
section
variable {P : Program} {w : World} {H H' : Hp} {h h' : Heap} {a C dx : Addr} {fs fs' : List (Str × V)}
end
section
variable {X : Cx} {pins : List (Addr × Obj)} {σ : St} {H : Hp} {s : Shared} {a C dx : Addr} {fs : List (Str × V)} {f : Str} {v : V} {A : Around} {E : Value → Shared → Prop}
end
section
variable {X : Cx} {o e value : Expr} {f : Str} {pos pos' tpos : Pos} {ta tv : TE}
end
section
variable {X : Cx} {pins : List (Addr × Obj)} {σ : St} {H : Hp} {s : Shared} {A : Around} {E : Value → Shared → Prop} {Q : Value → Shared → Prop} {c : Value} {b : Bool}
end
structure Room (k : Nat) (A : Around) : Prop where
 hd : A.handled = none
 dp : A.depth + 3 * k + 5 < recursionLimit
 un : A.units + 16 * k + 200 < cLine
theorem Room.mono {j k : Nat} {A : Around} (r : Room k A) (h : j ≤ k) : Room j A := ⟨r.hd, by have := r.dp; omega, by have := r.un; omega⟩
theorem Room.deeper {k : Nat} {A : Around} (r : Room (k + 1) A) (env : Env) : Room k (A.deeper env) :=
 ⟨r.hd, by have := r.dp; show A.depth + 1 + 3 * k + 5 < _; omega, by have := r.un; show A.units + 3 + 16 * k + 200 < _; omega⟩
theorem Room.depth {k : Nat} {A : Around} (r : Room k A) : A.depth < recursionLimit := by have := r.dp; omega
theorem Room.units {k : Nat} {A : Around} (r : Room k A) : A.units + 64 < cLine := by have := r.un; omega
def Pm : TA := fun _ H Q => Q [] H
def Md (ta : TE) (tr : TA) : TA := fun σ H Q => ta σ H fun x H1 => tr σ H1 fun xs H2 => Q (x :: xs) H2
section
variable {X : Cx} {e : Expr} {es : List Expr} {te : TE} {t : TA} {pos : Pos}
theorem me : PA X [] Pm := fun _ _ _ _ H Q I h => Calls.spliced_nil ⟨[], H, I, .nil, h⟩
theorem Iy (ha : PE X e te) (hr : PA X es t) (hs : starEach (e :: es) X.env = (false, eval e X.env) :: starEach es X.env := by rfl) : PA X (e :: es) (Md te t) := by
 intro pos pins s σ H Q I h
 rw [hs]
 show wpAny _ _ (spliced ((false, eval e X.env) :: backTo pos (starEach es X.env))) _ _ s
 refine Calls.spliced_cons (thn (ha pins s σ H _ I h) fun u s1 ⟨x, H1, I1, r1, q1⟩ => ?_)
 exact thn (hr pos pins s1 σ H1 _ I1 q1) fun us s2 ⟨xs, H2, I2, r2, q2⟩ => ⟨x :: xs, H2, I2, .cons r1 r2, q2⟩
def xi (t : TA) : TE := fun σ H Q => t σ H fun xs H1 => xs.length ≤ sizeLine ∧ ∀ p, H1 p = none → Q (.ref p) (upd H1 p (.tup xs))
def Xi (t : TA) : TE := fun σ H Q => t σ H fun xs H1 => xs.length ≤ sizeLine ∧ ∀ p, H1 p = none → Q (.ref p) (upd H1 p (.lst xs))
theorem xj {x1} (h : PA X es t) : PE X (.Tuple es x1 pos) (xi t) := by
 intro pins s σ H Q I hq
 refine wpAny_Tuple_spliced (thn (h pos pins s σ H _ I hq) fun us s1 ⟨xs, H1, I1, r, z, q⟩ => ⟨by rw [← r.length]; exact z, ?_⟩)
 have hf : H1 s1.heap.objs.size = none := I1.hok.fresh (Nat.le_refl _)
 refine ⟨.ref s1.heap.objs.size, upd H1 s1.heap.objs.size (.tup xs), I1.laid (t' := s1.toks) (fun b u e => Heap.get?_push_of_some _ e) (Nat.le_refl _) ?_, rfl, q _ hf⟩
 exact ⟨z, us, r, ⟨_, Heap.get?_push_size _ rfl, rfl, _, rfl⟩⟩
theorem Xj (h : PA X es t) : PE X (.List es pos) (Xi t) := by
 intro pins s σ H Q I hq
 refine wpAny_List_spliced (thn (h pos pins s σ H _ I hq) fun us s1 ⟨xs, H1, I1, r, z, q⟩ => ⟨by rw [← r.length]; exact z, ?_⟩)
 have hf : H1 s1.heap.objs.size = none := I1.hok.fresh (Nat.le_refl _)
 refine ⟨.ref s1.heap.objs.size, upd H1 s1.heap.objs.size (.lst xs), I1.laid (t' := s1.toks) (fun b u e => Heap.get?_push_of_some _ e) (Nat.le_refl _) ?_, rfl, q _ hf⟩
 exact ⟨z, us, 0, r, Heap.get?_push_size _ rfl⟩
end
abbrev Sp := List V → Hp → VK → XK → Prop
abbrev CXT := List Env → Hp → Shared → XK → Value → Shared → Prop
structure Env0 (P : Program) (w : World) (K : PySem.W.Frag) (mg : Str → Option Value) (base : Heap) (A : Around) (outer : List Env) (s : Shared) (H : Hp) : Prop where
 frames : A.frames = some outer
 mod : Mod K mg base
 bs : ∀ b o, base.get? b = some o → s.heap.get? b = some o ∧ H b = none
 bsz : base.objs.size ≤ s.heap.objs.size
 funs : s.heap.FunFrames base outer
 frf : ∀ b ∈ frs outer, H b = none
 hok : HOk P w H s.heap
 bare : AllBare s.gens
def CE (outer : List Env) (P : Program) (w : World) (H : Hp) (s : Shared) (Q : VK) (u : Value) (s' : Shared) : Prop :=
 ∃ v H', s'.os = s.os ∧ AllBare s'.gens ∧ Un (frs outer) [] H H' s.heap s'.heap ∧ HOk P w H' s'.heap ∧ RelV v u ∧ Q v H'
def CR (CX : CXT) (outer : List Env) (P : Program) (w : World) (H : Hp) (s : Shared) (Q : VK) (E : XK) (r : Result) (s' : Shared) : Prop :=
 match r with
 | .ok (.ret u) => CE outer P w H s Q u s'
 | .ok _ => False
 | .error e => CX outer H s E e s'
structure FnOk (P : Program) (w : World) (K : PySem.W.Frag) (mg : Str → Option Value) (base : Heap) (CX : CXT) (k : Nat) (f : Addr) (fd : FuncData) (ps : List Str) (sp : Sp) : Prop where
 len : ∀ vs H Q E, sp vs H Q E → vs.length = ps.length
 run : ∀ (A : Around) (outer : List Env) (s : Shared) (H : Hp) (args : Args) (us : List Value) (vs : List V) (Q : VK) (E : XK), Room k A → Env0 P w K mg base A outer s H → BindsTo s fd args (ps.zip us) → Vals vs us → sp vs H Q E →
  codeAny (model P w) A (.call (.ref f) args) (CR CX outer P w H s Q E) s
section
variable {X : Cx} {pins : List (Addr × Obj)} {σ : St} {H : Hp} {s s' : Shared}
theorem Inv.env0 (I : Inv X pins σ H s) : Env0 X.prog X.w X.K X.mg X.base X.A X.stack s H :=
 ⟨I.ok.frames, I.ok.mod, I.bs, Nat.le_trans I.ok.bsz I.sz, I.stack, I.stkFree, I.hok, I.bare⟩
theorem Inv.after {Q : VK} {u : Value} (I : Inv X pins σ H s) (h : CE X.stack X.prog X.w H s Q u s') : EP X pins σ Q u s' := by
 obtain ⟨v, H', os, bare, un, hok, r, q⟩ := h
 obtain ⟨hh, g, d, t, os'⟩ := s'
 obtain rfl : os' = s.os := os
 exact ⟨v, H', I.call (h' := hh) (g' := g) (d' := d) (t' := t) (ch := []) un hok bare (fun b z => absurd z (by simp)), r, q⟩
end
def Xk (sp : Sp) (dvs : List V) (E : XK) (t : TA) : TE := fun σ H Q => t σ H fun vs H1 => sp (vs ++ dvs) H1 Q E
def Binds (K : PySem.W.Frag) (fd : FuncData) (ps : List Str) (ds : List Value) : Prop :=
 ∀ (s : Shared) (us : List Value), K.In s.heap → (us ++ ds).length = ps.length → BindsTo s fd ⟨us, []⟩ (ps.zip (us ++ ds))
theorem Binds.all {K : PySem.W.Frag} {fd : FuncData} {ps : List Str} (h : ∀ us : List Value, us.length = ps.length → bindArgs fd ⟨us, []⟩ = pure (ps.zip us)) : Binds K fd ps [] := fun s us _ hl => by
 rw [List.append_nil] at hl ⊢
 exact .of_eq (h us hl)
def Passes (CX : CXT) (X : Cx) (E : XK) : Prop := ∀ (pins : List (Addr × Obj)) (σ : St) (H : Hp) (s : Shared) (e : Value) (s' : Shared), Inv X pins σ H s → CX X.stack H s E e s' → X.xe e s'
section
variable {X : Cx} {CX : CXT} {k : Nat} {f C : Addr} {fd : FuncData} {ps : List Str} {sp : Sp} {dvs : List V} {ds : List Value} {E : XK} {x m : Str} {p pos apos : Pos} {e o : Expr} {es : List Expr} {ta : TE} {t : TA}
theorem xl {pins : List (Addr × Obj)} {σ : St} {H : Hp} {s : Shared} {Q : VK} {us : List Value} {vs : List V} (F : FnOk X.prog X.w X.K X.mg X.base CX k f fd ps sp) (hr : Room k X.A) (hb : Binds X.K fd ps ds) (hd : Vals dvs ds) (hx : Passes CX X E)
 (I : Inv X pins σ H s) (r : Vals vs us) (h : sp (vs ++ dvs) H Q E) : wpAny (model X.prog X.w) X.A (call (.ref f) us) (EP X pins σ Q) X.xe s := by
 have r2 : Vals (vs ++ dvs) (us ++ ds) := r.append hd
 have hl : (us ++ ds).length = ps.length := by rw [← r2.length]; exact F.len _ _ _ _ h
 refine wpAny_call (codeAny_mono (F.run X.A X.stack s H ⟨us, []⟩ (us ++ ds) (vs ++ dvs) Q E hr I.env0 (hb s us I.kIn hl) r2 h) fun r s' hq => ?_)
 cases r with
 | error e => exact hx pins σ H s e s' I hq
 | ok fl =>
  cases fl with
  | ret u => exact I.after hq
  | next => exact False.elim hq
  | brk => exact False.elim hq
  | cont => exact False.elim hq
theorem Xl (F : FnOk X.prog X.w X.K X.mg X.base CX k f fd ps sp) (hr : Room k X.A) (hg : Gl X x) (hm : X.mg x = some (.ref f)) (hk : PySem.W.keepIn X.K (.ref f) = true) (hb : Binds X.K fd ps ds) (hd : Vals dvs ds) (hx : Passes CX X E)
 (ha : PA X (e :: es) t) (hdb : (x == ("__debug__" : Str)) = false := by decide) (he : starEach (e :: es) X.env = (false, eval e X.env) :: starEach es X.env := by rfl) (hpl : (backTo pos (starEach es X.env)).any (·.1) = false := by rfl) :
 PE X (.Call (.Name x p) (e :: es) [] pos) (Xk sp dvs E t) := by
 intro pins s σ H Q I h
 refine wpAny_Call_Name_kw (Pg I hg hm ?_ hdb)
 refine PySem.W.callWith_K (h₀ := X.base) I.ok.mod.kin hk (thn (ha pos pins s σ H _ I h) fun us s1 ⟨vs, H1, I1, r, q⟩ => ⟨I1.kIn, ?_⟩) he hpl
 exact xl F hr hb hd hx I1 r q
end
section
variable {X : Cx} {CX : CXT} {k : Nat} {f C : Addr} {fd : FuncData} {ps ks : List Str} {sp : Sp} {E : XK} {x m : Str} {p pos apos kpos : Pos} {e o : Expr} {es : List Expr} {kws : List Keyword} {te ta : TE} {t tk : TA} {nm : Option Str}
variable {g : List Value → List Value → List Value} {gV : List V → List V → List V}
end
structure FnScope (N P : List Str) (sc : Scope) : Prop where
 kind : sc.kind = .function
 co : sc.isCoroutine = false
 gen : sc.isGenerator = false
 nd : N.Nodup
 pre : N.take P.length = P
 par : ∀ x ∈ P, sc.names.lookup x = some .local ∨ sc.names.lookup x = some .cell
 nofree : ∀ y ∈ sc.names, y.2 ≠ .free
theorem Pn {kindOf : Str → Option NameKind} {x : Str} : ∀ {binds : List (Str × Value)} {m : Str → Option Value}, (∀ v, (x, v) ∉ binds) → bindL kindOf binds m x = m x
 | [], _, _ => rfl
 | (n, v) :: r, m, h => by
  unfold bindL
  rw [Pn fun w hw => h w (List.mem_cons_of_mem _ hw)]
  split
  · have : x ≠ n := by rintro rfl; exact h v List.mem_cons_self
    simp [this]
  · rfl
theorem Po {kindOf : Str → Option NameKind} {x : Str} : ∀ {binds : List (Str × Value)} {m : Str → Option Value}, (∀ v, (x, v) ∉ binds) → bindC kindOf binds m x = m x
 | [], _, _ => rfl
 | (n, v) :: r, m, h => by
  unfold bindC
  rw [Po fun w hw => h w (List.mem_cons_of_mem _ hw)]
  split
  · rfl
  · have : x ≠ n := by rintro rfl; exact h v List.mem_cons_self
    simp [this]
theorem Pp {kindOf : Str → Option NameKind} {x : Str} {v : Value} : ∀ {P : List Str} {vs : List Value} {i : Nat} {m : Str → Option Value}, P.Nodup → P[i]? = some x → vs[i]? = some v → kindOf x = some .local →
 bindL kindOf (P.zip vs) m x = some v
 | [], _, _, _, _, h, _, _ => by simp at h
 | _ :: _, [], _, _, _, _, h, _ => by simp at h
 | p :: P, w :: vs, 0, m, nd, h1, h2, hk => by
  simp at h1 h2; subst h1; subst h2
  show bindL kindOf ((p, w) :: P.zip vs) m p = _
  unfold bindL
  rw [Pn fun v hv => (List.nodup_cons.mp nd).1 (List.of_mem_zip hv).1, if_pos hk]
  simp
 | p :: P, w :: vs, i + 1, m, nd, h1, h2, hk => by
  show bindL kindOf ((p, w) :: P.zip vs) m x = _
  unfold bindL
  exact Pp (i := i) (List.nodup_cons.mp nd).2 (by simpa using h1) (by simpa using h2) hk
theorem pq {kindOf : Str → Option NameKind} {x : Str} {v : Value} : ∀ {P : List Str} {vs : List Value} {i : Nat} {m : Str → Option Value}, P.Nodup → P[i]? = some x → vs[i]? = some v → kindOf x ≠ some .local →
 bindC kindOf (P.zip vs) m x = some v
 | [], _, _, _, _, h, _, _ => by simp at h
 | _ :: _, [], _, _, _, _, h, _ => by simp at h
 | p :: P, w :: vs, 0, m, nd, h1, h2, hk => by
  simp at h1 h2; subst h1; subst h2
  show bindC kindOf ((p, w) :: P.zip vs) m p = _
  unfold bindC
  rw [Po fun v hv => (List.nodup_cons.mp nd).1 (List.of_mem_zip hv).1, if_neg hk]
  simp
 | p :: P, w :: vs, i + 1, m, nd, h1, h2, hk => by
  show bindC kindOf ((p, w) :: P.zip vs) m x = _
  unfold bindC
  exact pq (i := i) (List.nodup_cons.mp nd).2 (by simpa using h1) (by simpa using h2) hk
def start (N : List Str) (vs : List V) : St := vs.map some ++ List.replicate (N.length - vs.length) none
def En (CX : CXT) (P : Program) (w : World) (K : PySem.W.Frag) (mg : Str → Option Value) (base : Heap) (N : List Str) (qual : Str) (scope : Scope) (f : Addr) (cd : Value) (A : Around) (outer : List Env) (s : Shared) (H : Hp) (E : XK) : Cx where
 prog := P
 w := w
 K := K
 mg := mg
 base := base
 A := A.deeper (envOfC qual scope s.heap.objs.size f cd)
 N := N
 s₀ := s
 H₀ := H
 env := envOfC qual scope s.heap.objs.size f cd
 outer := outer
 stack := envOfC qual scope s.heap.objs.size f cd :: outer
 ex := []
 calm := true
 fn := fun _ => true
 pn := []
 xe := fun e s' => wpAny (model P w) (A.deeper (envOfC qual scope s.heap.objs.size f cd)) (leaving (envOfC qual scope s.heap.objs.size f cd) e) (fun _ s'' => CX outer H s E e s'') (fun e' s'' => CX outer H s E e' s'') s'
theorem Pq {sc : Scope} {n : Nat} {x : Str} (h : sc.names.lookup x = some .cell) : ∃ c, (cellsFrom n sc.names []).lookup x = some c := by
 have q := PySem.W.cellsFrom_some sc.names n [] (.inl h)
 exact Option.isSome_iff_exists.mp q
theorem Pt {CX : CXT} {P : Program} {w : World} {K : PySem.W.Frag} {mg : Str → Option Value} {base : Heap} {N ps : List Str} {qual : Str} {scope : Scope} {f : Addr} {cd : Value} {A : Around} {outer : List Env} {s s1 : Shared} {H : Hp} {E : XK} {us : List Value} {vs : List V}
 (S : FnScope N ps scope) (hd : A.handled = none) (e0 : Env0 P w K mg base A outer s H) (hl : vs.length = ps.length) (r : Vals vs us)
 (x : InCallC s s.heap.objs.size (bindL (envOfC qual scope s.heap.objs.size f cd).kindOf (ps.zip us) fun _ => none) (cellsFrom (s.heap.objs.size + 1) scope.names []) (bindC (envOfC qual scope s.heap.objs.size f cd).kindOf (ps.zip us) fun _ => none) s1) :
 Inv (En CX P w K mg base N qual scope f cd A outer s H E) [] (start N vs) H s1 := by
 have hpl : ps.length ≤ N.length := by have := congrArg List.length S.pre; rw [List.length_take] at this; omega
 obtain ⟨h1, tk, rfl, hk⟩ := x.done
 have noA : ∀ b : Addr, b ∉ (En CX P w K mg base N qual scope f cd A outer s H E).ex := fun b z => absurd (show b ∈ ([] : List Addr) from z) (by simp)
 refine ⟨⟨e0.mod, S.kind, rfl, rfl, Nat.le_refl _, fun y z c h1 h2 => ?_, fun y hy => ?_, fun y c _ h => ?_, fun _ => hd, Around.frames_deeper e0.frames, .inr ⟨rfl, rfl⟩, fun b z => absurd z (noA b), e0.bs, e0.bsz, fun b _ _ => noA b, fun b z => absurd z (noA b), e0.funs, e0.frf⟩,
  rfl, e0.bare, Un.kept hk, ⟨_, x.toInCall.ns, fun i y v h1 h2 h3 => ?_⟩, fun y c h => ⟨_, x.cell y c h⟩, e0.hok.fresh (Nat.le_refl _), fun y c h => ?_, fun p hp => absurd (show p ∈ ([] : List (Addr × Obj)) from hp) (by simp), e0.hok.kept hk, ?_⟩
 · exact name_of_addr x.apart (PySem.mem_of_lookup h1) (PySem.mem_of_lookup h2)
 · have hy : scope.names.lookup y = some .cell ∨ scope.names.lookup y = some .free := hy
   rcases hy with hy | hy
   · exact Pq hy
   · exact absurd rfl (S.nofree _ (PySem.mem_of_lookup hy))
 · exact Nat.le_of_lt (x.above y c (PySem.mem_of_lookup h))
 · have hi : i < vs.length := by
    unfold start at h2
    by_cases hi : i < vs.length
    · exact hi
    · rw [List.getElem?_append_right (by simpa using hi)] at h2
      rw [List.getElem?_replicate] at h2
      split at h2 <;> cases h2
   have ha : vs[i]? = some v := by
    unfold start at h2
    rw [List.getElem?_append_left (by simpa using hi), List.getElem?_map] at h2
    cases e : vs[i]? with
    | none => rw [e] at h2; cases h2
    | some a => rw [e] at h2; cases h2; rfl
   obtain ⟨u, hu, rv⟩ := r.get ha
   have hp : ps[i]? = some y := by
    rw [← S.pre, List.getElem?_take_of_lt (by omega)]; exact h1
   have ndP : ps.Nodup := by rw [← S.pre]; exact S.nd.sublist (List.take_sublist _ _)
   refine ⟨u, rv, ?_⟩
   rcases S.par y (List.mem_of_getElem? hp) with k | k
   · exact .inl ⟨k, Pp ndP hp hu k⟩
   · obtain ⟨c, e⟩ := Pq (n := s.heap.objs.size + 1) k
     refine .inr ⟨.inl k, c, e, ?_⟩
     have q := x.cell y c e
     rw [pq ndP hp hu (by show scope.names.lookup y ≠ _; rw [k]; decide)] at q
     exact q
 · exact e0.hok.fresh (Nat.le_of_lt (x.above y c (PySem.mem_of_lookup h)))
 · unfold start
   show _ = N.length
   rw [List.length_append, List.length_map, List.length_replicate]
   omega
theorem xm {CX : CXT} {P : Program} {w : World} {K : PySem.W.Frag} {mg : Str → Option Value} {base : Heap} {k : Nat} {f : Addr} {name qual : Str} {params : Arguments} {body : List Stmt} {scope : Scope} {dV kV doc pm cdv ct oc : Value} {an od : Option Addr}
 {osl : Array (Option Value)} {N ps : List Str} {sp : Sp} (lk : K.lookup f = some ⟨oc, od, .func (PySem.W.fnOf name qual params body scope dV kV doc pm an cdv ct), osl⟩) (hcd : PySem.W.codeIn K cdv qual = true) (S : FnScope N ps scope)
 (len : ∀ vs H Q E, sp vs H Q E → vs.length = ps.length)
 (hbody : ∀ (A : Around) (outer : List Env) (s : Shared) (H : Hp) (vs : List V) (Q : VK) (E : XK), Room k (A.deeper (envOfC qual scope s.heap.objs.size f cdv)) → sp vs H Q E →
  ∃ t, PSs (En CX P w K mg base N qual scope f cdv A outer s H E) body t ∧ t { nx := fun _ H' => Q .non H', rt := Q } (start N vs) H) :
 FnOk P w K mg base CX (k + 1) f (PySem.W.fnOf name qual params body scope dV kV doc pm an cdv ct) ps sp := by
 refine ⟨len, fun A outer s H args us vs Q E hr e0 hb r hsp => ?_⟩
 have hl := len _ _ _ _ hsp
 have KX : K.In s.heap := e0.mod.kin.keeps fun b o e => (e0.bs b o e).1
 have lim : s.heap.NoLimit := e0.mod.nolimit.keeps fun b o e => (e0.bs b o e).1
 have hkind : ∀ y ∈ ps.zip us, scope.names.lookup y.1 = some .local ∨ (scope.names.lookup y.1 = some .cell ∧ ((cellsFrom (s.heap.objs.size + 1) scope.names []).lookup y.1).isSome = true) := fun ⟨n, v⟩ hy => by
  rcases S.par n (List.of_mem_zip hy).1 with q | q
  · exact .inl q
  · exact .inr ⟨q, PySem.W.cellsFrom_some _ _ _ (.inl q)⟩
 refine codeAny_call_function hr.depth (KX _ _ lk) rfl S.co S.gen rfl (PySem.W.codeRec_of KX hcd) (hb _ _ _ _ ?_)
 refine wpAny_newFunctionEnv_cells S.kind hkind fun env he s1 x => ?_
 subst he
 refine ⟨lim.keeps x.toInCall.keep, codeAny_func ?_⟩
 obtain ⟨t, ht, hq⟩ := hbody A outer s H vs Q E (hr.deeper _) hsp
 have I : Inv (En CX P w K mg base N qual scope f cdv A outer s H E) [] (start N vs) H s1 := Pt S hr.hd e0 hl r x
 refine wpAny_mono (ht [] s1 (start N vs) H _ I hq) (fun fl s' hs => ?_) fun e s' hs => hs
 have fin : ∀ {σ' : St} {H' : Hp} {v : V} {u : Value}, Inv (En CX P w K mg base N qual scope f cdv A outer s H E) [] σ' H' s' → RelV v u → Q v H' → CE outer P w H s Q u s' :=
  fun {σ' H' v u} J rv q => ⟨v, H', J.os, J.bare, J.base, J.hok, rv, q⟩
 cases fl with
 | ret u =>
  obtain ⟨v, σ', H', J, rv, q⟩ := hs
  exact fin J rv q
 | next =>
  obtain ⟨σ', H', J, q⟩ := hs
  exact fin (v := V.non) (u := Value.none) J rfl q
 | brk =>
  obtain ⟨_, _, _, q⟩ := hs
  exact False.elim q
 | cont =>
  obtain ⟨_, _, _, q⟩ := hs
  exact False.elim q
section
variable {X : Cx} {x : Str} {p pos : Pos} {e : Expr} {es : List Expr} {t : TA} {id T : String} {r : List V → Hp → VK → Prop}
def tCB (r : List V → Hp → VK → Prop) (t : TA) : TE := fun σ H Q => t σ H fun vs H1 => r vs H1 Q
theorem Jx (hc : Dc X (.builtin id) r) (hg : Gl X x) (hm : X.mg x = none) (hv : bootBuiltins x = some (.builtin id)) (ha : PA X (e :: es) t) (hn : x ≠ "__name__" := by decide) (hdb : (x == ("__debug__" : Str)) = false := by decide)
 (he : starEach (e :: es) X.env = (false, eval e X.env) :: starEach es X.env := by rfl) (hpl : (backTo pos (starEach es X.env)).any (·.1) = false := by rfl) : PE X (.Call (.Name x p) (e :: es) [] pos) (tCB r t) := by
 intro pins s σ H Q I h
 refine wpAny_Call_Name_kw (Hh I hg hm hv ?_ hn hdb)
 exact PyProof.Rows.callWith_builtin1 (thn (ha pos pins s σ H _ I h) fun us s1 ⟨vs, H1, I1, r1, q1⟩ => hc pins s1 σ H1 vs us Q I1 r1 q1) he hpl
theorem Xm (hc : Dc X (.type T) r) (hg : Gl X x) (hm : X.mg x = none) (hv : bootBuiltins x = some (.type T)) (ha : PA X (e :: es) t) (hn : x ≠ "__name__" := by decide) (hdb : (x == ("__debug__" : Str)) = false := by decide)
 (he : starEach (e :: es) X.env = (false, eval e X.env) :: starEach es X.env := by rfl) (hpl : (backTo pos (starEach es X.env)).any (·.1) = false := by rfl) : PE X (.Call (.Name x p) (e :: es) [] pos) (tCB r t) := by
 intro pins s σ H Q I h
 refine wpAny_Call_Name_kw (Hh I hg hm hv ?_ hn hdb)
 exact PyProof.Rows.callWith_type1 (thn (ha pos pins s σ H _ I h) fun us s1 ⟨vs, H1, I1, r1, q1⟩ => hc pins s1 σ H1 vs us Q I1 r1 q1) he hpl
end
end L2
namespace HT
open PySem PyProof.Rows
section
open PySem.SeqAt
open PySem.AutoSeq1 (wpAny_loadPart')
open PySem.MeetsSeq PySem.MeetsSeq2 PySem.MeetsSeq3
end
section
variable {prog : Program} {w : World} {A : Around} {E : Value → Shared → Prop} {s : Shared}
def sIx (n d : Nat) : Option Int → Nat
 | none => d
 | some v => if v < 0 then (v + (n : Int)).toNat else min v.toNat n
theorem xn (n d : Nat) : sIx n d none = d := rfl
theorem Me (n d k : Nat) : sIx n d (some (k : Int)) = min k n := by
 show (if (k : Int) < 0 then ((k : Int) + (n : Int)).toNat else min (k : Int).toNat n) = min k n
 rw [if_neg (by omega), Int.toNat_natCast]
theorem Xn (n d : Nat) (hd : d ≤ n) (o : Option Int) : sIx n d o ≤ n := by
 cases o with
 | none => exact hd
 | some v =>
  show (if v < 0 then (v + (n : Int)).toNat else min v.toNat n) ≤ n
  by_cases hv : v < 0
  · rw [if_pos hv]; omega
  · rw [if_neg hv]; exact Nat.min_le_right _ _
theorem Pu (v : Int) (n d : Nat) : (if v < 0 then max (v + (n : Int)) 0 else min v (n : Int)) = ((sIx n d (some v) : Nat) : Int) := by
 show (if v < 0 then max (v + (n : Int)) 0 else min v (n : Int)) = (((if v < 0 then (v + (n : Int)).toNat else min v.toNat n) : Nat) : Int)
 by_cases hv : v < 0
 · simp only [if_pos hv]; omega
 · simp only [if_neg hv]; omega
theorem xo (lo hi : Option Int) (n : Nat) : Builtin.Slice.sliceAdjust lo hi 1 (n : Int) = (((sIx n 0 lo : Nat) : Int), ((sIx n n hi : Nat) : Int)) := by
 have h1 : ¬ ((1 : Int) < 0) := by omega
 unfold Builtin.Slice.sliceAdjust
 simp only [h1, if_false]
 refine Prod.ext ?_ ?_
 · cases lo with
   | none => rfl
   | some v => exact Pu v n 0
 · cases hi with
   | none => rfl
   | some v => exact Pu v n n
theorem Xo (i j : Nat) : Builtin.Slice.slicePlaces (i : Int) (j : Int) 1 = j - i := by
 unfold Builtin.Slice.slicePlaces
 have h1 : (1 : Int) > 0 := by omega
 simp only [h1, if_true, Int.ediv_one]
 split <;> omega
theorem pw {v : Value} {o : Option Int} {Q : Option Int → Shared → Prop} (p : IsPart v o) (h : Q o s) : wpAny (model prog w) A (Builtin.Slice.slicePartIndex v) Q E s := by
 cases p with
 | none => exact slicePart_none h
 | int i t => exact slicePart_int h
theorem Pw {sl : Addr} {vl vu : Value} {lo hi : Option Int} {n : Nat} {Q : Int × Int × Nat → Shared → Prop} (hs : s.heap.IsSliceOf sl vl vu .none) (pl : IsPart vl lo) (pu : IsPart vu hi)
 (h : Q (((sIx n 0 lo : Nat) : Int), 1, sIx n n hi - sIx n 0 lo) s) : wpAny (model prog w) A (Builtin.Slice.sliceApplied (.ref sl) (pure (n : Int))) Q E s := by
 obtain ⟨os, hos, hcs, hds⟩ := id hs
 unfold Builtin.Slice.sliceApplied Builtin.Slice.sliceFields
 refine wpAny_bind (wpAny_bind (wpAny_field hos hds (x := vl) rfl (wpAny_bind (wpAny_field hos hds (x := vu) rfl (wpAny_bind (wpAny_field hos hds (x := .none) rfl (wpAny_pure ?_)))))))
 refine wpAny_bind (slicePart_none ?_)
 show wpAny _ _ (if ((1 : Int) == 0) = true then _ else _) _ _ s
 rw [if_neg (by decide)]
 refine wpAny_bind (pw pl (wpAny_bind (pw pu (wpAny_bind (wpAny_pure ?_)))))
 show wpAny _ _ (match Builtin.Slice.sliceAdjust lo hi 1 (n : Int) with | (lo, hi) => pure (lo, (1 : Int), Builtin.Slice.slicePlaces lo hi 1)) _ _ s
 rw [xo lo hi n]
 show wpAny _ _ (pure (((sIx n 0 lo : Nat) : Int), (1 : Int), Builtin.Slice.slicePlaces ((sIx n 0 lo : Nat) : Int) ((sIx n n hi : Nat) : Int) 1)) _ _ s
 rw [Xo]
 exact wpAny_pure h
theorem Xp (xs : Array Value) (i k : Nat) : ((List.range k).filterMap fun (m : Nat) => xs[((i : Int) + (m : Int) * 1).toNat]?).toArray = ((xs.toList.drop i).take k).toArray := by
 have e : (fun (m : Nat) => xs[((i : Int) + (m : Int) * 1).toNat]?) = fun m => xs[i + m]? := by
  funext m
  have : ((i : Int) + (m : Int) * 1).toNat = i + m := by omega
  rw [this]
 rw [e]
 have := pick_run xs i k
 rw [List.filterMap_map] at this
 have e2 : ((fun x => xs[x]?) ∘ fun x => i + x) = fun m => xs[i + m]? := rfl
 rw [e2] at this
 rw [this]
theorem xq {t sl : Addr} {items : Array Value} {vl vu : Value} {lo hi : Option Int} {Q : Value → Shared → Prop} (ht : IsTup s.heap t items) (hs : s.heap.IsSliceOf sl vl vu .none) (pl : IsPart vl lo) (pu : IsPart vu hi)
 (hw : ¬ (sIx items.size 0 lo = 0 ∧ sIx items.size items.size hi = items.size))
 (h : Q (.ref s.heap.objs.size) { s with heap := s.heap.push { cls := .type "tuple", data := .seq ((items.toList.drop (sIx items.size 0 lo)).take (sIx items.size items.size hi - sIx items.size 0 lo)).toArray } })
 (hsz : items.size ≤ sizeLine) : wpAny (model prog w) A (getItem (.ref t) (.ref sl)) Q E s := by
 have htake : sizeOk (.seq ((items.toList.drop (sIx items.size 0 lo)).take (sIx items.size items.size hi - sIx items.size 0 lo)).toArray) := by
  show ((items.toList.drop (sIx items.size 0 lo)).take (sIx items.size items.size hi - sIx items.size 0 lo)).toArray.size ≤ sizeLine
  rw [List.size_toArray, List.length_take, List.length_drop, Array.length_toList]
  omega
 have hj : sIx items.size items.size hi ≤ items.size := Xn _ _ (Nat.le_refl _) hi
 obtain ⟨os, hos, hcs, hds⟩ := id hs
 have hTs : s.TypeIs (.ref sl) "slice" := ⟨os, hos, hcs⟩
 unfold getItem
 try with_reducible refine wpAny_holding ?_
 first | refine wpAny_bind (wpAny_pure ?_) | skip
 refine wpAny_bind (wpAny_sequenceKey ht.typeIs (by decide) ?_)
 refine wpAny_bind (wpAny_callSpecial?_slot (name := Str.ofString "__getitem__") ht.typeIs PyProof.Rows.slot_tuple_getitem
  (wpAny_call_entry PyProof.Rows.slot_tuple_getitem ht.typeIs entry_tuple_getitem ?_ (args_tuple_getitem _ _)))
 show wpAny _ _ (Builtin.Tuple.tupleItemsOf (.ref t) >>= _) _ _ s
 refine wpAny_bind (tupleItemsOf_ ht ?_)
 refine wpAny_bind (wpAny_typeOf hTs ?_)
 rw [if_pos (by decide)]
 refine wpAny_bind (Pw hs pl pu ?_)
 have hno : ¬ ((((sIx items.size 0 lo : Nat) : Int) == 0 && (1 : Int) == 1 && (sIx items.size items.size hi - sIx items.size 0 lo) == items.size) = true) := by
  intro q
  rw [Bool.and_eq_true, Bool.and_eq_true] at q
  have q1 : ((sIx items.size 0 lo : Nat) : Int) = 0 := eq_of_beq q.1.1
  have q2 : sIx items.size items.size hi - sIx items.size 0 lo = items.size := eq_of_beq q.2
  exact hw ⟨by omega, by omega⟩
 show wpAny _ _ (if (((sIx items.size 0 lo : Nat) : Int) == 0 && (1 : Int) == 1 && (sIx items.size items.size hi - sIx items.size 0 lo) == items.size) = true then _ else _) _ _ s
 rw [if_neg hno, Xp]
 first
  | exact wpAny_bind (m := Builtin.Tuple.tupleExact _) (wpAny_newObj_type (wpAny_pure ⟨_, rfl, wpAny_pure h⟩) htake)
  | exact wpAny_bind (m := Builtin.Tuple.tupleExact _) (wpAny_newObj_type (wpAny_bind (wpAny_pure (wpAny_pure ⟨_, rfl, wpAny_pure h⟩))) htake)
  | exact wpAny_bind (wpAny_bind (m := Builtin.Tuple.tupleExact _) (wpAny_newObj_type (wpAny_pure (wpAny_pure ⟨_, rfl, wpAny_pure h⟩)) htake))
  | exact wpAny_bind (wpAny_bind (m := Builtin.Tuple.tupleExact _) (wpAny_newObj_type (wpAny_pure ⟨_, rfl, wpAny_pure h⟩) htake))
end
end HT
namespace L2
open PySem PySem.Spec PyProof.Rows
abbrev TO := St → Hp → (Option Int → Hp → Prop) → Prop
def PO (X : Cx) (e : Option Expr) (t : TO) : Prop :=
 ∀ (pins : List (Addr × Obj)) (s : Shared) (σ : St) (H : Hp) (Q : Option Int → Hp → Prop), Inv X pins σ H s → t σ H Q →
  wpAny (model X.prog X.w) X.A (evalPart e X.env) (fun u s' => ∃ o H', Inv X pins σ H' s' ∧ IsPart u o ∧ Q o H') X.xe s
def Xq : TO := fun _ H Q => Q none H
def xr (t : TE) : TO := fun σ H Q => t σ H fun x H1 => ∃ i, x = .int i ∧ Q (some i) H1
section
variable {X : Cx} {e : Expr} {te : TE} {lo hi : Option Expr} {tl th : TO} {pos p2 : Pos}
theorem Px : PO X none Xq := by
 intro pins s σ H Q I h
 rw [evalPart_none]
 exact wpAny_pure ⟨none, H, I, .none, h⟩
theorem jy (h : PE X e te) : PO X (some e) (xr te) := by
 intro pins s σ H Q I hw
 rw [evalPart_some]
 refine thn (h pins s σ H _ I hw) fun u s1 ⟨x, H1, I1, r1, q1⟩ => ?_
 obtain ⟨i, rfl, q⟩ := q1
 obtain ⟨t, rfl⟩ := r1
 exact ⟨some i, H1, I1, .int i t, q⟩
def SlR (X : Cx) (r : V → Option Int → Option Int → Hp → VK → Prop) : Prop :=
 ∀ (pins : List (Addr × Obj)) (s : Shared) (σ : St) (H : Hp) (x : V) (v vl vu : Value) (lo hi : Option Int) (sl : Addr) (Q : VK), Inv X pins σ H s → RelV x v → s.heap.IsSliceOf sl vl vu .none → IsPart vl lo → IsPart vu hi → r x lo hi H Q →
  ∃ T id, typeLookup (.type T) "__getitem__" = pure (some (.builtin id)) ∧ s.TypeIs v T ∧ wpAny (model X.prog X.w) X.A (getItem v (.ref sl)) (EP X pins σ Q) X.xe s
theorem SlR.or {r r' : V → Option Int → Option Int → Hp → VK → Prop} (h : SlR X r) (h' : SlR X r') : SlR X (fun x lo hi H Q => r x lo hi H Q ∨ r' x lo hi H Q) := by
 intro pins s σ H x v vl vu lo hi sl Q I rx hs pl pu q
 rcases q with q | q
 · exact h pins s σ H x v vl vu lo hi sl Q I rx hs pl pu q
 · exact h' pins s σ H x v vl vu lo hi sl Q I rx hs pl pu q
def tSl (r : V → Option Int → Option Int → Hp → VK → Prop) (te : TE) (tl th : TO) : TE := fun σ H Q => te σ H fun x H1 => tl σ H1 fun l H2 => th σ H2 fun u H3 => r x l u H3 Q
theorem mf {r : V → Option Int → Option Int → Hp → VK → Prop} (hr : SlR X r) (he : PE X e te) (hl : PO X lo tl) (hu : PO X hi th) : PE X (.Subscript e (.Slice lo hi none p2) pos) (tSl r te tl th) := by
 intro pins s σ H Q I h
 refine Subscript_ (thn (he pins s σ H _ I h) fun v s1 ⟨x, H1, I1, r1, q1⟩ => ?_)
 refine wpAny_Slice (thn (hl pins s1 σ H1 _ I1 q1) fun vl s2 ⟨l, H2, I2, pl, q2⟩ => thn (hu pins s2 σ H2 _ I2 q2) fun vu s3 ⟨u, H3, I3, pu, q3⟩ => ?_)
 rw [evalPart_none]
 refine wpAny_pure ?_
 have I4 : Inv X pins σ H3 { s3 with heap := s3.heap.push { cls := .type "slice", data := .fields #[vl, vu, .none] } } := I3.kept (t' := s3.toks) fun b ob q => Heap.get?_push_of_some _ q
 obtain ⟨T, id, hT, ht, hg⟩ := hr pins { s3 with heap := s3.heap.push { cls := .type "slice", data := .fields #[vl, vu, .none] } } σ H3 x v vl vu l u s3.heap.objs.size Q I4 r1 (Heap.IsSliceOf.new ..) pl pu q3
 show wpAny (model X.prog X.w) X.A (subscriptTail e (.Slice lo hi none p2) v (.ref s3.heap.objs.size)) (EP X pins σ Q) X.xe { s3 with heap := s3.heap.push { cls := .type "slice", data := .fields #[vl, vu, .none] } }
 exact tail_any (ops := [.ref s3.heap.objs.size, v]) ht hT hg (by with_unfolding_all rfl)
def Dv (xs : List V) (lo hi : Option Int) : List V := (xs.drop (HT.sIx xs.length 0 lo)).take (HT.sIx xs.length xs.length hi - HT.sIx xs.length 0 lo)
theorem Py (xs : List V) (lo hi : Option Int) : (Dv xs lo hi).length ≤ xs.length := by
 unfold Dv
 rw [List.length_take, List.length_drop]
 omega
def Pz (K : PySem.W.Frag) : V → Option Int → Option Int → Hp → VK → Prop := fun x lo hi H Q => ∃ a xs, x = .ref a ∧ SqT K H a xs ∧
 ¬ (HT.sIx xs.length 0 lo = 0 ∧ HT.sIx xs.length xs.length hi = xs.length) ∧ ∀ p, H p = none → Q (.ref p) (upd H p (.tup (Dv xs lo hi)))
theorem Xr : SlR X (Pz X.K) := by
 intro pins s σ H x v vl vu lo hi sl Q I rx hs pl pu h
 obtain ⟨a, xs, rfl, hx, hw, q⟩ := h
 cases rx
 obtain ⟨its, r, ht, hz⟩ := I.tuple hx
 have hlen : its.toArray.size = xs.length := by rw [List.size_toArray]; exact r.length.symm
 refine ⟨"tuple", _, PyProof.Rows.slot_tuple_getitem.lookup, ht.typeIs, ?_⟩
 refine HT.xq ht hs pl pu (by rw [hlen]; exact hw) ?_ (by rw [hlen]; exact hz)
 rw [hlen]
 refine ⟨.ref s.heap.objs.size, _, I.laid (t' := s.toks) (o := .tup (Dv xs lo hi)) (fun b ob q => Heap.get?_push_of_some _ q) (Nat.le_refl _) ?_, rfl, q _ (I.hok.fresh (Nat.le_refl _))⟩
 exact ⟨Nat.le_trans (Py xs lo hi) hz, _, (r.drop (HT.sIx xs.length 0 lo)).take (HT.sIx xs.length xs.length hi - HT.sIx xs.length 0 lo), IsTup.new _ _⟩
end
def ixN (n : Nat) (i : Int) : Option Nat := if 0 ≤ i then (if i < n then some i.toNat else none) else if -(n : Int) ≤ i then some (i + n).toNat else none
def atI {α : Type} (xs : List α) (i : Int) : Option α := (ixN xs.length i).bind fun j => xs[j]?
theorem qa {n : Nat} {i : Int} {j : Nat} (h : ixN n i = some j) : seqIndex? i n = some j ∧ j < n ∧ -(n : Int) ≤ i ∧ i < n := by
 unfold ixN at h
 by_cases h0 : 0 ≤ i
 · rw [if_pos h0] at h
   by_cases h1 : i < n
   · rw [if_pos h1] at h
     have e : i.toNat = j := Option.some.inj h
     exact ⟨by rw [seqIndex_of h0 h1, e], by omega, by omega, h1⟩
   · rw [if_neg h1] at h; cases h
 · rw [if_neg h0] at h
   by_cases h1 : -(n : Int) ≤ i
   · rw [if_pos h1] at h
     have e : (i + n).toNat = j := Option.some.inj h
     exact ⟨by rw [seqIndex_neg (by omega) h1, e], by omega, h1, by omega⟩
   · rw [if_neg h1] at h; cases h
theorem Mf {α : Type} {xs : List α} {i : Int} {v : α} (h : atI xs i = some v) : ∃ j, seqIndex? i xs.length = some j ∧ xs[j]? = some v ∧ j < xs.length ∧ -(xs.length : Int) ≤ i ∧ i < xs.length := by
 unfold atI at h
 cases e : ixN xs.length i with
 | none => rw [e] at h; cases h
 | some j =>
  rw [e] at h
  obtain ⟨h1, h2, h3, h4⟩ := qa e
  exact ⟨j, h1, h, h2, h3, h4⟩
theorem Jy {α : Type} {xs : List α} {j : Nat} {v : α} (h : xs[j]? = some v) : atI xs (j : Int) = some v := by
 have hj : j < xs.length := (List.getElem?_eq_some_iff.mp h).1
 have e : ixN xs.length (j : Int) = some j := by
  unfold ixN
  rw [if_pos (by omega), if_pos (by omega)]; simp
 unfold atI; rw [e]; exact h
def Qa (b : Expr) : Prop := ∀ o i, subscripted b false o i = operate [o, i] (getItem o i)
def IxR (X : Cx) (r : R2) : Prop :=
 ∀ (value slice : Expr) (pins : List (Addr × Obj)) (s : Shared) (σ : St) (H : Hp) (x y : V) (v u : Value) (Q : VK), Inv X pins σ H s → RelV x v → RelV y u → r x y H Q →
  subscripted slice false v u = operate [v, u] (getItem v u) → wpAny (model X.prog X.w) X.A (subscriptTail value slice v u) (EP X pins σ Q) X.xe s
def MtR (X : Cx) (id : String) (r : V → List V → Hp → VK → Prop) : Prop :=
 ∀ (pins : List (Addr × Obj)) (s : Shared) (σ : St) (H : Hp) (x : V) (xs : List V) (v : Value) (us : List Value) (Q : VK), Inv X pins σ H s → RelV x v → Vals xs us → r x xs H Q →
  wpAny (model X.prog X.w) X.A (call (.builtin id) (v :: us)) (EP X pins σ Q) X.xe s
section
variable {X : Cx} {a b : Expr} {ta tb : TE} {pos : Pos}
theorem IxR.or {r r' : R2} (h : IxR X r) (h' : IxR X r') : IxR X (fun x y H Q => r x y H Q ∨ r' x y H Q) := by
 intro value slice pins s σ H x y v u Q I rx ry q hs
 rcases q with q | q
 · exact h value slice pins s σ H x y v u Q I rx ry q hs
 · exact h' value slice pins s σ H x y v u Q I rx ry q hs
theorem Xs {r : R2} (hr : IxR X r) (ha : PE X a ta) (hb : PE X b tb) (hs : Qa b) : PE X (.Subscript a b pos) (tOp r ta tb) := by
 intro pins s σ H Q I h
 exact Subscript_ (Mb ha hb I h fun v u s2 x y H2 I2 rx ry q => hr a b pins s2 σ H2 x y v u Q I2 rx ry q (hs _ _))
def qb (K : PySem.W.Frag) : R2 := fun x y H Q => ∃ p xs i v, x = .ref p ∧ y = .int i ∧ SqL K H p xs ∧ atI xs i = some v ∧ Q v H
def Qb (K : PySem.W.Frag) : R2 := fun x y H Q => ∃ p xs i v, x = .ref p ∧ y = .int i ∧ SqT K H p xs ∧ atI xs i = some v ∧ Q v H
def qc : R2 := fun x y H Q => ∃ z i c, x = .str z ∧ y = .int i ∧ z.length ≤ sizeLine ∧ atI z.cps.toList i = some c ∧ Q (.str ⟨#[c]⟩) H
theorem Xt : IxR X (qb X.K) := by
 intro value slice pins s σ H x y v u Q I rx ry h hs
 obtain ⟨p, xs, i, z, rfl, rfl, hq, he, q⟩ := h
 cases rx
 obtain ⟨t, rfl⟩ := ry
 obtain ⟨its, r, pl, hz⟩ := I.list hq
 obtain ⟨j, h1, h2, h3, h4, h5⟩ := Mf he
 obtain ⟨w, ew, rw'⟩ := r.get h2
 have hl := r.length
 have hn := gk
 have fin : EP X pins σ Q w s := ⟨z, H, I, rw', q⟩
 by_cases h0 : 0 ≤ i
 · have hj : i.toNat = j := by
    rw [seqIndex_of h0 h5] at h1
    exact Option.some.inj h1
   exact item_listR pl.isList h0 (by omega) (by rw [hj]; simpa using ew) fin hs
 · have hj : (i + (its.toArray.size : Int)).toNat = j := by
    rw [seqIndex_neg (by omega) h4] at h1
    rw [List.size_toArray, ← hl]
    exact Option.some.inj h1
   exact subscriptTail_builtinR (x := w) pl.isList.typeIs slot_list_getitem.lookup
    (wpAny_getItem_list_neg (Q := fun r s' => r = w ∧ EP X pins σ Q r s') pl.isList (by omega) (by rw [List.size_toArray] <;> omega) (by omega) (by rw [hj]; simpa using ew) ⟨rfl, fin⟩) hs
theorem xu : IxR X (Qb X.K) := by
 intro value slice pins s σ H x y v u Q I rx ry h hs
 obtain ⟨p, xs, i, z, rfl, rfl, hq, he, q⟩ := h
 cases rx
 obtain ⟨t, rfl⟩ := ry
 obtain ⟨its, r, pl, hz⟩ := I.tuple hq
 obtain ⟨j, h1, h2, h3, h4, h5⟩ := Mf he
 obtain ⟨w, ew, rw'⟩ := r.get h2
 have hl := r.length
 have hn := gk
 have fin : EP X pins σ Q w s := ⟨z, H, I, rw', q⟩
 exact subscriptTail_builtinR (x := w) pl.typeIs slot_tuple_getitem.lookup
  (getItem_tuple (j := j) (Q := fun r s' => r = w ∧ EP X pins σ Q r s') pl (by omega) (by omega) (by rw [List.size_toArray, ← hl]; exact h1) (by simpa using ew) ⟨rfl, fin⟩) hs
theorem Xu : IxR X qc := by
 intro value slice pins s σ H x y v u Q I rx ry h hs
 obtain ⟨z, i, c, rfl, rfl, hz, he, q⟩ := h
 obtain ⟨t, rfl⟩ := rx
 obtain ⟨t', rfl⟩ := ry
 obtain ⟨j, h1, h2, h3, h4, h5⟩ := Mf he
 have hl : z.cps.toList.length = z.length := by simp [Str.length]
 rw [hl] at h1 h4 h5
 have hn := gk
 exact tail_any (typeIs_str s z t) slot_str_getitem.lookup (getItem_str (c := c) (by
  have e1 : decide (i < -(2 ^ 63 : Int)) = false := decide_eq_false (by omega)
  have e2 : decide (i ≥ 2 ^ 63) = false := decide_eq_false (by omega)
  rw [e1, e2, Bool.or_false]) (by rw [h1]; simpa using h2) ⟨.str ⟨#[c]⟩, H, I.tok _, ⟨_, rfl⟩, q⟩) hs
def rIx (K : PySem.W.Frag) : R2 := fun x y H Q => qb K x y H Q ∨ Qb K x y H Q ∨ qc x y H Q
theorem xv : IxR X (rIx X.K) := Xt.or (xu.or Xu)
theorem Xv (its : List Value) (n j : Nat) (u : Value) : Obj.mapSeq (·.setIfInBounds j u) { cls := .type "list", data := .seq its.toArray n } = { cls := .type "list", data := .seq (its.set j u).toArray n } := by
 simp [Obj.mapSeq]
theorem Inv.lst {pins : List (Addr × Obj)} {σ : St} {H : Hp} {s : Shared} {p : Addr} {xs : List V} (I : Inv X pins σ H s) (h : H p = some (.lst xs)) :
 ∃ (its : List Value) (n : Nat), Vals xs its ∧ s.heap.get? p = some { cls := .type "list", data := .seq its.toArray n } ∧ xs.length ≤ sizeLine := by
 obtain ⟨z, its, n, r, e⟩ := I.hok p _ h
 exact ⟨its, n, r, e, z⟩
theorem Inv.lstUpd {pins : List (Addr × Obj)} {σ : St} {H : Hp} {s : Shared} {p : Addr} {xs ys : List V} {its its' : List Value} {n n' : Nat} {f : Obj → Obj} (I : Inv X pins σ H s) (h : H p = some (.lst xs))
 (ho : s.heap.get? p = some { cls := .type "list", data := .seq its.toArray n }) (hf : f { cls := .type "list", data := .seq its.toArray n } = { cls := .type "list", data := .seq its'.toArray n' }) (r : Vals ys its') (hz : ys.length ≤ sizeLine) (t : Nat) :
 Inv X pins σ (upd H p (.lst ys)) { s with heap := s.heap.update p f, toks := t } := by
 have e : (s.heap.update p f).get? p = some { cls := .type "list", data := .seq its'.toArray n' } := by
  rw [Heap.get?_update_self f ho (by rw [hf] <;> rfl), hf]
 refine I.write (x := p) (e := p) (by rw [h]; trivial) (.inl rfl) (fun b u hb q => (Heap.get?_update_other _ _ (Ne.symm hb)).trans q) ⟨_, e⟩ ?_
 exact ⟨hz, its', n', r, e⟩
def xw : V → V → V → Hp → (Hp → Prop) → Prop := fun o i v H Q => ∃ p xs k j, o = .ref p ∧ i = .int k ∧ H p = some (.lst xs) ∧ ixN xs.length k = some j ∧ Q (upd H p (.lst (xs.set j v)))
theorem set_list : Wk X xw := by
 intro pins s σ H o i v ov iv u Q I ro ri rv h
 obtain ⟨p, xs, k, j, rfl, rfl, hp, hj, q⟩ := h
 cases ro
 obtain ⟨t, rfl⟩ := ri
 obtain ⟨its, n, r, ho, hz⟩ := I.lst hp
 obtain ⟨h1, h2, h3, h4⟩ := qa hj
 have hl := r.length
 have hn := gk
 have I' : Inv X pins σ (upd H p (.lst (xs.set j v))) { s with heap := s.heap.update p (Obj.mapSeq (·.setIfInBounds j u)) } :=
  I.lstUpd hp ho (Xv its n j u) (r.set rv j) (by rw [List.length_set]; exact hz) s.toks
 by_cases h0 : 0 ≤ k
 · have hk : k.toNat = j := by
    rw [seqIndex_of h0 h4] at h1
    exact Option.some.inj h1
   exact PySem.W.ki_setAt ho h0 (by omega) (by rw [List.size_toArray, ← hl]; exact h4) (by rw [hk]; exact ⟨_, I', q⟩)
 · have hk : (k + (its.toArray.size : Int)).toNat = j := by
    rw [seqIndex_neg (by omega) h3] at h1
    rw [List.size_toArray, ← hl]
    exact Option.some.inj h1
   exact PySem.W.ki_setBack ho (by omega) (by rw [List.size_toArray, ← hl]; exact h3) (by omega) (by rw [hk]; exact ⟨_, I', q⟩)
theorem Xw : Dc X (.builtin "len") (fun xs H Q => ∃ p ys, xs = [.ref p] ∧ (SqL X.K H p ys ∨ SqT X.K H p ys) ∧ Q (.int ys.length) H) := by
 intro pins s σ H xs us Q I r h
 obtain ⟨p, ys, rfl, hq, q⟩ := h
 obtain ⟨u, rfl, rx⟩ := vals1 r
 cases rx
 have hn := gk
 rcases hq with hq | hq
 · obtain ⟨its, r', pl, hz⟩ := I.list hq
   have hlen := r'.length
   exact Calls.call_len_list pl.isList (by simp only [List.size_toArray] <;> omega) ⟨.int ys.length, H, I.tok _, ⟨s.toks + 1, by rw [List.size_toArray, hlen]⟩, q⟩
 · obtain ⟨its, r', pl, hz⟩ := I.tuple hq
   have hlen := r'.length
   exact len_tuple pl (by simp only [List.size_toArray] <;> omega) ⟨.int ys.length, H, I.tok _, ⟨s.toks + 1, by rw [List.size_toArray, hlen]⟩, q⟩
theorem xx : Dc X (.builtin "len") (fun xs H Q => ∃ z, xs = [.str z] ∧ z.length ≤ sizeLine ∧ Q (.int z.length) H) := by
 intro pins s σ H xs us Q I r h
 obtain ⟨z, rfl, hz, q⟩ := h
 obtain ⟨u, rfl, t, rfl⟩ := vals1 r
 have hn := gk
 exact len_str (by omega) ⟨.int z.length, H, I.tok _, ⟨_, rfl⟩, q⟩
theorem Dc.or {f : Value} {r r' : List V → Hp → VK → Prop} (h : Dc X f r) (h' : Dc X f r') : Dc X f (fun xs H Q => r xs H Q ∨ r' xs H Q) := by
 intro pins s σ H xs us Q I rs q
 rcases q with q | q
 · exact h pins s σ H xs us Q I rs q
 · exact h' pins s σ H xs us Q I rs q
theorem Xx : Dc X (.type "list") (fun xs H Q => ∃ p ys, xs = [.ref p] ∧ (SqL X.K H p ys ∨ SqT X.K H p ys) ∧ ∀ l, H l = none → Q (.ref l) (upd H l (.lst ys))) := by
 intro pins s σ H xs us Q I r h
 obtain ⟨p, ys, rfl, hq, q⟩ := h
 obtain ⟨u, rfl, rx⟩ := vals1 r
 cases rx
 have fin : ∀ (its : List Value), Vals ys its → ys.length ≤ sizeLine → ∀ (h' : Heap) (c' : Nat), (∀ b o', s.heap.get? b = some o' → h'.get? b = some o') →
  h'.get? s.heap.objs.size = some { cls := .type "list", dict := none, data := .seq its.toArray c', slots := #[] } → EP X pins σ Q (.ref s.heap.objs.size) { s with heap := h' } := fun its r' hz h' c' kp e =>
  ⟨.ref s.heap.objs.size, _, I.laid (t' := s.toks) kp (Nat.le_refl _) (show Bs X.prog X.w _ h' _ (.lst ys) from ⟨hz, its, c', r', e⟩), rfl, q _ (I.hok.fresh (Nat.le_refl _))⟩
 rcases hq with hq | hq
 · obtain ⟨its, r', pl, hz⟩ := I.list hq
   have hlen := r'.length
   obtain ⟨o, ho, hc, n, hd⟩ := pl.isList
   exact call_list_seq p (.inl rfl) ho hc hd (fun h' c' kp e => fin its r' hz h' c' kp e) (by simp only [List.size_toArray] <;> omega)
 · obtain ⟨its, r', pl, hz⟩ := I.tuple hq
   have hlen := r'.length
   obtain ⟨o, ho, hc, n, hd⟩ := pl
   exact call_list_seq p (.inr rfl) ho hc hd (fun h' c' kp e => fin its r' hz h' c' kp e) (by simp only [List.size_toArray] <;> omega)
def tyV (K : PySem.W.Frag) (T : String) (x : V) (H : Hp) : Prop := match x with
 | .str _ => T = "str"
 | .int _ => T = "int"
 | .ref p => (T = "list" ∧ ∃ xs, SqL K H p xs) ∨ (T = "tuple" ∧ ∃ o, K.lookup p = some o ∧ o.cls = .type "tuple" ∧ o.dict = none) ∨
  (T = "dict" ∧ ((∃ kvs, H p = some (.dK kvs)) ∨ ∃ kvs, H p = some (.dT kvs))) ∨ (T = "set" ∧ ∃ S n, H p = some (.set S n))
 | _ => False
theorem Qc {pins : List (Addr × Obj)} {σ : St} {H : Hp} {s : Shared} {T : String} {x : V} {v : Value} (I : Inv X pins σ H s) (r : RelV x v) (ty : tyV X.K T x H) :
 s.TypeIs v T ∧ ∀ a, v = .ref a → ∃ ob, s.heap.get? a = some ob ∧ ob.dict = none := by
 cases x with
 | str z =>
  obtain ⟨t, rfl⟩ := r
  cases (show T = "str" from ty)
  exact ⟨typeIs_str s z t, fun _ e => nomatch e⟩
 | int i =>
  obtain ⟨t, rfl⟩ := r
  cases (show T = "int" from ty)
  exact ⟨typeIs_int s i t, fun _ e => nomatch e⟩
 | ref p =>
  cases r
  rcases ty with ⟨rfl, xs, hq⟩ | ⟨rfl, o, hk, hc, hd⟩ | ⟨rfl, hk⟩ | ⟨rfl, S, n, hk⟩
  · obtain ⟨its, _, pl, _⟩ := I.list hq
    refine ⟨pl.isList.typeIs, fun a e => ?_⟩
    cases e
    obtain ⟨o, n, e, c, hd, _⟩ := pl
    exact ⟨o, e, hd⟩
  · refine ⟨⟨o, I.kIn p o hk, hc⟩, fun a e => ?_⟩
    cases e
    exact ⟨o, I.kIn _ o hk, hd⟩
  · have z : ∃ o, s.heap.get? p = some o ∧ o.ExactDict := by
     rcases hk with ⟨kvs, hk⟩ | ⟨kvs, hk⟩
     · obtain ⟨_, _, _, _, o, _, _, e, ex, _⟩ := I.hok p _ hk
       exact ⟨o, e, ex⟩
     · obtain ⟨_, _, _, _, o, _, _, e, ex, _⟩ := I.hok p _ hk
       exact ⟨o, e, ex⟩
    obtain ⟨o, e, ex⟩ := z
    refine ⟨⟨o, e, ex.1⟩, fun a e2 => ?_⟩
    cases e2
    exact ⟨o, e, ex.2.1⟩
  · obtain ⟨o, _, _, _, e, ex, _⟩ := I.hok p _ hk
    refine ⟨⟨o, e, ex.1⟩, fun a e2 => ?_⟩
    cases e2
    exact ⟨o, e, ex.2.1⟩
 | _ => exact False.elim ty
def xy (K : PySem.W.Frag) (T : String) (r : V → List V → Hp → VK → Prop) (to : TE) : TE := fun σ H Q => to σ H fun x H1 => tyV K T x H1 ∧ r x [] H1 Q
def tBM (K : PySem.W.Frag) (T : String) (r : V → List V → Hp → VK → Prop) (to : TE) (t : TA) : TE := fun σ H Q => to σ H fun x H1 => tyV K T x H1 ∧ t σ H1 fun xs H2 => r x xs H2 Q
variable {o e : Expr} {es : List Expr} {to : TE} {t : TA} {name : Str} {apos cpos : Pos} {T id : String} {r : V → List V → Hp → VK → Prop}
theorem Xy (pa : PlainAttrs T) (slot : Slot T name id) (hty : typeOf (.builtin id) = pure (.type "method_descriptor")) (hm : MtR X id r) (ho : PE X o to)
 (hbase : attributeBase o name X.env (eval o X.env) = eval o X.env := by rfl) (hline : (apos.endLine == cpos.line) = true := by rfl) : PE X (.Call (.Attribute o name apos) [] [] cpos) (xy X.K T r to) := by
 intro pins s σ H Q I h
 refine wpAny_Call_method0_late hbase hline (thn (ho pins s σ H _ I h) fun v s1 ⟨x, H1, I1, r1, ty, q1⟩ => ?_)
 obtain ⟨h1, h2⟩ := Qc I1 r1 ty
 exact ⟨T, id, pa, slot, hty, h1, h2, Calls.callWith_builtin rfl (PySem.evalArgs_none (hm pins s1 σ H1 x [] v [] Q I1 r1 .nil q1))⟩
theorem Xz (pa : PlainAttrs T) (slot : Slot T name id) (hty : typeOf (.builtin id) = pure (.type "method_descriptor")) (hm : MtR X id r) (ho : PE X o to) (ha : PA X (e :: es) t)
 (hbase : attributeBase o name X.env (eval o X.env) = eval o X.env := by rfl)
 (hfew : ((backTo cpos (starEach (e :: es) X.env)).all (fun x => !x.1) && (backToKw cpos (keywordEach [] X.env)).all (fun x => x.1.isSome)
  && decide ((e :: es).length + ([] : List Keyword).length + (if ([] : List Keyword).isEmpty then 0 else 1) < 30)) = true := by rfl)
 (hline : (apos.endLine == cpos.line) = true := by rfl) (hs : starEach (e :: es) X.env = (false, eval e X.env) :: starEach es X.env := by rfl) (hplain : (backTo cpos (starEach es X.env)).any (·.1) = false := by rfl) :
 PE X (.Call (.Attribute o name apos) (e :: es) [] cpos) (tBM X.K T r to t) := by
 intro pins s σ H Q I h
 refine wpAny_Call_method_late hbase hfew hline rfl (thn (ho pins s σ H _ I h) fun v s1 ⟨x, H1, I1, r1, ty, q1⟩ => ?_)
 obtain ⟨h1, h2⟩ := Qc I1 r1 ty
 refine ⟨T, id, pa, slot, hty, h1, h2, ?_⟩
 have hA := ha cpos pins s1 σ H1 _ I1 q1
 rw [hs] at hA ⊢
 refine Calls.callWith_builtin (by show (false || (backTo cpos (starEach es X.env)).any (·.1)) = false; rw [hplain] <;> rfl) (Calls.evalArgs_plain ?_)
 exact thn hA fun us s2 ⟨vs, H2, I2, r2, q2⟩ => hm pins s2 σ H2 x vs v us Q I2 r1 r2 q2
end
def MtM (X : Cx) (id : String) (r : V → List V → Hp → VK → Prop) : Prop :=
 ∀ (pins : List (Addr × Obj)) (s : Shared) (σ : St) (H : Hp) (x : V) (xs : List V) (v : Value) (us : List Value) (Q : VK), Inv X pins σ H s → RelV x v → Vals xs us → r x xs H Q →
  wpAny (model X.prog X.w) X.A (call (.builtin id) (v :: us)) (EP X pins σ Q) X.xe s
theorem Vals.one : ∀ {x : V} {us : List Value}, Vals [x] us → ∃ u, us = [u] ∧ RelV x u
 | _, _, .cons r .nil => ⟨_, rfl, r⟩
theorem Vals.zero : ∀ {us : List Value}, Vals [] us → us = []
 | _, .nil => rfl
theorem Vals.dropLast {xs : List V} {us : List Value} (h : Vals xs us) : Vals xs.dropLast us.dropLast := by
 induction h with
 | nil => exact .nil
 | cons r t ih =>
  cases t with
  | nil => exact .nil
  | cons q t' => exact .cons r ih
theorem Vals.rep {xs : List V} {us : List Value} (h : Vals xs us) : ∀ k : Nat, Vals (List.replicate k xs).flatten (List.replicate k us).flatten
 | 0 => .nil
 | k + 1 => by
  rw [List.replicate_succ, List.replicate_succ, List.flatten_cons, List.flatten_cons]
  exact Vals.append h (Vals.rep h k)
theorem Ya {α : Type} (l : List α) : l.eraseIdx (l.length - 1) = l.dropLast := by
 induction l with
 | nil => rfl
 | cons a r ih =>
  cases r with
  | nil => rfl
  | cons b r =>
   have e : (a :: b :: r).length - 1 = ((b :: r).length - 1) + 1 := by
    have h1 : (a :: b :: r).length = r.length + 2 := rfl
    have h2 : (b :: r).length = r.length + 1 := rfl
    omega
   rw [e, List.eraseIdx_cons_succ, ih]
   all_goals rfl
theorem foldl_rep (its : List Value) : ∀ (k : Nat) (acc : List Value),
 List.foldl (fun x1 x2 => x1 ++ x2) acc.toArray (List.replicate k its.toArray) = (acc ++ (List.replicate k its).flatten).toArray
 | 0, acc => by simp
 | k + 1, acc => by
  have e : acc.toArray ++ its.toArray = (acc ++ its).toArray := by simp
  have e2 : (acc ++ its) ++ (List.replicate k its).flatten = acc ++ (List.replicate (k + 1) its).flatten := by
   rw [List.replicate_succ, List.flatten_cons, List.append_assoc]
  rw [← e2, ← foldl_rep its k (acc ++ its), ← e, List.replicate_succ, List.foldl_cons]
section
variable {X : Cx} {pins : List (Addr × Obj)} {σ : St} {H : Hp} {s : Shared} {l b : Addr} {xs ys zs : List V}
theorem Inv.lset {its its' : List Value} {n : Nat} {f : Array Value → Array Value} {t' : Nat} (I : Inv X pins σ H s) (hH : H l = some (.lst xs))
 (e : s.heap.get? l = some { cls := .type "list", data := .seq its.toArray n }) (hf : f its.toArray = its'.toArray) (hv : Vals ys its') (hz : ys.length ≤ sizeLine) :
 Inv X pins σ (upd H l (.lst ys)) { s with heap := s.heap.update l (Obj.mapSeq f), toks := t' } := by
 have q := PySem.IsL.update e f
 rw [hf] at q
 refine I.write (x := l) (e := l) (by rw [hH]; exact trivial) (.inl rfl) (fun b' u hb hu => (Heap.get?_update_other s.heap (Obj.mapSeq f) (Ne.symm hb)).trans hu) ⟨_, q⟩ ?_
 exact ⟨hz, its', _, hv, q⟩
theorem Inv.lnew {its : List Value} {t' : Nat} (I : Inv X pins σ H s) (hv : Vals ys its) (hz : ys.length ≤ sizeLine) :
 Inv X pins σ (upd H s.heap.objs.size (.lst ys)) { s with heap := s.heap.push { cls := .type "list", data := .seq its.toArray }, toks := t' } :=
 I.laid (fun _ _ q => Heap.get?_push_of_some _ q) (Nat.le_refl _) ⟨hz, its, 0, hv, Heap.get?_push_size _ rfl⟩
theorem Inv.fresh (I : Inv X pins σ H s) : H s.heap.objs.size = none := I.hok.fresh (Nat.le_refl _)
theorem Inv.lstM (I : Inv X pins σ H s) (hH : H l = some (.lst xs)) : xs.length ≤ sizeLine ∧ ∃ (its : List Value) (n : Nat), Vals xs its ∧ xs.length = its.length ∧ s.heap.get? l = some { cls := .type "list", data := .seq its.toArray n } := by
 obtain ⟨z, its, n, r, e⟩ := I.hok l _ hH
 exact ⟨z, its, n, r, r.length, e⟩
theorem Yb {n : Nat} (h : n ≤ sizeLine) : Builtin.List.listTooLong n = false := by
 unfold Builtin.List.listTooLong
 exact decide_eq_false (by omega)
end
section
variable {X : Cx}
def yc : V → List V → Hp → VK → Prop := fun x vs H Q => ∃ l xs y, x = .ref l ∧ vs = [y] ∧ H l = some (.lst xs) ∧ xs.length < sizeLine ∧ Q .non (upd H l (.lst (xs ++ [y])))
theorem qd : MtM X "list.append" yc := by
 intro pins s σ H x vs v us Q I rx rv h
 obtain ⟨l, xs, y, rfl, rfl, hH, hz, q⟩ := h
 cases rx
 obtain ⟨u, rfl, ru⟩ := rv.one
 obtain ⟨z, its, n, r, hl, e⟩ := I.lstM hH
 refine call_meets F.slot_list_append ⟨_, e, rfl⟩ F.entry_list_append (F.args_list_append_2 _ _) (PySem.list_append l its.toArray n u (by rw [List.size_toArray]; omega)) ⟨e, ?_⟩
 refine ⟨.non, _, I.lset (its' := its ++ [u]) hH e (by simp) (r.append (.cons ru .nil)) ?_, rfl, q⟩
 rw [List.length_append, List.length_singleton]
 omega
def Yc : V → List V → Hp → VK → Prop := fun x vs H Q => ∃ l xs y, x = .ref l ∧ vs = [] ∧ H l = some (.lst xs) ∧ xs[xs.length - 1]? = some y ∧ Q y (upd H l (.lst xs.dropLast))
theorem yd : MtM X "list.pop" Yc := by
 intro pins s σ H x vs v us Q I rx rv h
 obtain ⟨l, xs, y, rfl, rfl, hH, hy, q⟩ := h
 cases rx
 have hus := rv.zero
 subst hus
 obtain ⟨z, its, n, r, hl, e⟩ := I.lstM hH
 obtain ⟨u, hu, ru⟩ := r.get hy
 have hy' : its.toArray[its.toArray.size - 1]? = some u := by
  show its.toArray[its.length - 1]? = some u
  rw [← Array.getElem?_toList, ← hl]
  exact hu
 refine call_meets F.slot_list_pop ⟨_, e, rfl⟩ F.entry_list_pop (F.args_list_pop_1 _) (MeetsSeq.list_pop_last l its.toArray n u hy' (by rw [List.size_toArray]; omega)) ⟨e, ?_⟩
 refine ⟨y, _, I.lset (its' := its.dropLast) hH e ?_ r.dropLast ?_, ru, q⟩
 · show its.toArray.eraseIdxIfInBounds (its.toArray.size - 1) = its.dropLast.toArray
   rw [List.size_toArray, List.eraseIdxIfInBounds_toArray, Ya]
 · rw [List.length_dropLast]
   omega
def Yd : R2 := fun x y H Q => ∃ l b xs zs, x = .ref l ∧ y = .ref b ∧ H l = some (.lst xs) ∧ H b = some (.lst zs) ∧ xs.length + zs.length ≤ sizeLine ∧ ∀ p, H p = none → Q (.ref p) (upd H p (.lst (xs ++ zs)))
theorem ye : OpR X (binaryOp .Add) Yd := by
 intro pins s σ H x y v u Q I rx ry h
 obtain ⟨l, b, xs, zs, rfl, rfl, hH, hB, hz, q⟩ := h
 cases rx
 cases ry
 obtain ⟨z, its, n, r, hl, e⟩ := I.lstM hH
 obtain ⟨z2, its2, n2, r2, hl2, e2⟩ := I.lstM hB
 refine PySem.P.add_list e e2 ?_ (by rw [List.size_toArray, List.size_toArray]; omega)
 have ea : its.toArray ++ its2.toArray = (its ++ its2).toArray := by simp
 rw [ea]
 exact ⟨.ref _, _, I.lnew (t' := s.toks) (r.append r2) (by rw [List.length_append]; omega), rfl, q _ I.fresh⟩
def Ye : R2 := fun x y H Q => ∃ l k xs, x = .ref l ∧ y = .int k ∧ H l = some (.lst xs) ∧ -(2 ^ 63) ≤ k ∧ k < 2 ^ 63 ∧ xs.length * k.toNat ≤ sizeLine ∧
 ∀ p, H p = none → Q (.ref p) (upd H p (.lst (List.replicate k.toNat xs).flatten))
theorem len_rep {α : Type} (xs : List α) (k : Nat) : (List.replicate k xs).flatten.length = k * xs.length := by
 induction k with
 | zero => simp
 | succ k ih => rw [List.replicate_succ, List.flatten_cons, List.length_append, ih, Nat.succ_mul, Nat.add_comm]
theorem yf : OpR X (binaryOp .Mult) Ye := by
 intro pins s σ H x y v u Q I rx ry h
 obtain ⟨l, k, xs, rfl, rfl, hH, h1, h2, hz, q⟩ := h
 cases rx
 obtain ⟨t, rfl⟩ := ry
 obtain ⟨z, its, n, r, hl, e⟩ := I.lstM hH
 have hlen : its.toArray.size * k.toNat ≤ sizeLine := by rw [List.size_toArray, ← hl]; exact hz
 have hcap : ¬ its.toArray.size * k.toNat > (2 ^ 63 - 1) / 8 := by
  have : (sizeLine : Nat) ≤ (2 ^ 63 - 1) / 8 := by decide
  omega
 have hfit : ¬ (!Builtin.List.listFitsIndex k) = true := by
  rw [fitsIndex_both h1 h2]
  exact Bool.false_ne_true
 have hlong : ¬ Builtin.List.listTooLong (its.toArray.size * k.toNat) = true := by
  rw [Yb hlen]
  exact Bool.false_ne_true
 have hnew : List.foldl (fun x1 x2 => x1 ++ x2) #[] (List.replicate (if its.toArray.isEmpty = true then 0 else k.toNat) its.toArray) = (List.replicate k.toNat its).flatten.toArray := by
  have f0 : ∀ m : Nat, List.foldl (fun x1 x2 => x1 ++ x2) #[] (List.replicate m its.toArray) = (List.replicate m its).flatten.toArray := fun m => by
   have := foldl_rep its m []
   rw [List.nil_append] at this
   exact this
  rw [f0]
  cases its with
  | nil => simp
  | cons a r' => rw [if_neg (by simp)]
 refine wpAny_binaryOp_repeat_ref (T := "list") (U := "int") (by decide) ⟨_, e, rfl⟩ (fun s' => typeIs_int s' k t) noFill_list_mul F.fills_int_mul F.slot_int_rmul repeat_list F.slot_int_index.lookup
  (call_meets F.slot_int_rmul (typeIs_int s k t) F.entry_int_rmul (F.args_int_rmul_2 _ _) (int___rmul___int_list k t l its.toArray n)
   ⟨e, rfl, ⟨_, e, rfl⟩, call_meets F.slot_list_mul ⟨_, e, rfl⟩ F.entry_list_mul (F.args_list_mul_2 _ _) (AutoListH.list___mul___list_int_3 l its.toArray n k t hfit hcap hlong) ⟨e, ?_⟩⟩)
 rw [hnew]
 exact ⟨.ref _, _, I.lnew (t' := s.toks) (r.rep k.toNat) (by rw [len_rep, Nat.mul_comm]; exact hz), rfl, q _ I.fresh⟩
end
section
variable {prog : Program} {w : World} {A : Around} {E : Value → Shared → Prop} {s : Shared}
end
section
variable {X : Cx}
end
section
variable {κ : Type} [DecidableEq κ]
def Dn (kvs : List (κ × V)) (k : κ) : Option V := (kvs.find? fun kv => decide (kv.1 = k)).map (·.2)
def putK (kvs : List (κ × V)) (k : κ) (v : V) : List (κ × V) :=
 if (kvs.any fun kv => decide (kv.1 = k)) = true then kvs.map (fun kv => if kv.1 = k then (kv.1, v) else kv) else kvs ++ [(k, v)]
theorem mh {p : κ × V} {r : List (κ × V)} {k : κ} (e : p.1 = k) : Dn (p :: r) k = some p.2 := by simp [Dn, List.find?_cons, e]
theorem Mh {p : κ × V} {r : List (κ × V)} {k : κ} (e : ¬ p.1 = k) : Dn (p :: r) k = Dn r k := by simp [Dn, List.find?_cons, e]
theorem Qd (k : κ) : ∀ kvs : List (κ × V), (kvs.any fun kv => decide (kv.1 = k)) = (Dn kvs k).isSome
 | [] => rfl
 | p :: r => by
  rw [List.any_cons]
  by_cases e : p.1 = k
  · simp only [mh e, decide_eq_true e, Bool.true_or, Option.isSome_some]
  · rw [Mh e, decide_eq_false e, Bool.false_or]; exact Qd k r
theorem Hg.isSome_eq {o : Option V} {u : Option Value} (r : Hg o u) : o.isSome = u.isSome := by
 cases o with
 | none => cases u with
  | none => rfl
  | some _ => exact (show False from r).elim
 | some _ => cases u with
  | none => exact (show False from r).elim
  | some _ => rfl
theorem KV.val {kvs : List (κ × V)} {vs : List (κ × Value)} (r : KV kvs vs) (k : κ) : Hg (Dn kvs k) (valueAt vs k) := by
 unfold KV at r
 induction r with
 | nil => exact True.intro
 | @cons p q ps qs h t ih =>
  obtain ⟨h1, h2⟩ := h
  by_cases e : p.1 = k
  · have e' : q.1 = k := h1.symm.trans e
    have b : valueAt (q :: qs) k = some q.2 := by simp [valueAt, List.find?_cons, e']
    rw [mh e, b]; exact h2
  · have e' : ¬ q.1 = k := fun z => e (h1.trans z)
    have b : valueAt (q :: qs) k = valueAt qs k := by simp [valueAt, List.find?_cons, e']
    rw [Mh e, b]; exact ih
theorem KV.any {kvs : List (κ × V)} {vs : List (κ × Value)} (r : KV kvs vs) (k : κ) : (kvs.any fun kv => decide (kv.1 = k)) = vs.any fun kv => decide (kv.1 = k) := by
 unfold KV at r
 induction r with
 | nil => rfl
 | cons h t ih => rw [List.any_cons, List.any_cons, ih, h.1]
theorem KV.repl {kvs : List (κ × V)} {vs : List (κ × Value)} (r : KV kvs vs) (k : κ) {y : V} {u : Value} (ry : RelV y u) :
 KV (kvs.map fun kv => if kv.1 = k then (kv.1, y) else kv) (vs.map fun kv => if kv.1 = k then (kv.1, u) else kv) := by
 unfold KV at r ⊢
 induction r with
 | nil => exact .nil
 | @cons p q ps qs h t ih =>
  rw [List.map_cons, List.map_cons]
  refine .cons ?_ ih
  obtain ⟨h1, h2⟩ := h
  by_cases e : p.1 = k
  · rw [if_pos e, if_pos (h1.symm.trans e)]; exact ⟨h1, ry⟩
  · rw [if_neg e, if_neg (fun z => e (h1.trans z))]; exact ⟨h1, h2⟩
theorem KV.put {kvs : List (κ × V)} {vs : List (κ × Value)} (r : KV kvs vs) (k : κ) {y : V} {u : Value} (ry : RelV y u) : KV (putK kvs k y) (stored vs k u) := by
 unfold putK stored
 rw [r.any k]
 by_cases e : (vs.any fun kv => decide (kv.1 = k)) = true
 · rw [if_pos e, if_pos e]; exact r.repl k ry
 · rw [if_neg e, if_neg e]; exact Paired.snoc r ⟨rfl, ry⟩
theorem KV.length {kvs : List (κ × V)} {vs : List (κ × Value)} (r : KV kvs vs) : kvs.length = vs.length := Paired.length r
end
theorem Yf {P : Program} {w : World} {k : Key} {u : Value} (r : RelV (kV k) u) : (fg P w).is k u = true := by
 cases k with
 | inl i => obtain ⟨t, e⟩ := (show ∃ t, u = Value.int i t from r); subst e; exact Vn P w i t
 | inr x => obtain ⟨t, e⟩ := (show ∃ t, u = Value.str x t from r); subst e; exact vo P w x t
theorem qe {P : Program} {w : World} : ∀ {ks : List Key} {us : List Value}, Vals (ks.map kV) us → ItemsAre (fg P w) ks us
 | [], _, r => by rw [List.map_nil] at r; cases r; exact .nil
 | k :: ks, _, r => by
  rw [List.map_cons] at r
  cases r with
  | cons h t => exact .cons (Yf h) (qe t)
abbrev KT (H : Hp) : List (List Key × V) → List (List Key × Addr × Value) → Prop := Paired fun p q => p.1 = q.1 ∧ H q.2.1 = some (.tup (p.1.map kV)) ∧ RelV p.2 q.2.2
theorem KT.val {H : Hp} {kvs : List (List Key × V)} {xs : List (List Key × Addr × Value)} (r : KT H kvs xs) (k : List Key) : Hg (Dn kvs k) ((atKey xs k).map (·.2)) := by
 induction r with
 | nil => exact True.intro
 | @cons p q ps qs h t ih =>
  obtain ⟨h1, _, h2⟩ := h
  by_cases e : p.1 = k
  · have e' : q.1 = k := h1.symm.trans e
    have b : atKey (q :: qs) k = some q.2 := by simp [atKey, List.find?_cons, e']
    rw [mh e, b]; exact h2
  · have e' : ¬ q.1 = k := fun z => e (h1.trans z)
    have b : atKey (q :: qs) k = atKey qs k := by simp [atKey, List.find?_cons, e']
    rw [Mh e, b]; exact ih
theorem KT.repl {H : Hp} {kvs : List (List Key × V)} {xs : List (List Key × Addr × Value)} (r : KT H kvs xs) (k : List Key) {y : V} {u : Value} (ry : RelV y u) :
 KT H (kvs.map fun kv => if kv.1 = k then (kv.1, y) else kv) (xs.map (putAt k u)) := by
 induction r with
 | nil => exact .nil
 | @cons p q ps qs h t ih =>
  rw [List.map_cons, List.map_cons]
  refine .cons ?_ ih
  obtain ⟨h1, h2, h3⟩ := h
  unfold putAt
  by_cases e : p.1 = k
  · rw [if_pos e, if_pos (h1.symm.trans e)]; exact ⟨h1, h2, ry⟩
  · rw [if_neg e, if_neg (fun z => e (h1.trans z))]; exact ⟨h1, h2, h3⟩
theorem KT.put {H : Hp} {kvs : List (List Key × V)} {xs : List (List Key × Addr × Value)} (r : KT H kvs xs) (k : List Key) {b : Addr} {y : V} {u : Value} (hb : H b = some (.tup (k.map kV))) (ry : RelV y u) :
 KT H (putK kvs k y) (storedH xs k b u) := by
 have e : (kvs.any fun kv => decide (kv.1 = k)) = (atKey xs k).isSome := by
  rw [Qd, (r.val k).isSome_eq, Option.isSome_map]
 unfold putK storedH
 rw [e]
 by_cases q : (atKey xs k).isSome = true
 · rw [if_pos q, if_pos q]; exact r.repl k ry
 · rw [if_neg q, if_neg q]; exact Paired.snoc r ⟨rfl, hb, ry⟩
theorem KT.keeps {H H' : Hp} {kvs : List (List Key × V)} {xs : List (List Key × Addr × Value)} (r : KT H kvs xs) (ht : ∀ b ys, H b = some (.tup ys) → H' b = some (.tup ys)) : KT H' kvs xs :=
 Paired.mapP r fun _ _ z => ⟨z.1, ht _ _ z.2.1, z.2.2⟩
section
variable {P : Program} {w : World} {H : Hp} {h : Heap} {a : Addr}
theorem aid {ks : List Key} (ok : HOk P w H h) (e : H a = some (.tup (ks.map kV))) : (tupleKind (fg P w)).is h ks a := by
 obtain ⟨_, its, r, o, h1, h2, n, h3⟩ := (show Bs P w H h a (.tup (ks.map kV)) from ok a _ e)
 exact ⟨o, its.toArray, n, h1, h2, h3, by simpa using qe r⟩
end
def Qe (H : Hp) (a : Addr) (y : V) (r : Option V) : Prop :=
 (∃ kvs k, Rd H a (.dK kvs) ∧ y = kV k ∧ r = Dn kvs k) ∨ ∃ kvs k b, Rd H a (.dT kvs) ∧ y = .ref b ∧ H b = some (.tup (k.map kV)) ∧ r = Dn kvs k
def qf (H : Hp) (a : Addr) (y v : V) (H' : Hp) : Prop :=
 (∃ kvs k, H a = some (.dK kvs) ∧ y = kV k ∧ kvs.length < sizeLine ∧ H' = upd H a (.dK (putK kvs k v))) ∨
 ∃ kvs k b, H a = some (.dT kvs) ∧ y = .ref b ∧ H b = some (.tup (k.map kV)) ∧ kvs.length < sizeLine ∧ H' = upd H a (.dT (putK kvs k v))
theorem Qe.k {H : Hp} {a : Addr} {kvs : List (Key × V)} {k : Key} (e : H a = some (.dK kvs)) : Qe H a (kV k) (Dn kvs k) := .inl ⟨kvs, k, .inl e, rfl, rfl⟩
theorem qf.k {H : Hp} {a : Addr} {kvs : List (Key × V)} {k : Key} {v : V} (e : H a = some (.dK kvs)) (hl : kvs.length < sizeLine) : qf H a (kV k) v (upd H a (.dK (putK kvs k v))) := .inl ⟨kvs, k, e, rfl, hl, rfl⟩
section
variable {X : Cx} {pins : List (Addr × Obj)} {σ : St} {H : Hp} {s : Shared} {a : Addr} {y v : V} {u r : Value} {o : Option V} {A : Around} {E : Value → Shared → Prop}
theorem Inv.big (I : Inv X pins σ H s) : sysModules < s.heap.objs.size := by
 have h : mainGlobals < s.heap.objs.size := (I.mod.glob.keeps I.bk).lt
 exact Nat.lt_trans (by decide) h
theorem mi {h' : Heap} {t' : Nat} {ob : HO} (I : Inv X pins σ H s) (mu : Mut (H a)) (hs : Heap.SameBut a s.heap h') (he : ∃ q, h'.get? a = some q) (new : Bs X.prog X.w (upd H a ob) h' a ob) :
 Inv X pins σ (upd H a ob) { s with heap := h', toks := t' } :=
 I.write (x := a) (e := a) mu (.inl rfl) (fun b q hb z => (hs.2 b hb).trans z) he new
end
section
variable {X : Cx} {pins : List (Addr × Obj)} {σ : St} {H : Hp} {s : Shared} {a : Addr} {kvs : List (Key × V)} {k : Key} {u : Value} {A : Around} {E : Value → Shared → Prop}
end
section
variable {X : Cx} {o i e value : Expr} {pos pos' tpos : Pos} {td ty tv : TE}
end
section
variable {X : Cx} {pos : Pos}
end
def Qf : List (TE × TE) → St → Hp → (List (V × V) → Hp → Prop) → Prop
 | [], _, H, Q => Q [] H
 | (tk, tv) :: r, σ, H, Q => tk σ H fun x H1 => tv σ H1 fun y H2 => Qf r σ H2 fun ps H3 => Q ((x, y) :: ps) H3
abbrev VV : List (V × V) → List (Value × Value) → Prop := Paired fun p q => RelV p.1 q.1 ∧ RelV p.2 q.2
def PPs (X : Cx) (pos : Pos) (keys : List (Option Expr)) (values : List Expr) (trs : List (TE × TE)) : Prop :=
 ∀ (pins : List (Addr × Obj)) (s : Shared) (σ : St) (H : Hp) (Q : List (V × V) → Hp → Prop), Inv X pins σ H s → Qf trs σ H Q →
  wpAny (model X.prog X.w) X.A (evalPairs (pairTrees keys values X.env pos)) (fun vs s' => ∃ ps H', Inv X pins σ H' s' ∧ VV ps vs ∧ Q ps H') X.xe s
theorem yg {X : Cx} {pos : Pos} : PPs X pos [] [] [] := fun pins s σ H Q I h => pairTrees_nil_walk ⟨[], H, I, .nil, h⟩
theorem Yg {X : Cx} {pos : Pos} {k v : Expr} {ks : List (Option Expr)} {vs : List Expr} {tk tv : TE} {trs : List (TE × TE)} (hk : PE X k tk) (hv : PE X v tv) (hr : PPs X pos ks vs trs) :
 PPs X pos (some k :: ks) (v :: vs) ((tk, tv) :: trs) := fun pins s σ H Q I h =>
 pairTrees_cons_walk (thn (hk pins s σ H _ I h) fun u s1 ⟨x, H1, I1, rx, q1⟩ => thn (hv pins s1 σ H1 _ I1 q1) fun w2 s2 ⟨y, H2, I2, ry, q2⟩ =>
  thn (hr pins s2 σ H2 _ I2 q2) fun ws s3 ⟨ps, H3, I3, rel, q3⟩ => ⟨(x, y) :: ps, H3, I3, .cons ⟨rx, ry⟩ rel, q3⟩)
structure M2 (X : Cx) (o : Expr) (m : Str) (apos : Pos) (e f : Expr) (cpos : Pos) : Prop where
 base : attributeBase o m X.env (eval o X.env) = eval o X.env
 few : ((backTo cpos (starEach [e, f] X.env)).all (fun x => !x.1) && (backToKw cpos (keywordEach [] X.env)).all (fun x => x.1.isSome)
  && decide (([e, f] : List Expr).length + ([] : List Keyword).length + (if ([] : List Keyword).isEmpty then 0 else 1) < 30)) = true
 line : (apos.endLine == cpos.line) = true
 trees : backTo cpos (starEach [e, f] X.env) = [(false, eval e X.env), (false, eval f X.env)]
section
variable {X : Cx} {pins : List (Addr × Obj)} {σ : St} {H : Hp} {s : Shared} {a : Addr} {y d : V} {u r : Value} {o : Option V} {A : Around} {E : Value → Shared → Prop}
end
section
variable {X : Cx} {o e f : Expr} {apos cpos : Pos} {td ty tx : TE}
end
section
variable {X : Cx} {pins : List (Addr × Obj)} {σ : St} {H : Hp} {s : Shared} {a : Addr} {kvs : List (Key × V)} {A : Around} {E : Value → Shared → Prop}
end
section
variable {X : Cx} {pins : List (Addr × Obj)} {σ : St} {H : Hp} {s : Shared} {a : Addr} {y : V} {u : Value} {A : Around} {E : Value → Shared → Prop}
end
end L2
namespace Att
open PySem PySem.W PySem.Calls PyProof.Rows
theorem yh {P : Params} {h : Heap} : ∀ (ns : List Int) (vs : List Value), WellAll P h vs (ns.map WData.int) → IntsAre vs ns := by
 intro ns
 induction ns with
 | nil =>
  intro vs w
  rw [List.map_nil] at w
  cases w
  exact .nil
 | cons n ns ih =>
  intro vs w
  rw [List.map_cons] at w
  cases w with
  | cons a b =>
   cases a
   exact .cons _ _ (ih _ b)
theorem Yh {l : OpenLaw} {n : Nat} (hn : l.most = some n) {P : Params} {h : Heap} {args : List WData} {vals : List Value}
 (hpre : l.row.toRowW.claim.pre args = true) (hwl : WellAll P h vals args) :
 ∃ a vs ns, vals = [Value.ref a] ∧ args = [WData.list (ns.map WData.int)] ∧ h.get? a = some { cls := .type "list", data := .seq vs.toArray } ∧ IntsAre vs ns ∧ ns.length ≤ n := by
 have hsh : WShape.hasAll [] args [.list .int] = true := (pre_splitW hpre).1
 have hc : l.pre.holds [] { args := args } = true := (pre_splitW hpre).2
 obtain ⟨d, r, rfl, h1, h2⟩ := hasAllW_cons hsh
 obtain rfl := hasAllW_nil h2
 obtain ⟨xs, rfl, h3⟩ := hasW_list h1
 obtain ⟨ns, rfl⟩ := items_int h3
 have hlen : ns.length ≤ n := by
  unfold OpenLaw.pre at hc
  have h4 : (WTm.not (.lt (.lit (.int (n : Int))) (.len (.arg 0)))).holds [] { args := [.list (ns.map .int)] } = true := by
   have h4 := (holds_andW hc).1
   rw [hn] at h4
   exact h4
  have h5 := condW_of h4 (w_not (w_lt w_lit (w_len_list (w_arg rfl))))
  rw [List.length_map] at h5
  refine Nat.le_of_not_lt fun q => ?_
  have q' : (n : Int) < ((ns.length : Nat) : Int) := by omega
  first
   | (rw [decide_eq_true q'] at h5; exact absurd h5 (by decide))
   | (simp at h5; omega)
 cases hwl with
 | cons w1 w2 =>
  cases w2
  cases w1 with
  | list ho hall => exact ⟨_, _, ns, rfl, rfl, ho, yh ns _ hall, hlen⟩
theorem yi (l : OpenLaw) (args : List WData) : l.row.toRowW.claim.post args (.bool true) args = true :=
 postW_of (r := l.row.toRowW) (X := (true == true))
  (show WShape.has [] (.bool true) .bool = true by first | rfl | decide | simp [WShape.has, WShape.arms, WShape.armsAll])
  (show (WTm.eq .res (.lit (.bool true))).value [] { args := args, res := some (.bool true), after := args } = some (.bool (true == true)) from w_eq_bool (w_res rfl) w_lit) rfl
theorem Yi {l : OpenLaw} {n : Nat} {q : Program} {loose : List Str} {XP : (Str → Option Value) → Heap → Prop} {YP : World → Heap → Prop} {d : DefRec}
 (hn : l.most = some n) (hdf : d.params.defaults = [])
 (call : ∀ (w : World) (s₀ s₁ : Shared) (mg mb : Str → Option Value) (fa : Addr) (o : Obj) (pm cd doc : Value) (a : Addr) (vs : List Value) (ns : List Int),
  Ground q loose [] XP w s₀ mg mb s₁.heap → YP w s₁.heap →
  s₁.heap.get? fa = some o → o.data = .func (docDef d.name d.params d.body d.scope pm cd doc) → s₁.heap.CodeRec cd d.name → mg d.name = some (.ref fa) →
  s₁.heap.get? a = some { cls := .type "list", data := .seq vs.toArray } → IntsAre vs ns → ns.length ≤ n → s₁.gens = #[] →
  codeAny (model l.prog w) callerA (.call (.ref fa) ⟨[.ref a], []⟩) (fun r s' => r = .ok (.ret (.bool true)) ∧ OldK s₁.heap s'.heap ∧ s'.os = s₁.os ∧ AllBare s'.gens) s₁) :
 WalkO q loose XP YP l.row.toRowW d [] (fun f vs => PySem.call f vs) := by
 intro w s₀ s₁ mg mb G Y fa o pm cd doc dV kV ho hd hcd hD hmg hg args vals as hpre hlay hrd hwl hlo
 obtain rfl : dV = .none := Dflts.none hD hdf
 obtain rfl : kV = .none := Dflts.noKw hD
 obtain ⟨a, vs, ns, rfl, rfl, hobj, hints, hlen⟩ := Yh hn hpre hwl
 refine enter_call (codeAny_mono (call w s₀ s₁ mg mb fa o pm cd doc a vs ns G Y ho (fd_plain hd) hcd hmg hobj hints hlen hg) fun r s' hq => ?_)
 obtain ⟨rfl, h2, h3, h4⟩ := hq
 exact ⟨.inl ⟨.bool true, .bool true, [], rfl, fun _ => rfl, .bool true, yi l _, fun _ => ⟨List.Pairwise.nil, fun _ hm => (nomatch hm)⟩⟩, h2, h3, h4⟩
section
variable {prog : Program} {w : World} {A : Around} {E : Value → Shared → Prop} {s : Shared} {K : Frag}
end
end Att
namespace L2
open PySem PySem.Spec PyProof.Rows
theorem qg : ∀ {vs : List Value} {ns : List Int}, IntsAre vs ns → Vals (ns.map V.int) vs
 | _, _, .nil => .nil
 | _, _, .cons n t h => .cons ⟨t, rfl⟩ (qg h)
def iz (s : Stmt) : Arguments := match s with
 | .FunctionDef _ a _ _ _ _ _ _ _ _ => a
 | _ => { posonlyargs := [], args := [], vararg := none, kwonlyargs := [], kw_defaults := [], kwarg := none, defaults := [] }
def Gk (s : Stmt) : List Stmt := match s with
 | .FunctionDef _ _ b _ _ _ _ _ _ _ => b
 | _ => []
def Bc (s : Stmt) : Scope := match s with
 | .FunctionDef _ _ _ _ _ _ sc _ _ _ => sc
 | _ => { kind := .function, names := [], isGenerator := false, isCoroutine := false }
section
variable {P : Program} {w : World} {K : PySem.W.Frag} {mg : Str → Option Value} {base : Heap}
end
section
variable {X : Cx}
theorem pv (i : Nat) {x : Str} {pos : Pos} (hN : X.N[i]? = some x := by rfl) (hv : Vis X.env.scope x := by first | exact Or.inl rfl | exact Or.inr (Or.inl rfl) | exact Or.inr (Or.inr rfl)) (hd : (x == ("__debug__" : Str)) = false := by decide)
 (hcd : (x == ("__classdict__" : Str)) = false := by decide) : PE X (.Name x pos) (Lz i) := pg hN hv hd hcd
end
theorem Hm {A B : Prop} (h : B) : if false = true then A else B := by
 rw [if_neg Bool.false_ne_true]
 exact h
theorem Hn {A B : Prop} (h : A) : if true = true then A else B := by
 rw [if_pos rfl]
 exact h
def Bo (H H' : Hp) : Prop := ∀ b o, H b = some o → H' b = some o
section
variable {κ : Type} [DecidableEq κ]
end
end L2
namespace DD
open PySem PySem.Builtin L2
open PyProof.Rows (IsTup.new)
end DD
set_option genSizeOf false
namespace DD
open PySem
theorem odt {p : Prop} [Decidable p] (h : decide p = true) : p := of_decide_eq_true h
inductive D where
 | non | bl (b : Bool) | int (i : Int) | str (x : Str) | tup (ds : List D) | loc (n : Nat)
 deriving Inhabited
mutual
noncomputable def D.beq : D → D → Bool
 | .non, .non => true
 | .bl a, .bl b => a == b
 | .int a, .int b => a == b
 | .str a, .str b => decide (a = b)
 | .tup a, .tup b => D.beqL a b
 | .loc a, .loc b => a == b
 | _, _ => false
noncomputable def D.beqL : List D → List D → Bool
 | [], [] => true
 | a :: r, b :: t => D.beq a b && D.beqL r t
 | _, _ => false
end
mutual
theorem D.beq_eq : ∀ {a b : D}, D.beq a b = true → a = b
 | .non, b, h => by cases b <;> first | rfl | simp [D.beq] at h
 | .bl x, b, h => by cases b <;> simp [D.beq] at h; rw [h]
 | .int x, b, h => by cases b <;> simp [D.beq] at h; rw [h]
 | .str x, b, h => by cases b <;> simp [D.beq] at h; rw [h]
 | .loc x, b, h => by cases b <;> simp [D.beq] at h; rw [h]
 | .tup x, b, h => by
  cases b with
  | tup y =>
   have e : x = y := D.beqL_eq (by simpa [D.beq] using h)
   rw [e]
  | _ => simp [D.beq] at h
theorem D.beqL_eq : ∀ {a b : List D}, D.beqL a b = true → a = b
 | [], [], _ => rfl
 | [], _ :: _, h => by simp [D.beqL] at h
 | _ :: _, [], h => by simp [D.beqL] at h
 | x :: r, y :: t, h => by
  simp only [D.beqL, Bool.and_eq_true] at h
  rw [D.beq_eq h.1, D.beqL_eq h.2]
end
mutual
theorem D.beq_refl : ∀ a : D, D.beq a a = true
 | .non => rfl
 | .bl x => by simp [D.beq]
 | .int x => by simp [D.beq]
 | .str x => by simp [D.beq]
 | .loc x => by simp [D.beq]
 | .tup x => by simp only [D.beq]; exact D.beqL_refl x
theorem D.beqL_refl : ∀ a : List D, D.beqL a a = true
 | [] => rfl
 | x :: r => by simp only [D.beqL, Bool.and_eq_true]; exact ⟨D.beq_refl x, D.beqL_refl r⟩
end
instance : DecidableEq D := fun a b => decidable_of_iff (D.beq a b = true) ⟨D.beq_eq, fun h => h ▸ D.beq_refl a⟩
inductive Cell where
 | lst (ds : List D)
 | frz (ds : List D)
 | dcn (kvs : List (D × D))
 | dcg (kvs : List (D × D))
 | lamT
 | fnl
 deriving Inhabited
abbrev Sto := List Cell
abbrev Env := List (Option D)
inductive Res (α : Type) where
 | ok (a : α) (st : Sto)
 | exc (c : Nat) (st : Sto)
 | bad
def Res.bind {α β : Type} (r : Res α) (f : α → Sto → Res β) : Res β := match r with
 | .ok a st => f a st
 | .exc c st => .exc c st
 | .bad => .bad
@[simp] theorem Bf {α β : Type} (a : α) (st : Sto) (f : α → Sto → Res β) : (Res.ok a st).bind f = f a st := rfl
@[simp] theorem aie {α β : Type} (c : Nat) (st : Sto) (f : α → Sto → Res β) : (Res.exc c st : Res α).bind f = .exc c st := rfl
@[simp] theorem aif {α β : Type} (f : α → Sto → Res β) : (Res.bad : Res α).bind f = .bad := rfl
inductive Ty where
 | b (x : String) | o (n : Nat)
 deriving DecidableEq
noncomputable def yj : Cell → Option Ty
 | .lst _ => some (.b "list")
 | .frz _ => some (.b "list")
 | .dcn _ => some (.b "dict")
 | .dcg _ => some (.b "dict")
 | .lamT => none
 | .fnl => none
noncomputable def dw (st : Sto) : D → Option Ty
 | .non => some (.b "NoneType")
 | .bl _ => some (.b "bool")
 | .int _ => some (.b "int")
 | .str _ => some (.b "str")
 | .tup _ => some (.b "tuple")
 | .loc n => (st[n]?).bind yj
noncomputable def aq (st : Sto) (n : Nat) : Option (List D) := match st[n]? with
 | some (.lst ds) => some ds
 | some (.frz ds) => some ds
 | _ => none
noncomputable def Eo (st : Sto) : D → Option (List D)
 | .tup ds => some ds
 | .loc n => aq st n
 | _ => none
noncomputable def truth (st : Sto) : D → Option Bool
 | .non => some false
 | .bl b => some b
 | .int i => some (i != 0)
 | .str x => if x.length ≤ sizeLine then some ((x.length : Int) != 0) else none
 | .tup ds => some (!ds.isEmpty)
 | .loc n => (aq st n).map fun ds => !ds.isEmpty
def Ca {α : Type} : List (Option α) → Option (List α)
 | [] => some []
 | some a :: r => (Ca r).map (a :: ·)
 | none :: _ => none
noncomputable def Ao (st : Sto) : Nat → D → Option PyData
 | _, .non => some .none
 | _, .bl b => some (.bool b)
 | _, .int i => some (.int i)
 | _, .str x => if PyData.canLay0 (.str x) = true then some (.str x) else none
 | 0, _ => none
 | n + 1, .tup ds => (Ca (ds.map (Ao st n))).map .tuple
 | n + 1, .loc m => (aq st m).bind fun ds => (Ca (ds.map (Ao st n))).map .list
noncomputable def eqV (st : Sto) (a b : D) : Option Bool := match Ao st 40 a, Ao st 40 b with
 | some x, some y => some (PyData.eqv x y)
 | _, _ => none
inductive Op where
 | add | sub | mul | fdiv | mod | pow
inductive Cm where
 | eq | ne | lt | le | ge | inL | notIn
inductive Bt where
 | absB | lenB | listB | minB | maxB
 deriving DecidableEq
inductive Mt where
 | append | pop | maxd | clearN | getN | sdefN | frzN | neG | put1N
set_option genInjectivity false
mutual
inductive E where
 | var (i : Nat)
 | cst (d : D)
 | tupE (es : Es)
 | lstE (es : Es)
 | op (o : Op) (a b : E)
 | neg (a : E)
 | cm (c : Cm) (a b : E)
 | andE (a b : E)
 | orE (a b : E)
 | notE (a : E)
 | call (f : Nat) (es : Es) (dv : List D)
 | bt (f : Bt) (es : Es)
 | ix (a b : E)
 | isi (a : E) (t : Ty)
 | dnewN
 | sl (k : Nat) (a : E) (es : Es)
 | lamE
 | callL (f e : E)
 | mt (m : Mt) (o : E) (es : Es)
 | dcompN (n : Nat) (one : Bool) (nl : Nat) (tg : List Nat) (fv : List Nat) (it : E) (ifs : Es) (kx vx : E)
 | comp (n : Nat) (one : Bool) (nl : Nat) (tg : List Nat) (fv : List Nat) (it : E) (ifs : Es) (elt : E)
inductive Es where
 | nil
 | cons (e : E) (es : Es)
end
mutual
inductive S where
 | set (i : Nat) (e : E)
 | unp (is : List Nat) (e : E)
 | par (i j : Nat) (a b : E)
 | ifS (c : E) (a b : Ss)
 | whileS (c : E) (b : Ss)
 | forS (tg : List Nat) (one : Bool) (k : Bool) (it : E) (b : Ss)
 | forR (tg : List Nat) (es : Es) (b : Ss)
 | forD (kd : Bool) (tg : List Nat) (one : Bool) (it : E) (b : Ss)
 | forZ (t1 : List Nat) (o1 : Bool) (t2 : List Nat) (o2 : Bool) (a c : E) (b : Ss)
 | dput (d k v : E)
 | ret (e : E)
 | ex (e : E)
inductive Ss where
 | nil
 | cons (s : S) (r : Ss)
end
set_option genInjectivity true
noncomputable def BIG : Nat := 2 ^ 8000
def Fh (i : Int) : Prop := -(2 ^ 64) < i ∧ i < 2 ^ 64
instance (i : Int) : Decidable (Fh i) := by unfold Fh; infer_instance
def Ep (i j : Int) : Prop := Fh i ∨ Fh j ∨ (i.natAbs < BIG ∧ j.natAbs < BIG)
instance (i j : Int) : Decidable (Ep i j) := by unfold Ep; infer_instance
def Dp (j : Int) : Prop := j ≠ 0 ∧ j.natAbs < BIG
instance (j : Int) : Decidable (Dp j) := by unfold Dp; infer_instance
def Iz (i j : Int) : Prop := 0 ≤ j ∧ j ≤ 1000000 ∧ i.natAbs < 2 ^ 64
instance (i j : Int) : Decidable (Iz i j) := by unfold Iz; infer_instance
noncomputable def Ba (kvs : List (D × D)) (k : D) : Option D := (kvs.find? fun p => decide (p.1 = k)).map (·.2)
noncomputable def Bw (kvs : List (D × D)) (k v : D) : List (D × D) := if (kvs.any fun p => decide (p.1 = k)) = true then kvs.map fun p => if p.1 = k then (p.1, v) else p else kvs ++ [(k, v)]
noncomputable def okN : Nat → D → Bool
 | _, .int _ => true
 | _, .str x => PyData.canLay0 (.str x)
 | n + 1, .tup ds => ds.all (okN n)
 | _, _ => false
noncomputable def ba : D → Bool
 | .tup ds => okN 8 (.tup ds)
 | _ => false
noncomputable def az (st : Sto) (n : Nat) : Option (List (D × D)) := match st[n]? with
 | some (.dcn kvs) => some kvs
 | _ => none
noncomputable def opD (o : Op) (a b : D) (st : Sto) : Res D := match a with
 | .int i => (match b with
  | .int j => (match o with
   | .add => .ok (.int (i + j)) st
   | .sub => .ok (.int (i - j)) st
   | .mul => if Ep i j then .ok (.int (i * j)) st else .bad
   | .fdiv => if Dp j then .ok (.int (i.fdiv j)) st else .bad
   | .mod => if j ≠ 0 then .ok (.int (i.fmod j)) st else .bad
   | .pow => if Iz i j then .ok (.int (i ^ j.toNat)) st else .bad)
  | _ => .bad)
 | .loc n => (match b with
  | .int k => (match o with
   | .mul => (match st[n]? with
    | some (.lst xs) => if -(2 ^ 63) ≤ k ∧ k < 2 ^ 63 ∧ xs.length * k.toNat ≤ sizeLine then .ok (.loc st.length) (st ++ [.lst (List.replicate k.toNat xs).flatten]) else .bad
    | _ => .bad)
   | _ => .bad)
  | .loc m => (match o with
   | .add => (match st[n]?, st[m]? with
    | some (.lst xs), some (.lst ys) => if xs.length + ys.length ≤ sizeLine then .ok (.loc st.length) (st ++ [.lst (xs ++ ys)]) else .bad
    | _, _ => .bad)
   | _ => .bad)
  | _ => .bad)
 | _ => .bad
noncomputable def inS (st : Sto) (a b : D) : Option Bool := match Ao st 40 a, Ao st 41 b with
 | some x, some (.list ys) => some (ys.any fun y => PyData.eqv y x)
 | some x, some (.tuple ys) => some (ys.any fun y => PyData.eqv y x)
 | _, _ => none
noncomputable def inD (st : Sto) (a b : D) : Option Bool := match b with
 | .loc n => match az st n with
  | some kvs => if ba a then some (Ba kvs a).isSome else none
  | none => inS st a b
 | _ => inS st a b
def Et (st : Sto) (kb : List (D × D)) : List (D × D) → Option Bool
 | [] => some true
 | (k, v) :: r => match Ba kb k with
  | none => some false
  | some y => (eqV st v y).bind fun e => (Et st kb r).map fun b => e && b
def eqN (st : Sto) (a b : D) : Option Bool := match a, b with
 | .loc n, .loc m => (match az st n, az st m with
  | some ka, some kb => if ka.length = kb.length then Et st kb ka else some false
  | _, _ => none)
 | _, _ => none
def eqF (st : Sto) (a b : D) : Option Bool := match a, b with
 | .tup [x, .loc n], .tup [y, .loc m] => if n = m then none else (eqV st x y).bind fun e => (eqN st (.loc n) (.loc m)).map fun f => e && f
 | _, _ => none
def gm (st : Sto) (n : Nat) : Option (List (D × D)) := match st[n]? with
 | some (.dcg kvs) => some kvs
 | _ => none
noncomputable def cmD (c : Cm) (a b : D) (st : Sto) : Res D := match c with
 | .eq => match eqV st a b with | some x => .ok (.bl x) st | none => .bad
 | .ne => match eqV st a b with | some x => .ok (.bl (!x)) st | none => .bad
 | .lt => match a, b with | .int i, .int j => .ok (.bl (decide (i < j))) st | _, _ => .bad
 | .le => match a, b with | .int i, .int j => .ok (.bl (decide (i ≤ j))) st | _, _ => .bad
 | .ge => match a, b with | .int i, .int j => .ok (.bl (decide (j ≤ i))) st | _, _ => .bad
 | .inL => match inD st a b with | some x => .ok (.bl x) st | none => .bad
 | .notIn => match inD st a b with | some x => .ok (.bl (!x)) st | none => .bad
noncomputable def atD (xs : List D) (i : Int) : Option D := L2.atI xs i
noncomputable def ixS (a b : D) (st : Sto) : Res D := match b with
 | .int i => match Eo st a with
  | some xs => match atD xs i with | some d => .ok d st | none => .bad
  | none => match a with
   | .str z => match L2.atI z.cps.toList i with
    | some c => if z.length ≤ sizeLine then .ok (.str ⟨#[c]⟩) st else .bad
    | none => .bad
   | _ => .bad
 | _ => .bad
noncomputable def ixD (a b : D) (st : Sto) : Res D := match a with
 | .loc n => match az st n with
  | some kvs => if ba b then (match Ba kvs b with | some d => .ok d st | none => .bad) else .bad
  | none => match gm st n with
   | some kvs => if ba b then (match Ba kvs b with | some d => .ok d st | none => .bad) else .bad
   | none => ixS a b st
 | _ => ixS a b st
noncomputable def jz (k : Nat) (ds : List D) : Option (Option Int × Option Int) := match k, ds with
 | 0, [] => some (none, none)
 | 1, [.int i] => some (some i, none)
 | 2, [.int j] => some (none, some j)
 | 3, [.int i, .int j] => some (some i, some j)
 | _, _ => none
def cutD {α : Type} (xs : List α) (lo hi : Option Int) : List α := (xs.drop (HT.sIx xs.length 0 lo)).take (HT.sIx xs.length xs.length hi - HT.sIx xs.length 0 lo)
noncomputable def slD (k : Nat) (a : D) (ds : List D) (st : Sto) : Res D := match jz k ds with
 | some (lo, hi) => match a with
  | .tup xs => .ok (.tup (cutD xs lo hi)) st
  | .loc n => match aq st n with
   | some xs => .ok (.loc st.length) (st ++ [.lst (cutD xs lo hi)])
   | none => .bad
  | _ => .bad
 | none => .bad
def intsOf : List D → Option (List Int)
 | [] => some []
 | .int b :: r => (intsOf r).map (b :: ·)
 | _ => none
def Fi (d : Int) : List Int → Int
 | [] => d
 | a :: r => r.foldl (fun m x => if x > m then x else m) a
noncomputable def btD (f : Bt) (ds : List D) (st : Sto) : Res D := match f with
 | .absB => (match ds with | [.int i] => .ok (.int (if i < 0 then -i else i)) st | _ => .bad)
 | .lenB => (match ds with
  | [.tup xs] => .ok (.int xs.length) st
  | [.loc n] => (match aq st n with | some xs => .ok (.int xs.length) st | none => .bad)
  | [.str z] => if z.length ≤ sizeLine then .ok (.int z.length) st else .bad
  | _ => .bad)
 | .listB => (match ds with | [d] => (match Eo st d with | some xs => .ok (.loc st.length) (st ++ [.lst xs]) | none => .bad) | _ => .bad)
 | .minB => (match ds with | [.int i, .int j] => .ok (.int (if j < i then j else i)) st | _ => .bad)
 | .maxB => (match ds with | [.int i, .int j] => .ok (.int (if j > i then j else i)) st | _ => .bad)
noncomputable def Gm (st : Sto) : D → Bool
 | .loc n => match st[n]? with | some (.lst _) => true | _ => false
 | _ => false
noncomputable def rdy (m : Mt) (st : Sto) (d : D) : Bool := match m with
 | .maxd => (match d with | .loc n => (aq st n).isSome | _ => false)
 | .clearN => (match d with | .loc n => (az st n).isSome | _ => false)
 | .getN => (match d with | .loc n => (az st n).isSome | _ => false)
 | .frzN => (match d with | .loc n => (az st n).isSome | _ => false)
 | .sdefN => (match d with | .loc n => (az st n).isSome | _ => false)
 | .neG => true
 | .put1N => (match d with | .loc n => (az st n).isSome | _ => false)
 | _ => Gm st d
noncomputable def Gn (kvs more : List (D × D)) : List (D × D) := more.foldl (fun acc kv => Bw acc kv.1 kv.2) kvs
noncomputable def mtD (m : Mt) (o : D) (ds : List D) (st : Sto) : Res D := match m with
 | .append => (match o, ds with
  | .loc n, [d] => (match st[n]? with
   | some (.lst xs) => if xs.length < sizeLine then .ok .non (st.set n (.lst (xs ++ [d]))) else .bad
   | _ => .bad)
  | _, _ => .bad)
 | .pop => (match o, ds with
  | .loc n, [] => (match st[n]? with
   | some (.lst xs) => (match xs.getLast? with | some d => .ok d (st.set n (.lst xs.dropLast)) | none => .bad)
   | _ => .bad)
  | _, _ => .bad)
 | .clearN => (match o, ds with
  | .loc n, [] => (match az st n with | some _ => .ok .non (st.set n (.dcn [])) | none => .bad)
  | _, _ => .bad)
 | .neG => (match ds with | [b] => (match eqF st o b with | some x => .ok (.bl (!x)) st | none => .bad) | _ => .bad)
 | .frzN => (match o, ds with
  | .loc n, [] => (match az st n with | some kvs => .ok (.loc n) (st.set n (.dcg kvs)) | none => .bad)
  | _, _ => .bad)
 | .getN => (match o with
  | .loc n => (match az st n with
   | some kvs => (match ds with
    | [k] => if ba k then .ok ((Ba kvs k).getD .non) st else .bad
    | [k, x] => if ba k then .ok ((Ba kvs k).getD x) st else .bad
    | _ => .bad)
   | none => .bad)
  | _ => .bad)
 | .sdefN => (match o, ds with
  | .loc n, [k, x] => (match az st n with
   | some kvs => if ba k = true ∧ kvs.length < sizeLine then (match Ba kvs k with | some d => .ok d st | none => .ok x (st.set n (.dcn (Bw kvs k x)))) else .bad
   | none => .bad)
  | _, _ => .bad)
 | .put1N => (match o, ds with
  | .loc n, [k, x] => (match az st n with
   | some kvs => if ba k = true ∧ kvs = [] then .ok (.loc n) (st.set n (.dcn [(k, x)])) else .bad
   | none => .bad)
  | _, _ => .bad)
 | .maxd => (match o, ds with
  | .loc n, [.int d] => (match (aq st n).bind intsOf with | some is => .ok (.int (Fi d is)) st | none => .bad)
  | _, _ => .bad)
noncomputable def subB : String → String → Option Bool := fun t c => if t = c then some true else if t = "bool" ∧ c = "int" then some true else if c = "bool" ∨ c = "int" ∨ c = "tuple" ∨ c = "list" ∨ c = "str" ∨ c = "dict" then some false else none
noncomputable def eu (tab : Nat → Ty → Option Bool) : Ty → Ty → Option Bool
 | .b t, .b c => subB t c
 | .b _, .o _ => none
 | .o n, c => tab n c
abbrev Or := Nat → List D → Sto → Res D
section
variable (tab : Nat → Ty → Option Bool) (call : Or)
noncomputable def Dd (env : Env) (i : Nat) : Option D := (env[i]?).join
noncomputable def Cf : List Nat → List D → Env → Option Env
 | [], [], env => some env
 | i :: r, d :: t, env => if i < env.length then Cf r t (env.set i (some d)) else none
 | _, _, _ => none
noncomputable def store (tg : List Nat) (one : Bool) (d : D) (env : Env) : Option Env := if one then Cf tg [d] env else match d with
 | .tup ds => Cf tg ds env
 | _ => none
def cg (kd : Bool) (kvs : List (D × D)) : List D := if kd then kvs.map fun p => .tup [p.1, p.2] else kvs.map (·.1)
def ja (n : Nat) (st : Sto) : Option Sto := match st[n]? with
 | some (.dcg kvs) => some (st.set n (.dcn kvs))
 | _ => none
def Eu (xs ys : List D) : List D := List.zipWith (fun x y => .tup [x, y]) xs ys
def Ho (t1 : List Nat) (o1 : Bool) (t2 : List Nat) (o2 : Bool) (d : D) (env : Env) : Option Env := match d with
 | .tup [x, y] => (store t1 o1 x env).bind fun env1 => store t2 o2 y env1
 | _ => none
noncomputable def fj (k : Bool) (st : Sto) : D → Option (List D × Option Nat)
 | .tup ds => if k then some (ds, none) else none
 | .loc n => if k then none else (aq st n).map fun ds => (ds, some n)
 | _ => none
noncomputable def stays (st : Sto) (p : Option Nat) (ds : List D) : Bool := match p with
 | none => true
 | some n => decide (aq st n = some ds)
noncomputable def de (lo : Int) (n : Nat) : List D := (List.range n).map fun k => .int (lo + (k : Nat))
noncomputable def fk (ds : List D) : Option (List D) := match ds with
 | [.int j] => if -(2 ^ 62) ≤ j ∧ j < 2 ^ 62 then some (de 0 j.toNat) else none
 | [.int i, .int j] => if -(2 ^ 62) ≤ i ∧ i < 2 ^ 62 ∧ -(2 ^ 62) ≤ j ∧ j < 2 ^ 62 then some (de i (j - i).toNat) else none
 | _ => none
noncomputable def compLoop (all : List D) (p : Option Nat) (n0 : Nat) (body : D → Sto → Res (Option D)) : List D → Sto → Res Unit
 | [], st => if stays st p all then .ok () st else .bad
 | d :: r, st => if stays st p all then (match body d st with
  | .ok (some y) st' => (match st'[n0]? with
   | some (.lst ys) => if ys.length < sizeLine then compLoop all p n0 body r (st'.set n0 (.lst (ys ++ [y]))) else .bad
   | _ => .bad)
  | .ok none st' => compLoop all p n0 body r st'
  | _ => .bad)
  else .bad
def Bn (all : List D) (p : Option Nat) (n0 : Nat) (body : D → Sto → Res (Option (D × D))) : List D → Sto → Res Unit
 | [], st => if stays st p all then .ok () st else .bad
 | d :: r, st => if stays st p all then (match body d st with
  | .ok (some (k, y)) st' => (match st'[n0]? with
   | some (.dcn kvs) => if kvs.length < sizeLine ∧ ba k = true then Bn all p n0 body r (st'.set n0 (.dcn (Bw kvs k y))) else .bad
   | _ => .bad)
  | .ok none st' => Bn all p n0 body r st'
  | _ => .bad)
  else .bad
noncomputable def Cq (k : Nat) (st : Sto) (d : D) : Option (List D × Option Nat) := match k, d with
 | 0, .loc n => (aq st n).map fun ds => (ds, some n)
 | 1, .tup ds => some (ds, none)
 | 2, .tup ds => (fk ds).map fun xs => (xs, none)
 | 5, .loc n => (match st[n]? with | some (.dcg kvs) => some (kvs.map (·.1), none) | _ => none)
 | 6, .loc n => (match st[n]? with | some (.dcg kvs) => some (kvs.map fun p => .tup [p.1, p.2], none) | _ => none)
 | 3, .str z => if z.length ≤ sizeLine then some (z.cps.toList.map fun c => .str ⟨#[c]⟩, none) else none
 | _, _ => none
noncomputable def Bx (nl : Nat) (fv : List Nat) (env : Env) : Env := List.replicate nl none ++ fv.map (Dd env)
mutual
noncomputable def aa : E → Env → Sto → Res D
 | .var i, env, st => match Dd env i with | some d => .ok d st | none => .bad
 | .cst d, _, st => .ok d st
 | .tupE es, env, st => (au es env st).bind fun ds st => if ds.length ≤ sizeLine then .ok (.tup ds) st else .bad
 | .lstE es, env, st => (au es env st).bind fun ds st => if ds.length ≤ sizeLine then .ok (.loc st.length) (st ++ [.lst ds]) else .bad
 | .op o a b, env, st => (aa a env st).bind fun x st => (aa b env st).bind fun y st => opD o x y st
 | .neg a, env, st => (aa a env st).bind fun x st => match x with | .int i => .ok (.int (-i)) st | _ => .bad
 | .cm c a b, env, st => (aa a env st).bind fun x st => (aa b env st).bind fun y st => cmD c x y st
 | .andE a b, env, st => (aa a env st).bind fun x st => match x with | .bl true => aa b env st | .bl false => .ok (.bl false) st | _ => .bad
 | .orE a b, env, st => (aa a env st).bind fun x st => match x with | .bl true => .ok (.bl true) st | .bl false => aa b env st | _ => .bad
 | .notE a, env, st => (aa a env st).bind fun x st => match x with | .bl b => .ok (.bl (!b)) st | _ => .bad
 | .call f es dv, env, st => (au es env st).bind fun ds st => call f (ds ++ dv) st
 | .bt f es, env, st => (au es env st).bind fun ds st => btD f ds st
 | .ix a b, env, st => (aa a env st).bind fun x st => (aa b env st).bind fun y st => ixD x y st
 | .isi a t, env, st => (aa a env st).bind fun x st => match (dw st x).bind fun u => eu tab u t with | some b => .ok (.bl b) st | none => .bad
 | .dnewN, _, st => .ok (.loc st.length) (st ++ [.dcn []])
 | .sl k a es, env, st => (aa a env st).bind fun x st => (dq es env st).bind fun ds st => slD k x ds st
 | .lamE, _, st => match (st[(1 : Nat)]? : Option Cell) with | some Cell.lamT => .ok (.loc st.length) (st ++ [.fnl]) | _ => .bad
 | .callL f e, env, st => (aa f env st).bind fun x st => match x with
  | .loc n => match st[n]? with | some .fnl => aa e env st | _ => .bad
  | _ => .bad
 | .mt m o es, env, st => (aa o env st).bind fun x st => if rdy m st x then (au es env st).bind fun ds st => mtD m x ds st else .bad
 | .dcompN n one nl tg fv it ifs kx vx, env, st => (aa it env st).bind fun d st => match Cq n st d with
  | some (xs, p) => (Bn xs p st.length (fun d st => match store tg one d (Bx nl fv env) with
   | some env' => (br ifs env' st).bind fun b st => if b then (aa kx env' st).bind fun k st => (aa vx env' st).bind fun y st => .ok (some (k, y)) st else .ok none st
   | none => .bad) xs (st ++ [.dcn []])).bind fun _ st' => .ok (.loc st.length) st'
  | none => .bad
 | .comp n one nl tg fv it ifs elt, env, st => (aa it env st).bind fun d st => match Cq n st d with
  | some (xs, p) => (compLoop xs p st.length (fun d st => match store tg one d (Bx nl fv env) with
   | some env' => (br ifs env' st).bind fun b st => if b then (aa elt env' st).bind fun y st => .ok (some y) st else .ok none st
   | none => .bad) xs (st ++ [.lst []])).bind fun _ st' => .ok (.loc st.length) st'
  | none => .bad
noncomputable def br : Es → Env → Sto → Res Bool
 | .nil, _, st => .ok true st
 | .cons c r, env, st => (Ap c env st).bind fun b st => if b then br r env st else .ok false st
noncomputable def dq : Es → Env → Sto → Res (List D)
 | .nil, _, st => .ok [] st
 | .cons e es, env, st => (aa e env st).bind fun d st => match d with | .int _ => (dq es env st).bind fun ds st => .ok (d :: ds) st | _ => .bad
noncomputable def au : Es → Env → Sto → Res (List D)
 | .nil, _, st => .ok [] st
 | .cons e es, env, st => (aa e env st).bind fun d st => (au es env st).bind fun ds st => .ok (d :: ds) st
noncomputable def Ap : E → Env → Sto → Res Bool
 | .andE a b, env, st => (Ap a env st).bind fun x st => if x then Ap b env st else .ok false st
 | .orE a b, env, st => (Ap a env st).bind fun x st => if x then .ok true st else Ap b env st
 | .notE a, env, st => (Ap a env st).bind fun x st => .ok (!x) st
 | .var i, env, st => match Dd env i with | some d => (match truth st d with | some b => .ok b st | none => .bad) | none => .bad
 | .cst d, env, st => match truth st d with | some b => .ok b st | none => .bad
 | .cm c a b, env, st => (aa a env st).bind fun x st => (aa b env st).bind fun y st => (cmD c x y st).bind fun d st => match d with | .bl b => .ok b st | _ => .bad
 | .call f es dv, env, st => (au es env st).bind fun ds st => (call f (ds ++ dv) st).bind fun d st => match truth st d with | some b => .ok b st | none => .bad
 | .bt f es, env, st => (au es env st).bind fun ds st => (btD f ds st).bind fun d st => match truth st d with | some b => .ok b st | none => .bad
 | .ix a b, env, st => (aa a env st).bind fun x st => (aa b env st).bind fun y st => (ixD x y st).bind fun d st => match truth st d with | some b => .ok b st | none => .bad
 | .mt m o es, env, st => (aa o env st).bind fun x st => if rdy m st x then (au es env st).bind fun ds st => (mtD m x ds st).bind fun d st => match truth st d with | some b => .ok b st | none => .bad else .bad
 | .isi a t, env, st => (aa a env st).bind fun x st => match (dw st x).bind fun u => eu tab u t with | some b => .ok b st | none => .bad
 | _, _, _ => .bad
end
inductive Fl where
 | next (env : Env) | ret (d : D) | brk (env : Env) | cont (env : Env)
noncomputable def forLoop (all : List D) (p : Option Nat) (body : D → Env → Sto → Res Fl) : List D → Env → Sto → Res Fl
 | [], env, st => if stays st p all then .ok (.next env) st else .bad
 | d :: r, env, st => if stays st p all then (body d env st).bind fun f st' => match f with
  | .next env' => forLoop all p body r env' st'
  | .cont env' => forLoop all p body r env' st'
  | .brk env' => .ok (.next env') st'
  | .ret x => .ok (.ret x) st'
  else .bad
def Cr (ok : Sto → Bool) (body : D → Env → Sto → Res Fl) : List D → Env → Sto → Res Fl
 | [], env, st => if ok st then .ok (.next env) st else .bad
 | d :: r, env, st => if ok st then (body d env st).bind fun f st' => match f with
  | .next env' => Cr ok body r env' st'
  | .cont env' => Cr ok body r env' st'
  | .brk env' => .ok (.next env') st'
  | .ret x => .ok (.ret x) st'
  else .bad
noncomputable def whileLoop (test : Env → Sto → Res Bool) (body : Env → Sto → Res Fl) : Nat → Env → Sto → Res Fl
 | 0, _, _ => .bad
 | F + 1, env, st => (test env st).bind fun b st => if b then (body env st).bind fun f st' => match f with
  | .next env' => whileLoop test body F env' st'
  | .cont env' => whileLoop test body F env' st'
  | .brk env' => .ok (.next env') st'
  | .ret x => .ok (.ret x) st'
  else .ok (.next env) st
mutual
noncomputable def An (F : Nat) : S → Env → Sto → Res Fl
 | .set i e, env, st => (aa tab call e env st).bind fun d st => if i < env.length then .ok (.next (env.set i (some d))) st else .bad
 | .unp is e, env, st => (aa tab call e env st).bind fun d st => match store is false d env with | some env' => .ok (.next env') st | none => .bad
 | .par i j a b, env, st => (aa tab call a env st).bind fun x st => (aa tab call b env st).bind fun y st => if i < env.length ∧ j < env.length then .ok (.next ((env.set i (some x)).set j (some y))) st else .bad
 | .dput d k v, env, st => (aa tab call v env st).bind fun y st => (aa tab call d env st).bind fun x st => (aa tab call k env st).bind fun kk st => match x with
  | .loc n => match az st n with
   | some kvs => if ba kk = true ∧ kvs.length < sizeLine then .ok (.next env) (st.set n (.dcn (Bw kvs kk y))) else .bad
   | none => match st[n]?, kk with
    | some (.lst xs), .int i => if 0 ≤ i ∧ i < xs.length then .ok (.next env) (st.set n (.lst (xs.set i.toNat y))) else .bad
    | _, _ => .bad
  | _ => .bad
 | .ifS c a b, env, st => (Ap tab call c env st).bind fun x st => if x then ao F a env st else ao F b env st
 | .whileS c b, env, st => whileLoop (Ap tab call c) (ao F b) F env st
 | .forR tg es b, env, st => (au tab call es env st).bind fun ds st => match fk ds with
  | some xs => forLoop xs none (fun d env st => match store tg true d env with | some env' => ao F b env' st | none => .bad) xs env st
  | none => .bad
 | .forS tg one k it b, env, st => (aa tab call it env st).bind fun d st => match fj k st d with
  | some (xs, p) => forLoop xs p (fun d env st => match store tg one d env with | some env' => ao F b env' st | none => .bad) xs env st
  | none => .bad
 | .forD kd tg one it b, env, st => (aa tab call it env st).bind fun d st => match d with
  | .loc n => (match az st n with
   | some kvs => (Cr (fun _ => true) (fun d env st => match store tg one d env with | some env' => ao F b env' st | none => .bad) (cg kd kvs) env (st.set n (.dcg kvs))).bind fun f st' => (match f with
    | .next env' => (match ja n st' with | some st2 => .ok (.next env') st2 | none => .bad)
    | f => .ok f st')
   | none => .bad)
  | _ => .bad
 | .forZ t1 o1 t2 o2 a c b, env, st => (au tab call (.cons a (.cons c .nil)) env st).bind fun ds st => match ds with
  | [.loc n, .loc m] => (match aq st n, aq st m with
   | some xs, some ys => if xs.length ≤ ys.length then Cr (fun st => stays st (some n) xs && stays st (some m) ys) (fun d env st => match Ho t1 o1 t2 o2 d env with | some env' => ao F b env' st | none => .bad) (Eu xs ys) env st else .bad
   | _, _ => .bad)
  | _ => .bad
 | .ret e, env, st => (aa tab call e env st).bind fun d st => .ok (.ret d) st
 | .ex e, env, st => (aa tab call e env st).bind fun _ st => .ok (.next env) st
noncomputable def ao (F : Nat) : Ss → Env → Sto → Res Fl
 | .nil, env, st => .ok (.next env) st
 | .cons s r, env, st => (An F s env st).bind fun f st => match f with
  | .next env' => ao F r env' st
  | f => .ok f st
end
end
structure Fn where
 np : Nat
 nl : Nat
 body : Ss
noncomputable def fin (r : Res Fl) : Res D := r.bind fun f st => match f with
 | .next _ => .ok .non st
 | .ret d => .ok d st
 | _ => .bad
noncomputable def cj (tab : Nat → Ty → Option Bool) (fns : List Fn) (F : Nat) : Nat → Or
 | 0 => fun _ _ _ => .bad
 | n + 1 => fun f args st => match fns[f]? with
  | some fn => if args.length = fn.np ∧ fn.np ≤ fn.nl then fin (ao tab (cj tab fns F n) F fn.body (args.map some ++ List.replicate (fn.nl - fn.np) none) st) else .bad
  | none => .bad
end DD
namespace DD
open PySem L2
structure Lam where
 P : Addr := 0
 c : Addr := 0
 qual : Str := "<lambda>"
 params : Arguments := ⟨[], [], none, [], [], none, []⟩
 body : Expr := .Name "x" ⟨0, 0, 0, 0⟩
 scope : Scope := Bc (.Pass ⟨0, 0, 0, 0⟩)
 pos : Pos := ⟨0, 0, 0, 0⟩
 pm : Value := .none
structure CW where
 w : World
 f : Nat → Addr
 fn : Nat → Addr
 lam : Lam := {}
instance : CoeFun CW (fun _ => Nat → Addr) := ⟨CW.f⟩
section
variable (K : PySem.W.Frag)
mutual
def Rep (rho : List Addr) (H : Hp) : D → V → Prop
 | .non, v => v = .non
 | .bl b, v => v = .bl b
 | .int i, v => v = .int i
 | .str x, v => v = .str x
 | .tup ds, v => ∃ a vs, v = .ref a ∧ SqT K H a vs ∧ RepL rho H ds vs
 | .loc n, v => ∃ a, rho[n]? = some a ∧ v = .ref a
def RepL (rho : List Addr) (H : Hp) : List D → List V → Prop
 | [], vs => vs = []
 | d :: r, vs => ∃ v t, vs = v :: t ∧ Rep rho H d v ∧ RepL rho H r t
end
structure Keep (rho : List Addr) (H : Hp) (rho' : List Addr) (H' : Hp) : Prop where
 ext : ∃ m, rho' = rho ++ m
 tup : ∀ a xs, SqT K H a xs → SqT K H' a xs
 fz : ∀ a o u, H a = some (.frz o u) → H' a = some (.frz o u)
variable {K}
theorem Keep.refl (rho : List Addr) (H : Hp) : Keep K rho H rho H := ⟨⟨[], by simp⟩, fun _ _ h => h, fun _ _ _ h => h⟩
theorem Keep.trans {r1 r2 r3 : List Addr} {H1 H2 H3 : Hp} (a : Keep K r1 H1 r2 H2) (b : Keep K r2 H2 r3 H3) : Keep K r1 H1 r3 H3 := by
 obtain ⟨⟨m, rfl⟩, p, p2⟩ := a
 obtain ⟨⟨k, rfl⟩, q, q2⟩ := b
 exact ⟨⟨m ++ k, by simp⟩, fun a xs h => q a xs (p a xs h), fun a o ws h => q2 a o ws (p2 a o ws h)⟩
theorem Keep.at {r1 r2 : List Addr} {H1 H2 : Hp} (k : Keep K r1 H1 r2 H2) {n : Nat} {a : Addr} (h : r1[n]? = some a) : r2[n]? = some a := by
 obtain ⟨⟨m, rfl⟩, _⟩ := k
 have : n < r1.length := (List.getElem?_eq_some_iff.mp h).1
 rw [List.getElem?_append_left this]; exact h
mutual
theorem Rep.mono {r1 r2 : List Addr} {H1 H2 : Hp} (k : Keep K r1 H1 r2 H2) : ∀ {d : D} {v : V}, Rep K r1 H1 d v → Rep K r2 H2 d v
 | .non, v, h => by simpa [Rep] using h
 | .bl b, v, h => by simpa [Rep] using h
 | .int b, v, h => by simpa [Rep] using h
 | .str b, v, h => by simpa [Rep] using h
 | .tup ds, v, h => by
  simp only [Rep] at h ⊢
  obtain ⟨a, vs, e, q, r⟩ := h
  exact ⟨a, vs, e, k.tup a vs q, RepL.mono k r⟩
 | .loc n, v, h => by
  simp only [Rep] at h ⊢
  obtain ⟨a, e, q⟩ := h
  exact ⟨a, k.at e, q⟩
theorem RepL.mono {r1 r2 : List Addr} {H1 H2 : Hp} (k : Keep K r1 H1 r2 H2) : ∀ {d : List D} {v : List V}, RepL K r1 H1 d v → RepL K r2 H2 d v
 | [], v, h => by simpa [RepL] using h
 | x :: r, v, h => by
  simp only [RepL] at h ⊢
  obtain ⟨y, t, e, p, q⟩ := h
  exact ⟨y, t, e, Rep.mono k p, RepL.mono k q⟩
end
theorem RepL.length {r : List Addr} {H : Hp} : ∀ {ds : List D} {vs : List V}, RepL K r H ds vs → ds.length = vs.length
 | [], vs, h => by simp only [RepL] at h; subst h; rfl
 | x :: t, vs, h => by
  simp only [RepL] at h
  obtain ⟨y, u, rfl, _, q⟩ := h
  simp [RepL.length q]
theorem RepL.get : ∀ {ds : List D} {vs : List V} {i : Nat} {d : D}, RepL K r H ds vs → ds[i]? = some d → ∃ v, vs[i]? = some v ∧ Rep K r H d v
 | [], vs, i, d, h, e => by simp at e
 | x :: t, vs, 0, d, h, e => by
  simp only [RepL] at h
  obtain ⟨y, u, rfl, p, q⟩ := h
  simp at e; subst e
  exact ⟨y, rfl, p⟩
 | x :: t, vs, i + 1, d, h, e => by
  simp only [RepL] at h
  obtain ⟨y, u, rfl, p, q⟩ := h
  simp at e
  obtain ⟨v, e1, e2⟩ := RepL.get q e
  exact ⟨v, by simpa using e1, e2⟩
theorem RepL.append : ∀ {ds es : List D} {vs us : List V}, RepL K r H ds vs → RepL K r H es us → RepL K r H (ds ++ es) (vs ++ us)
 | [], es, vs, us, h, g => by simp only [RepL] at h; subst h; simpa using g
 | x :: t, es, vs, us, h, g => by
  simp only [RepL] at h
  obtain ⟨y, u, rfl, p, q⟩ := h
  show RepL K r H (x :: (t ++ es)) (y :: (u ++ us))
  simp only [RepL]
  exact ⟨y, u ++ us, rfl, p, RepL.append q g⟩
theorem RepL.rep (h : RepL K r H ds vs) : ∀ k : Nat, RepL K r H (List.replicate k ds).flatten (List.replicate k vs).flatten
 | 0 => by simp [RepL]
 | k + 1 => by
  rw [List.replicate_succ, List.replicate_succ, List.flatten_cons, List.flatten_cons]
  exact h.append (RepL.rep h k)
theorem Bo.keep (s : Bo H H') (rho : List Addr) : Keep K rho H rho H' := ⟨⟨[], by simp⟩, fun a xs h => by
 rcases h with h | h
 · rcases h with h | ⟨o, h⟩
   · exact .inl (.inl (s _ _ h))
   · exact .inl (.inr ⟨o, s _ _ h⟩)
 · exact .inr h, fun a o ws h => s _ _ h⟩
theorem Ew (h : H p = none) (o : HO) : Bo H (upd H p o) := fun b u q => by rw [As (El q h)]; exact q
variable (K) (cls : CW)
def kD : D → Option Key
 | .int i => some (.inl i)
 | .str x => some (.inr x)
 | _ => none
def gp (rho : List Addr) (H : Hp) : List (D × D) → List (Key × V) → Prop
 | [], ws => ws = []
 | (k, d) :: r, ws => ∃ k' v t, ws = (k', v) :: t ∧ kD k = some k' ∧ Rep K rho H d v ∧ gp rho H r t
def Cw (w : World) : Nat → D → Int
 | _, .int i => hashInt i
 | _, .str x => hashStr w x
 | n + 1, .tup ds => reduceHash (Builtin.Tuple.tupleHashOf (ds.map (Cw w n)))
 | _, _ => 0
def Am (w : World) (a : Addr) (xs : List (D × Addr × V)) : Heap → Prop := fun h => (a == sysModules) = false ∧ xs.length ≤ sizeLine ∧ (xs.map (·.1)).Nodup ∧ ∃ o es ep, h.get? a = some o ∧ o.ExactDict ∧ o.data = .dict es ep ∧
 Paired (fun (x : D × Addr × V) (e : DictEntry) => e.hash = Cw w 8 x.1 ∧ e.key = .ref x.2.1 ∧ RelV x.2.2 e.val) xs es.toList
def Aj (rho : List Addr) (H : Hp) : List (D × D) → List (D × Addr × V) → Prop
 | [], ws => ws = []
 | (k, d) :: r, ws => ∃ b v t, ws = (k, b, v) :: t ∧ ba k = true ∧ Rep K rho H k (.ref b) ∧ Rep K rho H d v ∧ Aj rho H r t
def Yj (H : Hp) (a : Addr) (xs : List V) : Prop := (∃ o, H a = some (.frz o (.lst xs))) ∨
 ∃ (o : Obj) (its : Array Value) (n : Nat), K.lookup a = some o ∧ o.cls = .type "list" ∧ o.dict = none ∧ o.data = .seq its n ∧ its.size ≤ sizeLine ∧ Vals xs its.toList
def trk : Cell → Bool
 | .frz _ => false
 | _ => true
def Qg (oc : Obj) (q : Str) : Prop := ∃ vs t, oc.data = .fields vs ∧ vs[1]? = some (.str q t)
def Dw (L : Lam) (H : Hp) (a : Addr) : Prop := ∃ c' oc ctv, H a = some (.frz (PySem.W.kla_obj "<lambda>" L.qual L.params L.body L.scope [] L.pm c' ctv) (.own 0)) ∧ H c' = some (.frz oc (.own 0)) ∧ Qg oc L.qual
def Gp (L : Lam) (H : Hp) (a : Addr) : Prop := a = L.P ∧ ∃ ps, H a = some (.tbl ps) ∧ TriplesOk ps.toList ∧ (codeAmong L.pos ps.toList = none ∨ ∃ c' oc, codeAmong L.pos ps.toList = some (.ref c') ∧ H c' = some (.frz oc (.own 0)) ∧ Qg oc L.qual)
theorem Dw.mono (h : Dw L H a) (k : ∀ b o, H b = some (.frz o (.own 0)) → H' b = some (.frz o (.own 0))) : Dw L H' a :=
 let ⟨c', oc, ctv, h1, h2, h3⟩ := h; ⟨c', oc, ctv, k _ _ h1, k _ _ h2, h3⟩
theorem Gp.mono (h : Gp L H a) (k : ∀ b o, H b = some (.frz o (.own 0)) → H' b = some (.frz o (.own 0))) (e : ∀ o, H a = some o → H' a = some o) : Gp L H' a := by
 obtain ⟨h0, ps, h1, h2, h3⟩ := h
 refine ⟨h0, ps, e _ h1, h2, ?_⟩
 rcases h3 with h3 | ⟨c', oc, h3, h4, h5⟩
 · exact .inl h3
 · exact .inr ⟨c', oc, h3, k _ _ h4, h5⟩
def Dx (rho : List Addr) (H : Hp) (a : Addr) : Cell → Prop
 | .lst ds => ∃ vs, H a = some (.lst vs) ∧ RepL K rho H ds vs
 | .frz ds => ∃ vs, Yj K H a vs ∧ RepL K rho H ds vs
 | .dcn kvs => ∃ xs, H a = some (.ext (Am cls.w a xs)) ∧ Aj K rho H kvs xs
 | .dcg kvs => ∃ xs o, H a = some (.frz o (.ext (Am cls.w a xs))) ∧ Aj K rho H kvs xs
 | .lamT => Gp cls.lam H a
 | .fnl => Dw cls.lam H a
structure StoRep (rho : List Addr) (st : Sto) (H : Hp) : Prop where
 len : rho.length = st.length
 nd : ∀ (n m : Nat) (a : Addr) (c d : Cell), rho[n]? = some a → rho[m]? = some a → st[n]? = some c → st[m]? = some d → trk c = true → trk d = true → n = m
 cells : ∀ (n : Nat) (a : Addr) (c : Cell), rho[n]? = some a → st[n]? = some c → Dx K cls rho H a c
structure EnvRep (rho : List Addr) (H : Hp) (env : Env) (sg : St) : Prop where
 len : env.length = sg.length
 val : ∀ (i : Nat) (d : D), env[i]? = some (some d) → ∃ v, sg[i]? = some (some v) ∧ Rep K rho H d v
variable {K cls}
theorem gp.mono {r1 r2 : List Addr} {H1 H2 : Hp} (k : Keep K r1 H1 r2 H2) : ∀ {kvs : List (D × D)} {ws : List (Key × V)}, gp K r1 H1 kvs ws → gp K r2 H2 kvs ws
 | [], ws, h => by simpa [gp] using h
 | (x, d) :: r, ws, h => by
  simp only [gp] at h ⊢
  obtain ⟨k', v, t, e, p, q, w⟩ := h
  exact ⟨k', v, t, e, p, Rep.mono k q, gp.mono k w⟩
theorem Aj.mono {r1 r2 : List Addr} {H1 H2 : Hp} (k : Keep K r1 H1 r2 H2) : ∀ {kvs : List (D × D)} {ws : List (D × Addr × V)}, Aj K r1 H1 kvs ws → Aj K r2 H2 kvs ws
 | [], ws, h => by simpa [Aj] using h
 | (x, d) :: r, ws, h => by
  simp only [Aj] at h ⊢
  obtain ⟨b, v, t, e, p, q, u, w⟩ := h
  exact ⟨b, v, t, e, p, Rep.mono k q, Rep.mono k u, Aj.mono k w⟩
theorem Dx.stay (k : Keep K r1 H1 r2 H2) (h : Dx K cls r1 H1 a c) (e : ∀ o, H1 a = some o → H2 a = some o) : Dx K cls r2 H2 a c := by
 cases c with
 | lst ds => obtain ⟨vs, p, q⟩ := h; exact ⟨vs, e _ p, q.mono k⟩
 | frz ds =>
  obtain ⟨vs, p, q⟩ := h
  refine ⟨vs, ?_, q.mono k⟩
  rcases p with ⟨o, p⟩ | p
  · exact .inl ⟨o, e _ p⟩
  · exact .inr p
 | dcn kvs => obtain ⟨ws, p, q⟩ := h; exact ⟨ws, e _ p, q.mono k⟩
 | dcg kvs => obtain ⟨ws, o, p, q⟩ := h; exact ⟨ws, o, e _ p, q.mono k⟩
 | lamT => exact Gp.mono h (fun b o => k.fz b o _) e
 | fnl => exact Dw.mono h (fun b o => k.fz b o _)
theorem Dx.some {r : List Addr} {H : Hp} {a : Addr} {c : Cell} (h : Dx K cls r H a c) (t : trk c = true) : ∃ o, H a = some o := by
 cases c with
 | lst ds => obtain ⟨vs, p, q⟩ := h; exact ⟨_, p⟩
 | frz ds => cases t
 | dcn kvs => obtain ⟨ws, p, q⟩ := h; exact ⟨_, p⟩
 | dcg kvs => obtain ⟨ws, o, p, q⟩ := h; exact ⟨_, p⟩
 | lamT => obtain ⟨_, ps, p, _⟩ := h; exact ⟨_, p⟩
 | fnl => obtain ⟨_, _, _, p, _⟩ := h; exact ⟨_, p⟩
theorem StoRep.same (s : StoRep K cls rho st H) (e : Bo H H') : StoRep K cls rho st H' :=
 ⟨s.len, s.nd, fun n a c p q => (s.cells n a c p q).stay (Bo.keep e rho) (fun o h => e _ _ h)⟩
theorem EnvRep.mono {r1 r2 : List Addr} {H1 H2 : Hp} (k : Keep K r1 H1 r2 H2) {env : Env} {sg : St} (h : EnvRep K r1 H1 env sg) : EnvRep K r2 H2 env sg :=
 ⟨h.len, fun i d e => let ⟨v, p, q⟩ := h.val i d e; ⟨v, p, q.mono k⟩⟩
theorem EnvRep.set {rho : List Addr} {H : Hp} {env : Env} {sg : St} (h : EnvRep K rho H env sg) (i : Nat) {d : D} {v : V} (r : Rep K rho H d v) : EnvRep K rho H (env.set i (some d)) (sg.set i (some v)) := by
 refine ⟨by simp [h.len], fun j x e => ?_⟩
 rw [List.getElem?_set] at e ⊢
 have hl := h.len
 by_cases ij : i = j
 · subst ij
   rw [if_pos rfl] at e ⊢
   by_cases hi : i < env.length
   · rw [if_pos hi] at e
     rw [if_pos (by omega)]
     cases e
     exact ⟨v, rfl, r⟩
   · rw [if_neg hi] at e; cases e
 · rw [if_neg ij] at e ⊢
   exact h.val j x e
theorem StoRep.laid (s : StoRep K cls rho st H) (hp : H p = none) (hc : Dx K cls (rho ++ [p]) (upd H p o) p c) :
 Keep K rho H (rho ++ [p]) (upd H p o) ∧ StoRep K cls (rho ++ [p]) (st ++ [c]) (upd H p o) := by
 have e := Ew hp o
 have k : Keep K rho H (rho ++ [p]) (upd H p o) := ⟨⟨[p], rfl⟩, (Bo.keep e rho).tup, (Bo.keep (K := K) e rho).fz⟩
 have old : ∀ (n : Nat) (x : Cell), rho[n]? = some p → st[n]? = some x → trk x = true → False := fun n x h1 h2 ht => by
  obtain ⟨u, hu⟩ := (s.cells n p x h1 h2).some ht
  rw [hp] at hu; cases hu
 have at_lt : ∀ (n : Nat) (a : Addr) (x : Cell), (rho ++ [p])[n]? = some a → (st ++ [c])[n]? = some x → (n < rho.length ∧ rho[n]? = some a ∧ st[n]? = some x) ∨ (n = rho.length ∧ a = p ∧ x = c) := fun n a x h1 h2 => by
  by_cases hn : n < rho.length
  · rw [List.getElem?_append_left hn] at h1
    rw [List.getElem?_append_left (by rw [← s.len]; exact hn)] at h2
    exact .inl ⟨hn, h1, h2⟩
  · have hn' : n = rho.length := by
     have := (List.getElem?_eq_some_iff.mp h1).1
     simp at this; omega
    subst hn'
    rw [List.getElem?_append_right (Nat.le_refl _)] at h1
    rw [s.len, List.getElem?_append_right (Nat.le_refl _)] at h2
    simp at h1 h2
    exact .inr ⟨rfl, h1.symm, h2.symm⟩
 refine ⟨k, by simp [s.len], fun n m a x y h1 h2 h3 h4 t1 t2 => ?_, fun n a x h1 h2 => ?_⟩
 · rcases at_lt n a x h1 h3 with ⟨_, g1, g2⟩ | ⟨e1, e2, e3⟩
   · rcases at_lt m a y h2 h4 with ⟨_, g3, g4⟩ | ⟨f1, f2, f3⟩
     · exact s.nd n m a x y g1 g3 g2 g4 t1 t2
     · subst f2; exact (old n x g1 g2 t1).elim
   · rcases at_lt m a y h2 h4 with ⟨_, g3, g4⟩ | ⟨f1, f2, f3⟩
     · subst e2; exact (old m y g3 g4 t2).elim
     · omega
 · rcases at_lt n a x h1 h2 with ⟨_, g1, g2⟩ | ⟨e1, e2, e3⟩
   · exact (s.cells n a x g1 g2).stay k fun u hu => e _ _ hu
   · subst e2 e3; exact hc
theorem StoRep.wroteC (s : StoRep K cls rho st H) (ha : rho[n]? = some a) (hl0 : st[n]? = some c0) (ht0 : trk c0 = true) (hH : H a = some o0) (hno : (∀ xs, o0 ≠ .tup xs) ∧ ∀ u x, o0 ≠ .frz u x) (hc : ∀ H2, H2 a = some o → Keep K rho H rho H2 → Dx K cls rho H2 a c1) :
 Keep K rho H rho (upd H a o) ∧ StoRep K cls rho (st.set n c1) (upd H a o) := by
 have k : Keep K rho H rho (upd H a o) := ⟨⟨[], by simp⟩, fun b xs h => by
  rcases h with h | h
  · rcases h with h | ⟨o, h⟩
    · exact .inl (.inl (by rw [As (Cz h hH (fun z => hno.1 _ z.symm))]; exact h))
    · exact .inl (.inr ⟨o, by rw [As (Cz h hH (fun z => hno.2 _ _ z.symm))]; exact h⟩)
  · exact .inr h, fun b u ws h => by rw [As (Cz h hH (fun z => hno.2 _ _ z.symm))]; exact h⟩
 refine ⟨k, by simp [s.len], fun m1 m2 b c d h1 h2 h3 h4 t1 t2 => ?_, fun m b c h1 h2 => ?_⟩
 · have tr : ∀ (m : Nat) (c : Cell), (st.set n c1)[m]? = some c → trk c = true → rho[m]? = some b → ∃ c', st[m]? = some c' ∧ trk c' = true := fun m c h t hr => by
    rw [List.getElem?_set] at h
    by_cases e : n = m
    · subst e
      rw [ha] at hr; cases hr
      exact ⟨_, hl0, ht0⟩
    · rw [if_neg e] at h; exact ⟨c, h, t⟩
   obtain ⟨c1, e1, f1⟩ := tr m1 c h3 t1 h1
   obtain ⟨c2, e2, f2⟩ := tr m2 d h4 t2 h2
   exact s.nd m1 m2 b c1 c2 h1 h2 e1 e2 f1 f2
 rw [List.getElem?_set] at h2
 by_cases e : n = m
 · subst e
   rw [if_pos rfl] at h2
   rw [ha] at h1; cases h1
   by_cases hl : n < st.length
   · rw [if_pos hl] at h2; cases h2
     exact hc _ Bm k
   · rw [if_neg hl] at h2; cases h2
 · rw [if_neg e] at h2
   cases ht : trk c with
   | true =>
    have hne : b ≠ a := fun z => by
     subst z
     exact e (s.nd n m b _ c ha h1 hl0 h2 ht0 ht)
    exact (s.cells m b c h1 h2).stay k fun o ho => by rw [As hne]; exact ho
   | false =>
    cases c with
    | frz xs =>
     obtain ⟨us, p, q⟩ := s.cells m b (.frz xs) h1 h2
     refine ⟨us, ?_, q.mono k⟩
     rcases p with ⟨o, p⟩ | p
     · exact .inl ⟨o, by rw [As (Cz p hH (fun z => hno.2 _ _ z.symm))]; exact p⟩
     · exact .inr p
    | _ => cases ht
theorem StoRep.wrote (s : StoRep K cls rho st H) (ha : rho[n]? = some a) (hl0 : st[n]? = some (.lst ds0)) (hH : H a = some (.lst vs)) (hd : RepL K rho H ds ws) :
 Keep K rho H rho (upd H a (.lst ws)) ∧ StoRep K cls rho (st.set n (.lst ds)) (upd H a (.lst ws)) :=
 s.wroteC ha hl0 rfl hH ⟨fun _ => nofun, fun _ _ => nofun⟩ fun H2 e k => ⟨ws, e, hd.mono k⟩
end
end DD
namespace DD
open PySem PySem.Spec L2
structure G where
 K : PySem.W.Frag
 cls : CW
 tab : Nat → Ty → Option Bool
 call : Or
 xk : XK
variable (g : G)
abbrev G.Rep := DD.Rep g.K
abbrev G.RepL := DD.RepL g.K
abbrev G.Keep := DD.Keep g.K
abbrev G.Sto := DD.StoRep g.K g.cls
abbrev G.Env := DD.EnvRep g.K
def RQ {α : Type} (r : Res α) (ok : α → Sto → Prop) (rho : List Addr) (H : Hp) : Prop := match r with
 | .ok a st => ok a st
 | .exc c st => ∀ H' rho', g.Keep rho H rho' H' → g.Sto rho' st H' → ∀ ch, (c = 2 → ch = none) → g.xk (.ref (g.cls c)) ch H'
 | .bad => False
def Aq (rho : List Addr) (H : Hp) (Q : VK) (d : D) (st : Sto) : Prop := ∀ v H' rho', g.Keep rho H rho' H' → g.Sto rho' st H' → g.Rep rho' H' d v → Q v H'
def qh (rho : List Addr) (H : Hp) (Q : List V → Hp → Prop) (d : List D) (st : Sto) : Prop := ∀ v H' rho', g.Keep rho H rho' H' → g.Sto rho' st H' → g.RepL rho' H' d v → Q v H'
def Di (rho : List Addr) (H : Hp) (Q : Bool → Hp → Prop) (b : Bool) (st : Sto) : Prop := ∀ H' rho', g.Keep rho H rho' H' → g.Sto rho' st H' → Q b H'
def tE (e : E) : TE := fun sg H Q => ∃ rho st env, g.Sto rho st H ∧ g.Env rho H env sg ∧ RQ g (aa g.tab g.call e env st) (Aq g rho H Q) rho H
def tEs (e : Es) : TA := fun sg H Q => ∃ rho st env, g.Sto rho st H ∧ g.Env rho H env sg ∧ RQ g (au g.tab g.call e env st) (qh g rho H Q) rho H
def tT (e : E) : TT := fun sg H Q => ∃ rho st env, g.Sto rho st H ∧ g.Env rho H env sg ∧ RQ g (Ap g.tab g.call e env st) (Di g rho H Q) rho H
variable {g}
theorem RQ.mono {α : Type} {r : Res α} {ok ok' : α → Sto → Prop} {rho rho' : List Addr} {H H' : Hp} (k : g.Keep rho H rho' H') (h : RQ g r ok rho H) (ho : ∀ a st, ok a st → ok' a st) : RQ g r ok' rho' H' := by
 cases r with
 | ok a st => exact ho _ _ h
 | exc c st => exact fun H2 r2 k2 s2 => h H2 r2 (k.trans k2) s2
 | bad => exact h
theorem Aq.mono {rho rho' : List Addr} {H H' : Hp} {Q : VK} (k : g.Keep rho H rho' H') {d : D} {st : Sto} (h : Aq g rho H Q d st) : Aq g rho' H' Q d st := fun v H2 r2 k2 => h v H2 r2 (k.trans k2)
theorem Di.mono {rho rho' : List Addr} {H H' : Hp} {Q : Bool → Hp → Prop} (k : g.Keep rho H rho' H') {d : Bool} {st : Sto} (h : Di g rho H Q d st) : Di g rho' H' Q d st := fun H2 r2 k2 => h H2 r2 (k.trans k2)
theorem step {β : Type} {e : E} {env : Env} {sg : St} {st : Sto} {rho : List Addr} {H : Hp} {k : D → Sto → Res β} {ok : β → Sto → Prop} {Q : VK} (s : g.Sto rho st H) (n : g.Env rho H env sg)
 (h : RQ g ((aa g.tab g.call e env st).bind k) ok rho H)
 (hk : ∀ d st1 v H1 rho1, g.Keep rho H rho1 H1 → g.Sto rho1 st1 H1 → g.Env rho1 H1 env sg → g.Rep rho1 H1 d v → RQ g (k d st1) ok rho1 H1 → Q v H1) : tE g e sg H Q := by
 refine ⟨rho, st, env, s, n, ?_⟩
 revert h
 cases aa g.tab g.call e env st with
 | ok d st1 => exact fun h v H1 r1 k1 s1 rp => hk d st1 v H1 r1 k1 s1 (n.mono k1) rp (RQ.mono k1 h fun _ _ x => x)
 | exc c st1 => exact fun h => h
 | bad => exact fun h => h
theorem Hq {β : Type} {e : Es} {env : Env} {sg : St} {st : Sto} {rho : List Addr} {H : Hp} {k : List D → Sto → Res β} {ok : β → Sto → Prop} {Q : List V → Hp → Prop} (s : g.Sto rho st H) (n : g.Env rho H env sg)
 (h : RQ g ((au g.tab g.call e env st).bind k) ok rho H)
 (hk : ∀ d st1 v H1 rho1, g.Keep rho H rho1 H1 → g.Sto rho1 st1 H1 → g.Env rho1 H1 env sg → g.RepL rho1 H1 d v → RQ g (k d st1) ok rho1 H1 → Q v H1) : tEs g e sg H Q := by
 refine ⟨rho, st, env, s, n, ?_⟩
 revert h
 cases au g.tab g.call e env st with
 | ok d st1 => exact fun h v H1 r1 k1 s1 rp => hk d st1 v H1 r1 k1 s1 (n.mono k1) rp (RQ.mono k1 h fun _ _ x => x)
 | exc c st1 => exact fun h => h
 | bad => exact fun h => h
theorem stepT {β : Type} {e : E} {env : Env} {sg : St} {st : Sto} {rho : List Addr} {H : Hp} {k : Bool → Sto → Res β} {ok : β → Sto → Prop} {Q : Bool → Hp → Prop} (s : g.Sto rho st H) (n : g.Env rho H env sg)
 (h : RQ g ((Ap g.tab g.call e env st).bind k) ok rho H)
 (hk : ∀ d st1 H1 rho1, g.Keep rho H rho1 H1 → g.Sto rho1 st1 H1 → g.Env rho1 H1 env sg → RQ g (k d st1) ok rho1 H1 → Q d H1) : tT g e sg H Q := by
 refine ⟨rho, st, env, s, n, ?_⟩
 revert h
 cases Ap g.tab g.call e env st with
 | ok d st1 => exact fun h H1 r1 k1 s1 => hk d st1 H1 r1 k1 s1 (n.mono k1) (RQ.mono k1 h fun _ _ x => x)
 | exc c st1 => exact fun h => h
 | bad => exact fun h => h
variable {X : Cx} {a b c : Expr} {a' b' c' : E} {pos : Pos}
def Sd (g : G) (X : Cx) (e : Expr) (e' : E) : Prop := PE X e (tE g e')
def SdT (g : G) (X : Cx) (e : Expr) (e' : E) : Prop := PT X e (tT g e')
def SdL (g : G) (X : Cx) (es : List Expr) (es' : Es) : Prop := PA X es (tEs g es')
theorem Bj (h : PE X e t) (hi : ∀ sg H Q, t' sg H Q → t sg H Q) : PE X e t' := fun pins s sg H Q I q => h pins s sg H Q I (hi _ _ _ q)
theorem Ey (h : PT X e t) (hi : ∀ sg H Q, t' sg H Q → t sg H Q) : PT X e t' := fun pins s sg H Q I q => h pins s sg H Q I (hi _ _ _ q)
theorem Qh (h : PA X e t) (hi : ∀ sg H Q, t' sg H Q → t sg H Q) : PA X e t' := fun pos pins s sg H Q I q => h pos pins s sg H Q I (hi _ _ _ q)
theorem Cs (i : Nat) (h : PE X (.Name x pos) (Lz i)) : Sd g X (.Name x pos) (.var i) := Bj h fun sg H Q q => by
 obtain ⟨rho, st, env, s, n, q⟩ := q
 simp only [aa] at q
 cases e : Dd env i with
 | none => rw [e] at q; exact q.elim
 | some d =>
  rw [e] at q
  have e' : env[i]? = some (some d) := by
   unfold Dd at e
   cases z : env[i]? with
   | none => rw [z] at e; cases e
   | some o => rw [z] at e; cases o with
    | none => cases e
    | some y => cases e; rfl
  obtain ⟨v, e1, r⟩ := n.val i d e'
  exact ⟨v, e1, q v H rho (.refl _ _) s r⟩
theorem Mi (h : PE X e (tC v)) (hr : ∀ rho H, g.Rep rho H d v) : Sd g X e (.cst d) := Bj h fun sg H Q q => by
 obtain ⟨rho, st, env, s, n, q⟩ := q
 exact q v H rho (.refl _ _) s (hr _ _)
theorem ae {i j pos} : Sd g X (.Constant (.int i) j pos) (.cst (.int i)) := Mi vq fun _ _ => by simp [Rep]
theorem Jz {i j pos} : Sd g X (.Constant (.bool i) j pos) (.cst (.bl i)) := Mi Vq fun _ _ => by simp [Rep]
theorem bh {x j pos} : Sd g X (.Constant (.str x) j pos) (.cst (.str x)) := Mi Vr fun _ _ => by simp [Rep]
theorem Ag : SdL g X [] .nil := Qh me fun sg H Q q => by
 obtain ⟨rho, st, env, s, n, q⟩ := q
 exact q [] H rho (.refl _ _) s (by simp [RepL])
theorem Ad {e : Expr} {es : List Expr} {e' : E} {es' : Es} (h : Sd g X e e') (t : SdL g X es es') (hs : starEach (e :: es) X.env = (false, eval e X.env) :: starEach es X.env := by rfl) : SdL g X (e :: es) (.cons e' es') :=
 Qh (Iy h t hs) fun sg H Q q => by
  obtain ⟨rho, st, env, s, n, q⟩ := q
  simp only [au] at q
  refine step s n q fun d st1 v H1 r1 k1 s1 n1 rp q1 => ?_
  refine Hq s1 n1 q1 fun ds st2 vs H2 r2 k2 s2 n2 rps q2 => ?_
  have q2 : qh g rho H Q (d :: ds) st2 := q2
  exact q2 (v :: vs) H2 r2 (k1.trans k2) s2 (by simp only [RepL]; exact ⟨v, vs, rfl, rp.mono k2, rps⟩)
theorem Bg {es : List Expr} {es' : Es} {x1} (h : SdL g X es es') : Sd g X (.Tuple es x1 pos) (.tupE es') := Bj (xj h) fun sg H Q q => by
 obtain ⟨rho, st, env, s, n, q⟩ := q
 simp only [aa] at q
 refine Hq s n q fun ds st1 vs H1 r1 k1 s1 n1 rps q1 => ?_
 have hl := rps.length
 by_cases z : ds.length ≤ sizeLine
 · rw [if_pos z] at q1
   refine ⟨by omega, fun p hp => ?_⟩
   have q1 : Aq g rho H Q (.tup ds) st1 := q1
   have e := Ew hp (.tup vs)
   refine q1 (.ref p) _ r1 (k1.trans (Bo.keep e r1)) (s1.same e) ?_
   simp only [Rep]
   exact ⟨p, vs, rfl, SqT.of Bm, rps.mono (Bo.keep e r1)⟩
 · rw [if_neg z] at q1; exact q1.elim
theorem cx {es : List Expr} {es' : Es} (h : SdL g X es es') : Sd g X (.List es pos) (.lstE es') := Bj (Xj h) fun sg H Q q => by
 obtain ⟨rho, st, env, s, n, q⟩ := q
 simp only [aa] at q
 refine Hq s n q fun ds st1 vs H1 r1 k1 s1 n1 rps q1 => ?_
 have hl := rps.length
 by_cases z : ds.length ≤ sizeLine
 · rw [if_pos z] at q1
   refine ⟨by omega, fun p hp => ?_⟩
   have q1 : Aq g rho H Q (.loc st1.length) (st1 ++ [.lst ds]) := q1
   have e := Ew hp (.lst vs)
   have kk : g.Keep r1 H1 (r1 ++ [p]) (upd H1 p (.lst vs)) := ⟨⟨[p], rfl⟩, (Bo.keep e r1).tup, (Bo.keep (K := g.K) e r1).fz⟩
   obtain ⟨k2, s2⟩ := s1.laid hp (o := .lst vs) (c := .lst ds) ⟨vs, Bm, rps.mono kk⟩
   refine q1 (.ref p) _ _ (k1.trans k2) s2 ?_
   simp only [Rep]
   exact ⟨p, by rw [← s1.len]; simp, rfl⟩
 · rw [if_neg z] at q1; exact q1.elim
theorem two {o : V → V → Hp → VK → Prop} {k : D → D → Sto → Res D} (hop : ∀ x y u v st rho H Q, g.Sto rho st H → g.Rep rho H x u → g.Rep rho H y v → RQ g (k x y st) (Aq g rho H Q) rho H → o u v H Q)
 {sg : St} {H : Hp} {Q : VK} {rho : List Addr} {st : Sto} {env : Env} (s : g.Sto rho st H) (n : g.Env rho H env sg)
 (q : RQ g ((aa g.tab g.call a' env st).bind fun x st => (aa g.tab g.call b' env st).bind fun y st => k x y st) (Aq g rho H Q) rho H) : tOp o (tE g a') (tE g b') sg H Q := by
 refine step s n q fun x st1 u H1 r1 k1 s1 n1 rp q1 => ?_
 refine step s1 n1 q1 fun y st2 v H2 r2 k2 s2 n2 rp2 q2 => ?_
 exact hop x y u v st2 r2 H2 Q s2 (rp.mono k2) rp2 (RQ.mono (.refl _ _) q2 fun d st p => p.mono (k1.trans k2))
variable {g : G} {X : Cx} {a b c : Expr} {a' b' c' : E} {pos : Pos}
theorem qi (h : i.natAbs < BIG) : Builtin.Int.intBits i ≤ 8000 := by
 unfold Builtin.Int.intBits
 split
 · omega
 · rename_i h0
   have hz : i.natAbs ≠ 0 := by
    intro z; apply h0; simp [Int.natAbs_eq_zero.mp z]
   have : i.natAbs.log2 < 8000 := (Nat.log2_lt hz).mpr h
   omega
theorem Ep.ok {i j : Int} (h : Ep i j) : IntMulOk i j := by
 rcases h with h | h | h
 · exact .of_left (intBits_le_64 h.1 h.2)
 · exact .of_right (intBits_le_64 h.1 h.2)
 · exact IntMulOk.of_bits (Nat.le_trans (qi h.1) (by decide)) (Nat.le_trans (qi h.2) (by decide))
theorem Dp.py (h : Dp j) : Builtin.divisionGoesByPylong i j = false := by
 refine PyProof.noPylong_of_log2 ?_
 have hz : j.natAbs ≠ 0 := fun z => h.1 (Int.natAbs_eq_zero.mp z)
 have : j.natAbs.log2 < 8000 := (Nat.log2_lt hz).mpr h.2
 omega
theorem yk : OpR X (binaryOp .Mult) (rI (fun i j => Ep i j) fun i j => .int (i * j)) := opI fun _ _ _ _ _ _ _ hc q => PyProof.Rows.mul_int q hc.ok
theorem Yk : OpR X (binaryOp .FloorDiv) (rI (fun _ j => Dp j) fun i j => .int (i.fdiv j)) := opI fun _ _ _ _ _ _ _ hc q => PyProof.Rows.floordiv_int hc.1 q (.inl hc.py)
theorem av {rho : List Addr} {H : Hp} {i : Int} {v : V} : g.Rep rho H (.int i) v ↔ v = .int i := by simp [Rep]
theorem Cg : g.Rep rho H (.bl i) v ↔ v = .bl i := by simp [Rep]
theorem Hr : g.Rep rho H .non v ↔ v = .non := by simp [Rep]
theorem Fo : g.Rep rho H (.str x) v ↔ v = .str x := by simp [Rep]
theorem Bh : g.Rep rho H (.loc n) v ↔ ∃ a, rho[n]? = some a ∧ v = .ref a := by simp [Rep]
theorem Cj : g.Rep rho H (.tup ds) v ↔ ∃ a vs, v = .ref a ∧ SqT g.K H a vs ∧ g.RepL rho H ds vs := by simp [Rep]
theorem Ez {rho : List Addr} {st : Sto} {H : Hp} (s : g.Sto rho st H) {n : Nat} {ds : List D} (h : st[n]? = some (.lst ds)) : ∃ a vs, rho[n]? = some a ∧ H a = some (.lst vs) ∧ g.RepL rho H ds vs := by
 have hl : n < rho.length := by rw [s.len]; exact (List.getElem?_eq_some_iff.mp h).1
 obtain ⟨vs, p, q⟩ := s.cells n rho[n] (.lst ds) (List.getElem?_eq_getElem hl) h
 exact ⟨_, vs, List.getElem?_eq_getElem hl, p, q⟩
theorem De {rho : List Addr} {st : Sto} {H : Hp} (s : g.Sto rho st H) {n : Nat} {ds : List D} (h : aq st n = some ds) : ∃ a vs, rho[n]? = some a ∧ SqL g.K H a vs ∧ g.RepL rho H ds vs := by
 unfold aq at h
 split at h
 · rename_i xs e
   cases h
   obtain ⟨a, vs, p, q, r⟩ := Ez s e
   exact ⟨a, vs, p, SqL.of q, r⟩
 · rename_i xs e
   cases h
   have hl : n < rho.length := by rw [s.len]; exact (List.getElem?_eq_some_iff.mp e).1
   obtain ⟨vs, p, q⟩ := s.cells n rho[n] (.frz ds) (List.getElem?_eq_getElem hl) e
   exact ⟨_, vs, List.getElem?_eq_getElem hl, p.elim (fun ⟨o, p⟩ => .inl (.inr ⟨o, p⟩)) .inr, q⟩
 · cases h
theorem Ka (s : g.Sto rho st H) (r : g.RepL rho H ds vs) (hp : H p = none) (q : Aq g rho H Q (.loc st.length) (st ++ [.lst ds])) : Q (.ref p) (upd H p (.lst vs)) := by
 have e := Ew hp (.lst vs)
 have kk : g.Keep rho H (rho ++ [p]) (upd H p (.lst vs)) := ⟨⟨[p], rfl⟩, (Bo.keep e rho).tup, (Bo.keep (K := g.K) e rho).fz⟩
 obtain ⟨k2, s2⟩ := s.laid hp (o := .lst vs) (c := .lst ds) ⟨vs, Bm, r.mono kk⟩
 refine q (.ref p) _ _ k2 s2 (Bh.mpr ⟨p, by rw [← s.len]; simp, rfl⟩)
theorem Ck (ha : Sd g X a a') (hb : Sd g X b b') : Sd g X (.BinOp a .Add b pos) (.op .add a' b') := Bj (Hl (OpR.or Wz ye) ha hb) fun sg H Q q => by
 obtain ⟨rho, st, env, s, n, q⟩ := q
 simp only [aa] at q
 refine two (k := opD .add) ?_ s n q
 intro x y u v st rho H Q s rx ry q
 cases x with
 | int i =>
  cases y with
  | int j => exact .inl ⟨i, j, av.mp rx, av.mp ry, q _ H rho (.refl _ _) s (av.mpr rfl)⟩
  | _ => exact q.elim
 | loc i =>
  cases y with
  | loc j =>
   simp only [opD] at q
   split at q
   · rename_i xs ys e1 e2
     split at q
     · rename_i z
       obtain ⟨p1, v1, a1, h1, r1⟩ := Ez s e1
       obtain ⟨p2, v2, a2, h2, r2⟩ := Ez s e2
       obtain ⟨b1, c1, d1⟩ := Bh.mp rx
       obtain ⟨b2, c2, d2⟩ := Bh.mp ry
       rw [a1] at c1; cases c1
       rw [a2] at c2; cases c2
       exact .inr ⟨p1, p2, v1, v2, d1, d2, h1, h2, by rw [← r1.length, ← r2.length]; exact z, fun p hp => Ka s (r1.append r2) hp q⟩
     · exact q.elim
   · exact q.elim
  | _ => exact q.elim
 | _ => exact q.elim
theorem Qi (ha : Sd g X a a') (hb : Sd g X b b') : Sd g X (.BinOp a .Sub b pos) (.op .sub a' b') := Bj (Hl Xa ha hb) fun sg H Q q => by
 obtain ⟨rho, st, env, s, n, q⟩ := q
 simp only [aa] at q
 refine two (k := opD .sub) ?_ s n q
 intro x y u v st rho H Q s rx ry q
 cases x with
 | int i =>
  cases y with
  | int j => exact ⟨i, j, av.mp rx, av.mp ry, q _ H rho (.refl _ _) s (av.mpr rfl)⟩
  | _ => exact q.elim
 | _ => cases y <;> exact q.elim
theorem cn (hK : X.K = g.K) (ha : Sd g X a a') (hb : Sd g X b b') : Sd g X (.BinOp a .Mult b pos) (.op .mul a' b') := Bj (Hl (OpR.or yk yf) ha hb) fun sg H Q q => by
 obtain ⟨rho, st, env, s, n, q⟩ := q
 simp only [aa] at q
 refine two (k := opD .mul) ?_ s n q
 intro x y u v st rho H Q s rx ry q
 cases x with
 | int i =>
  cases y with
  | int j =>
   simp only [opD] at q
   split at q
   · rename_i z
     exact .inl ⟨i, j, av.mp rx, av.mp ry, z, q _ H rho (.refl _ _) s (av.mpr rfl)⟩
   · exact q.elim
  | _ => exact q.elim
 | loc i =>
  cases y with
  | int k =>
   simp only [opD] at q
   split at q
   · rename_i xs e1
     split at q
     · rename_i z
       obtain ⟨p1, v1, a1, h1, r1⟩ := Ez s e1
       obtain ⟨b1, c1, d1⟩ := Bh.mp rx
       rw [a1] at c1; cases c1
       exact .inr ⟨p1, k, v1, d1, av.mp ry, h1, z.1, z.2.1, by rw [← r1.length]; exact z.2.2, fun p hp => Ka s (r1.rep _) hp q⟩
     · exact q.elim
   · exact q.elim
  | _ => exact q.elim
 | _ => exact q.elim
theorem Dq (ha : Sd g X a a') (hb : Sd g X b b') : Sd g X (.BinOp a .FloorDiv b pos) (.op .fdiv a' b') := Bj (Hl Yk ha hb) fun sg H Q q => by
 obtain ⟨rho, st, env, s, n, q⟩ := q
 simp only [aa] at q
 refine two (k := opD .fdiv) ?_ s n q
 intro x y u v st rho H Q s rx ry q
 cases x with
 | int i =>
  cases y with
  | int j =>
   simp only [opD] at q
   split at q
   · rename_i z
     exact ⟨i, j, av.mp rx, av.mp ry, z, q _ H rho (.refl _ _) s (av.mpr rfl)⟩
   · exact q.elim
  | _ => exact q.elim
 | _ => cases y <;> exact q.elim
theorem Cb (ha : Sd g X a a') (hb : Sd g X b b') : Sd g X (.BinOp a .Mod b pos) (.op .mod a' b') := Bj (Hl Xb ha hb) fun sg H Q q => by
 obtain ⟨rho, st, env, s, n, q⟩ := q
 simp only [aa] at q
 refine two (k := opD .mod) ?_ s n q
 intro x y u v st rho H Q s rx ry q
 cases x with
 | int i =>
  cases y with
  | int j =>
   simp only [opD] at q
   split at q
   · rename_i z
     exact ⟨i, j, av.mp rx, av.mp ry, z, q _ H rho (.refl _ _) s (av.mpr rfl)⟩
   · exact q.elim
  | _ => exact q.elim
 | _ => cases y <;> exact q.elim
theorem Fp (ha : Sd g X a a') (hb : Sd g X b b') : Sd g X (.BinOp a .Pow b pos) (.op .pow a' b') := Bj (Hl xc ha hb) fun sg H Q q => by
 obtain ⟨rho, st, env, s, n, q⟩ := q
 simp only [aa] at q
 refine two (k := opD .pow) ?_ s n q
 intro x y u v st rho H Q s rx ry q
 cases x with
 | int i =>
  cases y with
  | int j =>
   simp only [opD] at q
   split at q
   · rename_i z
     exact ⟨i, j, av.mp rx, av.mp ry, z, q _ H rho (.refl _ _) s (av.mpr rfl)⟩
   · exact q.elim
  | _ => exact q.elim
 | _ => cases y <;> exact q.elim
theorem qj (ha : Sd g X a a') : Sd g X (.UnaryOp .USub a pos) (.neg a') := Bj (Wy Xc ha) fun sg H Q q => by
 obtain ⟨rho, st, env, s, n, q⟩ := q
 simp only [aa] at q
 refine step s n q fun x st1 u H1 r1 k1 s1 n1 rp q1 => ?_
 cases x with
 | int i => exact ⟨i, av.mp rp, (show Aq g rho H Q (.int (-i)) st1 from q1) _ H1 r1 k1 s1 (av.mpr rfl)⟩
 | _ => exact q1.elim
end DD
namespace DD
open PySem PySem.Spec L2
open PyProof.Rows hiding St
section
variable {M : Model} {A : Around} {E : Value → Shared → Prop} {s : Shared} {bs : Heap} {env : PySem.Env} {outer l : List PySem.Env} {L x : Addr} {c fl : Value} {R : Array Value → Prop} {Q : Unit → Shared → Prop}
end
def CXd (_ : Program) (_ : World) : CXT := fun _ _ _ _ _ _ => False
section
variable {P : Program} {w : World} {K : PySem.W.Frag} {mg : Str → Option Value} {base : Heap} {N : List Str} {qual : Str} {scope : Scope} {f : Addr} {cd : Value} {A : Around} {outer : List PySem.Env} {s : Shared} {H : Hp} {E : XK}
theorem ax : Passes (CXd P w) (En (CXd P w) P w K mg base N qual scope f cd A outer s H E) E := fun _ _ _ _ _ _ _ h => h.elim
end
section
variable {prog : Program} {w : World} {A : Around} {E : Value → Shared → Prop} {env : PySem.Env} {nm q : Str} {C N : Addr} {bs bm : List Value} {hdct : Bool} {sn : List Str} {sub : List Value} {ab : Bool} {col : Option Bool} {dd : Option Addr} {k0 k1 k2 k3 k5 : Option Value} {newId : String}
end
end DD
namespace DD
open PySem PySem.Spec PySem.W PySem.Calls PyProof.Rows Builtin Builtin.ObjectAttr Builtin.Getset_descriptor
structure ExcC (K : Frag) (C : Addr) : Prop where
 cl : (clsIn K C).isSome = true
 ga : findIn K (.ref C) "__getattribute__" = some (some (.builtin "BaseException.__getattribute__"))
 gn : findIn K (.ref C) "__getattr__" = some none
 ha : findIn K (.ref C) "__class__" = some (some (.builtin "object.__class__"))
 hn : specialIn K (.builtin "object.__class__") "__get__" = some (some (.builtin "getset_descriptor.__get__"))
 tk : takesIn K (.builtin "object.__class__") = some true
 ob : mroIn K C (.type "object") = some true
 be : mroIn K C (.type "BaseException") = some true
section
variable {prog : Program} {w : World} {A : Around} {E : Value → Shared → Prop} {s : Shared} {K : Frag} {x C : Addr}
end
end DD
namespace DD
open PySem PySem.Spec L2
variable {g : G} {X : Cx} {a b c : Expr} {a' b' c' : E} {pos : Pos}
theorem mj {H : Hp} {s : Shared} {rho : List Addr} {f : D → Option PyData}
 (hf : ∀ (d : D) (v : V) (u : Value) (p : PyData), g.Rep rho H d v → RelV v u → f d = some p → ∃ as, Reads s.heap u p as) :
 ∀ {ds : List D} {vs : List V} {us : List Value} {ps : List PyData}, g.RepL rho H ds vs → Vals vs us → Ca (ds.map f) = some ps → ∃ as, ReadsAll s.heap us ps as
 | [], vs, us, ps, r, rv, e => by
  simp only [RepL] at r; subst r
  cases rv
  simp [Ca] at e; subst e
  exact ⟨[], .nil⟩
 | d :: t, vs, us, ps, r, rv, e => by
  simp only [RepL] at r
  obtain ⟨v, w, rfl, r1, r2⟩ := r
  cases rv with
  | cons q1 q2 =>
   simp only [List.map_cons] at e
   cases ed : f d with
   | none => rw [ed] at e; simp [Ca] at e
   | some p =>
    rw [ed] at e
    simp only [Ca] at e
    cases et : Ca (t.map f) with
    | none => rw [et] at e; cases e
    | some ps' =>
     rw [et] at e; cases e
     obtain ⟨as, h1⟩ := hf _ _ _ _ r1 q1 ed
     obtain ⟨bs, h2⟩ := mj hf r2 q2 et
     exact ⟨as ++ bs, .cons h1 h2⟩
theorem reads (hK : X.K = g.K) (I : Inv X pins sg H s) (S : g.Sto rho st H) :
 ∀ (n : Nat) (d : D) (v : V) (u : Value) (p : PyData), g.Rep rho H d v → RelV v u → Ao st n d = some p → ∃ as, Reads s.heap u p as := by
 intro n
 induction n with
 | zero =>
  intro d v u p r rv e
  cases d with
  | non => cases Hr.mp r; simp [Ao] at e; subst e; cases rv; exact ⟨_, .none⟩
  | bl b => cases Cg.mp r; simp [Ao] at e; subst e; cases rv; exact ⟨_, .bool b⟩
  | int i => cases av.mp r; simp [Ao] at e; subst e; obtain ⟨t, rfl⟩ := rv; exact ⟨_, .int i t⟩
  | str x => cases Fo.mp r; simp [Ao] at e; obtain ⟨_, rfl⟩ := e; obtain ⟨t, rfl⟩ := rv; exact ⟨_, .str x t⟩
  | tup ds => simp [Ao] at e
  | loc m => simp [Ao] at e
 | succ n ih =>
  intro d v u p r rv e
  cases d with
  | non => cases Hr.mp r; simp [Ao] at e; subst e; cases rv; exact ⟨_, .none⟩
  | bl b => cases Cg.mp r; simp [Ao] at e; subst e; cases rv; exact ⟨_, .bool b⟩
  | int i => cases av.mp r; simp [Ao] at e; subst e; obtain ⟨t, rfl⟩ := rv; exact ⟨_, .int i t⟩
  | str x => cases Fo.mp r; simp [Ao] at e; obtain ⟨_, rfl⟩ := e; obtain ⟨t, rfl⟩ := rv; exact ⟨_, .str x t⟩
  | tup ds =>
   obtain ⟨a, vs, rfl, q, rl⟩ := Cj.mp r
   simp only [Ao] at e
   cases eo : Ca (ds.map (Ao st n)) with
   | none => rw [eo] at e; cases e
   | some ps =>
    rw [eo] at e; cases e
    rw [← hK] at q
    obtain ⟨its, rvs, ⟨o, ho, hc, n', hd⟩, _⟩ := I.tuple q
    obtain ⟨as, h2⟩ := mj ih rl rvs eo
    cases rv
    exact ⟨as, .tuple ho hc hd (by simpa using h2)⟩
  | loc m =>
   simp only [Ao] at e
   cases el : aq st m with
   | none => rw [el] at e; cases e
   | some ds =>
    rw [el] at e
    simp only [Option.bind_some] at e
    cases eo : Ca (ds.map (Ao st n)) with
    | none => rw [eo] at e; cases e
    | some ps =>
     rw [eo] at e; cases e
     obtain ⟨a, vs, hr, q, rl⟩ := De S el
     obtain ⟨a2, h1, h2⟩ := Bh.mp r
     rw [hr] at h1; cases h1
     subst h2
     rw [← hK] at q
     obtain ⟨its, rvs, ⟨o, n', ho, hc, _, hd⟩, _⟩ := I.list q
     obtain ⟨as, h3⟩ := mj ih rl rvs eo
     cases rv
     exact ⟨a :: as, .list ho hc hd (by simpa using h3)⟩
theorem fq : ∀ (n : Nat) (d : D) (p : PyData), Ao st n d = some p → p.canLay0 = true ∧ p.depth ≤ n := by
 have all : ∀ (n : Nat), (∀ (d : D) (p : PyData), Ao st n d = some p → p.canLay0 = true ∧ p.depth ≤ n) → ∀ (ds : List D) (ps : List PyData), Ca (ds.map (Ao st n)) = some ps → PyData.canLayAll0 ps = true ∧ PyData.depthAll ps ≤ n := by
  intro n ih ds
  induction ds with
  | nil => intro ps e; simp [Ca] at e; subst e; exact ⟨rfl, Nat.zero_le _⟩
  | cons d t ih2 =>
   intro ps e
   simp only [List.map_cons] at e
   cases ed : Ao st n d with
   | none => rw [ed] at e; simp [Ca] at e
   | some p =>
    rw [ed] at e
    simp only [Ca] at e
    cases et : Ca (t.map (Ao st n)) with
    | none => rw [et] at e; cases e
    | some ps' =>
     rw [et] at e; cases e
     obtain ⟨h1, h2⟩ := ih _ _ ed
     obtain ⟨h3, h4⟩ := ih2 _ et
     exact ⟨by simp only [PyData.canLayAll0, h1, h3, Bool.and_self], by simp only [PyData.depthAll]; exact Nat.max_le.mpr ⟨h2, h4⟩⟩
 intro n
 induction n with
 | zero =>
  intro d p e
  cases d <;> simp [Ao] at e <;> first | (subst e; exact ⟨rfl, Nat.zero_le _⟩) | (obtain ⟨h, rfl⟩ := e; exact ⟨h, Nat.zero_le _⟩)
 | succ n ih =>
  intro d p e
  cases d with
  | non => simp [Ao] at e; subst e; exact ⟨rfl, Nat.zero_le _⟩
  | bl b => simp [Ao] at e; subst e; exact ⟨rfl, Nat.zero_le _⟩
  | int i => simp [Ao] at e; subst e; exact ⟨rfl, Nat.zero_le _⟩
  | str x => simp [Ao] at e; obtain ⟨h, rfl⟩ := e; exact ⟨h, Nat.zero_le _⟩
  | tup ds =>
   simp only [Ao] at e
   cases eo : Ca (ds.map (Ao st n)) with
   | none => rw [eo] at e; cases e
   | some ps =>
    rw [eo] at e; cases e
    obtain ⟨h1, h2⟩ := all n ih _ _ eo
    exact ⟨h1, by simp only [PyData.depth]; omega⟩
  | loc m =>
   simp only [Ao] at e
   cases el : aq st m with
   | none => rw [el] at e; cases e
   | some ds =>
    rw [el] at e
    simp only [Option.bind_some] at e
    cases eo : Ca (ds.map (Ao st n)) with
    | none => rw [eo] at e; cases e
    | some ps =>
     rw [eo] at e; cases e
     obtain ⟨h1, h2⟩ := all n ih _ _ eo
     exact ⟨h1, by simp only [PyData.depth]; omega⟩
theorem Kb (h : Ao st n d = some p) (hn : n ≤ 64) : SeqAt.shaped p = true := by
 obtain ⟨h1, h2⟩ := fq n d p h
 unfold SeqAt.shaped
 rw [h1, decide_eq_true (by omega : p.depth ≤ 64)]
 rfl
def kc (g : G) (neg : Bool) : R2 := fun x y H Q => ∃ rho st d e p q, g.Sto rho st H ∧ g.Rep rho H d x ∧ g.Rep rho H e y ∧ Ao st 40 d = some p ∧ Ao st 40 e = some q ∧ Q (.bl (if neg then !PyData.eqv p q else PyData.eqv p q)) H
theorem Yl (hK : X.K = g.K) (hu : X.A.units + 64 < cLine) : OpR X (compareOp .Eq) (kc g false) := by
 intro pins s sg H x y v u Q I rx ry h
 obtain ⟨rho, st, d, e, p, q, S, r1, r2, e1, e2, hq⟩ := h
 obtain ⟨as, h1⟩ := reads hK I S 40 d x v p r1 rx e1
 obtain ⟨bs, h2⟩ := reads hK I S 40 e y u q r2 ry e2
 exact SeqAt.compareEq_shaped h1 h2 (Kb e1 (by decide)) (Kb e2 (by decide)) hu ⟨.bl _, H, I, rfl, hq⟩
theorem ym (hK : X.K = g.K) (hu : X.A.units + 64 < cLine) : OpR X (compareOp .NotEq) (kc g true) := by
 intro pins s sg H x y v u Q I rx ry h
 obtain ⟨rho, st, d, e, p, q, S, r1, r2, e1, e2, hq⟩ := h
 obtain ⟨as, h1⟩ := reads hK I S 40 d x v p r1 rx e1
 obtain ⟨bs, h2⟩ := reads hK I S 40 e y u q r2 ry e2
 exact SeqAt.compareNe_shaped h1 h2 (Kb e1 (by decide)) (Kb e2 (by decide)) hu ⟨.bl _, H, I, rfl, hq⟩
theorem Kc {st : Sto} {x y : D} {b : Bool} (h : eqV st x y = some b) : ∃ p q, Ao st 40 x = some p ∧ Ao st 40 y = some q ∧ b = PyData.eqv p q := by
 unfold eqV at h
 cases e1 : Ao st 40 x with
 | none => rw [e1] at h; cases h
 | some p =>
  cases e2 : Ao st 40 y with
  | none => rw [e1, e2] at h; cases h
  | some q => rw [e1, e2] at h; cases h; exact ⟨p, q, rfl, rfl, rfl⟩
end DD
namespace DD
open PySem PySem.Spec L2
open PyProof.Rows hiding St RelV
def IsN (hp : Heap) : Nat → D → Value → Prop
 | 0, d, v => (∃ i t, d = .int i ∧ v = .int i t) ∨ ∃ x t, d = .str x ∧ v = .str x t ∧ PyData.canLay0 (.str x) = true
 | n + 1, d, v => ((∃ i t, d = .int i ∧ v = .int i t) ∨ ∃ x t, d = .str x ∧ v = .str x t ∧ PyData.canLay0 (.str x) = true) ∨ ∃ ds q ob its m, d = .tup ds ∧ v = .ref q ∧ hp.get? q = some ob ∧ ob.cls = .type "tuple" ∧ ob.data = .seq its m ∧ Paired (IsN hp n) ds its.toList
def fb : Nat → D → Nat
 | n + 1, .tup ds => (ds.map (fb n)).sum + 1
 | _, _ => 1
theorem Qj {hp : Heap} : ∀ {n : Nat} {x y : D} {v : Value}, IsN hp n x v → IsN hp n y v → x = y
 | 0, x, y, v, h1, h2 => by
  rcases h1 with ⟨i, t, rfl, rfl⟩ | ⟨z, t, rfl, rfl, _⟩
  · rcases h2 with ⟨j, u, rfl, e⟩ | ⟨z, u, rfl, e, _⟩
    · cases e; rfl
    · cases e
  · rcases h2 with ⟨j, u, rfl, e⟩ | ⟨z', u, rfl, e, _⟩
    · cases e
    · cases e; rfl
 | n + 1, x, y, v, h1, h2 => by
  rcases h1 with (⟨i, t, rfl, rfl⟩ | ⟨z, t, rfl, rfl, _⟩) | ⟨ds, q, ob, its, m, rfl, rfl, e1, e2, e3, e4⟩
  · rcases h2 with (⟨j, u, rfl, e⟩ | ⟨z, u, rfl, e, _⟩) | ⟨ds, q, ob, its, m, rfl, e, _⟩
    · cases e; rfl
    · cases e
    · cases e
  · rcases h2 with (⟨j, u, rfl, e⟩ | ⟨z', u, rfl, e, _⟩) | ⟨ds, q, ob, its, m, rfl, e, _⟩
    · cases e
    · cases e; rfl
    · cases e
  · rcases h2 with (⟨j, u, rfl, e⟩ | ⟨z, u, rfl, e, _⟩) | ⟨ds2, q2, ob2, its2, m2, rfl, e, f1, f2, f3, f4⟩
    · cases e
    · cases e
    · cases e
      rw [e1] at f1; cases f1
      rw [e3] at f3; cases f3
      have : ds = ds2 := by
       clear e1 e2 e3 f2
       generalize its.toList = l at e4 f4
       induction e4 generalizing ds2 with
       | nil => cases f4; rfl
       | cons p t ih =>
        cases f4 with
        | cons p2 t2 => rw [Qj p p2, ih _ t2]
      rw [this]
theorem qk {hp h' : Heap} (hk : ∀ q ob its m, hp.get? q = some ob → ob.data = .seq its m → h'.get? q = some ob) : ∀ {n : Nat} {x : D} {v : Value}, IsN hp n x v → IsN h' n x v
 | 0, x, v, h => h
 | n + 1, x, v, h => by
  rcases h with h | ⟨ds, q, ob, its, m, rfl, rfl, e1, e2, e3, e4⟩
  · exact .inl h
  · refine .inr ⟨ds, q, ob, its, m, rfl, rfl, hk q ob its m e1 e3, e2, e3, ?_⟩
    clear e3
    generalize its.toList = l at e4 ⊢
    induction e4 with
    | nil => exact .nil
    | cons p t ih => exact .cons (qk hk p) ih
section
variable {prog : Program} {w : World}
theorem Ym : ∀ (n : Nat) (d : D) (v : Value) (A : Around) (E : Value → Shared → Prop) (s : Shared) (Q : Int → Shared → Prop), A.units + n < cLine → IsN s.heap n d v → Q (Cw w n d) { s with toks := s.toks + fb n d } → wpAny (model prog w) A (pyHash v) Q E s := by
 have flat : ∀ (n : Nat) (d : D) (v : Value) (A : Around) (E : Value → Shared → Prop) (s : Shared) (Q : Int → Shared → Prop), ((∃ i t, d = .int i ∧ v = .int i t) ∨ ∃ x t, d = .str x ∧ v = .str x t ∧ PyData.canLay0 (.str x) = true) → Q (Cw w n d) { s with toks := s.toks + fb n d } → wpAny (model prog w) A (pyHash v) Q E s := by
  intro n d v A E s Q h q
  rcases h with ⟨i, t, rfl, rfl⟩ | ⟨x, t, rfl, rfl, _⟩
  · exact wpAny_pyHash_int (by cases n <;> exact q)
  · exact wpAny_pyHash_str (by cases n <;> exact q)
 intro n
 induction n with
 | zero => intro d v A E s Q _ h q; exact flat 0 d v A E s Q h q
 | succ n ih =>
  intro d v A E s Q hu h q
  rcases h with h | ⟨ds, p, ob, its, m, rfl, rfl, e1, e2, e3, e4⟩
  · exact flat (n + 1) d v A E s Q h q
  · have tt : s.TypeIs (.ref p) "tuple" := ⟨ob, e1, e2⟩
    unfold pyHash
    first | unfold pyHashByItsType | skip
    first | refine wpAny_bind (wpAny_cRoomFor_or (.inr (by omega)) ?_) | skip
    refine wpAny_bind (wpAny_specialOf tt F.slot_tuple_hash.lookup (?_ : wpAny _ _ (if (some (Value.builtin "tuple.__hash__") == some Value.none) = true then _ else _) Q E s))
    rw [if_neg (by rw [beq_builtin_none]; exact Bool.false_ne_true)]
    refine wpAny_bind (wpAny_specialOf tt F.slot_tuple_hash.lookup (?_ : wpAny _ _ (callSpecialIfBoundUnlessNone? (.ref p) "__hash__" _ >>= _) Q E s))
    refine wpAny_bind (wpAny_callSpecialIfBoundUnlessNone?_slot tt F.slot_tuple_hash (wpAny_call_entry F.slot_tuple_hash tt F.entry_tuple_hash (?_ : wpAny _ _ (Builtin.Tuple.tupleItemsOf (.ref p) >>= _) _ _ s) (F.args_tuple_hash_1 _)))
    refine wpAny_bind (wpAny_tupleItemsOf e1 e3 (wpAny_bind ?_))
    rw [← Array.forIn_toList]
    refine wpAny_forIn_list _ (fun rest (b : Array Int) s' => ∃ pre post, ds = pre ++ post ∧ Paired (IsN s.heap n) post rest ∧ b.toList = pre.map (Cw w n) ∧ s' = { s with toks := s.toks + (pre.map (fb n)).sum }) _ ?_ ?_ _ _ ⟨[], ds, rfl, e4, rfl, by simp⟩
    · rintro x rest b s' ⟨pre, post, rfl, hp, hb, rfl⟩
      cases hp with
      | @cons d1 _ post' _ h1 h2 =>
       refine wpAny_bind (ih d1 x _ _ _ _ (by show A.units + 1 + n < cLine; omega) h1 ?_)
       have fin : ∃ pre2 post2, pre ++ d1 :: post' = pre2 ++ post2 ∧ Paired (IsN s.heap n) post2 rest ∧ (b.push (Cw w n d1)).toList = pre2.map (Cw w n) ∧ ({ s with toks := s.toks + (pre.map (fb n)).sum + fb n d1 } : Shared) = { s with toks := s.toks + (pre2.map (fb n)).sum } :=
        ⟨pre ++ [d1], post', by simp, h2, by simp [hb], by simp [Nat.add_assoc]⟩
       first
        | exact wpAny_pure fin
        | exact wpAny_bind (wpAny_pure (wpAny_pure fin))
    · rintro b s' ⟨pre, post, rfl, hp, hb, rfl⟩
      cases hp
      rw [List.append_nil] at q
      refine (?_ : wpAny _ _ (retInt (Builtin.Tuple.tupleHashOf b.toList)) _ _ _)
      rw [hb]
      refine wpAny_ret_mkInt (?_ : wpAny _ _ (if (decide (-(2 : Int) ^ 63 ≤ Builtin.Tuple.tupleHashOf (pre.map (Cw w n))) && decide (Builtin.Tuple.tupleHashOf (pre.map (Cw w n)) < 2 ^ 63)) = true then _ else _) Q E _)
      simp only [Cw, fb] at q
      unfold reduceHash at q
      by_cases hr : (decide (-(2 : Int) ^ 63 ≤ Builtin.Tuple.tupleHashOf (pre.map (Cw w n))) && decide (Builtin.Tuple.tupleHashOf (pre.map (Cw w n)) < 2 ^ 63)) = true
      · rw [if_pos hr] at q ⊢
        exact wpAny_pure (by simpa [Nat.add_assoc] using q)
      · rw [if_neg hr] at q ⊢
        exact wpAny_bind (wpAny_rule (wpAny_pure (by simpa [Nat.add_assoc] using q)))
def pyN : Nat → D → PyData
 | _, .int i => .int i
 | _, .str x => .str x
 | n + 1, .tup ds => .tuple (ds.map (pyN n))
 | _, _ => .none
theorem Qk {hp : Heap} : ∀ {n : Nat} {d : D} {v : Value}, IsN hp n d v → (∃ as, Reads hp v (pyN n d) as) ∧ (pyN n d).canLay0 = true ∧ (pyN n d).depth ≤ n := by
 have flat : ∀ {n : Nat} {d : D} {v : Value}, ((∃ i t, d = .int i ∧ v = .int i t) ∨ ∃ x t, d = .str x ∧ v = .str x t ∧ PyData.canLay0 (.str x) = true) → (∃ as, Reads hp v (pyN n d) as) ∧ (pyN n d).canLay0 = true ∧ (pyN n d).depth ≤ n := by
  intro n d v h
  rcases h with ⟨i, t, rfl, rfl⟩ | ⟨x, t, rfl, rfl, hx⟩
  · cases n <;> exact ⟨⟨_, .int i t⟩, rfl, Nat.zero_le _⟩
  · cases n <;> exact ⟨⟨_, .str x t⟩, hx, Nat.zero_le _⟩
 intro n
 induction n with
 | zero => intro d v h; exact flat h
 | succ n ih =>
  intro d v h
  rcases h with h | ⟨ds, q, ob, its, m, rfl, rfl, e1, e2, e3, e4⟩
  · exact flat h
  · have all : ∀ {ds : List D} {l : List Value}, Paired (IsN hp n) ds l → (∃ as, ReadsAll hp l (ds.map (pyN n)) as) ∧ PyData.canLayAll0 (ds.map (pyN n)) = true ∧ PyData.depthAll (ds.map (pyN n)) ≤ n := by
     intro ds l h
     induction h with
     | nil => exact ⟨⟨[], .nil⟩, rfl, Nat.zero_le _⟩
     | cons p t ih2 =>
      obtain ⟨⟨as, r1⟩, c1, d1⟩ := ih p
      obtain ⟨⟨bs, r2⟩, c2, d2⟩ := ih2
      exact ⟨⟨as ++ bs, .cons r1 r2⟩, by simp only [List.map_cons, PyData.canLayAll0, c1, c2, Bool.and_self], by simp only [List.map_cons, PyData.depthAll]; exact Nat.max_le.mpr ⟨d1, d2⟩⟩
    obtain ⟨⟨as, r⟩, c, dp⟩ := all e4
    exact ⟨⟨_, .tuple e1 e2 e3 r⟩, c, by simp only [pyN, PyData.depth]; omega⟩
theorem yn {hp : Heap} : ∀ {n : Nat} {x y : D} {u v : Value}, IsN hp n x u → IsN hp n y v → PyData.eqv (pyN n x) (pyN n y) = decide (x = y) := by
 intro n
 induction n with
 | zero =>
  intro x y u v h1 h2
  rcases h1 with ⟨i, t, rfl, rfl⟩ | ⟨z, t, rfl, rfl, _⟩ <;> rcases h2 with ⟨j, t', rfl, rfl⟩ | ⟨z', t', rfl, rfl, _⟩ <;> simp [pyN, PyData.eqv] <;> (first | rfl | exact Bool.beq_eq_decide_eq _ _)
 | succ n ih =>
  intro x y u v h1 h2
  rcases h1 with (⟨i, t, rfl, rfl⟩ | ⟨z, t, rfl, rfl, _⟩) | ⟨ds, q, ob, its, m, rfl, rfl, e1, e2, e3, e4⟩ <;> rcases h2 with (⟨j, t', rfl, rfl⟩ | ⟨z', t', rfl, rfl, _⟩) | ⟨ds2, q2, ob2, its2, m2, rfl, rfl, f1, f2, f3, f4⟩
  · simp [pyN, PyData.eqv] <;> rfl
  · simp [pyN, PyData.eqv]
  · simp [pyN, PyData.eqv]
  · simp [pyN, PyData.eqv]
  · simp [pyN, PyData.eqv] <;> rfl
  · simp [pyN, PyData.eqv]
  · simp [pyN, PyData.eqv]
  · simp [pyN, PyData.eqv]
  · have all : ∀ {ds ds2 : List D} {l l2 : List Value}, Paired (IsN hp n) ds l → Paired (IsN hp n) ds2 l2 → PyData.eqvAll (ds.map (pyN n)) (ds2.map (pyN n)) = decide (ds = ds2) := by
     intro ds ds2 l l2 h
     induction h generalizing ds2 l2 with
     | nil => intro h2; cases h2 <;> simp [PyData.eqvAll]
     | @cons a b r r2 p t ih2 =>
      intro h2
      cases h2 with
      | nil => simp [PyData.eqvAll]
      | cons p2 t2 =>
       simp only [List.map_cons, PyData.eqvAll, ih p p2, ih2 t2, List.cons.injEq, Bool.decide_and]
    simp only [pyN, PyData.eqv, all e4 f4]
    simp
end
section
variable {prog : Program} {w : World}
theorem Yn : ∀ (n m : Nat) (d : D) (v : Value) (A : Around) (E : Value → Shared → Prop) (s : Shared) (Q : Bool → Shared → Prop), n ≤ m → IsN s.heap n d v → Q true s → wpAny (model prog w) A (eqIsQuiet m v) Q E s := by
 have flat : ∀ (m : Nat) (d : D) (v : Value) (A : Around) (E : Value → Shared → Prop) (s : Shared) (Q : Bool → Shared → Prop), ((∃ i t, d = .int i ∧ v = .int i t) ∨ ∃ x t, d = .str x ∧ v = .str x t ∧ PyData.canLay0 (.str x) = true) → Q true s → wpAny (model prog w) A (eqIsQuiet m v) Q E s := by
  intro m d v A E s Q h q
  rcases h with ⟨i, t, rfl, rfl⟩ | ⟨x, t, rfl, rfl, _⟩
  · rw [eqIsQuiet_byValue m (v := .int i t) rfl]; exact wpAny_pure q
  · rw [eqIsQuiet_byValue m (v := .str x t) rfl]; exact wpAny_pure q
 intro n
 induction n with
 | zero => intro m d v A E s Q _ h q; exact flat m d v A E s Q h q
 | succ n ih =>
  intro m d v A E s Q hm h q
  rcases h with h | ⟨ds, p, ob, its, k, rfl, rfl, e1, e2, e3, e4⟩
  · exact flat m d v A E s Q h q
  · obtain ⟨m, rfl⟩ : ∃ j, m = j + 1 := ⟨m - 1, by omega⟩
    have tt : s.TypeIs (.ref p) "tuple" := ⟨ob, e1, e2⟩
    unfold eqIsQuiet
    refine wpAny_bind (wpAny_specialOf tt F.slot_tuple_eq.lookup (?_ : wpAny _ _ (isInstance (.ref p) (.type "tuple") >>= _) _ _ s))
    refine wpAny_bind (wpAny_isInstance tt isSubtype_tuple_tuple ?_)
    simp only [Bool.not_true, Bool.false_eq_true, if_false]
    refine wpAny_bind (wpAny_seqItems e1 e3 (wpAny_bind (?_ : wpAny _ _ (forIn its _ _) _ _ s)))
    rw [← Array.forIn_toList]
    refine wpAny_forIn_list _ (fun rest r s' => r.1 = none ∧ s' = s ∧ ∃ post, Paired (IsN s.heap n) post rest) _ ?_ ?_ _ _ ⟨rfl, rfl, ds, e4⟩
    · rintro x rest r s' ⟨hr, rfl, post, hp⟩
      cases hp with
      | @cons d1 _ post' _ h1 h2 =>
       refine wpAny_bind (ih m d1 x _ _ _ _ (by omega) h1 ?_)
       simp only [Bool.not_true, Bool.false_eq_true, if_false]
       exact wpAny_pure ⟨rfl, rfl, post', h2⟩
    · rintro ⟨r1, r2⟩ s' ⟨hr, rfl, _⟩
      obtain rfl : r1 = none := hr
      exact wpAny_pure q
def Cu (prog : Program) (w : World) : HeapKind prog w D where
 is := fun hp d q => IsN hp 8 d (.ref q)
 hash := Cw w 8
 draws := fb 8
 room := fun A => A.units + 16 < cLine
 inj := fun h1 h2 => Qj h1 h2
 keeps := fun {hp h' k q dd o es ep} h ho hd hs => qk (fun q ob its m e c => (hs.2 q (by
  rintro rfl
  rw [ho] at e; cases e
  rw [hd] at c; cases c)).trans e) h
 pyHash := fun hu h q => Ym 8 _ _ _ _ _ _ (by omega) h q
 eqBool := fun {A E s x y a b Q} hu h1 h2 q => by
  obtain ⟨⟨as, r1⟩, c1, d1⟩ := Qk h1
  obtain ⟨⟨bs, r2⟩, c2, d2⟩ := Qk h2
  refine PySem.SeqAt.eqBoolOverData prog w A E s _ _ _ _ as bs Q r1 r2 c1 c2 ?_ (by rw [yn h1 h2]; exact q)
  have : min (pyN 8 x).depth (pyN 8 y).depth ≤ 8 := Nat.le_trans (Nat.min_le_left _ _) d1
  omega
 quiet := fun h q => Yn 8 8 _ _ _ _ _ _ (Nat.le_refl _) h q
end
variable {g : G} {X : Cx} {pos apos cpos : Pos} {F : Nat} {a b c : Expr} {a' b' c' : E}
theorem ql (hK : X.K = g.K) {pins : List (Addr × Obj)} {sg : L2.St} {H : Hp} {s : Shared} {rho : List Addr} (I : Inv X pins sg H s) : ∀ (n : Nat) (d : D) (v : V) (u : Value), g.Rep rho H d v → RelV v u → okN n d = true → IsN s.heap n d u := by
 have flat : ∀ (n : Nat) (d : D) (v : V) (u : Value), g.Rep rho H d v → RelV v u → okN n d = true → (∀ ds, d ≠ .tup ds) → ((∃ i t, d = .int i ∧ u = .int i t) ∨ ∃ x t, d = .str x ∧ u = .str x t ∧ PyData.canLay0 (.str x) = true) := by
  intro n d v u r rv ok nt
  cases d with
  | int i => cases av.mp r; obtain ⟨t, rfl⟩ := rv; exact .inl ⟨i, t, rfl, rfl⟩
  | str x => cases Fo.mp r; obtain ⟨t, rfl⟩ := rv; exact .inr ⟨x, t, rfl, rfl, by cases n <;> exact ok⟩
  | tup ds => exact (nt ds rfl).elim
  | _ => cases n <;> simp [okN] at ok
 intro n
 induction n with
 | zero =>
  intro d v u r rv ok
  refine flat 0 d v u r rv ok fun ds z => ?_
  subst z; simp [okN] at ok
 | succ n ih =>
  intro d v u r rv ok
  by_cases ht : ∃ ds, d = .tup ds
  · obtain ⟨ds, rfl⟩ := ht
    obtain ⟨q, vs, rfl, sq, rl⟩ := Cj.mp r
    rw [← hK] at sq
    obtain ⟨its, rvs, pl, hz⟩ := I.tuple sq
    obtain ⟨ob, ho, hc, m, hd⟩ := pl
    cases rv
    refine .inr ⟨ds, q, ob, its.toArray, m, rfl, rfl, ho, hc, hd, ?_⟩
    have ok : ds.all (okN n) = true := by simpa [okN] using ok
    clear hd ho hc sq hz r
    have all : ∀ {ds : List D} {vs : List V} {its : List Value}, g.RepL rho H ds vs → Vals vs its → ds.all (okN n) = true → Paired (IsN s.heap n) ds its := by
     intro ds
     induction ds with
     | nil => intro vs its r q _; simp only [RepL] at r; subst r; cases q; exact .nil
     | cons x t ih2 =>
      intro vs its r q ok
      simp only [RepL] at r
      obtain ⟨v, w, rfl, r1, r2⟩ := r
      simp only [List.all_cons, Bool.and_eq_true] at ok
      cases q with
      | cons q1 q2 => exact .cons (ih x v _ r1 q1 ok.1) (ih2 r2 q2 ok.2)
    simpa using all rl rvs ok
  · exact .inl (flat (n + 1) d v u r rv ok fun ds z => ht ⟨ds, z⟩)
theorem Ql (hK : X.K = g.K) (hw : g.cls.w = X.w) {pins : List (Addr × Obj)} {sg : L2.St} {H : Hp} {s : Shared} {rho : List Addr} {p : Addr} {kvs : List (D × D)} {xs : List (D × Addr × V)} (I : Inv X pins sg H s) (hH : Rd H p (.ext (Am g.cls.w p xs))) (nv : Aj g.K rho H kvs xs) :
 (p == sysModules) = false ∧ xs.length ≤ sizeLine ∧ ∃ ys : List (D × Addr × Value), Paired (fun (x : D × Addr × V) (y : D × Addr × Value) => x.1 = y.1 ∧ x.2.1 = y.2.1 ∧ RelV x.2.2 y.2.2) xs ys ∧ s.heap.DictOfH (Cu X.prog X.w) p ys := by
 obtain ⟨⟨h1, h2, h3, o, es, ep, h4, h5, h6, h7⟩, h8⟩ := (show Bs X.prog X.w H s.heap p (.ext _) from hH.ok I.hok)
 refine ⟨h1, h2, ?_⟩
 have keys : ∀ x ∈ xs, IsN s.heap 8 x.1 (.ref x.2.1) := by
  clear h8 h7 h3 h2 hH
  induction xs generalizing kvs with
  | nil => intro x hx; cases hx
  | cons y t ih =>
   cases kvs with
   | nil => simp only [Aj] at nv; cases nv
   | cons kd r =>
    obtain ⟨k, d⟩ := kd
    simp only [Aj] at nv
    obtain ⟨b, v, t2, e, kn, r1, _, q⟩ := nv
    cases e
    intro x hx
    rcases List.mem_cons.mp hx with rfl | hx
    · refine ql hK I 8 _ _ _ r1 rfl ?_
      cases k with
      | tup ds => exact kn
      | _ => cases kn
    · exact ih q x hx
 have mk : ∀ {xs : List (D × Addr × V)} {l : List DictEntry}, Paired (fun (x : D × Addr × V) (e : DictEntry) => e.hash = Cw g.cls.w 8 x.1 ∧ e.key = .ref x.2.1 ∧ RelV x.2.2 e.val) xs l → ∃ ys : List (D × Addr × Value), Paired (fun (x : D × Addr × V) (y : D × Addr × Value) => x.1 = y.1 ∧ x.2.1 = y.2.1 ∧ RelV x.2.2 y.2.2) xs ys ∧ l = ys.map (entryOfKey (Cu X.prog X.w)) ∧ ys.map (·.1) = xs.map (·.1) := by
  intro xs l h
  induction h with
  | nil => exact ⟨[], .nil, rfl, rfl⟩
  | @cons x e t r p q ih =>
   obtain ⟨ys, e1, e2, e3⟩ := ih
   obtain ⟨hh, hk, hv⟩ := p
   refine ⟨(x.1, x.2.1, e.val) :: ys, .cons ⟨rfl, rfl, hv⟩ e1, ?_, by simp [e3]⟩
   rw [List.map_cons, e2]
   congr 1
   obtain ⟨eh, ek, ev⟩ := e
   simp only at hh hk
   subst hh hk
   rw [hw]; rfl
 obtain ⟨ys, e1, e2, e3⟩ := mk h7
 refine ⟨ys, e1, o, es, ep, h4, h5, h6, e2, ?_, by rw [e3]; exact h3⟩
 have : ∀ {xs : List (D × Addr × V)} {ys : List (D × Addr × Value)}, Paired (fun (x : D × Addr × V) (y : D × Addr × Value) => x.1 = y.1 ∧ x.2.1 = y.2.1 ∧ RelV x.2.2 y.2.2) xs ys → (∀ x ∈ xs, IsN s.heap 8 x.1 (.ref x.2.1)) → ∀ y ∈ ys, (Cu X.prog X.w).is s.heap y.1 y.2.1 := by
  intro xs ys h
  induction h with
  | nil => intro _ y hy; cases hy
  | @cons x y t r p q ih =>
   intro hx z hz
   rcases List.mem_cons.mp hz with rfl | hz
   · have := hx x List.mem_cons_self
     rw [p.1, p.2.1] at this
     exact this
   · exact ih (fun x h => hx x (List.mem_cons_of_mem _ h)) z hz
 exact this e1 keys
theorem Fs (hK : X.K = g.K) (hw : g.cls.w = X.w) {pins : List (Addr × Obj)} {sg : L2.St} {H : Hp} {s : Shared} {rho : List Addr} {p : Addr} {kvs : List (D × D)} {xs : List (D × Addr × V)} (I : Inv X pins sg H s) (hH : H p = some (.ext (Am g.cls.w p xs))) (nv : Aj g.K rho H kvs xs) :
 (p == sysModules) = false ∧ xs.length ≤ sizeLine ∧ ∃ ys : List (D × Addr × Value), Paired (fun (x : D × Addr × V) (y : D × Addr × Value) => x.1 = y.1 ∧ x.2.1 = y.2.1 ∧ RelV x.2.2 y.2.2) xs ys ∧ s.heap.DictOfH (Cu X.prog X.w) p ys := Ql hK hw I (.inl hH) nv
theorem Kd {rho : List Addr} {H : Hp} {k : D} : ∀ {kvs : List (D × D)} {xs : List (D × Addr × V)} {ys : List (D × Addr × Value)}, Aj g.K rho H kvs xs → Paired (fun (x : D × Addr × V) (y : D × Addr × Value) => x.1 = y.1 ∧ x.2.1 = y.2.1 ∧ RelV x.2.2 y.2.2) xs ys →
 (∀ d, Ba kvs k = some d → ∃ q v u, atKey ys k = some (q, u) ∧ RelV v u ∧ g.Rep rho H d v) ∧ (Ba kvs k = none → atKey ys k = none)
 | [], xs, ys, h, p => by
  simp only [Aj] at h; subst h
  cases p
  exact ⟨fun d e => by simp [Ba] at e, fun _ => rfl⟩
 | (x, d) :: r, xs, ys, h, p => by
  simp only [Aj] at h
  obtain ⟨b, v, t, rfl, _, _, rd, q⟩ := h
  cases p with
  | @cons _ y _ t2 p1 p2 =>
   obtain ⟨y1, y2, y3⟩ := y
   obtain ⟨e1, e2, e3⟩ := p1
   simp only at e1 e2 e3
   subst e1 e2
   by_cases e : x = k
   · subst e
     refine ⟨fun d' ed => ⟨b, v, y3, by simp [atKey], e3, ?_⟩, fun en => by simp [Ba] at en⟩
     simp [Ba] at ed; subst ed; exact rd
   · obtain ⟨l1, l2⟩ := Kd (k := k) q p2
     refine ⟨fun d' ed => ?_, fun en => ?_⟩
     · obtain ⟨q', v', u', h1, h2, h3⟩ := l1 d' (by simpa [Ba, e] using ed)
       exact ⟨q', v', u', by simpa [atKey, e] using h1, h2, h3⟩
     · have := l2 (by simpa [Ba, e] using en)
       simpa [atKey, e] using this
end DD
namespace DD
open PySem PySem.Spec L2
variable {g : G} {X : Cx} {a b c : Expr} {a' b' c' : E} {pos : Pos}
theorem yo (h : cmD k x y st = .ok d st') : ∃ b, d = .bl b := by
 cases k <;> simp only [cmD] at h <;> (repeat' (split at h)) <;> first | (cases h; exact ⟨_, rfl⟩) | cases h
theorem cmT (q : tT g (.cm k a' b') sg H Q) : tE g (.cm k a' b') sg H (fun x H' => ∃ z, x = .bl z ∧ Q z H') := by
 obtain ⟨rho, st, env, s, n, q⟩ := q
 refine ⟨rho, st, env, s, n, ?_⟩
 simp only [Ap] at q
 simp only [aa]
 revert q
 cases aa g.tab g.call a' env st with
 | bad => exact fun q => q
 | exc c st1 => exact fun q => q
 | ok x st1 =>
  simp only [Bf]
  cases aa g.tab g.call b' env st1 with
  | bad => exact fun q => q
  | exc c st2 => exact fun q => q
  | ok y st2 =>
   simp only [Bf]
   cases e : cmD k x y st2 with
   | bad => exact fun q => q
   | exc c st3 => exact fun q => q
   | ok d st3 =>
    obtain ⟨z, rfl⟩ := yo e
    simp only [Bf]
    intro q v H' rho' k1 s1 r1
    exact ⟨z, Cg.mp r1, (show Di g rho H Q z st3 from q) H' rho' k1 s1⟩
theorem Yo  {sg : L2.St} {H : Hp} {Q : VK} (q : tE g (.cm .eq a' b') sg H Q) : tOp (kc g false) (tE g a') (tE g b') sg H Q := by
 obtain ⟨rho, st, env, s, n, q⟩ := q
 simp only [aa] at q
 refine two (k := cmD .eq) ?_ s n q
 intro x y u v st rho H Q s rx ry q
 simp only [cmD] at q
 cases e : eqV st x y with
 | none => rw [e] at q; exact q.elim
 | some z =>
  rw [e] at q
  obtain ⟨p1, p2, h1, h2, rfl⟩ := Kc e
  exact ⟨rho, st, x, y, p1, p2, s, rx, ry, h1, h2, (show Aq g rho H Q (.bl _) st from q) _ H rho (.refl _ _) s (Cg.mpr rfl)⟩
theorem By (hK : X.K = g.K) (hu : X.A.units + 64 < cLine) (ha : Sd g X a a') (hb : Sd g X b b') : SdT g X (.Compare a [.Eq] [b] pos) (.cm .eq a' b') := Ey (Gj (Yl hK hu) ha hb (gj _)) fun sg H Q q => Yo (cmT q)
theorem yp  {sg : L2.St} {H : Hp} {Q : VK} (q : tE g (.cm .ne a' b') sg H Q) : tOp (kc g true) (tE g a') (tE g b') sg H Q := by
 obtain ⟨rho, st, env, s, n, q⟩ := q
 simp only [aa] at q
 refine two (k := cmD .ne) ?_ s n q
 intro x y u v st rho H Q s rx ry q
 simp only [cmD] at q
 cases e : eqV st x y with
 | none => rw [e] at q; exact q.elim
 | some z =>
  rw [e] at q
  obtain ⟨p1, p2, h1, h2, rfl⟩ := Kc e
  exact ⟨rho, st, x, y, p1, p2, s, rx, ry, h1, h2, (show Aq g rho H Q (.bl _) st from q) _ H rho (.refl _ _) s (Cg.mpr rfl)⟩
theorem dj (hK : X.K = g.K) (hu : X.A.units + 64 < cLine) (ha : Sd g X a a') (hb : Sd g X b b') : SdT g X (.Compare a [.NotEq] [b] pos) (.cm .ne a' b') := Ey (Gj (ym hK hu) ha hb (gj _)) fun sg H Q q => yp (cmT q)
theorem ints2 {r : Int → Int → Bool} {k : Cm} (hk : ∀ x y st, cmD k x y st = match x, y with | .int i, .int j => .ok (.bl (r i j)) st | _, _ => .bad) {sg : L2.St} {H : Hp} {Q : VK}
 (q : tE g (.cm k a' b') sg H Q) : tOp (rI0 fun i j => .bl (r i j)) (tE g a') (tE g b') sg H Q := by
 obtain ⟨rho, st, env, s, n, q⟩ := q
 simp only [aa] at q
 refine two (k := cmD k) ?_ s n q
 intro x y u v st rho H Q s rx ry q
 rw [hk] at q
 cases x with
 | int i =>
  cases y with
  | int j => exact ⟨i, j, av.mp rx, av.mp ry, q _ H rho (.refl _ _) s (Cg.mpr rfl)⟩
  | _ => exact q.elim
 | _ => exact q.elim
theorem Ja (ha : Sd g X a a') (hb : Sd g X b b') : SdT g X (.Compare a [.Lt] [b] pos) (.cm .lt a' b') := Ey (Gj Xd ha hb (gj _)) fun sg H Q q => ints2 (fun x y st => by cases x <;> cases y <;> rfl) (cmT q)
theorem Yp (ha : Sd g X a a') (hb : Sd g X b b') : Sd g X (.Compare a [.LtE] [b] pos) (.cm .le a' b') := Bj (Pk pk ha hb (gj _)) fun sg H Q q => ints2 (fun x y st => by cases x <;> cases y <;> rfl) q
theorem qm (ha : Sd g X a a') (hb : Sd g X b b') : SdT g X (.Compare a [.LtE] [b] pos) (.cm .le a' b') := Ey (Gj pk ha hb (gj _)) fun sg H Q q => ints2 (fun x y st => by cases x <;> cases y <;> rfl) (cmT q)
theorem yq (ha : Sd g X a a') (hb : Sd g X b b') : SdT g X (.Compare a [.GtE] [b] pos) (.cm .ge a' b') := Ey (Gj Xe ha hb (gj _)) fun sg H Q q => ints2 (fun x y st => by cases x <;> cases y <;> rfl) (cmT q)
theorem Mj (s : g.Sto rho st H) (r : g.Rep rho H d v) (h : Eo st d = some ds) : ∃ p vs, v = .ref p ∧ (SqL g.K H p vs ∨ SqT g.K H p vs) ∧ g.RepL rho H ds vs := by
 cases d with
 | tup xs =>
  simp only [Eo] at h; cases h
  obtain ⟨p, vs, e, q, rl⟩ := Cj.mp r
  exact ⟨p, vs, e, .inr q, rl⟩
 | loc n =>
  simp only [Eo] at h
  obtain ⟨p, vs, h1, q, rl⟩ := De s h
  obtain ⟨p2, h2, e⟩ := Bh.mp r
  rw [h1] at h2; cases h2
  exact ⟨p, vs, e, .inl q, rl⟩
 | _ => cases h
theorem Dj (s : g.Sto rho st H) (h : az st n = some kvs) : ∃ a xs, rho[n]? = some a ∧ st[n]? = some (.dcn kvs) ∧ H a = some (.ext (Am g.cls.w a xs)) ∧ Aj g.K rho H kvs xs := by
 unfold az at h
 split at h
 · rename_i kvs' e
   cases h
   have hl : n < rho.length := by rw [s.len]; exact (List.getElem?_eq_some_iff.mp e).1
   obtain ⟨xs, h1, h2⟩ := s.cells n rho[n] _ (List.getElem?_eq_getElem hl) e
   exact ⟨rho[n], xs, List.getElem?_eq_getElem hl, e, h1, h2⟩
 · cases h
theorem Yq (s : g.Sto rho st H) (h : gm st n = some kvs) : ∃ a xs o, rho[n]? = some a ∧ st[n]? = some (.dcg kvs) ∧ H a = some (.frz o (.ext (Am g.cls.w a xs))) ∧ Aj g.K rho H kvs xs := by
 unfold gm at h
 split at h
 · rename_i kvs' e
   cases h
   have hl : n < rho.length := by rw [s.len]; exact (List.getElem?_eq_some_iff.mp e).1
   obtain ⟨xs, o, h1, h2⟩ := s.cells n rho[n] _ (List.getElem?_eq_getElem hl) e
   exact ⟨rho[n], xs, o, List.getElem?_eq_getElem hl, e, h1, h2⟩
 · cases h
theorem jb (hK : X.K = g.K) (I : Inv X pins sg H s) (r : g.Rep rho H k v) (hk : ba k = true) (rv : RelV v u) : ∃ q, (Cu X.prog X.w).is s.heap k q ∧ u = .ref q := by
 cases k with
 | tup ds =>
  have ik := ql hK I 8 _ _ _ r rv hk
  obtain ⟨q, vs, rfl, _⟩ := Cj.mp r
  cases rv
  exact ⟨q, ik, rfl⟩
 | _ => cases hk
def Qm (g : G) (neg : Bool) : R2 := fun x y H Q => ∃ rho st a b z, g.Sto rho st H ∧ g.Rep rho H a x ∧ g.Rep rho H b y ∧ inD st a b = some z ∧ Q (.bl (if neg then !z else z)) H
theorem Yr {st : Sto} {a b : D} {z : Bool} (h : inS st a b = some z) : ∃ p ys, Ao st 40 a = some p ∧ (Ao st 41 b = some (.list ys) ∨ Ao st 41 b = some (.tuple ys)) ∧ z = ys.any fun y => PyData.eqv y p := by
 unfold inS at h
 split at h
 · rename_i x ys e1 e2; cases h; exact ⟨x, ys, e1, .inl e2, rfl⟩
 · rename_i x ys e1 e2; cases h; exact ⟨x, ys, e1, .inr e2, rfl⟩
 · cases h
theorem ke {A : Around} (hu : A.units + 64 < cLine) {a b : Nat} (hb : b ≤ 40) : A.units + 1 + min a b < cLine := by
 have : min a b ≤ b := Nat.min_le_right _ _
 omega
theorem Qn (hK : X.K = g.K) (hu : X.A.units + 64 < cLine) {pins : List (Addr × Obj)} {s : Shared} {sg : L2.St} {H : Hp} {rho : List Addr} {st : Sto} {a b : D} {x y : V} {v u : Value} {z : Bool} {Q : VK} (I : Inv X pins sg H s) (S : g.Sto rho st H) (r1 : g.Rep rho H a x) (r2 : g.Rep rho H b y) (rx : RelV x v) (ry : RelV y u)
 (h : inS st a b = some z) : (Q (.bl z) H → wpAny (model X.prog X.w) X.A (compareOp .In v u) (EP X pins sg Q) X.xe s) ∧ (Q (.bl (!z)) H → wpAny (model X.prog X.w) X.A (compareOp .NotIn v u) (EP X pins sg Q) X.xe s) := by
 obtain ⟨p, ys, e1, e2, rfl⟩ := Yr h
 obtain ⟨as, h1⟩ := reads hK I S 40 a x v p r1 rx e1
 obtain ⟨c1, c2⟩ := fq 40 a p e1
 rcases e2 with e2 | e2
 · obtain ⟨bs, h2⟩ := reads hK I S 41 b y u _ r2 ry e2
   obtain ⟨c3, c4⟩ := fq 41 b _ e2
   exact ⟨fun q => PySem.SeqAt.in_list_reads h2 h1 c3 c1 (ke hu c2) ⟨.bl _, H, I, rfl, q⟩, fun q => PySem.SeqAt.notIn_list_reads h2 h1 c3 c1 (ke hu c2) ⟨.bl _, H, I, rfl, q⟩⟩
 · obtain ⟨bs, h2⟩ := reads hK I S 41 b y u _ r2 ry e2
   obtain ⟨c3, c4⟩ := fq 41 b _ e2
   exact ⟨fun q => PySem.SeqAt.in_tuple_reads h2 h1 c3 c1 (ke hu c2) ⟨.bl _, H, I, rfl, q⟩, fun q => PySem.SeqAt.notIn_tuple_reads h2 h1 c3 c1 (ke hu c2) ⟨.bl _, H, I, rfl, q⟩⟩
theorem Ys (hK : X.K = g.K) (hw : g.cls.w = X.w) (hu : X.A.units + 64 < cLine) {pins : List (Addr × Obj)} {s : Shared} {sg : L2.St} {H : Hp} {rho : List Addr} {st : Sto} {a b : D} {x y : V} {v u : Value} {z : Bool} {Q : VK} (I : Inv X pins sg H s) (S : g.Sto rho st H) (r1 : g.Rep rho H a x) (r2 : g.Rep rho H b y) (rx : RelV x v) (ry : RelV y u)
 (h : inD st a b = some z) : (Q (.bl z) H → wpAny (model X.prog X.w) X.A (compareOp .In v u) (EP X pins sg Q) X.xe s) ∧ (Q (.bl (!z)) H → wpAny (model X.prog X.w) X.A (compareOp .NotIn v u) (EP X pins sg Q) X.xe s) := by
 cases b with
 | loc n =>
  simp only [inD] at h
  cases e9 : az st n with
  | none => rw [e9] at h; exact Qn hK hu I S r1 r2 rx ry h
  | some kvs =>
   rw [e9] at h
   simp only at h
   split at h
   · rename_i hk
     cases h
     obtain ⟨p, xs, h1, _, h2, nv⟩ := Dj S e9
     obtain ⟨p2, h4, rfl⟩ := Bh.mp r2
     rw [h1] at h4; cases h4
     obtain ⟨q9, ik, rfl⟩ := jb hK I r1 hk rx
     obtain rfl : u = Value.ref p := ry
     obtain ⟨hm, _, ys, pr, dd⟩ := Fs hK hw I h2 nv
     have ev : (Ba kvs a).isSome = (atKey ys a).isSome := by
      obtain ⟨l1, l2⟩ := Kd (k := a) nv pr
      cases z : Ba kvs a with
      | none => rw [l2 z]; rfl
      | some x => obtain ⟨_, _, _, e1, _⟩ := l1 x z; rw [e1]; rfl
     rw [ev]
     exact ⟨fun q => wpAny_in_heap (knd := Cu X.prog X.w) (by show X.A.units + 1 + 16 < cLine; omega) ik hm dd ⟨.bl _, H, I.tok _, rfl, q⟩, fun q => PyProof.Rows.wpAny_notIn_heap (knd := Cu X.prog X.w) (by show X.A.units + 1 + 16 < cLine; omega) ik hm dd ⟨.bl _, H, I.tok _, rfl, q⟩⟩
   · cases h
 | _ => exact Qn hK hu I S r1 r2 rx ry h
theorem qo (hK : X.K = g.K) (hw : g.cls.w = X.w) (hu : X.A.units + 64 < cLine) : OpR X (compareOp .NotIn) (Qm g true) := by
 rintro pins s sg H x y v u Q I rx ry ⟨rho, st, a, b, z, S, r1, r2, h, q⟩
 exact (Ys hK hw hu I S r1 r2 rx ry h).2 q
theorem Qo (q : tE g (.cm .notIn a' b') sg H Q) : tOp (Qm g true) (tE g a') (tE g b') sg H Q := by
 obtain ⟨rho, st, env, s, n, q⟩ := q
 simp only [aa] at q
 refine two (k := cmD .notIn) ?_ s n q
 intro x y u v st rho H Q s rx ry q
 simp only [cmD] at q
 cases e : inD st x y with
 | none => rw [e] at q; exact q.elim
 | some z =>
  rw [e] at q
  exact ⟨rho, st, x, y, z, s, rx, ry, e, (show Aq g rho H Q (.bl _) st from q) _ H rho (.refl _ _) s (Cg.mpr rfl)⟩
theorem yt (hK : X.K = g.K) (hw : g.cls.w = X.w) (hu : X.A.units + 64 < cLine) (ha : Sd g X a a') (hb : Sd g X b b') (hm : behindInMarks .NotIn b = false := by rfl) : Sd g X (.Compare a [.NotIn] [b] pos) (.cm .notIn a' b') := Bj (Pk (qo hK hw hu) ha hb hm) fun sg H Q q => Qo q
theorem Yt (hK : X.K = g.K) (hw : g.cls.w = X.w) (hu : X.A.units + 64 < cLine) (ha : Sd g X a a') (hb : Sd g X b b') (hm : behindInMarks .NotIn b = false := by rfl) : SdT g X (.Compare a [.NotIn] [b] pos) (.cm .notIn a' b') := Ey (Gj (qo hK hw hu) ha hb hm) fun sg H Q q => Qo (cmT q)
theorem yu (r : g.RepL rho H ds vs) (h : atD ds i = some d) : ∃ v, atI vs i = some v ∧ g.Rep rho H d v := by
 unfold atD atI at h
 have hl := r.length
 cases e : ixN ds.length i with
 | none => rw [e] at h; cases h
 | some j =>
  rw [e] at h
  obtain ⟨v, e1, r1⟩ := r.get h
  refine ⟨v, ?_, r1⟩
  unfold atI
  rw [← hl, e]
  exact e1
def Yu (g : G) : R2 := fun x y H Q => ∃ p rho kvs xs k d, x = .ref p ∧ Rd H p (.ext (Am g.cls.w p xs)) ∧ Aj g.K rho H kvs xs ∧ g.Rep rho H k y ∧ ba k = true ∧ Ba kvs k = some d ∧ ∀ v, g.Rep rho H d v → Q v H
theorem Yv (hK : X.K = g.K) (hw : g.cls.w = X.w) (hu : X.A.units + 64 < cLine) : IxR X (Yu g) := by
 intro value slice pins s sg H x y v u Q I rx ry h hs
 obtain ⟨p, rho, kvs, xs, k, d, rfl, hH, nv, rk, hk, ed, q⟩ := h
 obtain rfl : v = Value.ref p := rx
 obtain ⟨q9, ik, rfl⟩ := jb hK I rk hk ry
 obtain ⟨hm, _, ys, pr, dd⟩ := Ql hK hw I hH nv
 obtain ⟨q2, w, uu, e1, e2, e3⟩ := (Kd (k := k) nv pr).1 d ed
 exact PyProof.Rows.tail_any dd.typeIs PySem.F.slot_dict_getitem.lookup (wpAny_getItem_heap (knd := Cu X.prog X.w) (by show X.A.units + 1 + 16 < cLine; omega) ik dd e1 ⟨w, H, I.tok _, e2, q w e3⟩) hs
theorem Ah (hK : X.K = g.K) (hw : g.cls.w = X.w) (hu : X.A.units + 64 < cLine) (ha : Sd g X a a') (hb : Sd g X b b') (hs : Qa b) : Sd g X (.Subscript a b pos) (.ix a' b') := Bj (Xs (xv.or (Yv hK hw hu)) ha hb hs) fun sg H Q q => by
 obtain ⟨rho, st, env, s, n, q⟩ := q
 simp only [aa] at q
 refine two (k := ixD) ?_ s n q
 intro x y u v st rho H Q s rx ry q
 have seq : RQ g (ixS x y st) (Aq g rho H Q) rho H → rIx X.K u v H Q := by
  intro q
  cases y with
  | int i =>
   simp only [ixS] at q
   split at q
   · rename_i xs e
     split at q
     · rename_i d ed
       obtain ⟨p, vs, rfl, sq, rl⟩ := Mj s rx e
       obtain ⟨w, e1, r1⟩ := yu rl ed
       have fin : Q w H := (show Aq g rho H Q d st from q) _ H rho (.refl _ _) s r1
       rw [← hK] at sq
       rcases sq with sq | sq
       · exact .inl ⟨p, vs, i, w, rfl, av.mp ry, sq, e1, fin⟩
       · exact .inr (.inl ⟨p, vs, i, w, rfl, av.mp ry, sq, e1, fin⟩)
     · exact q.elim
   · split at q
     · rename_i z _
       split at q
       · rename_i c ec
         split at q
         · rename_i hz
           exact .inr (.inr ⟨_, i, c, Fo.mp rx, av.mp ry, hz, ec, (show Aq g rho H Q _ st from q) _ H rho (.refl _ _) s (Fo.mpr rfl)⟩)
         · exact q.elim
       · exact q.elim
     · exact q.elim
  | _ => exact q.elim
 cases x with
 | loc n =>
  simp only [ixD] at q
  cases e9 : az st n with
  | none =>
   rw [e9] at q
   simp only at q
   cases e8 : gm st n with
   | none => rw [e8] at q; exact .inl (seq q)
   | some kvs =>
    rw [e8] at q
    simp only at q
    split at q
    · rename_i hk
      split at q
      · rename_i d ed
        obtain ⟨p, xs, o, h1, _, h2, nv⟩ := Yq s e8
        obtain ⟨p2, h4, rfl⟩ := Bh.mp rx
        rw [h1] at h4; cases h4
        exact .inr ⟨p, rho, kvs, xs, y, d, rfl, .inr ⟨o, h2⟩, nv, ry, hk, ed, fun w rw1 => (show Aq g rho H Q d st from q) _ H rho (.refl _ _) s rw1⟩
      · exact q.elim
    · exact q.elim
  | some kvs =>
   rw [e9] at q
   simp only at q
   split at q
   · rename_i hk
     split at q
     · rename_i d ed
       obtain ⟨p, xs, h1, _, h2, nv⟩ := Dj s e9
       obtain ⟨p2, h4, rfl⟩ := Bh.mp rx
       rw [h1] at h4; cases h4
       exact .inr ⟨p, rho, kvs, xs, y, d, rfl, .inl h2, nv, ry, hk, ed, fun w rw1 => (show Aq g rho H Q d st from q) _ H rho (.refl _ _) s rw1⟩
     · exact q.elim
   · exact q.elim
 | _ => exact .inl (seq q)
variable {g : G} {X : Cx} {a b c : Expr} {a' b' c' : E} {pos : Pos} {rest es : List Expr} {es' : Es}
theorem qp {op} (h : Sd g X a a') : Sd g X (.BoolOp op [a] pos) a' := wa h
theorem yw (ha : Sd g X a a') (hb : Sd g X (.BoolOp .And (b :: rest) pos) b') : Sd g X (.BoolOp .And (a :: b :: rest) pos) (.andE a' b') := Bj (Wa ha hb) fun sg H Q q => by
 obtain ⟨rho, st, env, s, n, q⟩ := q
 simp only [aa] at q
 refine step s n q fun x st1 u H1 r1 k1 s1 n1 rp q1 => ?_
 cases x with
 | bl t =>
  cases t with
  | true => exact ⟨true, Cg.mp rp, Hn ⟨r1, st1, env, s1, n1, RQ.mono (.refl _ _) q1 fun _ _ p => p.mono k1⟩⟩
  | false => exact ⟨false, Cg.mp rp, Hm ((show Aq g rho H Q (.bl false) st1 from q1) _ H1 r1 k1 s1 (Cg.mpr rfl))⟩
 | _ => exact q1.elim
theorem Yw (ha : Sd g X a a') (hb : Sd g X (.BoolOp .Or (b :: rest) pos) b') : Sd g X (.BoolOp .Or (a :: b :: rest) pos) (.orE a' b') := Bj (wb ha hb) fun sg H Q q => by
 obtain ⟨rho, st, env, s, n, q⟩ := q
 simp only [aa] at q
 refine step s n q fun x st1 u H1 r1 k1 s1 n1 rp q1 => ?_
 cases x with
 | bl t =>
  cases t with
  | false => exact ⟨false, Cg.mp rp, Hm ⟨r1, st1, env, s1, n1, RQ.mono (.refl _ _) q1 fun _ _ p => p.mono k1⟩⟩
  | true => exact ⟨true, Cg.mp rp, Hn ((show Aq g rho H Q (.bl true) st1 from q1) _ H1 r1 k1 s1 (Cg.mpr rfl))⟩
 | _ => exact q1.elim
theorem yx (ha : Sd g X a a') : Sd g X (.UnaryOp .Not a pos) (.notE a') := Bj (Wb ha) fun sg H Q q => by
 obtain ⟨rho, st, env, s, n, q⟩ := q
 simp only [aa] at q
 refine step s n q fun x st1 u H1 r1 k1 s1 n1 rp q1 => ?_
 cases x with
 | bl t => exact ⟨t, Cg.mp rp, (show Aq g rho H Q (.bl (!t)) st1 from q1) _ H1 r1 k1 s1 (Cg.mpr rfl)⟩
 | _ => exact q1.elim
theorem bts {r : List V → Hp → VK → Prop} {f : Bt} (hr : ∀ ds vs st rho H Q, g.Sto rho st H → g.RepL rho H ds vs → RQ g (btD f ds st) (Aq g rho H Q) rho H → r vs H Q) {sg : L2.St} {H : Hp} {Q : VK} (q : tE g (.bt f es') sg H Q) : tCB r (tEs g es') sg H Q := by
 obtain ⟨rho, st, env, s, n, q⟩ := q
 simp only [aa] at q
 refine Hq s n q fun ds st1 vs H1 r1 k1 s1 n1 rps q1 => ?_
 exact hr ds vs st1 r1 H1 Q s1 rps (RQ.mono (.refl _ _) q1 fun _ _ p => p.mono k1)
theorem Hs {rho : List Addr} {H : Hp} {d : D} {vs : List V} (r : g.RepL rho H [d] vs) : ∃ v, vs = [v] ∧ g.Rep rho H d v := by
 simp only [RepL] at r
 obtain ⟨v, t, rfl, r1, rfl⟩ := r
 exact ⟨v, rfl, r1⟩
theorem Yx (r : g.RepL rho H [d, e] vs) : ∃ v w, vs = [v, w] ∧ g.Rep rho H d v ∧ g.Rep rho H e w := by
 simp only [RepL] at r
 obtain ⟨v, t, rfl, r1, w, u, rfl, r2, rfl⟩ := r
 exact ⟨v, w, rfl, r1, r2⟩
theorem Mk (hf : f ≠ .minB ∧ f ≠ .maxB) (q : RQ g (btD f ds st) ok rho H) : ∃ d, ds = [d] := by
 cases ds with
 | nil => cases f <;> exact q.elim
 | cons d t =>
  cases t with
  | nil => exact ⟨d, rfl⟩
  | cons e u =>
   exfalso
   cases f <;> first | exact hf.1 rfl | exact hf.2 rfl | (cases d <;> exact q.elim)
theorem ml {p : Pos} (hg : Gl X "abs") (hm : X.mg "abs" = none) (ha : SdL g X (e :: es) es') (he : starEach (e :: es) X.env = (false, eval e X.env) :: starEach es X.env := by rfl) (hpl : (backTo pos (starEach es X.env)).any (·.1) = false := by rfl) :
 Sd g X (.Call (.Name "abs" p) (e :: es) [] pos) (.bt .absB es') := Bj (Jx xh hg hm rfl ha (by decide) (by decide) he hpl) fun sg H Q q => by
 refine bts (f := .absB) (fun ds vs st rho H Q s r q => ?_) q
 obtain ⟨d, rfl⟩ := Mk ⟨by decide, by decide⟩ q
 obtain ⟨v, rfl, r1⟩ := Hs r
 cases d with
 | int i => cases av.mp r1; exact ⟨i, rfl, q _ H rho (.refl _ _) s (av.mpr rfl)⟩
 | _ => exact q.elim
theorem gq {p : Pos} (hK : X.K = g.K) (hg : Gl X "len") (hm : X.mg "len" = none) (ha : SdL g X (e :: es) es') (he : starEach (e :: es) X.env = (false, eval e X.env) :: starEach es X.env := by rfl) (hpl : (backTo pos (starEach es X.env)).any (·.1) = false := by rfl) :
 Sd g X (.Call (.Name "len" p) (e :: es) [] pos) (.bt .lenB es') := Bj (Jx (Dc.or Xw xx) hg hm rfl ha (by decide) (by decide) he hpl) fun sg H Q q => by
 refine bts (f := .lenB) (fun ds vs st rho H Q s r q => ?_) q
 obtain ⟨d, rfl⟩ := Mk ⟨by decide, by decide⟩ q
 obtain ⟨v, rfl, r1⟩ := Hs r
 have seq : ∀ xs, Eo st d = some xs → Aq g rho H Q (.int xs.length) st → ∃ p ys, [v] = [V.ref p] ∧ (SqL X.K H p ys ∨ SqT X.K H p ys) ∧ Q (.int ys.length) H := by
  intro xs e q
  obtain ⟨p, ws, rfl, sq, rl⟩ := Mj s r1 e
  refine ⟨p, ws, rfl, by rw [hK]; exact sq, ?_⟩
  rw [← rl.length]
  exact q _ H rho (.refl _ _) s (av.mpr rfl)
 cases d with
 | tup xs => exact .inl (seq xs rfl q)
 | loc n =>
  simp only [btD] at q
  split at q
  · rename_i xs e
    exact .inl (seq xs e q)
  · exact q.elim
 | str z =>
  simp only [btD] at q
  split at q
  · rename_i hz
    cases Fo.mp r1
    exact .inr ⟨z, rfl, hz, (show Aq g rho H Q (.int _) st from q) _ H rho (.refl _ _) s (av.mpr rfl)⟩
  · exact q.elim
 | _ => exact q.elim
theorem Yy {p : Pos} (hc : X.calm = true) (hg : Gl X "max") (hm : X.mg "max" = none) (ha : SdL g X (e :: es) es') (he : starEach (e :: es) X.env = (false, eval e X.env) :: starEach es X.env := by rfl) (hpl : (backTo pos (starEach es X.env)).any (·.1) = false := by rfl) :
 Sd g X (.Call (.Name "max" p) (e :: es) [] pos) (.bt .maxB es') := Bj (Jx (Xh hc) hg hm rfl ha (by decide) (by decide) he hpl) fun sg H Q q => by
 refine bts (f := .maxB) (fun ds vs st rho H Q s r q => ?_) q
 match ds, q with
 | [.int i, .int j], q =>
  obtain ⟨v, w, rfl, r1, r2⟩ := Yx r
  cases av.mp r1; cases av.mp r2
  exact ⟨i, j, rfl, (show Aq g rho H Q (.int _) st from q) _ H rho (.refl _ _) s (av.mpr rfl)⟩
theorem yz {p : Pos} (hK : X.K = g.K) (hg : Gl X "list") (hm : X.mg "list" = none) (ha : SdL g X (e :: es) es') (he : starEach (e :: es) X.env = (false, eval e X.env) :: starEach es X.env := by rfl) (hpl : (backTo pos (starEach es X.env)).any (·.1) = false := by rfl) :
 Sd g X (.Call (.Name "list" p) (e :: es) [] pos) (.bt .listB es') := Bj (Xm Xx hg hm rfl ha (by decide) (by decide) he hpl) fun sg H Q q => by
 refine bts (f := .listB) (fun ds vs st rho H Q s r q => ?_) q
 obtain ⟨d, rfl⟩ := Mk ⟨by decide, by decide⟩ q
 obtain ⟨v, rfl, r1⟩ := Hs r
 simp only [btD] at q
 split at q
 · rename_i xs e
   obtain ⟨p, ws, rfl, sq, rl⟩ := Mj s r1 e
   exact ⟨p, ws, rfl, by rw [hK]; exact sq, fun l hl => Ka s rl hl q⟩
 · exact q.elim
def spD (K : PySem.W.Frag) (cls : CW) (np : Nat) (run : List D → Sto → Res D) : Sp := fun vs H Q Ex => vs.length = np ∧ ∃ rho st ds, StoRep K cls rho st H ∧ RepL K rho H ds vs ∧
 match run ds st with
 | .ok d st' => ∀ v H' rho', Keep K rho H rho' H' → StoRep K cls rho' st' H' → Rep K rho' H' d v → Q v H'
 | .exc k st' => ∀ H' rho', Keep K rho H rho' H' → StoRep K cls rho' st' H' → ∀ ch, (k = 2 → ch = none) → Ex (.ref (cls k)) ch H'
 | .bad => False
theorem Av {p : Pos} 
 (F : FnOk X.prog X.w X.K X.mg X.base (CXd X.prog X.w) k fa fd ps (spD g.K g.cls np (g.call f))) (hr : Room k X.A) (hg : Gl X x) (hm : X.mg x = some (.ref fa)) (hk : PySem.W.keepIn X.K (.ref fa) = true) (hb : Binds X.K fd ps ds) (hd : Vals dvs ds)
 (hdv : ∀ rho H, g.RepL rho H dv dvs) (hx : Passes (CXd X.prog X.w) X g.xk) (hl : ∀ ds st, ds.length ≠ np → g.call f ds st = .bad) (ha : SdL g X (e :: es) es') (hdb : (x == ("__debug__" : Str)) = false := by decide)
 (he : starEach (e :: es) X.env = (false, eval e X.env) :: starEach es X.env := by rfl) (hpl : (backTo pos (starEach es X.env)).any (·.1) = false := by rfl) : Sd g X (.Call (.Name x p) (e :: es) [] pos) (.call f es' dv) :=
 Bj (Xl F hr hg hm hk hb hd hx ha hdb he hpl) fun sg H Q q => by
  obtain ⟨rho, st, env, s, n, q⟩ := q
  simp only [aa] at q
  refine Hq s n q fun ds st1 vs H1 r1 k1 s1 n1 rps q1 => ?_
  have rr := rps.append (hdv r1 H1)
  have hlen : (ds ++ dv).length = np := Decidable.byContradiction fun z => by rw [hl _ _ z] at q1; exact q1
  refine ⟨by rw [← rr.length]; exact hlen, r1, st1, ds ++ dv, s1, rr, ?_⟩
  revert q1
  cases g.call f (ds ++ dv) st1 with
  | ok d st' => exact fun q1 v H' rho' k s' r => (show Aq g rho H Q d st' from q1) v H' rho' (k1.trans k) s' r
  | exc c st' => exact fun q1 H' rho' k s' => q1 H' rho' k s'
  | bad => exact fun q1 => q1
theorem Jb (ha : SdT g X a a') : PW X (.BoolOp .And [a] pos) (tT g a') := Vv ha
theorem Ml (ha : SdT g X a a') : PW X (.BoolOp .Or [a] pos) (tT g a') := vw ha
theorem Qp (h : PW X e t) (hi : ∀ sg H Q, t' sg H Q → t sg H Q) : PW X e t' := fun whole pins s sg H Q I q => h whole pins s sg H Q I (hi _ _ _ q)
theorem Ht (ha : SdT g X a a') (hb : PW X (.BoolOp .And (b :: rest) pos) (tT g b')) : PW X (.BoolOp .And (a :: b :: rest) pos) (tT g (.andE a' b')) := Qp (Vw ha hb) fun sg H Q q => by
 obtain ⟨rho, st, env, s, n, q⟩ := q
 simp only [Ap] at q
 refine stepT s n q fun t st1 H1 r1 k1 s1 n1 q1 => ?_
 cases t with
 | true => exact Hn ⟨r1, st1, env, s1, n1, RQ.mono (.refl _ _) q1 fun _ _ p => p.mono k1⟩
 | false => exact Hm ((show Di g rho H Q false st1 from q1) H1 r1 k1 s1)
theorem jc (ha : SdT g X a a') (hb : PW X (.BoolOp .Or (b :: rest) pos) (tT g b')) : PW X (.BoolOp .Or (a :: b :: rest) pos) (tT g (.orE a' b')) := Qp (Vx ha hb) fun sg H Q q => by
 obtain ⟨rho, st, env, s, n, q⟩ := q
 simp only [Ap] at q
 refine stepT s n q fun t st1 H1 r1 k1 s1 n1 q1 => ?_
 cases t with
 | true => exact Hn ((show Di g rho H Q true st1 from q1) H1 r1 k1 s1)
 | false => exact Hm ⟨r1, st1, env, s1, n1, RQ.mono (.refl _ _) q1 fun _ _ p => p.mono k1⟩
theorem Jc (ha : SdT g X a a') : SdT g X (.UnaryOp .Not a pos) (.notE a') := Ey (vy ha) fun sg H Q q => by
 obtain ⟨rho, st, env, s, n, q⟩ := q
 simp only [Ap] at q
 refine stepT s n q fun t st1 H1 r1 k1 s1 n1 q1 => ?_
 exact (show Di g rho H Q (!t) st1 from q1) H1 r1 k1 s1
theorem Yz (s : g.Sto rho st H) (r : g.Rep rho H d v) (h : truth st d = some k) : md g.K v H k := by
 cases d with
 | non => cases Hr.mp r; simp [truth] at h; subst h; rfl
 | bl b => cases Cg.mp r; simp [truth] at h; subst h; rfl
 | int i => cases av.mp r; simp only [truth] at h; cases h; rfl
 | str x =>
  cases Fo.mp r
  simp only [truth] at h
  split at h
  · rename_i z; cases h; exact ⟨z, rfl⟩
  · cases h
 | tup ds =>
  obtain ⟨a, vs, rfl, q, rl⟩ := Cj.mp r
  simp only [truth] at h; cases h
  have hl := rl.length
  exact .inr (.inl ⟨vs, q, by cases ds <;> cases vs <;> simp_all⟩)
 | loc n =>
  simp only [truth] at h
  cases el : aq st n with
  | none => rw [el] at h; cases h
  | some ds =>
   rw [el] at h; cases h
   obtain ⟨a, vs, h1, q, rl⟩ := De s el
   obtain ⟨a2, h2, rfl⟩ := Bh.mp r
   rw [h1] at h2; cases h2
   have hl := rl.length
   exact .inl ⟨vs, q, by cases ds <;> cases vs <;> simp_all⟩
theorem ft (hK : X.K = g.K) (ha : Sd g X a a') (hev : ∀ env st, Ap g.tab g.call a' env st = (aa g.tab g.call a' env st).bind fun d st => match truth st d with | some b => .ok b st | none => .bad)
 (he : ∀ whole, isTrue a X.env whole = (do let v ← whole; standAt a.pos; holding [v] (truthy v))) : SdT g X a a' := Ey (Xg ha he) fun sg H Q q => by
 obtain ⟨rho, st, env, s, n, q⟩ := q
 rw [hev] at q
 refine step s n q fun d st1 v H1 r1 k1 s1 n1 rp q1 => ?_
 cases e : truth st1 d with
 | none => rw [e] at q1; exact q1.elim
 | some k =>
  rw [e] at q1
  exact ⟨k, by rw [hK]; exact Yz s1 rp e, (show Di g rho H Q k st1 from q1) H1 r1 k1 s1⟩
variable {g : G} {X : Cx} {a b c : Expr} {a' b' c' : E} {pos : Pos} {rest es : List Expr} {es' : Es}
def kb (t T : String) : Option Bool := if ((Value.type t == Value.type T) = true) then some true else if PySem.W.kitMeta T = true then (fastBuiltinMro t).map (·.contains (.type T)) else none
theorem za (K : PySem.W.Frag) (t T : String) : PySem.W.kitOne K (.type t) (.type T) = kb t T := rfl
theorem Za (K : PySem.W.Frag) (ht : t ∈ ["NoneType", "bool", "int", "str", "tuple", "list", "dict"]) (hT : T ∈ ["bool", "int", "tuple", "list", "str", "dict"]) : PySem.W.kitOne K (.type t) (.type T) = subB t T := by
 rw [za]
 simp only [List.mem_cons, List.mem_nil_iff, or_false] at ht hT
 rcases ht with rfl | rfl | rfl | rfl | rfl | rfl | rfl <;> rcases hT with rfl | rfl | rfl | rfl | rfl | rfl <;> first | rfl | kernel_rfl | decide +kernel
def mn (g : G) (K : PySem.W.Frag) (T : Ty) (u : Value) : List V → Hp → VK → Prop := fun xs H Q => ∃ rho st d x cv t k, xs = [x, cv] ∧ RelV cv u ∧ g.Sto rho st H ∧ g.Rep rho H d x ∧ dw st d = some t ∧ eu g.tab t T = some k ∧ Q (.bl k) H
theorem zb (hK : X.K = g.K) (hu : ∀ v w, RelV v u → RelV v w → w = u) (hB : ∀ t k, t ∈ ["NoneType", "bool", "int", "str", "tuple", "list", "dict"] → eu g.tab (.b t) T = some k → PySem.W.kitOne X.K (.type t) u = some k)
 (hO : ∀ n k, g.tab n T = some k → ExcC X.K (g.cls n) ∧ PySem.W.kitOne X.K (.ref (g.cls n)) u = some k) : Dc X (.builtin "isinstance") (mn g X.K T u) := by
 intro pins s sg H xs us Q I rv h
 obtain ⟨rho, st, d, x, cv, t, k, rfl, rc, S, r, ht, hs, q⟩ := h
 obtain ⟨u1, u2, rfl, ru1, ru2⟩ := vals2 rv
 obtain rfl := hu cv u2 rc ru2
 have fin : ∀ tk, EP X pins sg Q (.bool k) { s with toks := tk } := fun tk => ⟨.bl k, H, I.tok tk, rfl, q⟩
 cases d with
 | non =>
  cases Hr.mp r; cases ru1; cases ht
  exact PySem.W.kia_one PySem.W.kitx_none I.kIn True.intro (hB _ _ (by simp) hs) (fun z => nomatch z) fin
 | bl y =>
  cases Cg.mp r; cases ru1; cases ht
  exact PySem.W.kia_one PySem.W.kitx_bool I.kIn True.intro (hB _ _ (by simp) hs) (fun z => nomatch z) fin
 | int i =>
  cases av.mp r; obtain ⟨_, rfl⟩ := ru1; cases ht
  exact PySem.W.kia_one PySem.W.kitx_int I.kIn True.intro (hB _ _ (by simp) hs) (fun z => nomatch z) fin
 | str i =>
  cases Fo.mp r; obtain ⟨_, rfl⟩ := ru1; cases ht
  exact PySem.W.kia_one PySem.W.kitx_str I.kIn True.intro (hB _ _ (by simp) hs) (fun z => nomatch z) fin
 | tup ds =>
  obtain ⟨p, vs, rfl, sq, rl⟩ := Cj.mp r
  cases ru1; cases ht
  rw [← hK] at sq
  obtain ⟨its, rvs, ⟨o, ho, hc, n', hd⟩, _⟩ := I.tuple sq
  exact PySem.W.kia_one PySem.W.kitx_tuple I.kIn ⟨o, ho, hc⟩ (hB _ _ (by simp) hs) (fun z => nomatch z) fin
 | loc n =>
  obtain ⟨p, hp, rfl⟩ := Bh.mp r
  cases ru1
  simp only [dw] at ht
  cases ec : st[n]? with
  | none => rw [ec] at ht; cases ht
  | some cl =>
   rw [ec] at ht
   have cr := S.cells n p cl hp ec
   cases cl with
   | lst ds =>
    cases ht
    obtain ⟨vs, hH, _⟩ := cr
    obtain ⟨_, _, n', _, h1⟩ := (show Bs X.prog X.w H s.heap p (.lst vs) from I.hok p _ hH)
    exact PySem.W.kia_one PySem.W.kitx_list I.kIn ⟨_, h1, rfl⟩ (hB _ _ (by simp) hs) (fun z => nomatch z) fin
   | frz ds =>
    cases ht
    obtain ⟨vs, hH, _⟩ := cr
    rcases hH with ⟨o, hH⟩ | ⟨o, its, n', hk, hc, _⟩
    · obtain ⟨_, _, _, n', _, h1⟩ := (show Bs X.prog X.w H s.heap p (.frz o (.lst vs)) from I.hok p _ hH)
      exact PySem.W.kia_one PySem.W.kitx_list I.kIn ⟨_, h1, rfl⟩ (hB _ _ (by simp) hs) (fun z => nomatch z) fin
    · rw [← hK] at hk
      exact PySem.W.kia_one PySem.W.kitx_list I.kIn ⟨o, I.kIn _ _ hk, hc⟩ (hB _ _ (by simp) hs) (fun z => nomatch z) fin
   | dcn kvs =>
    cases ht
    obtain ⟨ws, hH, _⟩ := cr
    obtain ⟨⟨_, _, _, o, es, ep, h1, h2, _⟩, _⟩ := (show Bs X.prog X.w H s.heap p (.ext _) from I.hok p _ hH)
    exact PySem.W.kia_one PySem.W.kitx_dict I.kIn ⟨o, h1, h2.1⟩ (hB _ _ (by simp) hs) (fun z => nomatch z) fin
   | dcg kvs =>
    cases ht
    obtain ⟨ws, u, hH, _⟩ := cr
    obtain ⟨_, ⟨_, _, _, o, es, ep, h1, h2, _⟩, _⟩ := (show Bs X.prog X.w H s.heap p (.frz u (.ext _)) from I.hok p _ hH)
    exact PySem.W.kia_one PySem.W.kitx_dict I.kIn ⟨o, h1, h2.1⟩ (hB _ _ (by simp) hs) (fun z => nomatch z) fin
   | lamT => cases ht
   | fnl => cases ht
variable {g : G} {X : Cx} {a b c : Expr} {a' b' c' : E} {pos : Pos} {rest es : List Expr} {es' : Es}
theorem Zb (hc : RelV cv u) (q : tE g (.isi a' T) sg H Q) : tCB (mn g X.K T u) (Md (tE g a') (Md (tC cv) Pm)) sg H Q := by
 obtain ⟨rho, st, env, s, n, q⟩ := q
 simp only [aa] at q
 refine step s n q fun d st1 v H1 r1 k1 s1 n1 rp q1 => ?_
 show mn g X.K T u [v, cv] H1 Q
 cases et : dw st1 d with
 | none => rw [et] at q1; exact q1.elim
 | some t =>
  rw [et] at q1
  simp only [Option.bind_some] at q1
  cases ek : eu g.tab t T with
  | none => rw [ek] at q1; exact q1.elim
  | some k =>
   rw [ek] at q1
   exact ⟨r1, st1, d, v, cv, t, k, rfl, hc, s1, rp, et, ek, (show Aq g rho H Q (.bl k) st1 from q1) _ H1 r1 k1 s1 (Cg.mpr rfl)⟩
theorem Gq {p p2 : Pos} (hK : X.K = g.K) (hT : T ∈ ["bool", "int", "tuple", "list", "str", "dict"]) (hO : ∀ n, g.tab n (.b T) = none) (hg : Gl X "isinstance") (hm : X.mg "isinstance" = none) (hg2 : Gl X x) (hm2 : X.mg x = none) (hv : bootBuiltins x = some (.type T)) (ha : Sd g X a a')
 (hn : x ≠ "__name__" := by decide) (hd : (x == ("__debug__" : Str)) = false := by decide) (he : starEach [a, .Name x p2] X.env = (false, eval a X.env) :: starEach [.Name x p2] X.env := by rfl) (he2 : starEach [.Name x p2] X.env = (false, eval (.Name x p2) X.env) :: starEach [] X.env := by rfl) (hpl : (backTo pos (starEach [.Name x p2] X.env)).any (·.1) = false := by rfl) :
 Sd g X (.Call (.Name "isinstance" p) [a, .Name x p2] [] pos) (.isi a' (.b T)) := by
 have hc := zb (X := X) (T := .b T) (u := .type T) hK (fun v w h1 h2 => by cases v <;> first | (cases h1; exact h2) | (obtain ⟨_, z⟩ := h1; cases z) | cases h1) (fun t k ht hs => by rw [Za X.K ht hT]; exact hs) (fun n k h => by rw [hO n] at h; cases h)
 exact Bj (Jx hc hg hm rfl (Iy ha (Iy (vt (v := .ty T) hg2 hm2 hv rfl hn hd) me he2) he) (by decide) (by decide) he hpl) fun sg H Q q => Zb (cv := .ty T) rfl q
variable {g : G} {X : Cx} {a b c : Expr} {a' b' c' : E} {pos : Pos} {rest es : List Expr} {es' : Es} {F : Nat}
def ar (g : G) (rho : List Addr) (H : Hp) (D : Ends) (f : Fl) (st : Sto) : Prop := match f with
 | .next env => ∀ sg H' rho', g.Keep rho H rho' H' → g.Sto rho' st H' → g.Env rho' H' env sg → D.nx sg H'
 | .brk env => ∀ sg H' rho', g.Keep rho H rho' H' → g.Sto rho' st H' → g.Env rho' H' env sg → D.bk sg H'
 | .cont env => ∀ sg H' rho', g.Keep rho H rho' H' → g.Sto rho' st H' → g.Env rho' H' env sg → D.ct sg H'
 | .ret d => ∀ v H' rho', g.Keep rho H rho' H' → g.Sto rho' st H' → g.Rep rho' H' d v → D.rt v H'
theorem ar.mono {rho rho' : List Addr} {H H' : Hp} {D : Ends} {f : Fl} {st : Sto} (k : g.Keep rho H rho' H') (h : ar g rho H D f st) : ar g rho' H' D f st := by
 cases f <;> exact fun x H2 r2 k2 => h x H2 r2 (k.trans k2)
def tS (g : G) (F : Nat) (s : S) : TS := fun D sg H => ∃ rho st env, g.Sto rho st H ∧ g.Env rho H env sg ∧ RQ g (An g.tab g.call F s env st) (ar g rho H D) rho H
def tSs (g : G) (F : Nat) (s : Ss) : TS := fun D sg H => ∃ rho st env, g.Sto rho st H ∧ g.Env rho H env sg ∧ RQ g (ao g.tab g.call F s env st) (ar g rho H D) rho H
def SdS (g : G) (X : Cx) (F : Nat) (st : Stmt) (s : S) : Prop := PS X st (tS g F s)
def df (g : G) (X : Cx) (F : Nat) (st : List Stmt) (s : Ss) : Prop := PSs X st (tSs g F s)
theorem Df {t t' : TS} {e : Stmt} (h : PS X e t) (hi : ∀ D sg H, t' D sg H → t D sg H) : PS X e t' := fun pins s sg H D I q => h pins s sg H D I (hi _ _ _ q)
theorem qq (h : PSs X e t) (hi : ∀ D sg H, t' D sg H → t D sg H) : PSs X e t' := fun pins s sg H D I q => h pins s sg H D I (hi _ _ _ q)
theorem ag : df g X F [] .nil := qq Wd fun D sg H q => by
 obtain ⟨rho, st, env, s, n, q⟩ := q
 exact (show ar g rho H D (.next env) st from q) sg H rho (.refl _ _) s n
theorem Ae (h : SdS g X F s1 s1') (t : df g X F r1 r1') : df g X F (s1 :: r1) (.cons s1' r1') := qq (we h t) fun D sg H q => by
 obtain ⟨rho, st, env, s, n, q⟩ := q
 refine ⟨rho, st, env, s, n, ?_⟩
 simp only [ao] at q
 revert q
 cases An g.tab g.call F s1' env st with
 | bad => exact fun q => q
 | exc c st1 => exact fun q => q
 | ok f st1 =>
  simp only [Bf]
  cases f with
  | next env1 => exact fun q sg1 H1 rho1 k1 s1 n1 => ⟨rho1, st1, env1, s1, n1, RQ.mono k1 q fun f st p => ar.mono k1 p⟩
  | ret d => exact fun q => q
  | brk env1 => exact fun q => q
  | cont env1 => exact fun q => q
theorem Au (hN : X.N.Nodup) (hi : X.N[i]? = some x) (hx : Loc X.env.scope x) (he : Sd g X e e') (hs : swapsWith e (some (.Name x pos')) pos.line X.env = pure false := by rfl) (hf : X.fn x = true ∨ X.env.scope.names.lookup x = some .local := by first | exact .inl rfl | exact .inr rfl | assumption) :
 SdS g X F (.Assign [.Name x pos'] e pos) (.set i e') := Df (wm hN hi hx he hs hf) fun D sg H q => by
 obtain ⟨rho, st, env, s, n, q⟩ := q
 simp only [An] at q
 refine step s n q fun d st1 v H1 r1 k1 s1 n1 rp q1 => ?_
 split at q1
 · exact (show ar g rho H D (.next _) st1 from q1) _ H1 r1 k1 s1 (n1.set i rp)
 · exact q1.elim
theorem Ax (he : Sd g X e e') : SdS g X F (.Return (some e) pos) (.ret e') := Df (Wh he) fun D sg H q => by
 obtain ⟨rho, st, env, s, n, q⟩ := q
 simp only [An] at q
 refine step s n q fun d st1 v H1 r1 k1 s1 n1 rp q1 => ?_
 exact (show ar g rho H D (.ret d) st1 from q1) v H1 r1 k1 s1 rp
theorem Ft (he : Sd g X e e') (hs : swapsWith e none pos.line X.env = pure false := by rfl) : SdS g X F (.Expr e pos) (.ex e') := Df (wg he hs) fun D sg H q => by
 obtain ⟨rho, st, env, s, n, q⟩ := q
 simp only [An] at q
 refine step s n q fun d st1 v H1 r1 k1 s1 n1 rp q1 => ?_
 exact (show ar g rho H D (.next env) st1 from q1) sg H1 r1 k1 s1 n1
theorem Be (hc : SdT g X c c') (hx : df g X F x x') (hy : df g X F y y') : SdS g X F (.If c x y pos) (.ifS c' x' y') := Df (wj hc hx hy) fun D sg H q => by
 obtain ⟨rho, st, env, s, n, q⟩ := q
 simp only [An] at q
 refine stepT s n q fun t st1 H1 r1 k1 s1 n1 q1 => ?_
 cases t with
 | true => exact Hn ⟨r1, st1, env, s1, n1, RQ.mono (.refl _ _) q1 fun _ _ p => p.mono k1⟩
 | false => exact Hm ⟨r1, st1, env, s1, n1, RQ.mono (.refl _ _) q1 fun _ _ p => p.mono k1⟩
theorem Ke (hp : PassesOwn (model X.prog X.w) X.A X.env X.xe) (hc : SdT g X c c') (hx : df g X F x x') : SdS g X F (.While c x [] pos) (.whileS c' x') := Df (Wo hp hc hx) fun D sg H q => by
 obtain ⟨rho, st, env, s, n, q⟩ := q
 simp only [An] at q
 refine ⟨fun m sg H => ∃ rho st env, g.Sto rho st H ∧ g.Env rho H env sg ∧ RQ g (whileLoop (Ap g.tab g.call c') (ao g.tab g.call F x') m env st) (ar g rho H D) rho H, ⟨F, rho, st, env, s, n, q⟩, ?_⟩
 rintro m sg H ⟨rho, st, env, s, n, q⟩
 cases m with
 | zero => exact q.elim
 | succ m =>
  simp only [whileLoop] at q
  refine stepT s n q fun t st1 H1 r1 k1 s1 n1 q1 => ?_
  cases t with
  | false =>
   refine Hm ?_
   exact (show ar g rho H D (.next env) st1 from q1) sg H1 r1 k1 s1 n1
  | true =>
   refine Hn ⟨fun sg H => ∃ rho st env, g.Sto rho st H ∧ g.Env rho H env sg ∧ RQ g (whileLoop (Ap g.tab g.call c') (ao g.tab g.call F x') m env st) (ar g rho H D) rho H, fun sg' H' h => ⟨m, Nat.lt_succ_self m, h⟩, r1, st1, env, s1, n1, ?_⟩
   revert q1
   cases ao g.tab g.call F x' env st1 with
   | bad => exact fun q => q
   | exc c st2 => exact fun q => q
   | ok f st2 =>
    simp only [Bf]
    cases f with
    | next env2 => exact fun q sg2 H2 r2 k2 s2 n2 => ⟨r2, st2, env2, s2, n2, RQ.mono k2 q fun f st p => ar.mono (k1.trans k2) p⟩
    | cont env2 => exact fun q sg2 H2 r2 k2 s2 n2 => ⟨r2, st2, env2, s2, n2, RQ.mono k2 q fun f st p => ar.mono (k1.trans k2) p⟩
    | brk env2 => exact fun q => ar.mono (f := .next env2) k1 q
    | ret d => exact fun q => ar.mono (f := .ret d) k1 q
variable {g : G} {X : Cx} {a b c : Expr} {a' b' c' : E} {pos : Pos} {rest es : List Expr} {es' : Es} {F : Nat}
def gs : List Nat → TGs
 | [] => ma
 | i :: r => Jw (jw i) (gs r)
def tg (K : PySem.W.Frag) (is : List Nat) (one : Bool) : TG := if one then (match is with | [i] => jw i | _ => fun _ _ _ _ => False) else Ma K is.length (gs is)
theorem Qq : ∀ {is : List Nat} {ds : List D} {vs : List V} {env env' : Env} {sg : L2.St}, Cf is ds env = some env' → g.RepL rho H ds vs → g.Env rho H env sg → (∀ sg', g.Env rho H env' sg' → Q sg' H) → gs is vs sg H Q
 | [], [], vs, env, env', sg, e, r, n, h => by
  simp only [RepL] at r; subst r
  simp only [Cf] at e; cases e
  exact ⟨rfl, h sg n⟩
 | [], d :: t, vs, env, env', sg, e, r, n, h => by simp [Cf] at e
 | i :: t, [], vs, env, env', sg, e, r, n, h => by simp [Cf] at e
 | i :: t, d :: u, vs, env, env', sg, e, r, n, h => by
  simp only [RepL] at r
  obtain ⟨v, w, rfl, r1, r2⟩ := r
  simp only [Cf] at e
  split at e
  · exact ⟨v, w, rfl, Qq e r2 (n.set i r1) h⟩
  · cases e
theorem fu (e : store is one d env = some env') (r : g.Rep rho H d v) (n : g.Env rho H env sg) (h : ∀ sg', g.Env rho H env' sg' → Q sg' H) : tg g.K is one v sg H Q := by
 unfold store at e
 unfold tg
 cases one with
 | true =>
  rw [if_pos rfl] at e ⊢
  match is, e with
  | [i], e =>
   simp only [Cf] at e
   split at e
   · cases e; exact h _ (n.set i r)
   · cases e
  | [], e => simp [Cf] at e
  | i :: j :: t, e => simp [Cf] at e
 | false =>
  rw [if_neg Bool.false_ne_true] at e ⊢
  cases d with
  | tup ds =>
   obtain ⟨p, vs, rfl, q, rl⟩ := Cj.mp r
   refine ⟨p, vs, rfl, q, ?_, Qq e rl n h⟩
   have : ∀ {is : List Nat} {ds : List D} {env env' : Env}, Cf is ds env = some env' → is.length = ds.length := by
    intro is
    induction is with
    | nil => intro ds env env' e; cases ds with
     | nil => rfl
     | cons _ _ => simp [Cf] at e
    | cons i t ih => intro ds env env' e; cases ds with
     | nil => simp [Cf] at e
     | cons _ _ =>
      simp only [Cf] at e
      split at e
      · simp [ih e]
      · cases e
   rw [← rl.length, this e]
  | _ => cases e
theorem cp (hN : X.N.Nodup) (hi : X.N[i]? = some x) (hx : Loc X.env.scope x) (hf : X.fn x = true ∨ X.env.scope.names.lookup x = some .local := by first | exact .inl rfl | exact .inr rfl | assumption) : PG X (.Name x pos) (tg g.K [i] true) := cu hN hi hx hf
theorem Mn (he : Sd g X e e') (hg : PG X tgt (tg g.K is false)) (hs : swapsWithSole [tgt] e pos.line X.env = pure false := by rfl) (hw : swappedStores [tgt] e X.env = pure none := by rfl)
 (h1 : (assignEach [tgt] X.env).map (·.2) = [assign tgt X.env] := by rfl) : SdS g X F (.Assign [tgt] e pos) (.unp is e') := Df (Wl he hg hs hw h1) fun D sg H q => by
 obtain ⟨rho, st, env, s, n, q⟩ := q
 simp only [An] at q
 refine step s n q fun d st1 v H1 r1 k1 s1 n1 rp q1 => ?_
 split at q1
 · rename_i env' e1
   exact fu e1 rp n1 fun sg' n' => (show ar g rho H D (.next env') st1 from q1) sg' H1 r1 k1 s1 n'
 · exact q1.elim
theorem Mo {kt k2 pt2} (hc : X.calm = true) (hN : X.N.Nodup) (hi : X.N[i]? = some x) (hj : X.N[j]? = some y) (hij : i ≠ j)
 (hx : X.env.scope.names.lookup x = some .local) (hy : X.env.scope.names.lookup y = some .local) (ha : Sd g X a a') (hb : Sd g X b b')
 (hw : swappedStores [.Tuple [.Name x px, .Name y py] kt pt] (.Tuple [a, b] k2 pt2) X.env = pure (some [x, y]))
 (hs : swapsWithSole [.Tuple [.Name x px, .Name y py] kt pt] (.Tuple [a, b] k2 pt2) pos.line X.env = pure false := by rfl) (h1 : starEach [a, b] X.env = (false, eval a X.env) :: starEach [b] X.env := by rfl) (h2 : starEach [b] X.env = (false, eval b X.env) :: starEach [] X.env := by rfl) :
 SdS g X F (.Assign [.Tuple [.Name x px, .Name y py] kt pt] (.Tuple [a, b] k2 pt2) pos) (.par i j a' b') := Df (Wn hc hN hi hj hij hx hy (Iy ha (Iy hb me h2) h1) hw hs) fun D sg H q => by
 obtain ⟨rho, st, env, s, n, q⟩ := q
 simp only [An] at q
 refine step s n q fun d st1 v H1 r1 k1 s1 n1 rp q1 => ?_
 refine step s1 n1 q1 fun e st2 w H2 r2 k2 s2 n2 rp2 q2 => ?_
 split at q2
 · exact ⟨v, w, rfl, (show ar g rho H D (.next _) st2 from q2) _ H2 r2 (k1.trans k2) s2 ((n2.set i (rp.mono k2)).set j rp2)⟩
 · exact q2.elim
theorem Mp {J : It} {xs : List D} {p : Option Nat} {is : List Nat} {one : Bool} {x' : Ss} {r1 : List Addr} {H1 : Hp} {D : Ends} {sg : L2.St} {st1 : Sto} {env : Env}
 (hJ : ∀ rho st H, g.Keep r1 H1 rho H → g.Sto rho st H → stays st p xs = true → J.stop xs.length H ∧ ∀ (i : Nat) (d : DD.D), xs[i]? = some d → J.go i H ∧ ∀ x H', J.yld i H x H' → H' = H ∧ g.Rep rho H d x)
 (s1 : g.Sto r1 st1 H1) (n1 : g.Env r1 H1 env sg) (q1 : RQ g (forLoop xs p (fun d env st => match store is one d env with | some env' => ao g.tab g.call F x' env' st | none => .bad) xs env st1) (ar g r1 H1 D) r1 H1) :
 ∃ W : Nat → Nat → L2.St → Hp → Prop, (∃ m, W 0 m sg H1) ∧ ∀ i m sg H, W i m sg H →
  (J.stop i H ∧ D.nx sg H) ∨ (J.go i H ∧ ∃ N : L2.St → Hp → Prop, (∀ sg' H', N sg' H' → ∃ m', m' < m ∧ W (i + 1) m' sg' H') ∧ ∀ x H', J.yld i H x H' → tg g.K is one x sg H' fun sg2 H2 => tSs g F x' { D with nx := N, ct := N, bk := D.nx } sg2 H2) := by
 refine ⟨fun i m sg H => m = xs.length - i ∧ i ≤ xs.length ∧ ∃ rho st env, g.Keep r1 H1 rho H ∧ g.Sto rho st H ∧ g.Env rho H env sg ∧ RQ g (forLoop xs p (fun d env st => match store is one d env with | some env' => ao g.tab g.call F x' env' st | none => .bad) (xs.drop i) env st) (ar g rho H D) rho H, ⟨xs.length, by simp, Nat.zero_le _, r1, st1, env, .refl _ _, s1, n1, q1⟩, ?_⟩
 rintro i m sg H ⟨rfl, hi, rho, st, env, kk, s, n, q⟩
 have hst : stays st p xs = true := by
  cases z : stays st p xs with
  | true => rfl
  | false =>
   exfalso
   cases e : xs.drop i with
   | nil => rw [e] at q; simp only [forLoop, z] at q; exact q
   | cons d t => rw [e] at q; simp only [forLoop, z] at q; exact q
 obtain ⟨h1, h2⟩ := hJ rho st H kk s hst
 by_cases hlt : i < xs.length
 · obtain ⟨hgo, hy⟩ := h2 i xs[i] (List.getElem?_eq_getElem hlt)
   refine .inr ⟨hgo, fun sg H => i + 1 ≤ xs.length ∧ ∃ rho st env, g.Keep r1 H1 rho H ∧ g.Sto rho st H ∧ g.Env rho H env sg ∧ RQ g (forLoop xs p (fun d env st => match store is one d env with | some env' => ao g.tab g.call F x' env' st | none => .bad) (xs.drop (i + 1)) env st) (ar g rho H D) rho H, fun sg' H' h => ⟨xs.length - (i + 1), by omega, rfl, h.1, h.2⟩, fun x H' y => ?_⟩
   obtain ⟨e2, rx⟩ := hy x H' y
   subst e2
   rw [List.drop_eq_getElem_cons hlt] at q
   simp only [forLoop, hst, if_true] at q
   cases es : store is one xs[i] env with
   | none => rw [es] at q; exact q.elim
   | some env1 =>
    rw [es] at q
    refine fu es rx n fun sg1 n1 => ?_
    refine ⟨rho, st, env1, s, n1, ?_⟩
    revert q
    simp only
    cases ao g.tab g.call F x' env1 st with
    | bad => exact fun q => q
    | exc c st2 => exact fun q => q
    | ok f st2 =>
     simp only [Bf]
     cases f with
     | next env2 => exact fun q sg2 H2 r2 k2 s2 n2 => ⟨hlt, r2, st2, env2, kk.trans k2, s2, n2, RQ.mono k2 q fun f st p => ar.mono k2 p⟩
     | cont env2 => exact fun q sg2 H2 r2 k2 s2 n2 => ⟨hlt, r2, st2, env2, kk.trans k2, s2, n2, RQ.mono k2 q fun f st p => ar.mono k2 p⟩
     | brk env2 => exact fun q => q
     | ret d => exact fun q => q
 · have e : i = xs.length := by omega
   subst e
   refine .inl ⟨h1, ?_⟩
   rw [List.drop_eq_nil_of_le (Nat.le_refl _)] at q
   simp only [forLoop, hst, if_true] at q
   exact (show ar g rho H D (.next env) st from q) sg H rho (.refl _ _) s n
def Es.len : Es → Nat
 | .nil => 0
 | .cons _ r => r.len + 1
theorem qr {tab : Nat → Ty → Option Bool} {call : Or} : ∀ {es : Es} {env : Env} {st st' : Sto} {ds : List DD.D}, au tab call es env st = .ok ds st' → ds.length = es.len
 | .nil, env, st, st', ds, h => by simp only [au] at h; cases h; rfl
 | .cons e r, env, st, st', ds, h => by
  simp only [au] at h
  cases e1 : aa tab call e env st with
  | bad => rw [e1] at h; cases h
  | exc c st1 => rw [e1] at h; cases h
  | ok d st1 =>
   rw [e1] at h
   simp only [Bf] at h
   cases e2 : au tab call r env st1 with
   | bad => rw [e2] at h; cases h
   | exc c st2 => rw [e2] at h; cases h
   | ok t st2 =>
    rw [e2] at h
    simp only [Bf] at h
    cases h
    simp only [List.length_cons, qr e2, Es.len]
theorem mq {β : Type} {e : Es} {env : Env} {sg : L2.St} {st : Sto} {rho : List Addr} {H : Hp} {k : List DD.D → Sto → Res β} {ok : β → Sto → Prop} {Q : List V → Hp → Prop} (s : g.Sto rho st H) (n : g.Env rho H env sg)
 (h : RQ g ((au g.tab g.call e env st).bind k) ok rho H)
 (hk : ∀ d st1 v H1 rho1, d.length = e.len → g.Keep rho H rho1 H1 → g.Sto rho1 st1 H1 → g.Env rho1 H1 env sg → g.RepL rho1 H1 d v → RQ g (k d st1) ok rho1 H1 → Q v H1) : tEs g e sg H Q := by
 refine ⟨rho, st, env, s, n, ?_⟩
 revert h
 cases ee : au g.tab g.call e env st with
 | ok d st1 => exact fun h v H1 r1 k1 s1 rp => hk d st1 v H1 r1 (qr ee) k1 s1 (n.mono k1) rp (RQ.mono k1 h fun _ _ x => x)
 | exc c st1 => exact fun h => h
 | bad => exact fun h => h
theorem zc {ds xs : List DD.D} {e : Expr} (h : fk ds = some xs) (hl : ds.length = 1) : ∃ j : Int, ds = [.int j] ∧ -(2 ^ 62) ≤ j ∧ j < 2 ^ 62 ∧ xs = de 0 j.toNat := by
 match ds, hl with
 | [d], _ =>
  cases d with
  | int j =>
   simp only [fk] at h
   split at h
   · rename_i z; cases h; exact ⟨j, rfl, z.1, z.2, rfl⟩
   · cases h
  | _ => simp [fk] at h
theorem Mq {pos2 : Pos} {is : List Nat} {tgt e : Expr} {body : List Stmt} {x' : Ss} {e' : E} {p : Pos} (hp : PassesOwn (model X.prog X.w) X.A X.env X.xe) (hc : X.calm = true) (hg : Gl X "range") (hm : X.mg "range" = none) (ha : Sd g X e e') (ht : PG X tgt (tg g.K is true)) (hx : df g X F body x')
 (he : starEach [e] X.env = [(false, eval e X.env)] := by rfl) (hs : ∀ x, foldedSetIterable (.Call (.Name "range" p) [e] [] pos) X.env x = pure x   := by intro _; rfl) : SdS g X F (.For tgt (.Call (.Name "range" p) [e] [] pos) body [] pos2) (.forR is (.cons e' .nil) x') := Df (Hk hp hc (Ww hg hm (Ad ha Ag he) he) ht hx hs) fun D sg H q => by
 obtain ⟨rho, st, env, s, n, q⟩ := q
 simp only [An] at q
 refine mq s n q fun ds st1 vs H1 r1 hl k1 s1 n1 rps q1 => ?_
 split at q1
 · rename_i xs e1
   obtain ⟨j, rfl, j1, j2, rfl⟩ := zc (e := e) e1 hl
   obtain ⟨v, rfl, rv⟩ := Hs rps
   refine ⟨j, by rw [av.mp rv], j1, j2, ?_⟩
   refine Mp (J := Itr 0 j.toNat) (p := none) (fun rho st H _ _ _ => ⟨?_, fun i d hd => ?_⟩) s1 n1 (RQ.mono (.refl _ _) q1 fun f st p => ar.mono k1 p)
   · show j.toNat ≤ _
     simp [de]
   · have hi : i < j.toNat := by
      have := (List.getElem?_eq_some_iff.mp hd).1
      simpa [de] using this
     refine ⟨hi, fun x H' y => ⟨y.1, ?_⟩⟩
     have hd' : d = .int (0 + (i : Nat)) := by
      have := (List.getElem?_eq_some_iff.mp hd).2
      simp [de] at this
      simp [← this]
     rw [hd', av]
     exact y.2
 · exact q1.elim
theorem Qr {is : List Nat} {one : Bool} {tgt e : Expr} {body : List Stmt} {x' : Ss} {e' : E} (hK : X.K = g.K) (hp : PassesOwn (model X.prog X.w) X.A X.env X.xe) (hc : X.calm = true) (ha : Sd g X e e') (ht : PG X tgt (tg g.K is one)) (hx : df g X F body x')
 (hs : ∀ x, foldedSetIterable e X.env x = pure x := by intro _; rfl) : SdS g X F (.For tgt e body [] pos) (.forS is one false e' x') := Df (Hk hp hc (Ph ha) ht hx hs) fun D sg H q => by
 obtain ⟨rho, st, env, s, n, q⟩ := q
 simp only [An] at q
 refine step s n q fun d st1 v H1 r1 k1 s1 n1 rp q1 => ?_
 cases d with
 | loc m =>
  simp only [fj, Bool.false_eq_true, if_false] at q1
  cases el : aq st1 m with
  | none => rw [el] at q1; exact q1.elim
  | some ds =>
   rw [el] at q1
   simp only [Option.map_some] at q1
   obtain ⟨p, vs, hr, sq, rl⟩ := De s1 el
   obtain ⟨p2, hr2, rfl⟩ := Bh.mp rp
   rw [hr] at hr2; cases hr2
   refine ⟨p, rfl, ⟨vs, by rw [hK]; exact sq⟩, ?_⟩
   rw [hK]
   refine Mp (J := Itl g.K p) (p := some m) (fun rho st H kk s hst => ?_) s1 n1 (RQ.mono (.refl _ _) q1 fun f st p => ar.mono k1 p)
   have hst : aq st m = some ds := odt hst
   obtain ⟨p3, ws, hr3, sq3, rl3⟩ := De s hst
   rw [kk.at hr] at hr3; cases hr3
   refine ⟨⟨ws, sq3, by rw [← rl3.length]; exact Nat.le_refl _⟩, fun i d hd => ?_⟩
   obtain ⟨v, hv, rv⟩ := rl3.get hd
   refine ⟨⟨ws, v, sq3, hv⟩, fun x H' y => ⟨y.1, ?_⟩⟩
   have := y.2 ws sq3
   rw [hv] at this; cases this
   exact rv
 | _ => exact q1.elim
theorem mr {is : List Nat} {one : Bool} {tgt e : Expr} {body : List Stmt} {x' : Ss} {e' : E} (hK : X.K = g.K) (hp : PassesOwn (model X.prog X.w) X.A X.env X.xe) (hc : X.calm = true) (ha : Sd g X e e') (ht : PG X tgt (tg g.K is one)) (hx : df g X F body x')
 (hs : ∀ x, foldedSetIterable e X.env x = pure x := by intro _; rfl) : SdS g X F (.For tgt e body [] pos) (.forS is one true e' x') := Df (Hk hp hc (pj ha) ht hx hs) fun D sg H q => by
 obtain ⟨rho, st, env, s, n, q⟩ := q
 simp only [An] at q
 refine step s n q fun d st1 v H1 r1 k1 s1 n1 rp q1 => ?_
 cases d with
 | tup ds =>
  simp only [fj, if_true] at q1
  obtain ⟨p, vs, rfl, sq, rl⟩ := Cj.mp rp
  refine ⟨p, rfl, ⟨vs, by rw [hK]; exact sq⟩, ?_⟩
  rw [hK]
  refine Mp (J := Itt g.K p) (p := none) (fun rho st H kk s hst => ?_) s1 n1 (RQ.mono (.refl _ _) q1 fun f st p => ar.mono k1 p)
  have sq3 := kk.tup p vs sq
  have rl3 := rl.mono kk
  refine ⟨⟨vs, sq3, by rw [← rl3.length]; exact Nat.le_refl _⟩, fun i d hd => ?_⟩
  obtain ⟨v, hv, rv⟩ := rl3.get hd
  refine ⟨⟨vs, v, sq3, hv⟩, fun x H' y => ⟨y.1, ?_⟩⟩
  have := y.2 vs sq3
  rw [hv] at this; cases this
  exact rv
 | _ => simp [fj] at q1; exact q1.elim
theorem kg {apos cpos : Pos} (hK : X.K = g.K) (ho : Sd g X o o') (hv : Sd g X v v') (hbase : attributeBase o "append" X.env (eval o X.env) = eval o X.env := by rfl)
 (hfew : ((backTo cpos (starEach [v] X.env)).all (fun x => !x.1) && (backToKw cpos (keywordEach [] X.env)).all (fun x => x.1.isSome) && decide ([v].length + ([] : List Keyword).length + (if ([] : List Keyword).isEmpty then 0 else 1) < 30)) = true := by rfl)
 (hline : (apos.endLine == cpos.line) = true := by rfl) (hs : starEach [v] X.env = (false, eval v X.env) :: starEach [] X.env := by rfl) : Sd g X (.Call (.Attribute o "append" apos) [v] [] cpos) (.mt .append o' (.cons v' .nil)) :=
 Bj (Xz PySem.F.plainAttrs_list PySem.F.slot_list_append PySem.F.type_list_append qd ho (Ad hv Ag hs) hbase hfew hline hs rfl) fun sg H Q q => by
  obtain ⟨rho, st, env, s, n, q⟩ := q
  simp only [aa] at q
  refine step s n q fun d st1 x H1 r1 k1 s1 n1 rp q1 => ?_
  split at q1
  · rename_i hl
    have hl : Gm st1 d = true := hl
    cases d with
    | loc m =>
     have hl : ∃ xs, st1[m]? = some (.lst xs) := by
      simp only [Gm] at hl
      split at hl
      · rename_i xs e; exact ⟨xs, e⟩
      · cases hl
     obtain ⟨xs, el⟩ := hl
     obtain ⟨p, vs, hr, hH, rl⟩ := Ez s1 el
     obtain ⟨p2, hr2, rfl⟩ := Bh.mp rp
     rw [hr] at hr2; cases hr2
     refine ⟨.inl ⟨rfl, vs, SqL.of hH⟩, ?_⟩
     refine Hq s1 n1 q1 fun ds st2 ws H2 r2 k2 s2 n2 rps q2 => ?_
     match ds, q2 with
     | [y], q2 =>
      obtain ⟨w, rfl, rw1⟩ := Hs rps
      simp only [mtD] at q2
      split at q2
      · rename_i zs ez
        split at q2
        · rename_i hz
          obtain ⟨p3, us, hr3, hH3, rl3⟩ := Ez s2 ez
          rw [k2.at hr] at hr3; cases hr3
          have hrep : g.RepL r2 H2 (zs ++ [y]) (us ++ [w]) := rl3.append (by simp only [RepL]; exact ⟨w, [], rfl, rw1, rfl⟩)
          obtain ⟨k3, s3⟩ := s2.wrote (k2.at hr) ez hH3 hrep
          refine ⟨p, us, w, rfl, rfl, hH3, by rw [← rl3.length]; exact hz, ?_⟩
          exact (show Aq g rho H Q .non _ from q2) _ _ r2 ((k1.trans k2).trans k3) s3 (Hr.mpr rfl)
        · exact q2.elim
      · exact q2.elim
     | [], q2 => exact q2.elim
     | _ :: _ :: _, q2 => exact q2.elim
    | _ => cases hl
  · exact q1.elim
end DD
namespace DD
open PySem PySem.Spec L2
open PyProof.Rows hiding St
variable {g : G} {X : Cx} {a b c : Expr} {a' b' c' : E} {pos : Pos} {rest es : List Expr} {es' : Es} {F : Nat}
abbrev G.with (g : G) (E : XK) : G := { g with xk := E }
structure FunD (K : PySem.W.Frag) (x qual : Str) (st : Stmt) (f : Addr) (fd : FuncData) : Prop where
 ex : ∃ (oc : Value) (od : Option Addr) (dV kV doc pm : Value) (an : Option Addr) (cdv ct : Value) (osl : Array (Option Value)),
  fd = PySem.W.fnOf x qual (iz st) (Gk st) (Bc st) dV kV doc pm an cdv ct ∧ K.lookup f = some ⟨oc, od, .func fd, osl⟩ ∧ PySem.W.codeIn K cdv qual = true
 kp : PySem.W.keepIn K (.ref f) = true
theorem bu {K : PySem.W.Frag} {x qual : Str} {st : Stmt} {f : Addr} {oc : Value} {od an : Option Addr} {osl : Array (Option Value)} {dV kV doc pm cdv ct : Value} (l : K.lookup f = some ⟨oc, od, .func (PySem.W.fnOf x qual (iz st) (Gk st) (Bc st) dV kV doc pm an cdv ct), osl⟩)
 (c : PySem.W.codeIn K cdv qual = true) (k : PySem.W.keepIn K (.ref f) = true) : FunD K x qual st f (PySem.W.fnOf x qual (iz st) (Gk st) (Bc st) dV kV doc pm an cdv ct) := ⟨⟨oc, od, dV, kV, doc, pm, an, cdv, ct, osl, rfl, l, c⟩, k⟩
section
variable {P : Program} {w : World} {K : PySem.W.Frag} {mg : Str → Option Value} {base : Heap} {cls : CW} {tab : Nat → Ty → Option Bool} {fns : List Fn} {FF : Nat}
abbrev cxD (P : Program) (w : World) (K : PySem.W.Frag) (mg : Str → Option Value) (base : Heap) (N : List Str) (qual : Str) (st : Stmt) (f : Addr) (cdv : Value) (A : Around) (outer : List PySem.Env) (s : Shared) (H : Hp) (E : XK) : Cx := En (CXd P w) P w K mg base N qual (Bc st) f cdv A outer s H E
theorem Zc : ∀ {ds : List D} {vs : List V}, RepL K rho H ds vs → ∀ (i : Nat) (d : D), (ds.map some)[i]? = some (some d) → ∃ v, (vs.map some)[i]? = some (some v) ∧ Rep K rho H d v := fun {ds vs} r i d e => by
 rw [List.getElem?_map] at e
 cases z : ds[i]? with
 | none => rw [z] at e; cases e
 | some y =>
  rw [z] at e; cases e
  obtain ⟨v, h1, h2⟩ := r.get z
  exact ⟨v, by rw [List.getElem?_map, h1]; rfl, h2⟩
theorem Bu {x qual : Str} {st : Stmt} {f : Addr} {fd : FuncData} {N ps : List Str} {m n fi : Nat} {body' : Ss} (F : FunD K x qual st f fd) (S : FnScope N ps (Bc st)) (hf : fns[fi]? = some ⟨ps.length, N.length, body'⟩)
 (hb : ∀ (cdv : Value), fd.code = cdv → ∀ (A : Around) (outer : List PySem.Env) (s : Shared) (H : Hp) (E : XK), Room m (A.deeper (envOfC qual (Bc st) s.heap.objs.size f cdv)) → df ⟨K, cls, tab, cj tab fns FF n, E⟩ (cxD P w K mg base N qual st f cdv A outer s H E) FF (Gk st) body') :
 FnOk P w K mg base (CXd P w) (m + 1) f fd ps (spD K cls ps.length (cj tab fns FF (n + 1) fi)) := by
 obtain ⟨oc, od, dV, kV, doc, pm, an, cdv, ct, osl, rfl, lk, hcd⟩ := F.ex
 refine xm lk hcd S (fun vs H Q E h => h.1) fun A outer s H vs Q E hr hsp => ?_
 obtain ⟨hl, rho, st1, ds, s1, rl, q⟩ := hsp
 refine ⟨_, hb cdv rfl A outer s H E hr, ?_⟩
 have hdl := rl.length
 have hpn : ps.length ≤ N.length := by have := congrArg List.length S.pre; rw [List.length_take] at this; omega
 have e0 : cj tab fns FF (n + 1) fi ds st1 = fin (ao tab (cj tab fns FF n) FF body' (ds.map some ++ List.replicate (N.length - ps.length) none) st1) := by
  show (match fns[fi]? with
   | some fn => if ds.length = fn.np ∧ fn.np ≤ fn.nl then fin (ao tab (cj tab fns FF n) FF fn.body (ds.map some ++ List.replicate (fn.nl - fn.np) none) st1) else .bad
   | none => .bad) = _
  rw [hf]
  simp only
  rw [if_pos ⟨by omega, hpn⟩]
 rw [e0] at q
 refine ⟨rho, st1, ds.map some ++ List.replicate (N.length - ps.length) none, s1, ⟨?_, fun i d e => ?_⟩, ?_⟩
 · unfold L2.start
   simp [hdl, hl]
 · unfold L2.start
   by_cases hi : i < ds.length
   · rw [List.getElem?_append_left (by simpa using hi)] at e
     obtain ⟨v, h1, h2⟩ := Zc rl i d e
     exact ⟨v, by rw [List.getElem?_append_left (by simp; omega)]; exact h1, h2⟩
   · rw [List.getElem?_append_right (by simpa using hi), List.getElem?_replicate] at e
     split at e <;> cases e
 · revert q
   unfold fin
   cases ao tab (cj tab fns FF n) FF body' (ds.map some ++ List.replicate (N.length - ps.length) none) st1 with
   | bad => exact fun q => q
   | exc c st2 => exact fun q => q
   | ok f st2 =>
    simp only [Bf]
    cases f with
    | next env2 => exact fun q sg H' rho' k s' n' => q _ H' rho' k s' (by simp [Rep])
    | ret d => exact fun q => q
    | brk env2 => exact fun q => q.elim
    | cont env2 => exact fun q => q.elim
theorem Bv : FnOk P w K mg base (CXd P w) 0 f fd ps (spD K cls ps.length (cj tab fns FF 0 fi)) := by
 refine ⟨fun vs H Q E h => h.1, fun A outer s H args us vs Q E _ _ _ _ h => ?_⟩
 obtain ⟨_, rho, st1, ds, s1, rl, q⟩ := h
 exact q.elim
theorem aw (hf : fns[fi]? = some ⟨np, nl, body'⟩) : ∀ ds st, ds.length ≠ np → cj tab fns FF n fi ds st = .bad := fun ds st h => by
 cases n with
 | zero => rfl
 | succ n =>
  show (match fns[fi]? with
   | some fn => if ds.length = fn.np ∧ fn.np ≤ fn.nl then fin (ao tab (cj tab fns FF n) FF fn.body (ds.map some ++ List.replicate (fn.nl - fn.np) none) st) else .bad
   | none => .bad) = _
  rw [hf]
  simp only
  rw [if_neg (fun z => h z.1)]
end
end DD
namespace DD
open PySem PySem.Spec L2
variable {g : G} {X : Cx} {a b c : Expr} {a' b' c' : E} {pos : Pos} {rest es : List Expr} {es' : Es} {F : Nat}
variable {g : G} {X : Cx} {a b c : Expr} {a' b' c' : E} {pos : Pos} {rest es : List Expr} {es' : Es} {F : Nat}
theorem RepL.drop : ∀ {ds : List D} {vs : List V} (n : Nat), g.RepL rho H ds vs → g.RepL rho H (ds.drop n) (vs.drop n)
 | ds, vs, 0, r => by simpa using r
 | [], vs, n + 1, r => by simp only [DD.RepL] at r; subst r; simp [DD.RepL]
 | d :: t, vs, n + 1, r => by
  simp only [DD.RepL] at r
  obtain ⟨v, w, rfl, _, r2⟩ := r
  simpa using RepL.drop n r2
theorem RepL.take : ∀ {ds : List D} {vs : List V} (n : Nat), g.RepL rho H ds vs → g.RepL rho H (ds.take n) (vs.take n)
 | ds, vs, 0, r => by simp [DD.RepL]
 | [], vs, n + 1, r => by simp only [DD.RepL] at r; subst r; simp [DD.RepL]
 | d :: t, vs, n + 1, r => by
  simp only [DD.RepL] at r
  obtain ⟨v, w, rfl, r1, r2⟩ := r
  simp only [List.take_succ_cons, DD.RepL]
  exact ⟨v, _, rfl, r1, RepL.take n r2⟩
theorem RepL.cut (r : g.RepL rho H ds vs) (lo hi : Option Int) : g.RepL rho H (cutD ds lo hi) (Dv vs lo hi) := by
 unfold cutD Dv
 rw [r.length]
 exact RepL.take _ (RepL.drop _ r)
def Qs (K : PySem.W.Frag) : V → Option Int → Option Int → Hp → VK → Prop := fun x lo hi H Q => ∃ a xs, x = .ref a ∧ SqT K H a xs ∧ HT.sIx xs.length 0 lo = 0 ∧ HT.sIx xs.length xs.length hi = xs.length ∧ Q x H
section
open PyProof.Rows hiding St RelV
open PySem.SeqAt
open PySem.MeetsSeq PySem.MeetsSeq2 PySem.MeetsSeq3
theorem zd {prog : Program} {w : World} {A : Around} {E : Value → Shared → Prop} {s : Shared} {t sl : Addr} {items : Array Value} {vl vu : Value} {lo hi : Option Int} {Q : Value → Shared → Prop} (ht : IsTup s.heap t items) (hs : s.heap.IsSliceOf sl vl vu .none) (pl : IsPart vl lo) (pu : IsPart vu hi)
 (h1 : HT.sIx items.size 0 lo = 0) (h2 : HT.sIx items.size items.size hi = items.size) (h : Q (.ref t) s) : wpAny (model prog w) A (getItem (.ref t) (.ref sl)) Q E s := by
 obtain ⟨os, hos, hcs, hds⟩ := id hs
 have hTs : s.TypeIs (.ref sl) "slice" := ⟨os, hos, hcs⟩
 unfold getItem
 try with_reducible refine wpAny_holding ?_
 first | refine wpAny_bind (wpAny_pure ?_) | skip
 refine wpAny_bind (wpAny_sequenceKey ht.typeIs (by decide) ?_)
 refine wpAny_bind (wpAny_callSpecial?_slot (name := Str.ofString "__getitem__") ht.typeIs PyProof.Rows.slot_tuple_getitem
  (wpAny_call_entry PyProof.Rows.slot_tuple_getitem ht.typeIs entry_tuple_getitem ?_ (args_tuple_getitem _ _)))
 show wpAny _ _ (Builtin.Tuple.tupleItemsOf (.ref t) >>= _) _ _ s
 refine wpAny_bind (tupleItemsOf_ ht ?_)
 refine wpAny_bind (wpAny_typeOf hTs ?_)
 rw [if_pos (by decide)]
 refine wpAny_bind (HT.Pw hs pl pu ?_)
 show wpAny _ _ (if (((HT.sIx items.size 0 lo : Nat) : Int) == 0 && (1 : Int) == 1 && (HT.sIx items.size items.size hi - HT.sIx items.size 0 lo) == items.size) = true then _ else _) _ _ s
 rw [if_pos (by rw [h1, h2]; simp)]
 refine wpAny_bind (m := Builtin.Tuple.tupleIsExact (.ref t)) ?_
 unfold Builtin.Tuple.tupleIsExact
 refine wpAny_bind (wpAny_typeOf ht.typeIs (wpAny_pure ?_))
 rw [if_pos (by decide)]
 exact wpAny_bind (wpAny_rule (wpAny_pure ⟨_, rfl, wpAny_pure h⟩))
end
theorem Zd : SlR X (Qs X.K) := by
 intro pins s sg H x v vl vu lo hi sl Q I rx hs pl pu h
 obtain ⟨a, xs, rfl, hx, h1, h2, q⟩ := h
 cases rx
 obtain ⟨its, r, ht, hz⟩ := I.tuple hx
 have hlen : its.toArray.size = xs.length := by rw [List.size_toArray]; exact r.length.symm
 exact ⟨"tuple", _, PyProof.Rows.slot_tuple_getitem.lookup, ht.typeIs, zd ht hs pl pu (by rw [hlen]; exact h1) (by rw [hlen]; exact h2) ⟨.ref a, H, I, rfl, q⟩⟩
def qt (K : PySem.W.Frag) : V → Option Int → Option Int → Hp → VK → Prop := fun x lo hi H Q => ∃ a xs, x = .ref a ∧ SqL K H a xs ∧ ∀ p, H p = none → Q (.ref p) (upd H p (.lst (Dv xs lo hi)))
theorem ze (its : List Value) (lo hi : Option Int) : slicePick its.toArray lo hi none = ((its.drop (HT.sIx its.length 0 lo)).take (HT.sIx its.length its.length hi - HT.sIx its.length 0 lo)).toArray := by
 have c : ∀ (n d : Nat) (o : Option Int), o.elim d (clipAt n) = HT.sIx n d o := fun n d o => by
  cases o with
  | none => rfl
  | some v =>
   show clipAt n v = if v < 0 then (v + (n : Int)).toNat else min v.toNat n
   unfold clipAt
   by_cases h : v < 0
   · rw [if_pos h, if_pos h, Int.min_eq_left (Int.add_le_of_le_sub_right (by rw [Int.sub_self]; exact Int.le_of_lt h))]
     rcases Int.le_total 0 (v + n) with z | z
     · rw [Int.max_eq_right z]
     · rw [Int.max_eq_left z, Int.toNat_of_nonpos z]; rfl
   · rw [if_neg h, if_neg h]
     obtain ⟨k, rfl⟩ := Int.eq_ofNat_of_zero_le (Int.not_lt.mp h)
     rcases Nat.le_total k n with z | z
     · rw [Int.min_eq_left (Int.ofNat_le.mpr z), Int.max_eq_right (Int.natCast_nonneg k), Int.toNat_natCast, Nat.min_eq_left z]
     · rw [Int.min_eq_right (Int.ofNat_le.mpr z), Int.max_eq_right (Int.natCast_nonneg n), Int.toNat_natCast, Int.toNat_natCast, Nat.min_eq_right z]
 rw [slicePick_plain, c, c]
 simp
theorem Ze : SlR X (qt X.K) := by
 intro pins s sg H x v vl vu lo hi sl Q I rx hs pl pu h
 obtain ⟨a, xs, rfl, hx, q⟩ := h
 cases rx
 obtain ⟨its, r, hl, hz⟩ := I.list hx
 have hlen := r.length
 refine ⟨"list", _, slot_list_getitem.lookup, hl.isList.typeIs, ?_⟩
 refine wpAny_getItem_list_slice hl.isList hs pl pu .none (by simp) ?_ (by rw [List.size_toArray, ← hlen]; exact hz)
 rw [ze]
 refine ⟨.ref s.heap.objs.size, _, I.lnew (t' := s.toks) (ys := Dv xs lo hi) ?_ (Nat.le_trans (Py xs lo hi) hz), rfl, q _ (I.hok.fresh (Nat.le_refl _))⟩
 unfold Dv
 rw [hlen]
 exact (r.drop _).take _
variable {g : G} {X : Cx} {a b c : Expr} {a' b' c' : E} {pos p2 : Pos} {rest es : List Expr} {es' : Es} {F : Nat}
theorem bind_assoc {α β γ : Type} (r : Res α) (f : α → Sto → Res β) (k : β → Sto → Res γ) : (r.bind f).bind k = r.bind fun a st => (f a st).bind k := by cases r <;> rfl
def rSl (K : PySem.W.Frag) : V → Option Int → Option Int → Hp → VK → Prop := fun x lo hi H Q => qt K x lo hi H Q ∨ Pz K x lo hi H Q ∨ Qs K x lo hi H Q
theorem Mr : SlR X (rSl X.K) := Ze.or (Xr.or Zd)
theorem Mu (hK : X.K = g.K) (hp : jz k ds = some (lo, hi)) (s : g.Sto rho st H) (rx : g.Rep rho H x v)
 (q : RQ g (slD k x ds st) (Aq g rho H Q) rho H) : rSl X.K v lo hi H Q := by
 unfold slD at q
 rw [hp] at q
 simp only at q
 cases x with
 | tup xs =>
  have q : Aq g rho H Q (.tup (cutD xs lo hi)) st := q
  obtain ⟨p, vs, rfl, sq, rl⟩ := Cj.mp rx
  have sq' : SqT X.K H p vs := by rw [hK]; exact sq
  by_cases w : HT.sIx vs.length 0 lo = 0 ∧ HT.sIx vs.length vs.length hi = vs.length
  · refine .inr (.inr ⟨p, vs, rfl, sq', w.1, w.2, q _ H rho (.refl _ _) s (Cj.mpr ⟨p, vs, rfl, sq, ?_⟩)⟩)
    have e : cutD xs lo hi = xs := by
     unfold cutD
     rw [rl.length, w.1, w.2, List.drop_zero, Nat.sub_zero, ← rl.length, List.take_length]
    rw [e]; exact rl
  · refine .inr (.inl ⟨p, vs, rfl, sq', w, fun l hl => ?_⟩)
    have e := Ew hl (.tup (Dv vs lo hi))
    exact q (.ref l) _ rho (Bo.keep e rho) (s.same e) (Cj.mpr ⟨l, _, rfl, SqT.of Bm, (RepL.cut rl lo hi).mono (Bo.keep e rho)⟩)
 | loc n =>
  simp only at q
  split at q
  · rename_i xs e
    obtain ⟨p, vs, h1, sq, rl⟩ := De s e
    obtain ⟨p2, h2, rfl⟩ := Bh.mp rx
    rw [h1] at h2; cases h2
    exact .inl ⟨p, vs, rfl, by rw [hK]; exact sq, fun l hl => Ka s (RepL.cut rl lo hi) hl q⟩
  · exact q.elim
 | _ => exact q.elim
theorem mv (hK : X.K = g.K) (ha : Sd g X a a') (hb : Sd g X b b') : Sd g X (.Subscript a (.Slice (some b) none none p2) pos) (.sl 1 a' (.cons b' .nil)) := Bj (mf Mr ha (jy hb) Px) fun sg H Q q => by
 obtain ⟨rho, st, env, s, n, q⟩ := q
 simp only [aa, dq, Bf, bind_assoc] at q
 refine step s n q fun x st1 v H1 r1 k1 s1 n1 rx q1 => ?_
 refine step s1 n1 q1 fun y st2 u H2 r2 k2 s2 n2 ry q2 => ?_
 cases y with
 | int i => exact ⟨i, av.mp ry, Mu hK (k := 1) (ds := [.int i]) rfl s2 (rx.mono k2) (RQ.mono (.refl _ _) q2 fun _ _ p => p.mono (k1.trans k2))⟩
 | _ => exact q2.elim
theorem Qt (hK : X.K = g.K) (ha : Sd g X a a') (hb : Sd g X b b') : Sd g X (.Subscript a (.Slice none (some b) none p2) pos) (.sl 2 a' (.cons b' .nil)) := Bj (mf Mr ha Px (jy hb)) fun sg H Q q => by
 obtain ⟨rho, st, env, s, n, q⟩ := q
 simp only [aa, dq, Bf, bind_assoc] at q
 refine step s n q fun x st1 v H1 r1 k1 s1 n1 rx q1 => ?_
 refine step s1 n1 q1 fun y st2 u H2 r2 k2 s2 n2 ry q2 => ?_
 cases y with
 | int i => exact ⟨i, av.mp ry, Mu hK (k := 2) (ds := [.int i]) rfl s2 (rx.mono k2) (RQ.mono (.refl _ _) q2 fun _ _ p => p.mono (k1.trans k2))⟩
 | _ => exact q2.elim
theorem zf (hK : X.K = g.K) (ha : Sd g X a a') (hb : Sd g X b b') (hc : Sd g X c c') : Sd g X (.Subscript a (.Slice (some b) (some c) none p2) pos) (.sl 3 a' (.cons b' (.cons c' .nil))) := Bj (mf Mr ha (jy hb) (jy hc)) fun sg H Q q => by
 obtain ⟨rho, st, env, s, n, q⟩ := q
 simp only [aa, dq, Bf, bind_assoc] at q
 refine step s n q fun x st1 v H1 r1 k1 s1 n1 rx q1 => ?_
 refine step s1 n1 q1 fun y st2 u H2 r2 k2 s2 n2 ry q2 => ?_
 cases y with
 | int i =>
  simp only [bind_assoc] at q2
  refine ⟨i, av.mp ry, step s2 n2 q2 fun z st3 w H3 r3 k3 s3 n3 rz q3 => ?_⟩
  cases z with
  | int j => exact ⟨j, av.mp rz, Mu hK (k := 3) (ds := [.int i, .int j]) rfl s3 ((rx.mono k2).mono k3) (RQ.mono (.refl _ _) q3 fun _ _ p => p.mono ((k1.trans k2).trans k3))⟩
  | _ => exact q3.elim
 | _ => exact q2.elim
variable {g : G} {X : Cx} {a b c : Expr} {a' b' c' : E} {pos apos : Pos} {rest es : List Expr} {es' : Es} {F : Nat}
variable {g : G} {X : Cx} {a b c : Expr} {a' b' c' : E} {pos apos cpos : Pos} {rest es : List Expr} {es' : Es} {F : Nat}
theorem Zf (h : Gm st d = true) : ∃ m xs, d = .loc m ∧ st[m]? = some (.lst xs) := by
 cases d with
 | loc m =>
  simp only [Gm] at h
  split at h
  · rename_i xs e; exact ⟨m, xs, rfl, e⟩
  · cases h
 | _ => cases h
theorem RepL.dropLast : ∀ {ds : List D} {vs : List V}, g.RepL rho H ds vs → g.RepL rho H ds.dropLast vs.dropLast
 | [], vs, r => by simp only [DD.RepL] at r; subst r; simp [DD.RepL]
 | [d], vs, r => by
  simp only [DD.RepL] at r
  obtain ⟨v, w, rfl, _, rfl⟩ := r
  simp [DD.RepL]
 | d :: e :: t, vs, r => by
  simp only [DD.RepL] at r
  obtain ⟨v, w, rfl, r1, v2, w2, rfl, r2, r3⟩ := r
  show g.RepL rho H (d :: (e :: t).dropLast) (v :: (v2 :: w2).dropLast)
  simp only [DD.RepL]
  exact ⟨v, _, rfl, r1, RepL.dropLast (ds := e :: t) (vs := v2 :: w2) (by simp only [DD.RepL]; exact ⟨v2, w2, rfl, r2, r3⟩)⟩
theorem qu (hK : X.K = g.K) (ho : Sd g X o o') (hbase : attributeBase o "pop" X.env (eval o X.env) = eval o X.env := by rfl) (hline : (apos.endLine == cpos.line) = true := by rfl) : Sd g X (.Call (.Attribute o "pop" apos) [] [] cpos) (.mt .pop o' .nil) :=
 Bj (Xy PySem.F.plainAttrs_list PySem.F.slot_list_pop PySem.F.type_list_pop yd ho hbase hline) fun sg H Q q => by
  obtain ⟨rho, st, env, s, n, q⟩ := q
  simp only [aa] at q
  refine step s n q fun d st1 x H1 r1 k1 s1 n1 rp q1 => ?_
  split at q1
  · rename_i hl
    obtain ⟨m, xs, rfl, el⟩ := Zf hl
    obtain ⟨p, vs, hr, hH, rl⟩ := Ez s1 el
    obtain ⟨p2, hr2, rfl⟩ := Bh.mp rp
    rw [hr] at hr2; cases hr2
    simp only [au, Bf, mtD, el] at q1
    split at q1
    · rename_i d ed
      rw [List.getLast?_eq_getElem?] at ed
      obtain ⟨w, e1, rw1⟩ := rl.get ed
      rw [rl.length] at e1
      refine ⟨.inl ⟨rfl, vs, SqL.of hH⟩, p, vs, w, rfl, rfl, hH, e1, ?_⟩
      obtain ⟨k3, s3⟩ := s1.wrote hr el hH (RepL.dropLast rl)
      exact (show Aq g rho H Q d _ from q1) _ _ r1 (k1.trans k3) s3 (rw1.mono k3)
    · exact q1.elim
  · exact q1.elim
end DD
namespace DD
open PySem PySem.Spec L2
open PyProof.Rows hiding St RelV
variable {g : G} {X : Cx} {pos : Pos} {F : Nat}
def Hu (g : G) (e : Es) : TT := fun sg H Q => ∃ rho st env, g.Sto rho st H ∧ g.Env rho H env sg ∧ RQ g (br g.tab g.call e env st) (Di g rho H Q) rho H
def PTs (X : Cx) (ifs : List Expr) (t : TT) : Prop := ∀ (pins : List (Addr × Obj)) (s : Shared) (sg : L2.St) (H : Hp) (Q : Bool → Hp → Prop), Inv X pins sg H s → t sg H Q →
 wpAny (model X.prog X.w) X.A (forIn ifs true fun c r => if r = true then do let ok ← isTrue c X.env (eval c X.env); pure (ForInStep.yield ok) else pure (ForInStep.yield r)) (TP X pins sg Q) X.xe s
theorem Mv : PTs X [] (Hu g .nil) := fun pins s sg H Q I q => by
 obtain ⟨rho, st, env, S, n, q⟩ := q
 simp only [br] at q
 exact wpAny_tests_nil ⟨H, I, (show Di g rho H Q true st from q) H rho (.refl _ _) S⟩
theorem mw (h : SdT g X c c') : PTs X [c] (Hu g (.cons c' .nil)) := fun pins s sg H Q I q => by
 refine wpAny_tests_one (h pins s sg H Q I ?_)
 obtain ⟨rho, st, env, S, n, q⟩ := q
 refine ⟨rho, st, env, S, n, ?_⟩
 simp only [br] at q
 revert q
 cases Ap g.tab g.call c' env st with
 | bad => exact fun q => q
 | exc k st1 => exact fun q => q
 | ok b st1 => simp only [Bf]; cases b <;> exact fun q => q
abbrev Mw (X : Cx) (scope : Scope) (cl : List (Str × Addr)) (L : Addr) : PySem.Env := { newEnv scope L X.env.globals cl X.env.qual none .none (some X.env) builtinsNs with scope := relabel scope X.env }
abbrev cxG (X : Cx) (N : List Str) (scope : Scope) (cl : List (Str × Addr)) (L : Addr) (s0 : Shared) (H0 : Hp) (fp : List Addr) (pn : List (Addr × Obj)) : Cx :=
 { X with N := N, s₀ := s0, H₀ := H0, env := Mw X scope cl L, outer := X.stack, stack := X.stack, ex := fp, fn := fun x => (cl.lookup x).isNone, pn := pn, xe := fun _ _ => False }
theorem mx (I : L2.Inv X pins sg H s) (h : Co X pins H2 b) : b ∉ frs X.stack := fun hm => by
 rcases List.mem_cons.mp (I.stkSub b hm) with z | z
 · exact h.2.1 z
 · exact h.2.2.1 z
structure Clos (X : Cx) (scope : Scope) (cl : List (Str × Addr)) : Prop where
 sub : ∀ x c, cl.lookup x = some c → X.env.cells.lookup x = some c
 has : ∀ x, ((relabel scope X.env).names.lookup x = some .cell ∨ (relabel scope X.env).names.lookup x = some .free) → ∃ c, cl.lookup x = some c
theorem Qu {pins : List (Addr × Obj)} {sg : L2.St} {H : Hp} {s3 : Shared} {N : List Str} {nl : Nat} {fv : List Nat} {scope : Scope} {cl : List (Str × Addr)} {fp : List Addr} {h1 : Heap} {m : Str → Option Value} {tk : Nat} (hkind : scope.kind = .function) (C : Clos X scope cl)
 (hN : N.length = nl + fv.length) (hfv : ∀ j k, fv[j]? = some k → ∃ x c, N[nl + j]? = some x ∧ X.N[k]? = some x ∧ cl.lookup x = some c ∧ (X.env.scope.names.lookup x = some .cell ∨ X.env.scope.names.lookup x = some .free) ∧ ((relabel scope X.env).names.lookup x = some .cell ∨ (relabel scope X.env).names.lookup x = some .free))
 (I : L2.Inv X pins sg H s3) (hfp : ∀ b ∈ fp, Co X pins H b ∧ b < s3.heap.objs.size) (hn : h1.Ns s3.heap.objs.size m) (hk : ∀ b o, s3.heap.get? b = some o → h1.get? b = some o) :
 L2.Inv (cxG X N scope cl s3.heap.objs.size s3 H fp (X.pn ++ pins)) [] (List.replicate nl none ++ fv.map fun k => (sg[k]?).join) H { s3 with heap := h1, toks := tk } := by
 have fsF : ∀ b, b < s3.heap.objs.size → b ≠ s3.heap.objs.size := fun b h z => by rw [z] at h; exact Nat.lt_irrefl _ h
 refine ⟨⟨I.ok.mod, hkind, I.ok.glob, I.ok.blt, Nat.le_refl _, fun x y c h1 h2 => I.ok.inj x y c (C.sub x c h1) (C.sub y c h2), fun y hy => C.has y hy, fun y c hy h => ?_, I.ok.hd, I.ok.frames, .inl rfl, fun b hb => ⟨fsF b (hfp b hb).2, fun y c h => (hfp b hb).1.2.2.2.2.1 y c (C.sub y c h)⟩, I.bs, Nat.le_trans I.ok.bsz I.sz, fun b o e hb => ?_, fun b hb => mx I (hfp b hb).1, I.stack, I.stkFree⟩,
  rfl, I.bare, Un.kept hk, ⟨m, hn, fun i y v e1 e2 _ => ?_⟩, fun y c h => ?_, I.hok.fresh (Nat.le_refl _), fun y c h => I.freeC y c (C.sub y c h), fun p hp => ?_, I.hok.kept hk, ?_⟩
 · have h : cl.lookup y = some c := h
   have hy : (cl.lookup y).isNone = true := hy
   rw [h] at hy; cases hy
 · obtain ⟨f, _⟩ := hfp b hb
   rcases f.2.2.2.1 with z | z
   · exact I.ok.noex b o e z
   · exact absurd (Nat.lt_of_lt_of_le (Heap.lt_size e) (Nat.le_trans I.ok.bsz z)) (Nat.lt_irrefl _)
 · by_cases hi : i < nl
   · rw [List.getElem?_append_left (by simpa using hi), List.getElem?_replicate] at e2
     split at e2 <;> cases e2
   · rw [List.getElem?_append_right (by simp; omega)] at e2
     simp only [List.length_replicate, List.getElem?_map] at e2
     cases ek : fv[i - nl]? with
     | none => rw [ek] at e2; cases e2
     | some k =>
      rw [ek] at e2
      simp only [Option.map_some, Option.some.injEq] at e2
      obtain ⟨x, c, n1, n2, n3, n4, n5⟩ := hfv _ k ek
      have ei : nl + (i - nl) = i := by omega
      rw [ei] at n1
      have e1 : N[i]? = some y := e1
      rw [n1] at e1; cases e1
      have e3 : sg[k]? = some (some v) := by
       cases z : sg[k]? with
       | none => rw [z] at e2; cases e2
       | some o => rw [z] at e2; cases o with
        | none => cases e2
        | some w => cases e2; rfl
      obtain ⟨m0, hm0, hl⟩ := I.loc
      obtain ⟨u, ru, lk⟩ := hl k _ v n2 e3 (by rcases n4 with z | z; exact .inr (.inl z); exact .inr (.inr z))
      refine ⟨u, ru, .inr ⟨n5, c, n3, ?_⟩⟩
      rcases lk with ⟨k1, _⟩ | ⟨_, c2, k2, k3⟩
      · have k1 : X.env.scope.names.lookup y = some .local := k1
        rcases n4 with z | z <;> (rw [z] at k1; cases k1)
      · rw [C.sub _ c n3] at k2; cases k2
        obtain ⟨o, ho, hd⟩ := k3
        exact ⟨o, hk _ _ ho, hd⟩
 · obtain ⟨v, o, ho, hd⟩ := I.cell y c (C.sub y c h)
   exact ⟨v, o, hk _ _ ho, hd⟩
 · rw [List.append_nil] at hp
   obtain ⟨p1, p2, p3, p4, p5⟩ := I.pin p hp
   refine ⟨hk _ _ p1, p2, fsF _ (Heap.lt_size p1), fun hm => ?_, p5⟩
   rcases List.mem_cons.mp (I.stkSub p.1 hm) with z | z
   · exact p3 z
   · exact p4 z
 · show (List.replicate nl none ++ fv.map _).length = N.length
   simp [hN]
theorem zg (I : Nat → Shared → Prop)
 (turn : ∀ n s, I n s → wpAny (model prog w) A (pyNext it) (fun r s₁ => match r with
  | none => R (.ok .next) s₁
  | some v => wpAny (model prog w) A (letOwnedTupleGo target it v) (fun _ s₁ => wpAny (model prog w) A (assign target env v) (fun _ s₂ =>
   wpAny (model prog w) A (forIn ifs true fun c r => if r = true then do let ok ← isTrue c env (eval c env); pure (ForInStep.yield ok) else pure (ForInStep.yield r)) (fun ok s₃ =>
    if ok = true then wpAny (model prog w) A (eval elt env) (fun x s₄ =>
     wpAny (model prog w) A (call (.builtin "list.append") [acc, x]) (fun _ s₅ => ∃ m, m < n ∧ I m s₅) (notedBy (model prog w) A env fun e s' => R (.error e) s') s₄) (notedBy (model prog w) A env fun e s' => R (.error e) s') s₃
    else ∃ m, m < n ∧ I m s₃) (notedBy (model prog w) A env fun e s' => R (.error e) s') s₂) (notedBy (model prog w) A env fun e s' => R (.error e) s') s₁) (notedBy (model prog w) A env fun e s' => R (.error e) s') s₁) (notedBy (model prog w) A env fun e s' => R (.error e) s') s)
 (n : Nat) (h : I n s) : codeAny (model prog w) A (.compLoop (.ListComp elt [⟨target, iter, ifs, 0⟩] scope pos) 0 it acc env) R s := by
 refine codeAny_loop rfl I (fun n s hI => ?_) n h
 show wpAny _ _ ((compTurn (.ListComp elt [⟨target, iter, ifs, 0⟩] scope pos) 0 it acc env).onRaise (fun x => do noteFrame x env; theTreesLotGoes x)) _ _ s
 refine wpAny_noted ?_
 rw [compTurn_list]
 refine wpAny_bind (wpAny_standAt (wpAny_bind (wpAny_mono (turn n s hI) (fun r s₁ h₁ => ?_) fun _ _ h' => h')))
 cases r with
 | none => exact wpAny_pure h₁
 | some v =>
  refine wpAny_bind (wpAny_mono h₁ (fun _ s₁ h₁ => ?_) fun _ _ h' => h')
  refine wpAny_bind (wpAny_mono h₁ (fun _ s₂ h₂ => wpAny_bind (wpAny_mono h₂ (fun ok s₃ h₃ => ?_) fun _ _ h' => h')) fun _ _ h' => h')
  cases ok with
  | false => exact wpAny_pure ⟨rfl, h₃⟩
  | true =>
   exact wpAny_bind (wpAny_bind (wpAny_mono h₃ (fun x s₄ h₄ => wpAny_bind (wpAny_mono h₄ (fun _ s₅ h₅ => wpAny_pure (wpAny_pure ⟨rfl, h₅⟩)) fun _ _ h' => h')) fun _ _ h' => h'))
variable {g : G} {X : Cx} {pos : Pos} {F : Nat}
def ItJ (g : G) (J : It) (xs : List D) (p : Option Nat) (r1 : List Addr) (H1 : Hp) : Prop := ∀ rho st H, g.Keep r1 H1 rho H → g.Sto rho st H → stays st p xs = true → J.stop xs.length H ∧ ∀ (i : Nat) (d : DD.D), xs[i]? = some d → J.go i H ∧ ∀ x H', J.yld i H x H' → Bo H H' ∧ g.Rep rho H' d x
theorem Mx (e : H' = H) (r : g.Rep rho H d x) : Bo H H' ∧ g.Rep rho H' d x := by
 subst e; exact ⟨fun _ _ h => h, r⟩
def SdI (g : G) (X : Cx) (target iter : Expr) (n : Nat) (it' : E) : Prop := ∃ wi : TI, PI X target iter wi ∧ ∀ rho st env sg H (R : It → Hp → Prop), g.Sto rho st H → g.Env rho H env sg →
 RQ g (aa g.tab g.call it' env st) (fun d st1 => ∃ xs p, Cq n st1 d = some (xs, p) ∧ ∀ H1 r1 J, g.Keep rho H r1 H1 → g.Sto r1 st1 H1 → ItJ g J xs p r1 H1 → R J H1) rho H → wi sg H R
theorem Zg (hK : X.K = g.K) (h : Sd g X iter it') : SdI g X target iter 0 it' := by
 refine ⟨_, Ph h, fun rho st env sg H R s n q => ?_⟩
 refine ⟨rho, st, env, s, n, ?_⟩
 revert q
 cases aa g.tab g.call it' env st with
 | bad => exact fun q => q
 | exc c st1 => exact fun q => q
 | ok d st1 =>
  rintro ⟨xs, p, e, q⟩ v H1 r1 k1 s1 rv
  cases d with
  | loc m =>
   simp only [Cq] at e
   cases el : aq st1 m with
   | none => rw [el] at e; cases e
   | some ds =>
    rw [el] at e; cases e
    obtain ⟨a, vs, hr, sq, rl⟩ := De s1 el
    obtain ⟨a2, hr2, rfl⟩ := Bh.mp rv
    rw [hr] at hr2; cases hr2
    refine ⟨a, rfl, ⟨vs, by rw [hK]; exact sq⟩, q H1 r1 _ k1 s1 ?_⟩
    rw [hK]
    intro rho st H kk s hst
    have hst : aq st m = some xs := odt hst
    obtain ⟨p3, ws, hr3, sq3, rl3⟩ := De s hst
    rw [kk.at hr] at hr3; cases hr3
    refine ⟨⟨ws, sq3, by rw [← rl3.length]; exact Nat.le_refl _⟩, fun i d hd => ?_⟩
    obtain ⟨v, hv, rv⟩ := rl3.get hd
    refine ⟨⟨ws, v, sq3, hv⟩, fun x H' y => Mx y.1 ?_⟩
    have := y.2 ws sq3
    rw [hv] at this; cases this
    exact rv
  | _ => cases e
theorem Kg (hK : X.K = g.K) (h : Sd g X iter it') : SdI g X target iter 1 it' := by
 refine ⟨_, pj h, fun rho st env sg H R s n q => ?_⟩
 refine ⟨rho, st, env, s, n, ?_⟩
 revert q
 cases aa g.tab g.call it' env st with
 | bad => exact fun q => q
 | exc c st1 => exact fun q => q
 | ok d st1 =>
  rintro ⟨xs, p, e, q⟩ v H1 r1 k1 s1 rv
  cases d with
  | tup ds =>
   simp only [Cq] at e; cases e
   obtain ⟨a, vs, rfl, sq, rl⟩ := Cj.mp rv
   refine ⟨a, rfl, ⟨vs, by rw [hK]; exact sq⟩, q H1 r1 _ k1 s1 ?_⟩
   rw [hK]
   intro rho st H kk s hst
   have sq3 := kk.tup a vs sq
   have rl3 := rl.mono kk
   refine ⟨⟨vs, sq3, by rw [← rl3.length]; exact Nat.le_refl _⟩, fun i d hd => ?_⟩
   obtain ⟨v, hv, rv⟩ := rl3.get hd
   refine ⟨⟨vs, v, sq3, hv⟩, fun x H' y => Mx y.1 ?_⟩
   have := y.2 vs sq3
   rw [hv] at this; cases this
   exact rv
  | _ => cases e
def my (g : G) (tg : List Nat) (one : Bool) (env0 : Env) (ifs : Es) (elt : E) (d : D) (st : Sto) : Res (Option D) := match store tg one d env0 with
 | some env' => (br g.tab g.call ifs env' st).bind fun b st => if b then (aa g.tab g.call elt env' st).bind fun y st => .ok (some y) st else .ok none st
 | none => .bad
theorem mz : ∀ {xs : List D} {st : Sto}, compLoop all p n0 body xs st ≠ .exc c st'
 | [], st => by
  simp only [compLoop]
  split <;> (intro h; cases h)
 | d :: r, st => by
  simp only [compLoop]
  split
  · split
    · split
      · split
        · exact mz
        · intro h; cases h
      · intro h; cases h
    · exact mz
    · intro h; cases h
  · intro h; cases h
theorem Mz : ∀ {is : List Nat} {ds : List D} {env env' : Env}, Cf is ds env = some env' → (∀ i ∈ is, i < nl) → env'.length = env.length ∧ ∀ j, nl ≤ j → env'[j]? = env[j]?
 | [], [], env, env', e, _ => by simp only [Cf] at e; cases e; exact ⟨rfl, fun _ _ => rfl⟩
 | [], _ :: _, env, env', e, _ => by simp [Cf] at e
 | _ :: _, [], env, env', e, _ => by simp [Cf] at e
 | i :: r, d :: t, env, env', e, h => by
  simp only [Cf] at e
  split at e
  · obtain ⟨h1, h2⟩ := Mz e fun k hk => h k (List.mem_cons_of_mem _ hk)
    have hi := h i List.mem_cons_self
    refine ⟨by rw [h1]; simp, fun j hj => ?_⟩
    rw [h2 j hj, List.getElem?_set_ne (by omega)]
  · cases e
theorem qv (e : store is one d env = some env') (h : ∀ i ∈ is, i < nl) : env'.length = env.length ∧ ∀ j, nl ≤ j → env'[j]? = env[j]? := by
 unfold store at e
 cases one with
 | true => rw [if_pos rfl] at e; exact Mz e h
 | false =>
  rw [if_neg Bool.false_ne_true] at e
  cases d with
  | tup ds => exact Mz e h
  | _ => cases e
theorem qw (h : (Bx nl fv env)[j]? = some (some d)) : nl ≤ j ∧ ∃ k, fv[j - nl]? = some k ∧ Dd env k = some d := by
 unfold Bx at h
 by_cases hj : j < nl
 · rw [List.getElem?_append_left (by simpa using hj), List.getElem?_replicate] at h
   split at h <;> cases h
 · refine ⟨by omega, ?_⟩
   rw [List.getElem?_append_right (by simp; omega)] at h
   simp only [List.length_replicate, List.getElem?_map] at h
   cases ek : fv[j - nl]? with
   | none => rw [ek] at h; cases h
   | some k => rw [ek] at h; simp only [Option.map_some, Option.some.injEq] at h; exact ⟨k, rfl, h⟩
theorem zh (h : Dd env k = some d) : env[k]? = some (some d) := by
 unfold Dd at h
 cases z : env[k]? with
 | none => rw [z] at h; cases h
 | some o => rw [z] at h; cases o with
  | none => cases h
  | some y => cases h; rfl
theorem Qw (n : g.Env rho H env sg) (nl : Nat) (fv : List Nat) : g.Env rho H (Bx nl fv env) (List.replicate nl none ++ fv.map fun k => (sg[k]?).join) := by
 refine ⟨by simp [Bx], fun j d e => ?_⟩
 obtain ⟨hj, k, ek, ed⟩ := qw e
 obtain ⟨v, e1, r⟩ := n.val k d (zh ed)
 refine ⟨v, ?_, r⟩
 rw [List.getElem?_append_right (by simp; omega)]
 simp [ek, e1]
theorem qx (h0 : env0 = Bx nl fv env) (hl : env'.length = env0.length) (hh : ∀ j, nl ≤ j → env'[j]? = env0[j]?) (n : g.Env rho H env' sg) : g.Env rho H env0 sg := by
 subst h0
 refine ⟨by rw [← hl]; exact n.len, fun j d e => ?_⟩
 obtain ⟨hj, _⟩ := qw e
 exact n.val j d (by rw [hh j hj]; exact e)
variable {g : G} {X : Cx} {pos : Pos} {F : Nat}
theorem Qx {elt iter target : Expr} {ifs : List Expr} {N : List Str} {nl : Nat} {fv tgs : List Nat} {one : Bool} {k : Nat} {scope : Scope} {cl : List (Str × Addr)} {it' elt' : E} {ifs' : Es} (hK : X.K = g.K) (hc : X.calm = true) (hkind : scope.kind = .function) (hcell : ∀ y ∈ scope.names, y.2 ≠ .cell)
 (hnames : ∀ y ∈ scope.names, y.2 = .local → scope.names.lookup y.1 = some .local) (hclos : closureFor scope X.env = pure cl) (C : Clos X scope cl) (hN : N.length = nl + fv.length)
 (hfv : ∀ j k, fv[j]? = some k → ∃ x c, N[nl + j]? = some x ∧ X.N[k]? = some x ∧ cl.lookup x = some c ∧ (X.env.scope.names.lookup x = some .cell ∨ X.env.scope.names.lookup x = some .free) ∧ ((relabel scope X.env).names.lookup x = some .cell ∨ (relabel scope X.env).names.lookup x = some .free))
 (htg : ∀ i ∈ tgs, i < nl) (hi : SdI g X target iter k it') (hg : ∀ L s0 H0 fp pn, PG (cxG X N scope cl L s0 H0 fp pn) target (tg g.K tgs one))
 (ht : ∀ L s0 H0 fp pn, PTs (cxG X N scope cl L s0 H0 fp pn) ifs (Hu (g.with fun _ _ _ => False) ifs')) (he : ∀ L s0 H0 fp pn, Sd (g.with fun _ _ _ => False) (cxG X N scope cl L s0 H0 fp pn) elt elt')
 (hs : ∀ x, foldedSetIterable iter X.env x = pure x := by intro _; rfl)
 {use : Option (Value → Sem Unit)} {Qv : Value → Shared → Prop} {pins : List (Addr × Obj)} {s : Shared} {sg : L2.St} {H : Hp} {Q : VK} (I : L2.Inv X pins sg H s) (q : tE g (.comp k one nl tgs fv it' ifs' elt') sg H Q)
 (hfin : ∀ (ac C : Addr) (H' : Hp) (s4 : Shared), (∃ m, s4.heap.Ns C m) → Co X pins H' C → (∀ h', Heap.SameBut C s4.heap h' → L2.Inv X pins sg H' { s4 with heap := h' }) → Q (.ref ac) H' → compPost (model X.prog X.w) X.A X.xe use Qv (.ref ac) C (.ok .next) s4) :
 wpAny (model X.prog X.w) X.A (comprehension (.ListComp elt [⟨target, iter, ifs, 0⟩] scope pos) scope X.env (firstIterPos [⟨target, iter, ifs, 0⟩] pos) (newList []) (firstAsync [⟨target, iter, ifs, 0⟩]) (firstIter [⟨target, iter, ifs, 0⟩] X.env) use) Qv X.xe s := by
 obtain ⟨rho, st, env, S, n, q⟩ := q
 obtain ⟨wi, hpi, hwi⟩ := hi
 generalize hB : my g tgs one (Bx nl fv env) ifs' elt' = body
 have q : RQ g ((aa g.tab g.call it' env st).bind fun d st => match Cq k st d with
  | some (xs, p) => (compLoop xs p st.length body xs (st ++ [.lst []])).bind fun _ st' => .ok (.loc st.length) st'
  | none => .bad) (Aq g rho H Q) rho H := by
  rw [← hB]
  simp only [aa] at q
  exact q
 refine wpAny_comprehension_free (use := use) rfl hs hclos hkind hnames ?_
 have hpi := hpi pins s sg H
  (fun J H1 => ∃ r1 st1 xs p, g.Keep rho H r1 H1 ∧ g.Sto r1 st1 H1 ∧ ItJ g J xs p r1 H1 ∧
   RQ g ((compLoop xs p st1.length body xs (st1 ++ [.lst []])).bind fun _ st' => .ok (.loc st1.length) st') (Aq g rho H Q) r1 H1) I ?_
 · refine thn hpi fun v s1 h1 => thn h1 fun itv s2 h2 => ?_
   obtain ⟨it, fp, tn, J, H1, rfl, I2, T, st2, f2, r1, st1, xs, p, k1, S1, hJ, q1⟩ := h2
   obtain ⟨stf, hloop, q1⟩ : ∃ stf, compLoop xs p st1.length body xs (st1 ++ [.lst []]) = .ok () stf ∧ Aq g rho H Q (.loc st1.length) stf := by
    revert q1
    cases e : compLoop xs p st1.length body xs (st1 ++ [.lst []]) with
    | ok u stf => exact fun q => ⟨stf, rfl, q⟩
    | exc c st2 => exact absurd e mz
    | bad => exact fun q => q.elim
   refine wpAny_newObj_type ?_
   have I3 := I2.lnew (its := []) (ys := []) (t' := s2.toks) .nil (Nat.zero_le _)
   have hn3 := I2.fresh
   generalize hs3 : ({ s2 with heap := s2.heap.push { cls := .type "list", data := .seq ([] : List Value).toArray } } : Shared) = s3
   have I3 : L2.Inv X pins sg (upd H1 s2.heap.objs.size (.lst [])) s3 := by rw [← hs3]; exact I3
   have hsz : s3.heap.objs.size = s2.heap.objs.size + 1 := by rw [← hs3]; exact Heap.size_push _ _
   have up3 : ∀ b o, s2.heap.get? b = some o → s3.heap.get? b = some o := fun b o e => by rw [← hs3]; exact Heap.get?_push_of_some _ e
   have hfp : ∀ b ∈ fp, Co X pins (upd H1 s2.heap.objs.size (.lst [])) b ∧ b < s3.heap.objs.size := fun b hb => by
    obtain ⟨o, ho, _⟩ := T.obj _ _ st2 b hb
    have hlt := Heap.lt_size ho
    refine ⟨⟨?_, (f2 b hb).2⟩, by rw [hsz]; exact Nat.lt_succ_of_lt hlt⟩
    rw [As (Nat.ne_of_lt hlt)]
    exact (f2 b hb).1
   have k13 : g.Keep r1 H1 (r1 ++ [s2.heap.objs.size]) (upd H1 s2.heap.objs.size (.lst [])) := (S1.laid hn3 (o := .lst []) (c := .lst []) ⟨[], Bm, by simp [RepL]⟩).1
   have S3 : g.Sto (r1 ++ [s2.heap.objs.size]) (st1 ++ [.lst []]) (upd H1 s2.heap.objs.size (.lst [])) := (S1.laid hn3 (o := .lst []) (c := .lst []) ⟨[], Bm, by simp [RepL]⟩).2
   have acc_at : (r1 ++ [s2.heap.objs.size])[st1.length]? = some s2.heap.objs.size := by rw [← S1.len]; simp
   generalize hH3 : upd H1 s2.heap.objs.size (.lst []) = H3 at *
   generalize hac : s2.heap.objs.size = ac at *
   generalize hr3 : r1 ++ [ac] = r3 at *
   refine wpAny_newFunctionEnv hcell (by intro y hy; simp at hy) (fun h₁ hns₁ hsb₁ => ?_) hkind
   have hk1 : ∀ b o, s3.heap.get? b = some o → h₁.get? b = some o := fun b o e => hsb₁.extBut b o (Nat.ne_of_lt (Heap.lt_size e)) (Heap.get?_push_of_some _ e)
   have J0 := Qu (N := N) (nl := nl) (fv := fv) (tk := s3.toks + ([] : List (Str × Value)).length) hkind C hN hfv I3 hfp hns₁ hk1
   have n0 := Qw (n.mono (k1.trans k13)) nl fv
   generalize hsg0 : (List.replicate nl none ++ fv.map fun k => (sg[k]?).join : L2.St) = sg0 at J0 n0
   have tn0 : tn 0 h₁ := T.keep _ _ _ st2 fun b _ o e => hk1 b o (up3 b o e)
   have bfp : ∀ {H' : Hp}, (∀ b ∈ fp, H' b = none) → ∀ b ∈ fp, Co (cxG X N scope cl s3.heap.objs.size s3 H3 fp (X.pn ++ pins)) [] H' b := fun hn b hb => by
    obtain ⟨f, hlt⟩ := hfp b hb
    refine ⟨hn b hb, fun z => ?_, mx I3 f, .inl hb, fun y c h => f.2.2.2.2.1 y c (C.sub y c h), fun p hp => f.2.2.2.2.2 p (by rw [List.append_nil] at hp; exact hp)⟩
    have : s3.heap.objs.size < s3.heap.objs.size := by rw [z] at hlt; exact hlt
    exact Nat.lt_irrefl _ this
   have loop : codeAny (model X.prog X.w) X.A (.compLoop (.ListComp elt [⟨target, iter, ifs, 0⟩] scope pos) 0 (.ref it) (.ref ac) (Mw X scope cl s3.heap.objs.size))
    (compPost (model X.prog X.w) X.A X.xe use Qv (.ref ac) s3.heap.objs.size)
    { s3 with heap := h₁, toks := s3.toks + ([] : List (Str × Value)).length } := by
    refine zg (fun mm s' => ∃ i rho' st' H' sg', L2.Inv (cxG X N scope cl s3.heap.objs.size s3 H3 fp (X.pn ++ pins)) [] sg' H' s' ∧ tn i s'.heap ∧ (∀ b ∈ fp, H' b = none) ∧ g.Keep r3 H3 rho' H' ∧ g.Sto rho' st' H' ∧ g.Env rho' H' (Bx nl fv env) sg' ∧ mm = xs.length - i ∧ i ≤ xs.length ∧
     compLoop xs p st1.length body (xs.drop i) st' = .ok () stf) ?_ xs.length ⟨0, r3, _, H3, sg0, J0, tn0, fun b hb => (hfp b hb).1.1, .refl _ _, S3, n0, by simp, Nat.zero_le _, hloop⟩
    rintro mm s' ⟨i, rho', st', H', sg', I', tn', fr', kk, S', n', rfl, hi, hl'⟩
    have hst : stays st' p xs = true := by
     cases z : stays st' p xs with
     | true => rfl
     | false =>
      exfalso
      cases e : xs.drop i with
      | nil => rw [e] at hl'; simp only [compLoop, z] at hl'; cases hl'
      | cons d t => rw [e] at hl'; simp only [compLoop, z] at hl'; cases hl'
    obtain ⟨jstop, jgo⟩ := hJ rho' st' H' (k13.trans kk) S' hst
    by_cases hlt : i < xs.length
    · obtain ⟨hgo, hy⟩ := jgo i xs[i] (List.getElem?_eq_getElem hlt)
      rw [List.drop_eq_getElem_cons hlt] at hl'
      simp only [compLoop, hst, if_true] at hl'
      refine thn (T.item (cxG X N scope cl s3.heap.objs.size s3 H3 fp (X.pn ++ pins)) rfl rfl rfl hc i [] s' sg' H' _ I' (bfp fr') tn' hgo) fun r s4 ⟨u, hr4, h4⟩ => ?_
      subst hr4
      refine thn h4 fun _ s5 ⟨x5, H5, I5, r5, y5, tn5, fr5⟩ => ?_
      obtain ⟨e5, rx5⟩ := hy x5 H5 y5
      have k5 : g.Keep rho' H' rho' H5 := Bo.keep e5 rho'
      have kk := kk.trans k5
      have S' := S'.same e5
      have n' := n'.mono k5
      have I5' := I5.pinned (bfp fr5) (T.obj _ _ tn5)
      obtain ⟨env', es⟩ : ∃ env', store tgs one xs[i] (Bx nl fv env) = some env' := by
       cases es : store tgs one xs[i] (Bx nl fv env) with
       | some env' => exact ⟨env', rfl⟩
       | none =>
        exfalso
        have : body xs[i] st' = .bad := by rw [← hB]; unfold my; rw [es]
        rw [this] at hl'; cases hl'
      have hbody : body xs[i] st' = (br g.tab g.call ifs' env' st').bind fun b st => if b then (aa g.tab g.call elt' env' st).bind fun y st => .ok (some y) st else .ok none st := by
       rw [← hB]; unfold my; rw [es]
      rw [hbody] at hl'
      obtain ⟨hel, hhi⟩ := qv es htg
      refine wpAny_mono (hg s3.heap.objs.size s3 H3 fp (X.pn ++ pins) _ s5 sg' H5 x5 u (fun sg6 H6 => H6 = H5 ∧ g.Env rho' H6 env' sg6) I5' r5 (fu (g := g) es rx5 n' fun sg6 n6 => ⟨rfl, n6⟩)) (fun _ s6 h6 => ?_) (fun _ _ z => z.elim)
      obtain ⟨sg6, H6, I6, e6, n6⟩ := h6
      subst e6
      obtain ⟨b, st2, eb, hl'⟩ : ∃ b st2, br g.tab g.call ifs' env' st' = .ok b st2 ∧ (match (if b then (aa g.tab g.call elt' env' st2).bind fun y st => .ok (some y) st else .ok none st2 : Res (Option D)) with
       | .ok (some y) st' => (match st'[st1.length]? with
        | some (.lst ys) => if ys.length < sizeLine then compLoop xs p st1.length body (xs.drop (i + 1)) (st'.set st1.length (.lst (ys ++ [y]))) else .bad
        | _ => .bad)
       | .ok none st' => compLoop xs p st1.length body (xs.drop (i + 1)) st'
       | _ => .bad) = Res.ok () stf := by
       cases eb : br g.tab g.call ifs' env' st' with
       | ok b st2 => rw [eb] at hl'; exact ⟨b, st2, rfl, hl'⟩
       | exc c st2 => rw [eb] at hl'; cases hl'
       | bad => rw [eb] at hl'; cases hl'
      refine wpAny_mono (ht s3.heap.objs.size s3 H3 fp (X.pn ++ pins) _ s6 sg6 H6 (fun b' H7 => b' = b ∧ ∃ rho7, g.Keep rho' H6 rho7 H7 ∧ g.Sto rho7 st2 H7) I6 ⟨rho', st', env', S', n6, ?_⟩) (fun ok s7 h7 => ?_) (fun _ _ z => z.elim)
      · show RQ (g.with fun _ _ _ => False) (br g.tab g.call ifs' env' st') _ rho' H6
        rw [eb]
        exact fun H7 rho7 k7 s7 => ⟨rfl, rho7, k7, s7⟩
      obtain ⟨H7, I7, e7, rho7, k7, S7⟩ := h7
      subst e7
      have n7 : g.Env rho7 H7 env' sg6 := n6.mono k7
      have done : ∀ (rho9 : List Addr) (st9 : Sto) (H9 : Hp) (s9 : Shared), L2.Inv (cxG X N scope cl s3.heap.objs.size s3 H3 fp (X.pn ++ pins)) ([] ++ Hi fp s5.heap) sg6 H9 s9 → g.Keep rho7 H7 rho9 H9 → g.Sto rho9 st9 H9 → compLoop xs p st1.length body (xs.drop (i + 1)) st9 = .ok () stf →
       ∃ m, m < xs.length - i ∧ ∃ i rho' st' H' sg', L2.Inv (cxG X N scope cl s3.heap.objs.size s3 H3 fp (X.pn ++ pins)) [] sg' H' s9 ∧ tn i s9.heap ∧ (∀ b ∈ fp, H' b = none) ∧ g.Keep r3 H3 rho' H' ∧ g.Sto rho' st' H' ∧ g.Env rho' H' (Bx nl fv env) sg' ∧ m = xs.length - i ∧ i ≤ xs.length ∧ compLoop xs p st1.length body (xs.drop i) st' = .ok () stf := by
       intro rho9 st9 H9 s9 I9 k9 S9 hl9
       refine ⟨xs.length - (i + 1), by omega, i + 1, rho9, st9, H9, sg6, I9.unpinned, T.keep _ _ _ tn5 fun b hb o e => (I9.pin (b, o) (List.mem_append_right _ (List.mem_append_right _ (Hj hb e)))).1, fun b hb => ?_, (kk.trans k7).trans k9, S9, qx rfl hel hhi (n7.mono k9), rfl, hlt, hl9⟩
       obtain ⟨o, e, d⟩ := T.obj _ _ tn5 b hb
       exact (I9.pin (b, o) (List.mem_append_right _ (List.mem_append_right _ (Hj hb e)))).2.1
      cases ok with
      | false =>
       rw [if_neg Bool.false_ne_true]
       simp only [Bool.false_eq_true, if_false] at hl'
       exact done rho7 st2 H7 s7 I7 (.refl _ _) S7 hl'
      | true =>
       rw [if_pos rfl]
       simp only [if_true] at hl'
       obtain ⟨y, st4, ee, hl'⟩ : ∃ y st4, aa g.tab g.call elt' env' st2 = .ok y st4 ∧ (match st4[st1.length]? with
        | some (.lst ys) => if ys.length < sizeLine then compLoop xs p st1.length body (xs.drop (i + 1)) (st4.set st1.length (.lst (ys ++ [y]))) else .bad
        | _ => .bad) = Res.ok () stf := by
        cases ee : aa g.tab g.call elt' env' st2 with
        | ok y st4 => rw [ee] at hl'; exact ⟨y, st4, rfl, hl'⟩
        | exc c st4 => rw [ee] at hl'; cases hl'
        | bad => rw [ee] at hl'; cases hl'
       obtain ⟨ys, ey, hys, hl'⟩ : ∃ ys, st4[st1.length]? = some (.lst ys) ∧ ys.length < sizeLine ∧ compLoop xs p st1.length body (xs.drop (i + 1)) (st4.set st1.length (.lst (ys ++ [y]))) = .ok () stf := by
        split at hl'
        · rename_i ys ey
          split at hl'
          · rename_i hys; exact ⟨ys, ey, hys, hl'⟩
          · cases hl'
        · cases hl'
       refine wpAny_mono (he s3.heap.objs.size s3 H3 fp (X.pn ++ pins) _ s7 sg6 H7 (fun w H8 => ∃ rho8, g.Keep rho7 H7 rho8 H8 ∧ g.Sto rho8 st4 H8 ∧ g.Rep rho8 H8 y w) I7 ⟨rho7, st2, env', S7, n7, ?_⟩) (fun yv s8 h8 => ?_) (fun _ _ z => z.elim)
       · show RQ (g.with fun _ _ _ => False) (aa g.tab g.call elt' env' st2) _ rho7 H7
         rw [ee]
         exact fun w H8 rho8 k8 s8 r8 => ⟨rho8, k8, s8, r8⟩
       obtain ⟨w, H8, I8, rw8, rho8, k8, S8, rp8⟩ := h8
       obtain ⟨a8, us, hr8, hH8, rl8⟩ := Ez S8 ey
       rw [k8.at (k7.at (kk.at acc_at))] at hr8; cases hr8
       have hrep : g.RepL rho8 H8 (ys ++ [y]) (us ++ [w]) := rl8.append (by simp only [RepL]; exact ⟨w, [], rfl, rp8, rfl⟩)
       obtain ⟨k9, S9⟩ := S8.wrote (k8.at (k7.at (kk.at acc_at))) ey hH8 hrep
       refine wpAny_mono (qd (X := cxG X N scope cl s3.heap.objs.size s3 H3 fp (X.pn ++ pins)) _ s8 _ H8 (.ref ac) [w] (.ref ac) [yv] (fun _ H9 => H9 = upd H8 ac (.lst (us ++ [w]))) I8 rfl (.cons rw8 .nil) ⟨ac, us, w, rfl, rfl, hH8, by rw [← rl8.length]; exact hys, rfl⟩) (fun _ s9 h9 => ?_) (fun _ _ z => z.elim)
       obtain ⟨_, H9, I9, _, e9⟩ := h9
       subst e9
       exact done rho8 _ _ s9 I9 (k8.trans k9) S9 hl'
    · have ei : i = xs.length := by omega
      subst ei
      refine thn (T.done (cxG X N scope cl s3.heap.objs.size s3 H3 fp (X.pn ++ pins)) rfl rfl rfl hc xs.length [] s' sg' H' _ I' (bfp fr') tn' jstop) fun r s4 ⟨hr4, I4⟩ => ?_
      subst hr4
      rw [List.drop_eq_nil_of_le (Nat.le_refl _)] at hl'
      simp only [compLoop, hst, if_true] at hl'
      cases hl'
      obtain ⟨m4, hn4, _⟩ := I4.loc
      refine hfin ac s3.heap.objs.size H' s4 ⟨m4, hn4⟩ (I3.fpOk (Nat.le_refl _) I4.free) (fun h' sb => ?_) (q1 (.ref ac) H' rho' ((k1.trans k13).trans kk) S' (Bh.mpr ⟨ac, kk.at acc_at, rfl⟩))
      have u4 : Un (frs X.stack) fp H3 H' s3.heap s4.heap := I4.base
      have hL : ∀ b o, s3.heap.get? b = some o → b ≠ s3.heap.objs.size := fun b o e => Nat.ne_of_lt (Heap.lt_size e)
      have fL : H' s3.heap.objs.size = none := I4.free
      refine I3.call' (s' := { s4 with heap := h' }) (ch := fp) I4.os ⟨fun b o e n hb hx => (sb.2 b (hL b o e)).trans (u4.keep b o e n hb hx), fun b o e n hb hx => ?_, u4.free, fun b o e hx => ?_, u4.tups, u4.frzs, u4.tbls⟩ (fun b o e => ?_) I4.bare fun b hb => ?_
      · obtain ⟨sl, e1⟩ := u4.slot b o e n hb hx
        exact ⟨sl, (sb.2 b (hL b o e)).trans e1⟩
      · obtain ⟨o', e1⟩ := u4.there b o e hx
        exact ⟨o', (sb.2 b (hL b o e)).trans e1⟩
      · refine (I4.hok b o e).stay (fun c u hc' g' => (sb.2 c ?_).trans g') (fun _ h => h) fun _ _ h => h
        intro z
        rcases hc' with rfl | hc'
        · rw [z, fL] at e; cases e
        · rw [z, fL] at hc'; cases hc'
      · obtain ⟨f, _⟩ := hfp b hb
        exact ⟨f.2.2.2.1, f.2.1, f.2.2.2.2.1, f.2.2.2.2.2⟩
   exact codeAny_compStart_list loop (T.self _ 0 _ _ _ tn0 loop)
 · refine hwi rho st env sg H _ S n ?_
   revert q
   cases aa g.tab g.call it' env st with
   | bad => exact fun q => q
   | exc c st1 => exact fun q => q
   | ok d st1 =>
    simp only [Bf]
    intro q
    cases ei : Cq k st1 d with
    | none => rw [ei] at q; exact q.elim
    | some xp =>
     obtain ⟨xs, p⟩ := xp
     rw [ei] at q
     exact ⟨xs, p, ei, fun H1 r1 J k1 s1 hJ => ⟨r1, st1, xs, p, k1, s1, hJ, RQ.mono k1 q fun _ _ z => z⟩⟩
theorem kh (hK : X.K = g.K) (hc : X.calm = true) (hkind : scope.kind = .function) (hcell : ∀ y ∈ scope.names, y.2 ≠ .cell)
 (hnames : ∀ y ∈ scope.names, y.2 = .local → scope.names.lookup y.1 = some .local) (hclos : closureFor scope X.env = pure cl) (C : Clos X scope cl) (hN : N.length = nl + fv.length)
 (hfv : ∀ j k, fv[j]? = some k → ∃ x c, N[nl + j]? = some x ∧ X.N[k]? = some x ∧ cl.lookup x = some c ∧ (X.env.scope.names.lookup x = some .cell ∨ X.env.scope.names.lookup x = some .free) ∧ ((relabel scope X.env).names.lookup x = some .cell ∨ (relabel scope X.env).names.lookup x = some .free))
 (htg : ∀ i ∈ tgs, i < nl) (hi : SdI g X target iter k it') (hg : ∀ L s0 H0 fp pn, PG (cxG X N scope cl L s0 H0 fp pn) target (tg g.K tgs one))
 (ht : ∀ L s0 H0 fp pn, PTs (cxG X N scope cl L s0 H0 fp pn) ifs (Hu (g.with fun _ _ _ => False) ifs')) (he : ∀ L s0 H0 fp pn, Sd (g.with fun _ _ _ => False) (cxG X N scope cl L s0 H0 fp pn) elt elt')
 (hs : ∀ x, foldedSetIterable iter X.env x = pure x := by intro _; rfl) :
 Sd g X (.ListComp elt [⟨target, iter, ifs, 0⟩] scope pos) (.comp k one nl tgs fv it' ifs' elt') := by
 intro pins s sg H Q I q
 rw [eval_ListComp]
 exact Qx hK hc hkind hcell hnames hclos C hN hfv htg hi hg ht he hs I q fun ac C H' s4 ⟨m, hn⟩ _ hI hq => ⟨m, hn, fun h' sb => ⟨.ref ac, H', hI h' sb, rfl, hq⟩⟩
variable {g : G} {X : Cx} {pos : Pos} {F : Nat}
end DD
namespace DD
open PySem PySem.Spec L2
open PyProof.Rows hiding St
variable {g : G} {X : Cx} {a b c : Expr} {a' b' c' : E} {pos : Pos} {rest es : List Expr} {es' : Es} {F : Nat}
end DD
namespace DD
open PySem PySem.Spec L2
variable {g : G} {X : Cx} {pos apos cpos : Pos} {F : Nat} {a b c : Expr} {a' b' c' : E}
end DD
namespace DD
open PySem PySem.Spec L2
open PyProof.Rows hiding St RelV
variable {g : G} {X : Cx} {pos : Pos} {F : Nat}
def Na (g : G) (tg : List Nat) (one : Bool) (env0 : Env) (ifs : Es) (kx vx : E) (d : D) (st : Sto) : Res (Option (D × D)) := match store tg one d env0 with
 | some env' => (br g.tab g.call ifs env' st).bind fun b st => if b then (aa g.tab g.call kx env' st).bind fun k st => (aa g.tab g.call vx env' st).bind fun y st => .ok (some (k, y)) st else .ok none st
 | none => .bad
theorem Zh (I : Nat → Shared → Prop)
 (turn : ∀ n s, I n s → wpAny (model prog w) A (pyNext it) (fun r s₁ => match r with
  | none => R (.ok .next) s₁
  | some v => wpAny (model prog w) A (letOwnedTupleGo target it v) (fun _ s₁ => wpAny (model prog w) A (assign target env v) (fun _ s₂ =>
   wpAny (model prog w) A (forIn ifs true fun c r => if r = true then do let ok ← isTrue c env (eval c env); pure (ForInStep.yield ok) else pure (ForInStep.yield r)) (fun ok s₃ =>
    if ok = true then wpAny (model prog w) A (eval kx env) (fun kv s₄ => wpAny (model prog w) A (eval vx env) (fun vv s₅ =>
     wpAny (model prog w) A (dictSet dd kv vv) (fun _ s₆ => ∃ m, m < n ∧ I m s₆) (notedBy (model prog w) A env fun e s' => R (.error e) s') s₅) (notedBy (model prog w) A env fun e s' => R (.error e) s') s₄) (notedBy (model prog w) A env fun e s' => R (.error e) s') s₃
    else ∃ m, m < n ∧ I m s₃) (notedBy (model prog w) A env fun e s' => R (.error e) s') s₂) (notedBy (model prog w) A env fun e s' => R (.error e) s') s₁) (notedBy (model prog w) A env fun e s' => R (.error e) s') s₁) (notedBy (model prog w) A env fun e s' => R (.error e) s') s)
 (n : Nat) (h : I n s) : codeAny (model prog w) A (.compLoop (.DictComp kx vx [⟨target, iter, ifs, 0⟩] scope pos) 0 it (.ref dd) env) R s := by
 refine codeAny_loop rfl I (fun n s hI => ?_) n h
 show wpAny _ A ((compTurn (.DictComp kx vx [⟨target, iter, ifs, 0⟩] scope pos) 0 it (.ref dd) env).onRaise (fun x => do noteFrame x env; theTreesLotGoes x)) _ _ s
 refine wpAny_noted ?_
 rw [compTurn_dict]
 refine wpAny_bind (wpAny_standAt (wpAny_bind (wpAny_mono (turn n s hI) (fun r s₁ h₁ => ?_) fun _ _ h' => h')))
 cases r with
 | none => exact wpAny_pure h₁
 | some v =>
  refine wpAny_bind (wpAny_mono h₁ (fun _ s₁ h₁ => ?_) fun _ _ h' => h')
  refine wpAny_bind (wpAny_mono h₁ (fun _ s₂ h₂ => wpAny_bind (wpAny_mono h₂ (fun ok s₃ h₃ => ?_) fun _ _ h' => h')) fun _ _ h' => h')
  cases ok with
  | false => exact wpAny_pure ⟨rfl, h₃⟩
  | true =>
   exact wpAny_bind (wpAny_bind (wpAny_mono h₃ (fun kv s₄ h₄ => wpAny_bind (wpAny_holding (wpAny_mono h₄ (fun vv s₅ h₅ => wpAny_bind (wpAny_standAt (wpAny_holding (wpAny_mono h₅ (fun _ s₆ h₆ => wpAny_pure ⟨rfl, h₆⟩) fun _ _ h' => h')))) fun _ _ h' => h'))) fun _ _ h' => h'))
variable {g : G} {X : Cx} {pos pos' apos cpos : Pos} {F : Nat} {a b c : Expr} {a' b' c' : E}
abbrev Fu (x : D × Addr × V) (y : D × Addr × Value) : Prop := x.1 = y.1 ∧ x.2.1 = y.2.1 ∧ RelV x.2.2 y.2.2
def dy (xs : List (D × Addr × V)) (k : D) (q : Addr) (v : V) : List (D × Addr × V) := if (xs.any fun x => decide (x.1 = k)) = true then xs.map fun x => if x.1 = k then (x.1, x.2.1, v) else x else xs ++ [(k, q, v)]
theorem zi {ys : List (D × Addr × Value)} {k : D} : (atKey ys k).isSome = ys.any fun y => decide (y.1 = k) := by
 induction ys with
 | nil => rfl
 | cons y t ih =>
  by_cases e : y.1 = k
  · simp [atKey, e]
  · simpa [atKey, e] using ih
theorem qy {k : D} {q : Addr} {v : V} {u : Value} (rv : RelV v u) {xs : List (D × Addr × V)} {ys : List (D × Addr × Value)} (h : Paired Fu xs ys) : Paired Fu (dy xs k q v) (storedH ys k q u) := by
 have ha : (xs.any fun x => decide (x.1 = k)) = ys.any fun y => decide (y.1 = k) := by
  induction h with
  | nil => rfl
  | cons p t ih => simp only [List.any_cons, ih, p.1]
 unfold dy storedH
 rw [ha, zi]
 split
 · clear ha
   rename_i hz
   clear hz
   induction h with
   | nil => exact .nil
   | @cons x y t r p q2 ih =>
    obtain ⟨p1, p2, p3⟩ := p
    refine .cons ?_ ih
    unfold putAt
    dsimp only
    by_cases e : x.1 = k
    · rw [if_pos e, if_pos (by rw [← p1]; exact e)]; exact ⟨p1, p2, rv⟩
    · rw [if_neg e, if_neg (by rw [← p1]; exact e)]; exact ⟨p1, p2, p3⟩
 · clear ha
   rename_i hz
   clear hz
   induction h with
   | nil => exact .cons ⟨rfl, rfl, rv⟩ .nil
   | cons p t ih => exact .cons p ih
theorem Qy {w : World} (hw : w = X.w) {h : Heap} {p : Addr} {xs : List (D × Addr × V)} {ys : List (D × Addr × Value)} (hm : (p == sysModules) = false) (hz : xs.length ≤ sizeLine) (r : Paired Fu xs ys) (dd : h.DictOfH (Cu X.prog X.w) p ys) : Am w p xs h := by
 obtain ⟨o, es, ep, h1, h2, h3, h4, h6, h5⟩ := dd
 clear h6
 have e1 : xs.map (·.1) = ys.map (·.1) := by
  clear h4 h5 hz
  induction r with
  | nil => rfl
  | cons p t ih => rw [List.map_cons, List.map_cons, ih]; congr 1; exact p.1
 refine ⟨hm, hz, by rw [e1]; exact h5, o, es, ep, h1, h2, h3, ?_⟩
 rw [h4, hw]
 clear h4 h5 e1 hz
 induction r with
 | nil => exact .nil
 | @cons x y t r p q ih =>
  obtain ⟨p1, p2, p3⟩ := p
  rw [List.map_cons]
  exact .cons ⟨by rw [p1]; rfl, by rw [p2]; rfl, p3⟩ ih
theorem Hv {w : World} {p : Addr} {xs : List (D × Addr × V)} : ∀ h1 h2 : Heap, Am w p xs h1 → (∀ o, h1.get? p = some o → h2.get? p = some o) → Am w p xs h2 := fun h1 h2 ⟨a, b, c, o, es, ep, e, r⟩ k => ⟨a, b, c, o, es, ep, k o e, r⟩
theorem qz (xs : List (D × Addr × V)) (k : D) (q : Addr) (v : V) : (dy xs k q v).length ≤ xs.length + 1 := by
 unfold dy; split <;> simp
theorem gr {rho : List Addr} {H : Hp} : ∀ {kvs : List (D × D)} {xs : List (D × Addr × V)}, Aj g.K rho H kvs xs → kvs.length = xs.length
 | [], xs, h => by simp only [Aj] at h; subst h; rfl
 | (x, d) :: r, xs, h => by
  simp only [Aj] at h
  obtain ⟨b, v, t, rfl, _, _, _, q⟩ := h
  simp [gr q]
theorem Qz {rho : List Addr} {H : Hp} {k y : D} {q : Addr} {v : V} (hk : ba k = true) (rk : g.Rep rho H k (.ref q)) (ry : g.Rep rho H y v) {kvs : List (D × D)} {xs : List (D × Addr × V)} (h : Aj g.K rho H kvs xs) : Aj g.K rho H (Bw kvs k y) (dy xs k q v) := by
 have ha : ∀ {kvs : List (D × D)} {xs : List (D × Addr × V)}, Aj g.K rho H kvs xs → (kvs.any fun p => decide (p.1 = k)) = xs.any fun x => decide (x.1 = k) := by
  intro kvs
  induction kvs with
  | nil => intro xs h; simp only [Aj] at h; subst h; rfl
  | cons p t ih =>
   intro xs h
   obtain ⟨x, d⟩ := p
   simp only [Aj] at h
   obtain ⟨b, v, t2, rfl, _, _, _, q⟩ := h
   simp only [List.any_cons, ih q]
 have hmap : ∀ {kvs : List (D × D)} {xs : List (D × Addr × V)}, Aj g.K rho H kvs xs → Aj g.K rho H (kvs.map fun p => if p.1 = k then (p.1, y) else p) (xs.map fun x => if x.1 = k then (x.1, x.2.1, v) else x) := by
  intro kvs
  induction kvs with
  | nil => intro xs h; simp only [Aj] at h; subst h; simp [Aj]
  | cons p t ih =>
   intro xs h
   obtain ⟨x, d⟩ := p
   simp only [Aj] at h
   obtain ⟨b, v2, t2, rfl, h1, h2, h3, q⟩ := h
   by_cases e : x = k
   · simp only [List.map_cons, if_pos e, Aj]
     exact ⟨b, v, _, rfl, h1, h2, ry, ih q⟩
   · simp only [List.map_cons, if_neg e, Aj]
     exact ⟨b, v2, _, rfl, h1, h2, h3, ih q⟩
 have hsn : ∀ {kvs : List (D × D)} {xs : List (D × Addr × V)}, Aj g.K rho H kvs xs → Aj g.K rho H (kvs ++ [(k, y)]) (xs ++ [(k, q, v)]) := by
  intro kvs
  induction kvs with
  | nil => intro xs h; simp only [Aj] at h; subst h; simp only [List.nil_append, Aj]; exact ⟨q, v, [], rfl, hk, rk, ry, rfl⟩
  | cons p t ih =>
   intro xs h
   obtain ⟨x, d⟩ := p
   simp only [Aj] at h
   obtain ⟨b, v2, t2, rfl, h1, h2, h3, q⟩ := h
   simp only [List.cons_append, Aj]
   exact ⟨b, v2, _, rfl, h1, h2, h3, ih q⟩
 unfold Bw dy
 rw [ha h]
 split
 · exact hmap h
 · exact hsn h
theorem jd (hK : X.K = g.K) (hw : g.cls.w = X.w) (hu : X.A.units + 64 < cLine) {pins : List (Addr × Obj)} {sg : L2.St} {H : Hp} {s : Shared} {rho : List Addr} {p : Addr} {kvs : List (D × D)} {xs : List (D × Addr × V)} {k : D} {kv v : V} {uk uv : Value} {Q : Unit → Shared → Prop} {E : Value → Shared → Prop} (I : Inv X pins sg H s) (hH : H p = some (.ext (Am g.cls.w p xs))) (nv : Aj g.K rho H kvs xs) (rk : g.Rep rho H k kv) (hk : ba k = true) (rkv : RelV kv uk) (rv : RelV v uv) (hl : kvs.length < sizeLine)
 (h : ∀ q s', kv = .ref q → Inv X pins sg (upd H p (.ext (Am g.cls.w p (dy xs k q v)))) s' → Q () s') : wpAny (model X.prog X.w) X.A (setItem (.ref p) uk uv) Q E s := by
 obtain ⟨q9, ik, rfl⟩ := jb hK I rk hk rkv
 have ekv : kv = .ref q9 := by
  cases k with
  | tup ds => obtain ⟨q, vs, rfl, _⟩ := Cj.mp rk; cases rkv; rfl
  | _ => cases hk
 obtain ⟨hm, hz, ys, pr, dd⟩ := Fs hK hw I hH nv
 have hyl : ys.length = xs.length := (Paired.length pr).symm
 have hxl := gr nv
 refine wpAny_setItem_heap (knd := Cu X.prog X.w) (by show X.A.units + 1 + 16 < cLine; omega) ik dd (fun h' dd' hs => h q9 _ ekv ?_) (by omega)
 have new := Qy (X := X) hw hm (by have := qz xs k q9 v; omega) (qy rv pr) dd'
 have he : ∃ q, h'.get? p = some q := let ⟨q, _, _, hq, _⟩ := dd'; ⟨q, hq⟩
 exact mi I (by rw [hH]; exact True.intro) hs he ⟨new, he, Hv⟩
def Jd (env : Env) (x kk y : D) (st : Sto) : Res Fl := match x with
 | .loc n => match az st n with
  | some kvs => if ba kk = true ∧ kvs.length < sizeLine then .ok (.next env) (st.set n (.dcn (Bw kvs kk y))) else .bad
  | none => match st[n]?, kk with
   | some (.lst xs), .int i => if 0 ≤ i ∧ i < xs.length then .ok (.next env) (st.set n (.lst (xs.set i.toNat y))) else .bad
   | _, _ => .bad
 | _ => .bad
theorem RepL.set {rho : List Addr} {H : Hp} {y : D} {v : V} : ∀ {ds : List D} {vs : List V} (i : Nat), g.Rep rho H y v → g.RepL rho H ds vs → g.RepL rho H (ds.set i y) (vs.set i v)
 | [], vs, i, _, r => by simp only [DD.RepL] at r; subst r; simp [DD.RepL]
 | d :: t, vs, 0, ry, r => by
  simp only [DD.RepL] at r
  obtain ⟨x, w, rfl, r1, r2⟩ := r
  simp only [List.set_cons_zero, DD.RepL]
  exact ⟨v, w, rfl, ry, r2⟩
 | d :: t, vs, i + 1, ry, r => by
  simp only [DD.RepL] at r
  obtain ⟨x, w, rfl, r1, r2⟩ := r
  simp only [List.set_cons_succ, DD.RepL]
  exact ⟨x, _, rfl, r1, RepL.set i ry r2⟩
theorem je {o i value : Expr} {o' i' v' : E} (hK : X.K = g.K) (hw : g.cls.w = X.w) (hu : X.A.units + 64 < cLine) (ho : Sd g X o o') (hi : Sd g X i i') (hv : Sd g X value v') (hs : swapsWith value (some (.Subscript o i pos')) pos.line X.env = pure false := by rfl) :
 SdS g X F (.Assign [.Subscript o i pos'] value pos) (.dput o' i' v') := by
 intro pins s sg H D I h
 obtain ⟨rho, st, env, S, n, q⟩ := h
 have q : RQ g ((aa g.tab g.call v' env st).bind fun y st => (aa g.tab g.call o' env st).bind fun x st => (aa g.tab g.call i' env st).bind fun kk st => Jd env x kk y st) (ar g rho H D) rho H := by
  simp only [An] at q
  exact q
 refine wpAny_Assign_Subscript (thn (hv pins s sg H (fun v H1 => ∃ r1 st1 y, g.Keep rho H r1 H1 ∧ g.Sto r1 st1 H1 ∧ g.Env r1 H1 env sg ∧ g.Rep r1 H1 y v ∧ RQ g ((aa g.tab g.call o' env st1).bind fun x st => (aa g.tab g.call i' env st).bind fun kk st => Jd env x kk y st) (ar g rho H D) r1 H1) I
  (step S n q fun y st1 v H1 r1 k1 s1 n1 ry q1 => ⟨r1, st1, y, k1, s1, n1, ry, q1⟩)) fun r s1 h0 => ?_) hs
 obtain ⟨v, H1, I1, rv, r1, st1, y, k1, S1, n1, ry, q1⟩ := h0
 refine thn (ho pins s1 sg H1 (fun w H2 => ∃ r2 st2 x, g.Keep r1 H1 r2 H2 ∧ g.Sto r2 st2 H2 ∧ g.Env r2 H2 env sg ∧ g.Rep r2 H2 x w ∧ RQ g ((aa g.tab g.call i' env st2).bind fun kk st => Jd env x kk y st) (ar g rho H D) r2 H2) I1
  (step S1 n1 q1 fun x st2 w H2 r2 k2 s2 n2 rx q2 => ⟨r2, st2, x, k2, s2, n2, rx, q2⟩)) fun ov s2 h0 => ?_
 obtain ⟨w, H2, I2, rov, r2, st2, x, k2, S2, n2, rx, q2⟩ := h0
 refine thn (hi pins s2 sg H2 (fun z H3 => ∃ r3 st3 kk, g.Keep r2 H2 r3 H3 ∧ g.Sto r3 st3 H3 ∧ g.Env r3 H3 env sg ∧ g.Rep r3 H3 kk z ∧ RQ g (Jd env x kk y st3) (ar g rho H D) r3 H3) I2
  (step S2 n2 q2 fun kk st3 z H3 r3 k3 s3 n3 rk q3 => ⟨r3, st3, kk, k3, s3, n3, rk, q3⟩)) fun iv s3 h0 => ?_
 obtain ⟨z, H3, I3, riv, r3, st3, kk, k3, S3, n3, rk, q3⟩ := h0
 unfold Jd at q3
 have ry3 := (ry.mono k2).mono k3
 have rx3 := rx.mono k3
 have kall := (k1.trans k2).trans k3
 cases x with
 | loc m =>
  obtain ⟨p, hp, rfl⟩ := Bh.mp rx3
  obtain rfl : ov = Value.ref p := rov
  simp only at q3
  cases e9 : az st3 m with
  | none =>
   rw [e9] at q3
   simp only at q3
   split at q3
   · rename_i xs i el
     split at q3
     · rename_i hi
       obtain ⟨p2, vs, hr, hH, rl⟩ := Ez S3 el
       rw [hp] at hr; cases hr
       have hl := rl.length
       obtain ⟨k4, S4⟩ := S3.wrote (ds := xs.set i.toNat y) (ws := vs.set i.toNat v) hp el hH (RepL.set i.toNat ry3 rl)
       refine wpAny_mono (set_list pins s3 sg H3 (.ref p) z v (.ref p) iv r (fun H' => H' = upd H3 p (.lst (vs.set i.toNat v))) I3 rfl riv rv ⟨p, vs, i, i.toNat, rfl, av.mp rk, hH, ?_, rfl⟩) (fun _ s4 h4 => ?_) (fun _ _ h => h)
       · unfold L2.ixN
         rw [if_pos hi.1, if_pos (by rw [← hl]; exact hi.2)]
       · obtain ⟨H4, I4, rfl⟩ := h4
         exact ⟨_, _, I4, (show ar g rho H D (.next env) _ from q3) _ _ r3 (kall.trans k4) S4 (n3.mono k4)⟩
     · exact q3.elim
   · exact q3.elim
  | some kvs =>
   rw [e9] at q3
   simp only at q3
   split at q3
   · rename_i hk
     obtain ⟨p2, xs, h1, hc, h2, nv⟩ := Dj S3 e9
     rw [hp] at h1; cases h1
     refine jd hK hw hu I3 h2 nv rk hk.1 riv rv hk.2 fun q s4 ez I4 => ?_
     subst ez
     obtain ⟨k4, S4⟩ := S3.wroteC (o := .ext (Am g.cls.w p (dy xs kk q v))) (c1 := .dcn (Bw kvs kk y)) hp hc rfl h2 ⟨fun _ => nofun, fun _ _ => nofun⟩ fun H4 eH k5 => ⟨_, eH, (Qz hk.1 rk ry3 nv).mono k5⟩
     exact ⟨_, _, I4, (show ar g rho H D (.next env) _ from q3) _ _ r3 (kall.trans k4) S4 (n3.mono k4)⟩
   · exact q3.elim
 | _ => exact q3.elim
theorem Gr (hw : g.cls.w = X.w) : Sd g X (.Dict [] [] pos) .dnewN := fun pins s sg H Q I h => by
 obtain ⟨rho, st, env, S, n, q⟩ := h
 simp only [aa] at q
 have q : Aq g rho H Q (.loc st.length) (st ++ [.dcn []]) := q
 have hp := I.hok.fresh (Nat.le_refl s.heap.objs.size)
 have new : Am g.cls.w s.heap.objs.size [] (s.heap.push { cls := .type "dict", data := .dict #[] }) := ⟨beq_eq_false_iff_ne.mpr (Ne.symm (Nat.ne_of_lt I.big)), Nat.zero_le _, List.nodup_nil, _, #[], 0, Heap.get?_push_size _ rfl, ⟨rfl, rfl, rfl⟩, rfl, .nil⟩
 obtain ⟨k2, s2⟩ := S.laid hp (o := .ext (Am g.cls.w s.heap.objs.size [])) (c := .dcn []) ⟨[], Bm, by simp [Aj]⟩
 exact wpAny_Dict_empty ⟨.ref s.heap.objs.size, _, I.laid (a := s.heap.objs.size) (o := .ext (Am g.cls.w s.heap.objs.size [])) (t' := s.toks) (fun _ _ q => Heap.get?_push_of_some _ q) (Nat.le_refl _) ⟨new, ⟨_, Heap.get?_push_size _ rfl⟩, Hv⟩, rfl, q (.ref s.heap.objs.size) _ _ k2 s2 (Bh.mpr ⟨_, by rw [← S.len]; simp, rfl⟩)⟩
variable {g : G} {X : Cx} {pos : Pos} {F : Nat}
theorem ra (hK : X.K = g.K) (hw : g.cls.w = X.w) (hu : X.A.units + 64 < cLine) {pins : List (Addr × Obj)} {sg : L2.St} {H : Hp} {s : Shared} {rho : List Addr} {p : Addr} {kvs : List (D × D)} {xs : List (D × Addr × V)} {k : D} {kv v : V} {uk uv : Value} {Q : Unit → Shared → Prop} {E : Value → Shared → Prop} (I : Inv X pins sg H s) (hH : H p = some (.ext (Am g.cls.w p xs))) (nv : Aj g.K rho H kvs xs) (rk : g.Rep rho H k kv) (hk : ba k = true) (rkv : RelV kv uk) (rv : RelV v uv) (hl : kvs.length < sizeLine)
 (h : ∀ q s', kv = .ref q → Inv X pins sg (upd H p (.ext (Am g.cls.w p (dy xs k q v)))) s' → Q () s') : wpAny (model X.prog X.w) X.A (dictSet p uk uv) Q E s := by
 obtain ⟨q9, ik, rfl⟩ := jb hK I rk hk rkv
 have ekv : kv = .ref q9 := by
  cases k with
  | tup ds => obtain ⟨q, vs, rfl, _⟩ := Cj.mp rk; cases rkv; rfl
  | _ => cases hk
 obtain ⟨hm, hz, ys, pr, dd⟩ := Fs hK hw I hH nv
 have hyl : ys.length = xs.length := (Paired.length pr).symm
 have hxl := gr nv
 refine wpAny_dictSet_heap (knd := Cu X.prog X.w) (by show X.A.units + 16 < cLine; omega) ik dd (fun h' dd' hs => h q9 _ ekv ?_) (by omega)
 have new := Qy (X := X) hw hm (by have := qz xs k q9 v; omega) (qy rv pr) dd'
 have he : ∃ q, h'.get? p = some q := let ⟨q, _, _, hq, _⟩ := dd'; ⟨q, hq⟩
 exact mi I (by rw [hH]; exact True.intro) hs he ⟨new, he, Hv⟩
theorem Nb {all : List D} {p : Option Nat} {n0 : Nat} {body : D → Sto → Res (Option (D × D))} {c : Nat} {st' : Sto} : ∀ {xs : List D} {st : Sto}, Bn all p n0 body xs st ≠ .exc c st'
 | [], st => by
  simp only [Bn]
  split <;> (intro h; cases h)
 | d :: r, st => by
  simp only [Bn]
  split
  · split
    · split
      · split
        · exact Nb
        · intro h; cases h
      · intro h; cases h
    · exact Nb
    · intro h; cases h
  · intro h; cases h
theorem Zi {kx vx iter target : Expr} {ifs : List Expr} {N : List Str} {nl : Nat} {fv tgs : List Nat} {one : Bool} {k : Nat} {scope : Scope} {cl : List (Str × Addr)} {it' kx' vx' : E} {ifs' : Es} (hK : X.K = g.K) (hw : g.cls.w = X.w) (hu : X.A.units + 64 < cLine) (hc : X.calm = true) (hkind : scope.kind = .function) (hcell : ∀ y ∈ scope.names, y.2 ≠ .cell)
 (hnames : ∀ y ∈ scope.names, y.2 = .local → scope.names.lookup y.1 = some .local) (hclos : closureFor scope X.env = pure cl) (C : Clos X scope cl) (hN : N.length = nl + fv.length)
 (hfv : ∀ j k, fv[j]? = some k → ∃ x c, N[nl + j]? = some x ∧ X.N[k]? = some x ∧ cl.lookup x = some c ∧ (X.env.scope.names.lookup x = some .cell ∨ X.env.scope.names.lookup x = some .free) ∧ ((relabel scope X.env).names.lookup x = some .cell ∨ (relabel scope X.env).names.lookup x = some .free))
 (htg : ∀ i ∈ tgs, i < nl) (hi : SdI g X target iter k it') (hg : ∀ L s0 H0 fp pn, PG (cxG X N scope cl L s0 H0 fp pn) target (tg g.K tgs one))
 (ht : ∀ L s0 H0 fp pn, PTs (cxG X N scope cl L s0 H0 fp pn) ifs (Hu (g.with fun _ _ _ => False) ifs')) (hkx : ∀ L s0 H0 fp pn, Sd (g.with fun _ _ _ => False) (cxG X N scope cl L s0 H0 fp pn) kx kx') (hvx : ∀ L s0 H0 fp pn, Sd (g.with fun _ _ _ => False) (cxG X N scope cl L s0 H0 fp pn) vx vx')
 (hs : ∀ x, foldedSetIterable iter X.env x = pure x := by intro _; rfl) :
 Sd g X (.DictComp kx vx [⟨target, iter, ifs, 0⟩] scope pos) (.dcompN k one nl tgs fv it' ifs' kx' vx') := by
 intro pins s sg H Q I q
 obtain ⟨rho, st, env, S, n, q⟩ := q
 obtain ⟨wi, hpi, hwi⟩ := hi
 generalize hB : Na g tgs one (Bx nl fv env) ifs' kx' vx' = body
 have q : RQ g ((aa g.tab g.call it' env st).bind fun d st => match Cq k st d with
  | some (xs, p) => (Bn xs p st.length body xs (st ++ [.dcn []])).bind fun _ st' => .ok (.loc st.length) st'
  | none => .bad) (Aq g rho H Q) rho H := by
  rw [← hB]
  simp only [aa] at q
  exact q
 rw [arm_eval_DictComp]
 refine wpAny_comprehension_free (use := none) rfl hs hclos hkind hnames ?_
 have hpi := hpi pins s sg H
  (fun J H1 => ∃ r1 st1 xs p, g.Keep rho H r1 H1 ∧ g.Sto r1 st1 H1 ∧ ItJ g J xs p r1 H1 ∧
   RQ g ((Bn xs p st1.length body xs (st1 ++ [.dcn []])).bind fun _ st' => .ok (.loc st1.length) st') (Aq g rho H Q) r1 H1) I ?_
 · refine thn hpi fun v s1 h1 => thn h1 fun itv s2 h2 => ?_
   obtain ⟨it, fp, tn, J, H1, rfl, I2, T, st2, f2, r1, st1, xs, p, k1, S1, hJ, q1⟩ := h2
   obtain ⟨stf, hloop, q1⟩ : ∃ stf, Bn xs p st1.length body xs (st1 ++ [.dcn []]) = .ok () stf ∧ Aq g rho H Q (.loc st1.length) stf := by
    revert q1
    cases e : Bn xs p st1.length body xs (st1 ++ [.dcn []]) with
    | ok u stf => exact fun q => ⟨stf, rfl, q⟩
    | exc c st2 => exact absurd e Nb
    | bad => exact fun q => q.elim
   refine wpAny_newObj_type ?_
   have new : Am g.cls.w s2.heap.objs.size [] (s2.heap.push { cls := .type "dict", data := .dict #[] }) := ⟨beq_eq_false_iff_ne.mpr (Ne.symm (Nat.ne_of_lt I2.big)), Nat.zero_le _, List.nodup_nil, _, #[], 0, Heap.get?_push_size _ rfl, ⟨rfl, rfl, rfl⟩, rfl, .nil⟩
   have I3 := I2.laid (a := s2.heap.objs.size) (o := .ext (Am g.cls.w s2.heap.objs.size [])) (h' := s2.heap.push { cls := .type "dict", data := .dict #[] }) (t' := s2.toks) (fun _ _ q => Heap.get?_push_of_some _ q) (Nat.le_refl _) ⟨new, ⟨_, Heap.get?_push_size _ rfl⟩, Hv⟩
   clear new
   have hn3 := I2.fresh
   generalize hs3 : ({ s2 with heap := s2.heap.push { cls := .type "dict", data := .dict #[] } } : Shared) = s3
   have I3 : L2.Inv X pins sg (upd H1 s2.heap.objs.size (.ext (Am g.cls.w s2.heap.objs.size []))) s3 := by rw [← hs3]; exact I3
   have hsz : s3.heap.objs.size = s2.heap.objs.size + 1 := by rw [← hs3]; exact Heap.size_push _ _
   have up3 : ∀ b o, s2.heap.get? b = some o → s3.heap.get? b = some o := fun b o e => by rw [← hs3]; exact Heap.get?_push_of_some _ e
   have hfp : ∀ b ∈ fp, Co X pins (upd H1 s2.heap.objs.size (.ext (Am g.cls.w s2.heap.objs.size []))) b ∧ b < s3.heap.objs.size := fun b hb => by
    obtain ⟨o, ho, _⟩ := T.obj _ _ st2 b hb
    have hlt := Heap.lt_size ho
    refine ⟨⟨?_, (f2 b hb).2⟩, by rw [hsz]; exact Nat.lt_succ_of_lt hlt⟩
    rw [As (Nat.ne_of_lt hlt)]
    exact (f2 b hb).1
   have k13 : g.Keep r1 H1 (r1 ++ [s2.heap.objs.size]) (upd H1 s2.heap.objs.size (.ext (Am g.cls.w s2.heap.objs.size []))) := (S1.laid hn3 (o := .ext (Am g.cls.w s2.heap.objs.size [])) (c := .dcn []) ⟨[], Bm, by simp [Aj]⟩).1
   have S3 : g.Sto (r1 ++ [s2.heap.objs.size]) (st1 ++ [.dcn []]) (upd H1 s2.heap.objs.size (.ext (Am g.cls.w s2.heap.objs.size []))) := (S1.laid hn3 (o := .ext (Am g.cls.w s2.heap.objs.size [])) (c := .dcn []) ⟨[], Bm, by simp [Aj]⟩).2
   have acc_at : (r1 ++ [s2.heap.objs.size])[st1.length]? = some s2.heap.objs.size := by rw [← S1.len]; simp
   generalize hH3 : upd H1 s2.heap.objs.size (.ext (Am g.cls.w s2.heap.objs.size [])) = H3 at *
   generalize hac : s2.heap.objs.size = ac at *
   generalize hr3 : r1 ++ [ac] = r3 at *
   refine wpAny_newFunctionEnv hcell (by intro y hy; simp at hy) (fun h₁ hns₁ hsb₁ => ?_) hkind
   have hk1 : ∀ b o, s3.heap.get? b = some o → h₁.get? b = some o := fun b o e => hsb₁.extBut b o (Nat.ne_of_lt (Heap.lt_size e)) (Heap.get?_push_of_some _ e)
   have J0 := Qu (N := N) (nl := nl) (fv := fv) (tk := s3.toks + ([] : List (Str × Value)).length) hkind C hN hfv I3 hfp hns₁ hk1
   have n0 := Qw (n.mono (k1.trans k13)) nl fv
   generalize hsg0 : (List.replicate nl none ++ fv.map fun k => (sg[k]?).join : L2.St) = sg0 at J0 n0
   have tn0 : tn 0 h₁ := T.keep _ _ _ st2 fun b _ o e => hk1 b o (up3 b o e)
   have bfp : ∀ {H' : Hp}, (∀ b ∈ fp, H' b = none) → ∀ b ∈ fp, Co (cxG X N scope cl s3.heap.objs.size s3 H3 fp (X.pn ++ pins)) [] H' b := fun hn b hb => by
    obtain ⟨f, hlt⟩ := hfp b hb
    refine ⟨hn b hb, fun z => ?_, mx I3 f, .inl hb, fun y c h => f.2.2.2.2.1 y c (C.sub y c h), fun p hp => f.2.2.2.2.2 p (by rw [List.append_nil] at hp; exact hp)⟩
    have : s3.heap.objs.size < s3.heap.objs.size := by rw [z] at hlt; exact hlt
    exact Nat.lt_irrefl _ this
   have loop : codeAny (model X.prog X.w) X.A (.compLoop (.DictComp kx vx [⟨target, iter, ifs, 0⟩] scope pos) 0 (.ref it) (.ref ac) (Mw X scope cl s3.heap.objs.size))
    (compPost (model X.prog X.w) X.A X.xe none (EP X pins sg Q) (.ref ac) s3.heap.objs.size)
    { s3 with heap := h₁, toks := s3.toks + ([] : List (Str × Value)).length } := by
    refine Zh (fun mm s' => ∃ i rho' st' H' sg', L2.Inv (cxG X N scope cl s3.heap.objs.size s3 H3 fp (X.pn ++ pins)) [] sg' H' s' ∧ tn i s'.heap ∧ (∀ b ∈ fp, H' b = none) ∧ g.Keep r3 H3 rho' H' ∧ g.Sto rho' st' H' ∧ g.Env rho' H' (Bx nl fv env) sg' ∧ mm = xs.length - i ∧ i ≤ xs.length ∧
     Bn xs p st1.length body (xs.drop i) st' = .ok () stf) ?_ xs.length ⟨0, r3, _, H3, sg0, J0, tn0, fun b hb => (hfp b hb).1.1, .refl _ _, S3, n0, by simp, Nat.zero_le _, hloop⟩
    rintro mm s' ⟨i, rho', st', H', sg', I', tn', fr', kk, S', n', rfl, hi, hl'⟩
    have hst : stays st' p xs = true := by
     cases z : stays st' p xs with
     | true => rfl
     | false =>
      exfalso
      cases e : xs.drop i with
      | nil => rw [e] at hl'; simp only [Bn, z] at hl'; cases hl'
      | cons d t => rw [e] at hl'; simp only [Bn, z] at hl'; cases hl'
    obtain ⟨jstop, jgo⟩ := hJ rho' st' H' (k13.trans kk) S' hst
    by_cases hlt : i < xs.length
    · obtain ⟨hgo, hy⟩ := jgo i xs[i] (List.getElem?_eq_getElem hlt)
      rw [List.drop_eq_getElem_cons hlt] at hl'
      simp only [Bn, hst, if_true] at hl'
      refine thn (T.item (cxG X N scope cl s3.heap.objs.size s3 H3 fp (X.pn ++ pins)) rfl rfl rfl hc i [] s' sg' H' _ I' (bfp fr') tn' hgo) fun r s4 ⟨u, hr4, h4⟩ => ?_
      subst hr4
      refine thn h4 fun _ s5 ⟨x5, H5, I5, r5, y5, tn5, fr5⟩ => ?_
      obtain ⟨e5, rx5⟩ := hy x5 H5 y5
      have k5 : g.Keep rho' H' rho' H5 := Bo.keep e5 rho'
      have kk := kk.trans k5
      have S' := S'.same e5
      have n' := n'.mono k5
      have I5' := I5.pinned (bfp fr5) (T.obj _ _ tn5)
      obtain ⟨env', es⟩ : ∃ env', store tgs one xs[i] (Bx nl fv env) = some env' := by
       cases es : store tgs one xs[i] (Bx nl fv env) with
       | some env' => exact ⟨env', rfl⟩
       | none =>
        exfalso
        have : body xs[i] st' = .bad := by rw [← hB]; unfold Na; rw [es]
        rw [this] at hl'; cases hl'
      have hbody : body xs[i] st' = (br g.tab g.call ifs' env' st').bind fun b st => if b then (aa g.tab g.call kx' env' st).bind fun k st => (aa g.tab g.call vx' env' st).bind fun y st => .ok (some (k, y)) st else .ok none st := by
       rw [← hB]; unfold Na; rw [es]
      rw [hbody] at hl'
      obtain ⟨hel, hhi⟩ := qv es htg
      refine wpAny_mono (hg s3.heap.objs.size s3 H3 fp (X.pn ++ pins) _ s5 sg' H5 x5 u (fun sg6 H6 => H6 = H5 ∧ g.Env rho' H6 env' sg6) I5' r5 (fu (g := g) es rx5 n' fun sg6 n6 => ⟨rfl, n6⟩)) (fun _ s6 h6 => ?_) (fun _ _ z => z.elim)
      obtain ⟨sg6, H6, I6, e6, n6⟩ := h6
      subst e6
      obtain ⟨b, st2, eb, hl'⟩ : ∃ b st2, br g.tab g.call ifs' env' st' = .ok b st2 ∧ (match (if b then (aa g.tab g.call kx' env' st2).bind fun k st => (aa g.tab g.call vx' env' st).bind fun y st => .ok (some (k, y)) st else .ok none st2 : Res (Option (D × D))) with
       | .ok (some (k, y)) st' => (match st'[st1.length]? with
        | some (.dcn kvs) => if kvs.length < sizeLine ∧ ba k = true then Bn xs p st1.length body (xs.drop (i + 1)) (st'.set st1.length (.dcn (Bw kvs k y))) else .bad
        | _ => .bad)
       | .ok none st' => Bn xs p st1.length body (xs.drop (i + 1)) st'
       | _ => .bad) = Res.ok () stf := by
       cases eb : br g.tab g.call ifs' env' st' with
       | ok b st2 => rw [eb] at hl'; exact ⟨b, st2, rfl, hl'⟩
       | exc c st2 => rw [eb] at hl'; cases hl'
       | bad => rw [eb] at hl'; cases hl'
      refine wpAny_mono (ht s3.heap.objs.size s3 H3 fp (X.pn ++ pins) _ s6 sg6 H6 (fun b' H7 => b' = b ∧ ∃ rho7, g.Keep rho' H6 rho7 H7 ∧ g.Sto rho7 st2 H7) I6 ⟨rho', st', env', S', n6, ?_⟩) (fun ok s7 h7 => ?_) (fun _ _ z => z.elim)
      · show RQ (g.with fun _ _ _ => False) (br g.tab g.call ifs' env' st') _ rho' H6
        rw [eb]
        exact fun H7 rho7 k7 s7 => ⟨rfl, rho7, k7, s7⟩
      obtain ⟨H7, I7, e7, rho7, k7, S7⟩ := h7
      subst e7
      have n7 : g.Env rho7 H7 env' sg6 := n6.mono k7
      have done : ∀ (rho9 : List Addr) (st9 : Sto) (H9 : Hp) (s9 : Shared), L2.Inv (cxG X N scope cl s3.heap.objs.size s3 H3 fp (X.pn ++ pins)) ([] ++ Hi fp s5.heap) sg6 H9 s9 → g.Keep rho7 H7 rho9 H9 → g.Sto rho9 st9 H9 → Bn xs p st1.length body (xs.drop (i + 1)) st9 = .ok () stf →
       ∃ m, m < xs.length - i ∧ ∃ i rho' st' H' sg', L2.Inv (cxG X N scope cl s3.heap.objs.size s3 H3 fp (X.pn ++ pins)) [] sg' H' s9 ∧ tn i s9.heap ∧ (∀ b ∈ fp, H' b = none) ∧ g.Keep r3 H3 rho' H' ∧ g.Sto rho' st' H' ∧ g.Env rho' H' (Bx nl fv env) sg' ∧ m = xs.length - i ∧ i ≤ xs.length ∧ Bn xs p st1.length body (xs.drop i) st' = .ok () stf := by
       intro rho9 st9 H9 s9 I9 k9 S9 hl9
       refine ⟨xs.length - (i + 1), by omega, i + 1, rho9, st9, H9, sg6, I9.unpinned, T.keep _ _ _ tn5 fun b hb o e => (I9.pin (b, o) (List.mem_append_right _ (List.mem_append_right _ (Hj hb e)))).1, fun b hb => ?_, (kk.trans k7).trans k9, S9, qx rfl hel hhi (n7.mono k9), rfl, hlt, hl9⟩
       obtain ⟨o, e, d⟩ := T.obj _ _ tn5 b hb
       exact (I9.pin (b, o) (List.mem_append_right _ (List.mem_append_right _ (Hj hb e)))).2.1
      cases ok with
      | false =>
       rw [if_neg Bool.false_ne_true]
       simp only [Bool.false_eq_true, if_false] at hl'
       exact done rho7 st2 H7 s7 I7 (.refl _ _) S7 hl'
      | true =>
       rw [if_pos rfl]
       simp only [if_true] at hl'
       obtain ⟨kd, st3, ek, hl'⟩ : ∃ kd st3, aa g.tab g.call kx' env' st2 = .ok kd st3 ∧ (match ((aa g.tab g.call vx' env' st3).bind fun y st => .ok (some (kd, y)) st : Res (Option (D × D))) with
        | .ok (some (k, y)) st' => (match st'[st1.length]? with
         | some (.dcn kvs) => if kvs.length < sizeLine ∧ ba k = true then Bn xs p st1.length body (xs.drop (i + 1)) (st'.set st1.length (.dcn (Bw kvs k y))) else .bad
         | _ => .bad)
        | .ok none st' => Bn xs p st1.length body (xs.drop (i + 1)) st'
        | _ => .bad) = Res.ok () stf := by
        cases ek : aa g.tab g.call kx' env' st2 with
        | ok kd st3 => rw [ek] at hl'; exact ⟨kd, st3, rfl, hl'⟩
        | exc c st4 => rw [ek] at hl'; cases hl'
        | bad => rw [ek] at hl'; cases hl'
       obtain ⟨y, st4, ee, hl'⟩ : ∃ y st4, aa g.tab g.call vx' env' st3 = .ok y st4 ∧ (match st4[st1.length]? with
        | some (.dcn kvs) => if kvs.length < sizeLine ∧ ba kd = true then Bn xs p st1.length body (xs.drop (i + 1)) (st4.set st1.length (.dcn (Bw kvs kd y))) else .bad
        | _ => .bad) = Res.ok () stf := by
        cases ee : aa g.tab g.call vx' env' st3 with
        | ok y st4 => rw [ee] at hl'; exact ⟨y, st4, rfl, hl'⟩
        | exc c st4 => rw [ee] at hl'; cases hl'
        | bad => rw [ee] at hl'; cases hl'
       obtain ⟨kvs, ey, ⟨hys, hkd⟩, hl'⟩ : ∃ kvs, st4[st1.length]? = some (.dcn kvs) ∧ (kvs.length < sizeLine ∧ ba kd = true) ∧ Bn xs p st1.length body (xs.drop (i + 1)) (st4.set st1.length (.dcn (Bw kvs kd y))) = .ok () stf := by
        split at hl'
        · rename_i kvs ey
          split at hl'
          · rename_i hys; exact ⟨kvs, ey, hys, hl'⟩
          · cases hl'
        · cases hl'
       refine wpAny_mono (hkx s3.heap.objs.size s3 H3 fp (X.pn ++ pins) _ s7 sg6 H7 (fun w H8 => ∃ rho8, g.Keep rho7 H7 rho8 H8 ∧ g.Sto rho8 st3 H8 ∧ g.Rep rho8 H8 kd w) I7 ⟨rho7, st2, env', S7, n7, ?_⟩) (fun kv s8 h8 => ?_) (fun _ _ z => z.elim)
       · show RQ (g.with fun _ _ _ => False) (aa g.tab g.call kx' env' st2) _ rho7 H7
         rw [ek]
         exact fun w H8 rho8 k8 s8 r8 => ⟨rho8, k8, s8, r8⟩
       obtain ⟨wk, H8, I8, rw8, rho8, k8, S8, rp8⟩ := h8
       refine wpAny_mono (hvx s3.heap.objs.size s3 H3 fp (X.pn ++ pins) _ s8 sg6 H8 (fun w H9 => ∃ rho9, g.Keep rho8 H8 rho9 H9 ∧ g.Sto rho9 st4 H9 ∧ g.Rep rho9 H9 y w) I8 ⟨rho8, st3, env', S8, n7.mono k8, ?_⟩) (fun yv s9 h9 => ?_) (fun _ _ z => z.elim)
       · show RQ (g.with fun _ _ _ => False) (aa g.tab g.call vx' env' st3) _ rho8 H8
         rw [ee]
         exact fun w H9 rho9 k9 s9 r9 => ⟨rho9, k9, s9, r9⟩
       obtain ⟨w, H9, I9, rw9, rho9, k9, S9, rp9⟩ := h9
       have rpk := rp8.mono k9
       have edc : az st4 st1.length = some kvs := by unfold az; rw [ey]
       obtain ⟨a9, ws, hr9, _, hH9, nv9⟩ := Dj S9 edc
       rw [k9.at (k8.at (k7.at (kk.at acc_at)))] at hr9; cases hr9
       refine ra (X := cxG X N scope cl s3.heap.objs.size s3 H3 fp (X.pn ++ pins)) hK hw hu I9 hH9 nv9 rpk hkd rw8 rw9 hys fun q9 s10 ez I10 => ?_
       subst ez
       obtain ⟨k10, S10⟩ := S9.wroteC (o := .ext (Am g.cls.w ac (dy ws kd q9 w))) (c1 := .dcn (Bw kvs kd y)) (k9.at (k8.at (k7.at (kk.at acc_at)))) ey rfl hH9 ⟨fun _ => nofun, fun _ _ => nofun⟩ fun H4 eH k5 => ⟨_, eH, (Qz hkd rpk rp9 nv9).mono k5⟩
       exact done rho9 _ _ s10 I10 ((k8.trans k9).trans k10) S10 hl'
    · have ei : i = xs.length := by omega
      subst ei
      refine thn (T.done (cxG X N scope cl s3.heap.objs.size s3 H3 fp (X.pn ++ pins)) rfl rfl rfl hc xs.length [] s' sg' H' _ I' (bfp fr') tn' jstop) fun r s4 ⟨hr4, I4⟩ => ?_
      subst hr4
      rw [List.drop_eq_nil_of_le (Nat.le_refl _)] at hl'
      simp only [Bn, hst, if_true] at hl'
      cases hl'
      obtain ⟨m4, hn4, _⟩ := I4.loc
      refine ⟨m4, hn4, fun h' sb => ?_⟩
      refine ⟨.ref ac, H', ?_, rfl, q1 (.ref ac) H' rho' ((k1.trans k13).trans kk) S' (Bh.mpr ⟨ac, kk.at acc_at, rfl⟩)⟩
      have u4 : Un (frs X.stack) fp H3 H' s3.heap s4.heap := I4.base
      have hL : ∀ b o, s3.heap.get? b = some o → b ≠ s3.heap.objs.size := fun b o e => Nat.ne_of_lt (Heap.lt_size e)
      have fL : H' s3.heap.objs.size = none := I4.free
      refine I3.call' (s' := { s4 with heap := h' }) (ch := fp) I4.os ⟨fun b o e n hb hx => (sb.2 b (hL b o e)).trans (u4.keep b o e n hb hx), fun b o e n hb hx => ?_, u4.free, fun b o e hx => ?_, u4.tups, u4.frzs, u4.tbls⟩ (fun b o e => ?_) I4.bare fun b hb => ?_
      · obtain ⟨sl, e1⟩ := u4.slot b o e n hb hx
        exact ⟨sl, (sb.2 b (hL b o e)).trans e1⟩
      · obtain ⟨o', e1⟩ := u4.there b o e hx
        exact ⟨o', (sb.2 b (hL b o e)).trans e1⟩
      · refine (I4.hok b o e).stay (fun c u hc' g' => (sb.2 c ?_).trans g') (fun _ h => h) fun _ _ h => h
        intro z
        rcases hc' with rfl | hc'
        · rw [z, fL] at e; cases e
        · rw [z, fL] at hc'; cases hc'
      · obtain ⟨f, _⟩ := hfp b hb
        exact ⟨f.2.2.2.1, f.2.1, f.2.2.2.2.1, f.2.2.2.2.2⟩
   exact codeAny_compStart_dict loop (T.self _ 0 _ _ _ tn0 loop)
 · refine hwi rho st env sg H _ S n ?_
   revert q
   cases aa g.tab g.call it' env st with
   | bad => exact fun q => q
   | exc c st1 => exact fun q => q
   | ok d st1 =>
    simp only [Bf]
    intro q
    cases ei : Cq k st1 d with
    | none => rw [ei] at q; exact q.elim
    | some xp =>
     obtain ⟨xs, p⟩ := xp
     rw [ei] at q
     exact ⟨xs, p, ei, fun H1 r1 J k1 s1 hJ => ⟨r1, st1, xs, p, k1, s1, hJ, RQ.mono k1 q fun _ _ z => z⟩⟩
variable {g : G} {X : Cx} {pos apos cpos : Pos} {F : Nat}
theorem zj (hK : X.K = g.K) (hw : g.cls.w = X.w) {pins : List (Addr × Obj)} {sg : L2.St} {H : Hp} {s : Shared} {rho : List Addr} {p : Addr} {kvs : List (D × D)} {xs : List (D × Addr × V)} {A : Around} {Q : Value → Shared → Prop} {E : Value → Shared → Prop} (I : Inv X pins sg H s) (hH : H p = some (.ext (Am g.cls.w p xs))) (nv : Aj g.K rho H kvs xs)
 (h : ∀ s', Inv X pins sg (upd H p (.ext (Am g.cls.w p []))) s' → Q .none s') : wpAny (model X.prog X.w) A (call (.builtin "dict.clear") [.ref p]) Q E s := by
 obtain ⟨hm, hz, ys, pr, dd⟩ := Fs hK hw I hH nv
 obtain ⟨o, es, ep, ho, hc, hdat, he, _, _⟩ := id dd
 have hes : es.size ≤ sizeLine := by
  have h1 : es.toList.length = ys.length := by rw [he, List.length_map]
  have h2 : xs.length = ys.length := Paired.length pr
  simp at h1; omega
 have hT : s.TypeIs (.ref p) "dict" := ⟨o, ho, hc.1⟩
 refine wpAny_call_entry PySem.F.slot_dict_clear hT PySem.F.entry_dict_clear ?_ (PySem.F.args_dict_clear_1 _)
 unfold Builtin.«dict.clear»
 refine wpAny_bind ?_
 unfold Builtin.Dict.noArgs
 refine wpAny_bind (wpAny_notOrdered_dict hT (wpAny_pure (wpAny_bind (wpAny_dictEntries ho hdat (wpAny_bind ?_)))))
 unfold bearsInstanceDictMark
 have g1 := Heap.get?_update_self (h := s.heap) (a := p) (f := Obj.mapDictKeys fun _ => #[]) ho (Obj.isFreed_of_dict (Obj.data_mapDictKeys hdat _))
 have new : Am g.cls.w p [] (s.heap.update p (Obj.mapDictKeys fun _ => #[])) := ⟨hm, Nat.zero_le _, List.nodup_nil, _, _, ep + 1, g1, hc.mapDictKeys _, Obj.data_mapDictKeys hdat _, .nil⟩
 have I1 : Inv X pins sg (upd H p (.ext (Am g.cls.w p []))) { s with heap := s.heap.update p (Obj.mapDictKeys fun _ => #[]) } := mi (t' := s.toks) I (by rw [hH]; exact True.intro) (Heap.SameBut.update ..) ⟨_, g1⟩ ⟨new, ⟨_, g1⟩, Hv⟩
 refine wpAny_bind (wpAny_load ho (wpAny_pure (wpAny_bind (wpAny_updateDictKeys (hz := hes) ho hdat ?_))))
 split
 · exact wpAny_bind (wpAny_letGo (wpAny_pure ⟨.none, rfl, h _ I1⟩))
 · exact wpAny_pure ⟨.none, rfl, h _ I1⟩
section
variable {prog : Program} {w : World} {K : Type} [DecidableEq K] {knd : HeapKind prog w K} {A : Around} {E : Value → Shared → Prop} {s : Shared}
inductive HitsH (A : Around) (s : Shared) (xb : List (K × Addr × Value)) : List (K × Addr × Value) → Bool → Prop
 | nil : HitsH A s xb [] true
 | miss {k : K} {q : Addr × Value} {r : List (K × Addr × Value)} : (∀ (j : Nat) (p : Addr × Value), xb[j]? ≠ some (k, p)) → HitsH A s xb ((k, q) :: r) false
 | hit {k : K} {q p : Addr × Value} {r : List (K × Addr × Value)} {j : Nat} {e b : Bool} : xb[j]? = some (k, p) → SeqAt.EqAt A s q.2 p.2 e → HitsH A s xb r b → HitsH A s xb ((k, q) :: r) (e && b)
theorem Zj {xb : List (K × Addr × Value)} (hn : (xb.map (·.1)).Nodup) {i j : Nat} {k : K} {p q : Addr × Value} (h1 : xb[i]? = some (k, p)) (h2 : xb[j]? = some (k, q)) : p = q := by
 have g1 : (xb.map (·.1))[i]? = some k := by simp [h1]
 have g2 : (xb.map (·.1))[j]? = some k := by simp [h2]
 have : i = j := (List.getElem?_inj (List.getElem?_eq_some_iff.mp g1).1 hn).mp (g1.trans g2.symm)
 subst this
 rw [h1] at h2; cases h2; rfl
theorem Ra {nm : String} {a b : Addr} {xa xb : List (K × Addr × Value)} {r : Bool} {Q : Bool → Shared → Prop} (hu : knd.room A) (ha : (a == sysModules) = false) (hb : (b == sysModules) = false) (da : s.heap.DictOfH knd a xa) (db : s.heap.DictOfH knd b xb)
 (hits : xa.length = xb.length → HitsH A s xb xa r) (h : Q (xa.length == xb.length && r) s) : wpAny (model prog w) A (Builtin.Dict.samePairs nm a b) Q E s := by
 obtain ⟨oa, es, ep, g1, _, g3, g4, g5, _⟩ := da
 obtain ⟨ob, fs, eq, k1, _, k3, k4, k5, k6⟩ := db
 have la : es.size = xa.length := size_of_entries g4
 have lb : fs.size = xb.length := size_of_entries k4
 unfold Builtin.Dict.samePairs Builtin.Dict.showsAll
 rw [if_neg (by rw [ha]; exact Bool.false_ne_true), if_neg (by rw [hb]; exact Bool.false_ne_true)]
 refine wpAny_bind (wpAny_pure (wpAny_bind (wpAny_pure (wpAny_bind (wpAny_dictEntries g1 g3 ?_)))))
 dsimp only
 refine wpAny_bind (wpAny_dictEntries k1 k3 ?_)
 by_cases hz : es.size = fs.size
 · have hl : xa.length = xb.length := by omega
   have h : Q r s := by simpa [hl] using h
   have hits := hits hl
   rw [if_neg (by rw [hz]; simp)]
   refine wpAny_bind (wpAny_dictEpoch g1 g3 (wpAny_bind ?_))
   rw [Std.Legacy.Range.forIn_eq_forIn_range']
   simp only [Std.Legacy.Range.size, Nat.sub_zero, Nat.add_sub_cancel, Nat.div_one]
   refine wpAny_forIn_list _ (fun rest q t => t = s ∧ q = (none, ()) ∧ ∃ i, rest = List.range' i (es.size - i) ∧ i ≤ es.size ∧ HitsH A s xb (xa.drop i) r) _ ?_ ?_ _ _ ⟨rfl, rfl, 0, by simp, Nat.zero_le _, hits⟩
   · rintro x rest q t ⟨rfl, rfl, i, hr, hi, hp⟩
     have hlt : i < es.size := Nat.lt_of_not_le fun z => by rw [Nat.sub_eq_zero_of_le z] at hr; simp at hr
     rw [show es.size - i = (es.size - (i + 1)) + 1 by omega, List.range'_succ] at hr
     obtain ⟨rfl, hr⟩ := List.cons.inj hr
     have hx : x < xa.length := by omega
     have ee : es[x]? = some (entryOfKey knd xa[x]) := by rw [entry_at g4 x, List.getElem?_eq_getElem hx]; rfl
     have hd : xa.drop x = (xa[x].1, xa[x].2) :: xa.drop (x + 1) := List.drop_eq_getElem_cons hx
     have hk := g5 xa[x] (List.getElem_mem hx)
     rw [hd] at hp
     refine wpAny_bind (wpAny_dictEntries g1 g3 ?_)
     rw [ee]
     show wpAny _ _ (holding [.ref xa[x].2.1, xa[x].2.2] _ >>= _) _ _ _
     refine wpAny_bind (wpAny_holding (wpAny_bind (wpAny_dictFind_heap hu hk k1 k3 k4 k5 k6 (fun hn => ?_) fun j p hj => ?_)))
     · cases hp with
       | miss z =>
        refine wpAny_pure ?_
        show wpAny _ _ (if (!false) = true then _ else _) _ _ _
        rw [if_pos (by decide : (!false) = true)]
        exact wpAny_pure (wpAny_pure h)
       | hit z1 z2 z3 => exact absurd z1 (hn _ _)
     · cases hp with
       | miss z => exact absurd hj (z _ _)
       | @hit _ _ p2 _ j2 e b' z1 z2 z3 =>
        have ep2 := Zj k6 z1 hj
        subst ep2
        have ef : fs[j]? = some (entryOfKey knd (xa[x].1, p2)) := by rw [entry_at k4 j, hj]; rfl
        refine wpAny_bind (wpAny_dictEntries k1 k3 ?_)
        rw [ef]
        refine wpAny_holding (z2 prog w _ _ ?_)
        cases e with
        | false =>
         show wpAny _ _ (if (!false) = true then _ else _) _ _ _
         rw [if_pos (by decide : (!false) = true)]
         exact wpAny_pure (wpAny_pure h)
        | true =>
         show wpAny _ _ (if (!true) = true then _ else _) _ _ _
         rw [if_neg (by decide)]
         refine wpAny_bind (wpAny_dictEpoch g1 g3 ?_)
         rw [if_neg (by simp)]
         exact wpAny_pure ⟨rfl, rfl, x + 1, hr, hlt, by simpa using z3⟩
   · rintro q t ⟨rfl, rfl, i, hr, hi, hp⟩
     have : i = es.size := by
      rcases Nat.lt_or_ge i es.size with z | z
      · rw [show es.size - i = (es.size - (i + 1)) + 1 by omega, List.range'_succ] at hr; cases hr
      · omega
     subst this
     rw [la, List.drop_length] at hp
     cases hp
     exact wpAny_pure h
 · rw [if_pos (by simpa using hz)]
   have hf : (xa.length == xb.length) = false := by rw [← la, ← lb]; simpa using hz
   rw [hf, Bool.false_and] at h
   exact wpAny_bind (wpAny_rule (wpAny_pure h))
theorem eqH {neg : Bool} {a b : Addr} {xa xb : List (K × Addr × Value)} {r : Bool} {Q : Value → Shared → Prop} (hr : knd.room A.in1) (hu : A.units < cLine) (ha : (a == sysModules) = false) (hb : (b == sysModules) = false) (da : s.heap.DictOfH knd a xa) (db : s.heap.DictOfH knd b xb)
 (hits : xa.length = xb.length → HitsH A.in1 s xb xa r) (h : Q (.bool (xor neg (xa.length == xb.length && r))) s) : wpAny (model prog w) A (compareOp (if neg then .NotEq else .Eq) (.ref a) (.ref b)) Q E s := by
 have ta : s.TypeIs (.ref a) "dict" := let ⟨o, _, _, h1, h2, _⟩ := da; ⟨o, h1, h2.1⟩
 have tb : s.TypeIs (.ref b) "dict" := let ⟨o, _, _, h1, h2, _⟩ := db; ⟨o, h1, h2.1⟩
 cases neg with
 | false =>
  refine wpAny_richCompare_same_room (op := .Eq) ta tb PySem.F.slot_dict_eq (wpAny_call_entry PySem.F.slot_dict_eq ta PySem.F.entry_dict_eq ?_ (PySem.F.args_dict_eq_2 _ _)) hu
  show wpAny _ _ (Builtin.Dict.dictSlotArgs "__eq__" ⟨[.ref a, .ref b], []⟩ >>= _) _ _ s
  refine wpAny_bind ?_; unfold Builtin.Dict.dictSlotArgs
  refine wpAny_bind (wpAny_notOrdered_dict ta ?_); show wpAny _ _ (pure (Value.ref a, Value.ref b)) _ _ s
  refine wpAny_pure (wpAny_bind (wpAny_isInstance (T := "dict") tb PySem.F.sub_dict_dict ?_))
  simp only [Bool.not_true, Bool.false_eq_true, if_false]
  exact wpAny_bind (wpAny_pure (wpAny_bind (wpAny_pure (wpAny_bind (Ra hr ha hb da db hits (wpAny_pure ⟨_, rfl, (fun x => nomatch x), by simpa using h⟩))))))
 | true =>
  refine wpAny_richCompare_same_room (op := .NotEq) ta tb PySem.F.slot_dict_ne (wpAny_call_entry PySem.F.slot_dict_ne ta PySem.F.entry_dict_ne ?_ (PySem.F.args_dict_ne_2 _ _)) hu
  show wpAny _ _ (Builtin.Dict.dictSlotArgs "__ne__" ⟨[.ref a, .ref b], []⟩ >>= _) _ _ s
  refine wpAny_bind ?_; unfold Builtin.Dict.dictSlotArgs
  refine wpAny_bind (wpAny_notOrdered_dict ta ?_); show wpAny _ _ (pure (Value.ref a, Value.ref b)) _ _ s
  refine wpAny_pure (wpAny_bind (wpAny_isInstance (T := "dict") tb PySem.F.sub_dict_dict ?_))
  simp only [Bool.not_true, Bool.false_eq_true, if_false]
  exact wpAny_bind (wpAny_pure (wpAny_bind (wpAny_pure (wpAny_bind (Ra hr ha hb da db hits (wpAny_pure ⟨_, rfl, (fun x => nomatch x), by simpa using h⟩))))))
end
variable {g : G} {X : Cx} {a b : Expr} {a' b' : E} {pos apos cpos : Pos} {F : Nat}
theorem rb {rho : List Addr} {H : Hp} {k : D} : ∀ {kb : List (D × D)} {xb : List (D × Addr × V)} {yb : List (D × Addr × Value)}, Aj g.K rho H kb xb → Paired Fu xb yb → Ba kb k = none → ∀ (j : Nat) (p : Addr × Value), yb[j]? ≠ some (k, p)
 | [], xb, yb, nv, pr, _, j, p => by
  simp only [Aj] at nv; subst nv
  cases pr
  simp
 | (k0, d0) :: r, xb, yb, nv, pr, h, j, p => by
  simp only [Aj] at nv
  obtain ⟨q0, v0, t, rfl, _, _, _, nr⟩ := nv
  cases pr with
  | @cons x y _ yr p1 p2 =>
   have hne : k0 ≠ k := fun z => by simp [Ba, z] at h
   have h2 : Ba r k = none := by
    unfold Ba at h ⊢
    rw [List.find?_cons_of_neg (by simpa using hne)] at h
    exact h
   cases j with
   | zero =>
    intro z
    have z : y = (k, p) := by simpa using z
    exact hne (by have := p1.1; rw [z] at this; exact this)
   | succ j => simpa using rb nr p2 h2 j p
theorem Rb {rho : List Addr} {H : Hp} {k y : D} : ∀ {kb : List (D × D)} {xb : List (D × Addr × V)} {yb : List (D × Addr × Value)}, Aj g.K rho H kb xb → Paired Fu xb yb → Ba kb k = some y → ∃ (j : Nat) (q : Addr) (v : V) (u : Value), yb[j]? = some (k, q, u) ∧ RelV v u ∧ g.Rep rho H y v
 | [], xb, yb, nv, pr, h => by simp [Ba] at h
 | (k0, d0) :: r, xb, yb, nv, pr, h => by
  simp only [Aj] at nv
  obtain ⟨q0, v0, t, rfl, _, _, rd, nr⟩ := nv
  cases pr with
  | @cons x y' _ yr p1 p2 =>
   by_cases hk : k0 = k
   · subst hk
     have : y = d0 := by simpa [Ba] using h.symm
     subst this
     exact ⟨0, y'.2.1, v0, y'.2.2, by simp; exact Prod.ext p1.1.symm rfl, p1.2.2, rd⟩
   · have h2 : Ba r k = some y := by
      unfold Ba at h ⊢
      rw [List.find?_cons_of_neg (by simpa using hk)] at h
      exact h
     obtain ⟨j, q, v, u, e1, e2, e3⟩ := Rb nr p2 h2
     exact ⟨j + 1, q, v, u, by simpa using e1, e2, e3⟩
theorem Rc {A : Around} (hK : X.K = g.K) (hu : A.units + 60 < cLine) {pins : List (Addr × Obj)} {sg : L2.St} {H : Hp} {s : Shared} {rho : List Addr} {st : Sto} (I : Inv X pins sg H s) (S : g.Sto rho st H) {kb : List (D × D)} {xb : List (D × Addr × V)} {yb : List (D × Addr × Value)} (nb : Aj g.K rho H kb xb) (pb : Paired Fu xb yb) :
 ∀ {ka : List (D × D)} {xa : List (D × Addr × V)} {ya : List (D × Addr × Value)} {r : Bool}, Aj g.K rho H ka xa → Paired Fu xa ya → Et st kb ka = some r → HitsH A s yb ya r
 | [], xa, ya, r, na, pa, h => by
  simp only [Aj] at na; subst na
  cases pa
  simp only [Et] at h; cases h
  exact .nil
 | (k, d) :: t, xa, ya, r, na, pa, h => by
  simp only [Aj] at na
  obtain ⟨q0, v0, xt, rfl, _, _, rd, nr⟩ := na
  cases pa with
  | @cons x y _ yr p1 p2 =>
   obtain ⟨y1, y2⟩ := y
   have e1 : y1 = k := p1.1.symm
   subst e1
   simp only [Et] at h
   cases lk : Ba kb y1 with
   | none =>
    rw [lk] at h; cases h
    exact .miss (rb nb pb lk)
   | some z =>
    rw [lk] at h
    obtain ⟨j, q, v, u, f1, f2, f3⟩ := Rb nb pb lk
    simp only at h
    cases ev : eqV st d z with
    | none => rw [ev] at h; cases h
    | some e =>
     rw [ev, Option.bind_some] at h
     cases hr : Et st kb t with
     | none => rw [hr] at h; cases h
     | some b =>
      rw [hr] at h; cases h
      obtain ⟨pd, pz, g1, g2, rfl⟩ := Kc ev
      obtain ⟨as, r1⟩ := reads hK I S 40 d v0 y2.2 pd rd p1.2.2 g1
      obtain ⟨bs, r2⟩ := reads hK I S 40 z v u pz f3 f2 g2
      obtain ⟨c1, c2⟩ := fq 40 d pd g1
      obtain ⟨c3, c4⟩ := fq 40 z pz g2
      refine .hit (p := (q, u)) f1 (SeqAt.eqAt_reads pd pz A s _ _ as bs r1 r2 c1 c3 ?_) (Rc hK hu I S nb pb nr p2 hr)
      omega
theorem mtT {m : Mt} (hm : ∀ x ds st st' d, mtD m x ds st = .ok d st' → ∃ b, d = .bl b) {sg : L2.St} {H : Hp} {Q : Bool → Hp → Prop} (q : tT g (.mt m a' (.cons b' .nil)) sg H Q) : tE g (.mt m a' (.cons b' .nil)) sg H (fun x H' => ∃ z, x = .bl z ∧ Q z H') := by
 obtain ⟨rho, st, env, s, n, q⟩ := q
 refine ⟨rho, st, env, s, n, ?_⟩
 simp only [Ap] at q
 simp only [aa]
 revert q
 cases aa g.tab g.call a' env st with
 | bad => exact fun q => q
 | exc c st1 => exact fun q => q
 | ok x st1 =>
  simp only [Bf]
  split
  · cases au g.tab g.call (.cons b' .nil) env st1 with
    | bad => exact fun q => q
    | exc c st2 => exact fun q => q
    | ok y st2 =>
     simp only [Bf]
     cases e : mtD m x y st2 with
     | bad => exact fun q => q
     | exc c st3 => exact fun q => q
     | ok d st3 =>
      obtain ⟨z, rfl⟩ := hm _ _ _ _ _ e
      simp only [Bf, truth]
      intro q v H' rho' k1 s1 r1
      exact ⟨z, Cg.mp r1, (show Di g rho H Q z st3 from q) H' rho' k1 s1⟩
  · exact fun q => q
theorem zk {o : Expr} {o' : E} (hK : X.K = g.K) (hw : g.cls.w = X.w) (ho : Sd g X o o') (hbase : attributeBase o "clear" X.env (eval o X.env) = eval o X.env := by rfl) (hline : (apos.endLine == cpos.line) = true := by rfl) : Sd g X (.Call (.Attribute o "clear" apos) [] [] cpos) (.mt .clearN o' .nil) := by
 intro pins s sg H Q I h
 obtain ⟨rho, st, env, S, n, q⟩ := h
 simp only [aa] at q
 refine wpAny_Call_method0_late hbase hline (thn (ho pins s sg H (fun v H1 => ∃ p xs kvs r1 st1 m, v = .ref p ∧ r1[m]? = some p ∧ st1[m]? = some (.dcn kvs) ∧ H1 p = some (.ext (Am g.cls.w p xs)) ∧ Aj g.K r1 H1 kvs xs ∧ g.Keep rho H r1 H1 ∧ g.Sto r1 st1 H1 ∧ Aq g rho H Q .non (st1.set m (.dcn []))) I (step S n q fun d st1 x H1 r1 k1 s1 n1 rp q1 => ?_)) fun v s1 h0 => ?_)
 · split at q1
   · simp only [au, Bf] at q1
     cases d with
     | loc m =>
      simp only [mtD] at q1
      cases ed : az st1 m with
      | none => rw [ed] at q1; exact q1.elim
      | some kvs =>
       rw [ed] at q1
       obtain ⟨p, xs, hr, hc, hH, nv⟩ := Dj s1 ed
       obtain ⟨p2, hr2, rfl⟩ := Bh.mp rp
       rw [hr] at hr2; cases hr2
       exact ⟨p, xs, kvs, r1, st1, m, rfl, hr, hc, hH, nv, k1, s1, q1⟩
     | _ => exact q1.elim
   · exact q1.elim
 · obtain ⟨x, H1, I1, rv, p, xs, kvs, r1, st1, m, e, hr, hc, hH, nv, k1, S1, q1⟩ := h0
   subst e
   cases rv
   obtain ⟨_, _, ys, pr, ob, es, ep, h1, h2, _⟩ := Fs hK hw I1 hH nv
   refine ⟨"dict", "dict.clear", PySem.F.plainAttrs_dict, PySem.F.slot_dict_clear, PySem.F.type_dict_clear, ⟨ob, h1, h2.1⟩, fun a e => ?_, Calls.callWith_builtin rfl (PySem.evalArgs_none (zj hK hw I1 hH nv fun s2 I2 => ?_))⟩
   · cases e; exact ⟨ob, h1, h2.2.1⟩
   · obtain ⟨k2, S2⟩ := S1.wroteC (o := .ext (Am g.cls.w p [])) (c1 := .dcn []) hr hc rfl hH ⟨fun _ => nofun, fun _ _ => nofun⟩ fun H3 eH kk => ⟨[], eH, by simp [Aj]⟩
     exact ⟨.non, _, I2, rfl, q1 .non _ r1 (k1.trans k2) S2 (Hr.mpr rfl)⟩
section
variable {prog : Program} {w : World} {K : Type} [DecidableEq K] {knd : HeapKind prog w K} {A : Around} {E : Value → Shared → Prop} {s : Shared}
end
variable {g : G} {X : Cx} {pos apos cpos : Pos} {o e f : Expr} {o' e' f' : E}
theorem Zk {m : Mt} {st : Sto} {d : D} (hm : m = .getN ∨ m = .sdefN) (h : rdy m st d = true) : ∃ n kvs, d = .loc n ∧ az st n = some kvs := by
 cases d with
 | loc n =>
  have h : (az st n).isSome = true := by rcases hm with rfl | rfl <;> exact h
  exact ⟨n, _, rfl, (Option.isSome_iff_exists.mp h).choose_spec⟩
 | _ => rcases hm with rfl | rfl <;> cases h
theorem rf (hK : X.K = g.K) (hw : g.cls.w = X.w) {pins : List (Addr × Obj)} {sg : L2.St} {H : Hp} {s : Shared} {rho : List Addr} {st : Sto} {j : Nat} {p : Addr} {kvs : List (D × D)} (I : Inv X pins sg H s) (S : g.Sto rho st H) (hr : rho[j]? = some p) (e : az st j = some kvs) :
 ∃ xs ys, st[j]? = some (.dcn kvs) ∧ H p = some (.ext (Am g.cls.w p xs)) ∧ Aj g.K rho H kvs xs ∧ (p == sysModules) = false ∧ xs.length ≤ sizeLine ∧ Paired Fu xs ys ∧ s.heap.DictOfH (Cu X.prog X.w) p ys := by
 obtain ⟨p2, xs, h1, hc, h2, nv⟩ := Dj S e
 rw [hr] at h1; cases h1
 obtain ⟨hm, hz, ys, pr, dd⟩ := Fs hK hw I h2 nv
 exact ⟨xs, ys, hc, h2, nv, hm, hz, pr, dd⟩
theorem zl {nm : Str} {id : String} {k : Mt} (hk : k = .getN ∨ k = .sdefN) (slot : Slot "dict" nm id) (hty : typeOf (.builtin id) = pure (.type "method_descriptor")) (hK : X.K = g.K) (hw : g.cls.w = X.w) (ho : Sd g X o o') (he : Sd g X e e') (hf : Sd g X f f') (m : M2 X o nm apos e f cpos)
 (hrun : ∀ {pins : List (Addr × Obj)} {s : Shared} {sg : L2.St} {H H0 : Hp} {rho r0 : List Addr} {st : Sto} {Q : VK} {j : Nat} {p : Addr} {y z : D} {w1 w2 : V} {u1 u2 : Value}, Inv X pins sg H s → g.Sto rho st H → rho[j]? = some p → g.Keep r0 H0 rho H → g.Rep rho H y w1 → g.Rep rho H z w2 → RelV w1 u1 → RelV w2 u2 → RQ g (mtD k (.loc j) [y, z] st) (Aq g r0 H0 Q) rho H → wpAny (model X.prog X.w) X.A (call (.builtin id) [.ref p, u1, u2]) (EP X pins sg Q) X.xe s) :
 Sd g X (.Call (.Attribute o nm apos) [e, f] [] cpos) (.mt k o' (.cons e' (.cons f' .nil))) := by
 intro pins s sg H Q I h
 obtain ⟨rho, st, env, S, n, q⟩ := h
 simp only [aa, au, Bf, bind_assoc] at q
 refine wpAny_Call_method m.base m.few m.line PySem.F.plainAttrs_dict slot hty (thn (ho pins s sg H (fun v H1 => ∃ r1 st1 j p kvs, v = .ref p ∧ r1[j]? = some p ∧ az st1 j = some kvs ∧ g.Keep rho H r1 H1 ∧ g.Sto r1 st1 H1 ∧ g.Env r1 H1 env sg ∧ RQ g ((aa g.tab g.call e' env st1).bind fun y st => (aa g.tab g.call f' env st).bind fun z st => mtD k (.loc j) [y, z] st) (Aq g rho H Q) r1 H1) I (step S n q fun d st1 x H1 r1 k1 s1 n1 rp q1 => ?_)) fun u s1 h0 => ?_)
 · split at q1
   · rename_i hl
     obtain ⟨j, kvs, rfl, ed⟩ := Zk hk hl
     obtain ⟨p, hr, rfl⟩ := Bh.mp rp
     exact ⟨r1, st1, j, p, kvs, rfl, hr, ed, k1, s1, n1, q1⟩
   · exact q1.elim
 obtain ⟨x, H1, I1, rx, r1, st1, j, p, kvs, ex, hr, ed, k1, S1, n1, q1⟩ := h0
 subst ex
 obtain rfl : u = Value.ref p := rx
 obtain ⟨xs, ys, _, _, _, _, _, _, ob, es, ep, h1, h2, _⟩ := rf hK hw I1 S1 hr ed
 refine ⟨⟨ob, h1, h2.1⟩, fun a e => (by cases e; exact ⟨ob, h1, h2.2.1⟩), ?_⟩
 rw [m.trees]
 refine Calls.callWith_builtin rfl (Calls.evalArgs_plain (Calls.spliced_cons (thn (he pins s1 sg H1 (fun w H2 => ∃ r2 st2 y, g.Keep r1 H1 r2 H2 ∧ g.Sto r2 st2 H2 ∧ g.Env r2 H2 env sg ∧ g.Rep r2 H2 y w ∧ RQ g ((aa g.tab g.call f' env st2).bind fun z st => mtD k (.loc j) [y, z] st) (Aq g rho H Q) r2 H2) I1 (step S1 n1 q1 fun y st2 w H2 r2 k2 s2 n2 ry q2 => ⟨r2, st2, y, k2, s2, n2, ry, q2⟩)) fun iv s2 h0 => ?_)))
 obtain ⟨w, H2, I2, riv, r2, st2, y, k2, S2, n2, ry, q2⟩ := h0
 refine Calls.spliced_cons (thn (hf pins s2 sg H2 (fun w H3 => ∃ r3 st3 z, g.Keep r2 H2 r3 H3 ∧ g.Sto r3 st3 H3 ∧ g.Rep r3 H3 z w ∧ RQ g (mtD k (.loc j) [y, z] st3) (Aq g rho H Q) r3 H3) I2 (step S2 n2 q2 fun z st3 w H3 r3 k3 s3 n3 rz q3 => ⟨r3, st3, z, k3, s3, rz, q3⟩)) fun fv s3 h0 => Calls.spliced_nil ?_)
 obtain ⟨w2, H3, I3, rfv, r3, st3, z, k3, S3, rz, q3⟩ := h0
 exact hrun I3 S3 (k3.at (k2.at hr)) ((k1.trans k2).trans k3) (ry.mono k3) rz riv rfv q3
theorem Rf (hK : X.K = g.K) (hw : g.cls.w = X.w) (hu : X.A.units + 64 < cLine) (ho : Sd g X o o') (he : Sd g X e e') (hf : Sd g X f f') (m : M2 X o "get" apos e f cpos) : Sd g X (.Call (.Attribute o "get" apos) [e, f] [] cpos) (.mt .getN o' (.cons e' (.cons f' .nil))) :=
 zl (.inl rfl) PySem.F.slot_dict_get PySem.F.type_dict_get hK hw ho he hf m fun {pins s sg H H0 rho r0 st Q j p y z w1 w2 u1 u2} I S hr k0 ry rz r1 r2 q2 => by
  simp only [mtD] at q2
  split at q2
  · rename_i kvs2 ed2
    split at q2
    · rename_i hk
      obtain ⟨xs2, ys2, _, _, nv, hm, hz, pr, dd⟩ := rf hK hw I S hr ed2
      obtain ⟨q9, ik, rfl⟩ := jb hK I ry hk r1
      obtain ⟨l1, l2⟩ := Kd (k := y) nv pr
      have q2 : Aq g r0 H0 Q ((Ba kvs2 y).getD z) st := q2
      refine call_meetsIn PySem.F.slot_dict_get dd.typeIs PySem.F.entry_dict_get (PySem.F.args_dict_get_3 _ _ _) (meetsH_dict_get_default (Cu X.prog X.w) p q9 hm u2) ⟨by show X.A.units + 1 + 16 < cLine; omega, y, ys2, ik, dd, ?_⟩
      cases zz : Ba kvs2 y with
      | none => rw [zz] at q2; rw [l2 zz]; exact ⟨w2, H, I.tok _, r2, q2 _ H rho k0 S rz⟩
      | some d => rw [zz] at q2; obtain ⟨q', v, u', e1, e2, e3⟩ := l1 d zz; rw [e1]; exact ⟨v, H, I.tok _, e2, q2 _ H rho k0 S e3⟩
    · exact q2.elim
  · exact q2.elim
end DD
namespace DD
open PySem PySem.Spec L2
variable {tab : Nat → Ty → Option Bool} {call : Or}
theorem Zl : ∀ env st, Ap tab call (.var i) env st = (aa tab call (.var i) env st).bind fun d st => match truth st d with | some b => .ok b st | none => .bad := fun env st => by
 simp only [Ap, aa]
 cases Dd env i <;> rfl
theorem rg : ∀ env st, Ap tab call (.call f es dv) env st = (aa tab call (.call f es dv) env st).bind fun d st => match truth st d with | some b => .ok b st | none => .bad := fun env st => by
 simp only [Ap, aa]
 cases au tab call es env st <;> rfl
theorem Je : ∀ env st, Ap tab call (.isi a t) env st = (aa tab call (.isi a t) env st).bind fun d st => match truth st d with | some b => .ok b st | none => .bad := fun env st => by
 simp only [Ap, aa]
 cases aa tab call a env st with
 | ok x st1 =>
  simp only [Bf]
  cases (dw st1 x).bind fun u => eu tab u t <;> rfl
 | _ => rfl
end DD
namespace DD
open PySem
end DD
namespace DD
open PySem PySem.Spec L2
open PyProof.Rows hiding St RelV
variable {g : G} {X : Cx} {pos : Pos} {F : Nat}
def Nc : NameKind → Bool
 | .cell => true
 | .free => true
 | _ => false
def Nd (cells : List (Str × Addr)) : List (Str × Addr) → Prop
 | [] => True
 | p :: l => cells.lookup p.1 = some p.2 ∧ Nd cells l
theorem Rg : ∀ {cl : List (Str × Addr)}, Nd cells cl → ∀ x c, cl.lookup x = some c → cells.lookup x = some c
 | [], _, x, c, h => by cases h
 | (k, a) :: l, ⟨h1, h2⟩, x, c, h => by
  rw [List.lookup_cons] at h
  split at h
  · rename_i e
    cases h; rw [eq_of_beq e]; exact h1
  · exact Rg h2 x c h
def rh (cl : List (Str × Addr)) (names : List (Str × NameKind)) : Bool := names.all fun p => !Nc p.2 || (cl.lookup p.1).isSome
theorem Nf {α : Type} : ∀ {l : List (Str × α)} {x : Str} {a : α}, l.lookup x = some a → (x, a) ∈ l
 | [], x, a, h => by cases h
 | (k, b) :: l, x, a, h => by
  rw [List.lookup_cons] at h
  split at h
  · rename_i e; cases h; rw [eq_of_beq e]; exact .head _
  · exact .tail _ (Nf h)
theorem Hw (h1 : Nd X.env.cells cl) (h2 : rh cl (relabel scope X.env).names = true) : Clos X scope cl := by
 refine ⟨Rg h1, fun x h => ?_⟩
 unfold rh at h2
 rw [List.all_eq_true] at h2
 rcases h with h | h
 · have := h2 _ (Nf h)
   simp only [Nc, Bool.not_true, Bool.false_or] at this
   exact Option.isSome_iff_exists.mp this
 · have := h2 _ (Nf h)
   simp only [Nc, Bool.not_true, Bool.false_or] at this
   exact Option.isSome_iff_exists.mp this
def FvO (N XN : List Str) (cl : List (Str × Addr)) (n1 n2 : List (Str × NameKind)) (nl : Nat) : Nat → List Nat → Prop
 | _, [] => True
 | j, k :: l => (∃ x c, N[nl + j]? = some x ∧ XN[k]? = some x ∧ cl.lookup x = some c ∧ (n1.lookup x = some .cell ∨ n1.lookup x = some .free) ∧ (n2.lookup x = some .cell ∨ n2.lookup x = some .free)) ∧ FvO N XN cl n1 n2 nl (j + 1) l
theorem Rh : ∀ {l : List Nat} {a : Nat}, FvO N XN cl n1 n2 nl a l → ∀ j k, l[j]? = some k → ∃ x c, N[nl + (a + j)]? = some x ∧ XN[k]? = some x ∧ cl.lookup x = some c ∧ (n1.lookup x = some .cell ∨ n1.lookup x = some .free) ∧ (n2.lookup x = some .cell ∨ n2.lookup x = some .free)
 | [], a, _, j, k, h => by simp at h
 | k0 :: l, a, ⟨h1, h2⟩, 0, k, h => by
  simp only [List.getElem?_cons_zero, Option.some.injEq] at h
  subst h; exact h1
 | k0 :: l, a, ⟨h1, h2⟩, j + 1, k, h => by
  simp only [List.getElem?_cons_succ] at h
  obtain ⟨x, c, q⟩ := Rh h2 j k h
  refine ⟨x, c, ?_⟩
  rwa [show nl + (a + (j + 1)) = nl + (a + 1 + j) by omega]
theorem Hx (h : FvO N X.N cl X.env.scope.names (relabel scope X.env).names nl 0 fv) :
 ∀ j k, fv[j]? = some k → ∃ x c, N[nl + j]? = some x ∧ X.N[k]? = some x ∧ cl.lookup x = some c ∧ (X.env.scope.names.lookup x = some .cell ∨ X.env.scope.names.lookup x = some .free) ∧ ((relabel scope X.env).names.lookup x = some .cell ∨ (relabel scope X.env).names.lookup x = some .free) := fun j k hj => by
 have := Rh h j k hj
 rwa [Nat.zero_add] at this
variable {g : G} {X : Cx} {pos apos cpos p2 : Pos} {F : Nat} {a b c : Expr} {a' b' c' : E}
end DD
namespace DD
open PySem PySem.Spec L2
open PyProof.Rows hiding St RelV
open PySem.W (kdl_call kdl_values kdl_vals_eq kdl_dict)
variable {g : G} {X : Cx} {pos apos cpos p2 : Pos} {F : Nat} {a b c : Expr} {a' b' c' : E}
end DD
namespace DD
open PySem PySem.Spec
section
variable {pr : Program} {w : World} {A : Around} {Kt : Type} [DecidableEq Kt] {kn : KeyKind pr w Kt}
variable {R : Result → Shared → Prop} {I : Addr} {fp wr : List Addr} {G : Array GenState → Array GenState → Prop} {n : Nat} {P : Nat → Value → Prop} {St : Nat → Shared → Prop}
end
section
variable {pr : Program} {w : World} {A : Around} {Er : Value → Shared → Prop} {s : Shared} {Kt : Type} [DecidableEq Kt] {kn : KeyKind pr w Kt}
end
end DD
namespace DD
open PySem PySem.Spec L2
open PyProof.Rows hiding St RelV
variable {g : G} {X : Cx} {pos apos cpos p2 : Pos} {F : Nat} {a b c : Expr} {a' b' c' : E}
section
variable {pr : Program} {w : World} {A : Around} {Er : Value → Shared → Prop}
end
variable {g : G} {X : Cx} {pos apos cpos p2 : Pos} {F : Nat} {a b c : Expr} {a' b' c' : E}
theorem zm (hg : Gl X x) (hm : X.mg x = some u) (r : RelV v u) (hr : ∀ rho H, g.Rep rho H d v) (hd : (x == ("__debug__" : Str)) = false := by decide) : Sd g X (.Name x pos) (.cst d) :=
 Bj (Vs hg hm r hd) fun sg H Q q => by
  obtain ⟨rho, st, env, s, n, q⟩ := q
  simp only [aa] at q
  exact (show Aq g rho H Q d st from q) _ H rho (.refl _ _) s (hr rho H)
variable {g : G} {X : Cx} {pos : Pos} {F : Nat}
theorem Inv.loose (I : L2.Inv X pins sg H s) (f : Co X pins H C) (sb : Heap.SameBut C s.heap h') : L2.Inv X pins sg H { s with heap := h' } := by
 have nb : ∀ b : Addr, b ∉ [C] → b ≠ C := fun b z e => z (by rw [e]; simp)
 refine I.call' (s' := { s with heap := h' }) (ch := [C]) rfl ⟨fun b o e n hb hx => (sb.2 b (nb b hx)).trans e, fun b o e n hb hx => ⟨o.slots, (sb.2 b (nb b hx)).trans e⟩, fun b o e n hx => n, fun b o e hx => ⟨o, (sb.2 b (nb b hx)).trans e⟩, fun _ _ z => z, fun _ _ _ z => z, fun b ps z => ⟨#[], by simpa using z⟩⟩ (fun b o e => ?_) I.bare fun b hb => ?_
 · refine (I.hok b o e).stay (fun c u hc' g' => (sb.2 c ?_).trans g') (fun _ h => h) fun _ _ h => h
   intro z
   rcases hc' with rfl | hc'
   · rw [z, f.1] at e; cases e
   · rw [z, f.1] at hc'; cases hc'
 · simp only [List.mem_singleton] at hb
   subst hb
   exact ⟨f.2.2.2.1, f.2.1, f.2.2.2.2.1, f.2.2.2.2.2⟩
theorem Zm {pos' spos : Pos} (hK : X.K = g.K) (hc : X.calm = true) (hkind : scope.kind = .function) (hcell : ∀ y ∈ scope.names, y.2 ≠ .cell)
 (hnames : ∀ y ∈ scope.names, y.2 = .local → scope.names.lookup y.1 = some .local) (hclos : closureFor scope X.env = pure cl) (C : Clos X scope cl) (hN : N.length = nl + fv.length)
 (hfv : ∀ j k, fv[j]? = some k → ∃ x c, N[nl + j]? = some x ∧ X.N[k]? = some x ∧ cl.lookup x = some c ∧ (X.env.scope.names.lookup x = some .cell ∨ X.env.scope.names.lookup x = some .free) ∧ ((relabel scope X.env).names.lookup x = some .cell ∨ (relabel scope X.env).names.lookup x = some .free))
 (htg : ∀ i ∈ tgs, i < nl) (hi : SdI g X target iter k it') (hg : ∀ L s0 H0 fp pn, PG (cxG X N scope cl L s0 H0 fp pn) target (tg g.K tgs one))
 (ht : ∀ L s0 H0 fp pn, PTs (cxG X N scope cl L s0 H0 fp pn) ifs (Hu (g.with fun _ _ _ => False) ifs')) (he : ∀ L s0 H0 fp pn, Sd (g.with fun _ _ _ => False) (cxG X N scope cl L s0 H0 fp pn) elt elt')
 (hs : ∀ x, foldedSetIterable iter X.env x = pure x := by intro _; rfl)
 (hNd : X.N.Nodup) (hix : X.N[i]? = some x) (hx : X.env.scope.names.lookup x = some .local) (hsw : swapsWith (.ListComp elt [⟨target, iter, ifs, 0⟩] scope pos) (some (.Name x pos')) spos.line X.env = pure true := by rfl) :
 SdS g X F (.Assign [.Name x pos'] (.ListComp elt [⟨target, iter, ifs, 0⟩] scope pos) spos) (.set i (.comp k one nl tgs fv it' ifs' elt')) := by
 intro pins s sg H D I q
 have q : tE g (.comp k one nl tgs fv it' ifs' elt') sg H (fun v H1 => D.nx (sg.set i (some v)) H1) := by
  obtain ⟨rho, st, env, s, n, q⟩ := q
  refine ⟨rho, st, env, s, n, ?_⟩
  simp only [An] at q
  revert q
  cases aa g.tab g.call (.comp k one nl tgs fv it' ifs' elt') env st with
  | bad => exact fun q => q
  | exc c st1 => exact fun q => q
  | ok d st1 =>
   simp only [Bf]
   intro q v H1 rho1 k1 s1 rp
   split at q
   · exact (show ar g rho H D (.next _) st1 from q) _ H1 rho1 k1 s1 ((n.mono k1).set i rp)
   · exact q.elim
 rw [exec_Assign_Name_used _ _ _ _ hsw]
 refine wpAny_bind (wpAny_standAt (wpAny_bind ?_))
 show wpAny _ _ (comprehension (.ListComp elt [⟨target, iter, ifs, 0⟩] scope pos) scope X.env (firstIterPos [⟨target, iter, ifs, 0⟩] pos) (newList []) (firstAsync [⟨target, iter, ifs, 0⟩]) (firstIter [⟨target, iter, ifs, 0⟩] X.env) (some (assign (.Name x pos') X.env)) >>= fun _ => pure ()) _ _ s
 refine wpAny_bind (wpAny_mono (Qx (use := some (assign (.Name x pos') X.env)) (Qv := fun _ s' => ∃ sg' H', L2.Inv X pins sg' H' s' ∧ D.nx sg' H') hK hc hkind hcell hnames hclos C hN hfv htg hi hg ht he hs I q fun ac Cc H' s4 hns fp hI hq => ?_) (fun _ s5 h5 => wpAny_pure (wpAny_pure h5)) fun _ _ z => z)
 obtain ⟨m, hm⟩ := hns
 have I4 := hI s4.heap (Heap.SameBut.refl ..)
 show wpAny _ _ (assign (.Name x pos') X.env (.ref ac)) _ _ s4
 refine wpAny_assign_Name (Pf (v := .ref ac) I4 hNd hix (.inl hx) rfl (fun s5 I5 hsb => ?_) (.inr hx))
 obtain ⟨a, sb, ha⟩ := hsb
 have na : Cc ≠ a := by
  rcases ha with z | z
  · rw [z]; exact fp.2.1
  · exact fun e => fp.2.2.2.2.1 x a z e.symm
 refine ⟨m, ?_, fun h' sb' => ⟨_, H', Inv.loose I5 fp sb', hq⟩⟩
 exact hm.at' fun o e => (sb.2 Cc na).trans e
end DD
namespace DD
open PySem PySem.Spec L2
open PyProof.Rows hiding St
theorem Zn (H : Hp) (s : Shared) (e : Value) (s' : Shared) (h : CXd P w [] H s (fun _ _ _ => False) e s') : False := h
theorem sv {g : G} {pos : Pos} (h : X.env.scope.names.lookup x = some NameKind.local) (hN : X.N[i]? = some x := by rfl) (hd : (x == ("__debug__" : Str)) = false := by decide) (hcd : (x == ("__classdict__" : Str)) = false := by decide) : Sd g X (.Name x pos) (.var i) := Cs i (pv i hN (Or.inl h) hd hcd)
theorem Aw {g : G} : ∀ rho H, g.RepL rho H [] [] := fun _ _ => by simp [DD.RepL]
variable {g : G} {X : Cx} {pos : Pos}
def TupAt (K : PySem.W.Frag) (mg : Str → Option Value) (x : Str) (vs : List V) : Prop := ∃ (a : Addr) (o : Obj) (its : Array Value) (n : Nat), mg x = some (.ref a) ∧ K.lookup a = some o ∧ o.cls = .type "tuple" ∧ o.data = .seq its n ∧ its.size ≤ sizeLine ∧ Vals vs its.toList
theorem Hy (hK : X.K = g.K) (hg : Gl X x) (h : TupAt X.K X.mg x vs) (hr : ∀ rho H, g.RepL rho H ds vs) (hd : (x == ("__debug__" : Str)) = false := by decide) : Sd g X (.Name x pos) (.cst (.tup ds)) := by
 obtain ⟨a, o, its, n, h1, h2, h3, h4, h5, h6⟩ := h
 refine zm (v := .ref a) hg h1 rfl (fun rho H => Cj.mpr ⟨a, vs, rfl, .inr ⟨o, its, n, ?_, h3, h4, h5, h6⟩, hr rho H⟩) hd
 rw [← hK]; exact h2
end DD
namespace DD
open PySem L2
section
variable {t : Nat → Ty → Option Bool} {call : Or} {F : Nat} {env : DD.Env} {st : Sto}
theorem zo : ao t call F .nil env st = .ok (.next env) st := by simp only [ao]
theorem Zo : ao t call F (.cons s r) env st = (An t call F s env st).bind fun f st => match f with
      | .next env' => ao t call F r env' st
      | f => .ok f st := by simp only [ao] <;> rfl
theorem zp : An t call F (.set i e) env st = (aa t call e env st).bind fun d st => if i < env.length then .ok (.next (env.set i (some d))) st else .bad := by simp only [An]
theorem Zp : An t call F (.unp is e) env st = (aa t call e env st).bind fun d st => match store is false d env with | some env' => .ok (.next env') st | none => .bad := by simp only [An] <;> rfl
theorem zq : An t call F (.par i j a b) env st = (aa t call a env st).bind fun x st => (aa t call b env st).bind fun y st => if i < env.length ∧ j < env.length then .ok (.next ((env.set i (some x)).set j (some y))) st else .bad := by simp only [An]
theorem Zq : An t call F (.ifS c a b) env st = (Ap t call c env st).bind fun x st => if x then ao t call F a env st else ao t call F b env st := by simp only [An]
theorem zr : An t call F (.ret e) env st = (aa t call e env st).bind fun d st => .ok (.ret d) st := by simp only [An]
theorem Zr : An t call F (.ex e) env st = (aa t call e env st).bind fun d st => .ok (.next env) st := by simp only [An]
theorem Zs : An t call F (.whileS c b) env st = whileLoop (Ap t call c) (ao t call F b) F env st := by simp only [An]
end
section
variable {t : Nat → Ty → Option Bool} {call : Or} {F : Nat} {env : DD.Env} {st : Sto}
def turn (t : Nat → Ty → Option Bool) (call : Or) (F : Nat) (tg : List Nat) (one : Bool) (b : Ss) (d : D) (env : DD.Env) (st : Sto) : Res Fl := match store tg one d env with | some env' => ao t call F b env' st | none => .bad
theorem zt {tg : List Nat} {one : Bool} {b : Ss} {d : D} {env' : DD.Env} (h : store tg one d env = some env') : turn t call F tg one b d env st = ao t call F b env' st := by unfold turn; rw [h]
theorem Zt {tg : List Nat} {one k : Bool} {it : E} {b : Ss} : An t call F (.forS tg one k it b) env st = (aa t call it env st).bind fun d st => match fj k st d with
      | some (xs, p) => forLoop xs p (turn t call F tg one b) xs env st
      | none => .bad := by simp only [An] <;> rfl
theorem zu {tg : List Nat} {es : Es} {b : Ss} : An t call F (.forR tg es b) env st = (au t call es env st).bind fun ds st => match fk ds with
      | some xs => forLoop xs none (turn t call F tg true b) xs env st
      | none => .bad := by simp only [An] <;> rfl
end
theorem Ri {all : List D} {p : Option Nat} {body : D → DD.Env → Sto → Res Fl} {J : Nat → DD.Env → Sto → Prop} (hs : ∀ i env st, J i env st → stays st p all = true) :
 ∀ (xs : List D) (i : Nat) (env : DD.Env) (st : Sto), J i env st → (∀ (j : Nat) (d : D), xs[j]? = some d → ∀ env st, J (i + j) env st → ∃ env' st', body d env st = .ok (.next env') st' ∧ J (i + j + 1) env' st') →
 ∃ env' st', forLoop all p body xs env st = .ok (.next env') st' ∧ J (i + xs.length) env' st'
 | [], i, env, st, h, _ => ⟨env, st, by simp only [forLoop]; rw [if_pos (hs _ _ _ h)], h⟩
 | d :: r, i, env, st, h, ht => by
  obtain ⟨e1, s1, h1, h2⟩ := ht 0 d rfl env st h
  obtain ⟨e2, s2, h3, h4⟩ := Ri hs r (i + 1) e1 s1 h2 fun j x hx env st hj => by
   have := ht (j + 1) x (by simpa using hx) env st (by rwa [show i + (j + 1) = i + 1 + j by omega])
   rwa [show i + (j + 1) + 1 = i + 1 + j + 1 by omega] at this
  refine ⟨e2, s2, ?_, by rwa [show i + (d :: r).length = i + 1 + r.length by simp; omega]⟩
  simp only [forLoop]
  rw [if_pos (hs _ _ _ h), h1, Bf]
  exact h3
theorem Kh {st : Sto} {n0 : Nat} {c : Cell} (h : st[n0]? = some c) (d : Cell) : (st.set n0 d)[n0]? = some d := by
 have : n0 < st.length := (List.getElem?_eq_some_iff.mp h).1
 simp [this]
def jf (t : Nat → Ty → Option Bool) (call : Or) (tg : List Nat) (one : Bool) (env : DD.Env) (ifs : Es) (elt : E) (d : D) (st : Sto) : Res (Option D) := match store tg one d env with
 | some env' => (br t call ifs env' st).bind fun b st => if b then (aa t call elt env' st).bind fun y st => .ok (some y) st else .ok none st
 | none => .bad
theorem rj {t : Nat → Ty → Option Bool} {call : Or} {env : DD.Env} {st st1 : Sto} {k nl : Nat} {one : Bool} {tg fv : List Nat} {it elt : E} {ifs : Es} {d : D} {xs : List D} {p : Option Nat} (h : aa t call it env st = .ok d st1) (hi : Cq k st1 d = some (xs, p)) :
 aa t call (.comp k one nl tg fv it ifs elt) env st = (compLoop xs p st1.length (jf t call tg one (Bx nl fv env) ifs elt) xs (st1 ++ [.lst []])).bind fun _ st' => .ok (.loc st1.length) st' := by
 rw [aa, h]
 simp only [Bf, hi]
 rfl
theorem ng {all : List D} {p : Option Nat} {n0 : Nat} {body : D → Sto → Res (Option D)} {f : D → Option D} {J : Sto → Prop} (hs : ∀ st, J st → stays st p all = true) (hset : ∀ st ys, J st → J (st.set n0 (.lst ys))) :
 ∀ (xs ys : List D) (st : Sto), J st → st[n0]? = some (.lst ys) → ys.length + xs.length ≤ sizeLine →
 (∀ d ∈ xs, ∀ st ys, J st → st[n0]? = some (.lst ys) → ∃ st', body d st = .ok (f d) st' ∧ J st' ∧ st'[n0]? = some (.lst ys)) →
 ∃ st', compLoop all p n0 body xs st = .ok () st' ∧ J st' ∧ st'[n0]? = some (.lst (ys ++ xs.filterMap f))
 | [], ys, st, h, hy, _, _ => ⟨st, by simp only [compLoop]; rw [if_pos (hs _ h)], h, by simpa using hy⟩
 | d :: r, ys, st, h, hy, hl, hb => by
  obtain ⟨s1, e1, j1, y1⟩ := hb d List.mem_cons_self st ys h hy
  simp only [compLoop]
  rw [if_pos (hs _ h), e1]
  have hl2 : ys.length < sizeLine := by simp at hl; omega
  cases hf : f d with
  | none =>
   obtain ⟨s2, e2, j2, y2⟩ := ng hs hset r ys s1 j1 y1 (by simp at hl ⊢; omega) fun x hx => hb x (List.mem_cons_of_mem _ hx)
   exact ⟨s2, e2, j2, by rw [List.filterMap_cons, hf]; exact y2⟩
  | some y =>
   obtain ⟨s2, e2, j2, y2⟩ := ng hs hset r (ys ++ [y]) (s1.set n0 (.lst (ys ++ [y]))) (hset _ _ j1) (Kh y1 _) (by simp at hl ⊢; omega) fun x hx => hb x (List.mem_cons_of_mem _ hx)
   refine ⟨s2, ?_, j2, by rw [List.filterMap_cons, hf]; simpa using y2⟩
   simp only [y1, hl2, if_true]
   exact e2
def Fr (st st' : Sto) : Prop := ∀ j, j < st.length → st'[j]? = st[j]?
theorem Fr.refl (st : Sto) : Fr st st := fun _ _ => rfl
theorem Fr.app (m : Sto) : Fr st (st ++ m) := fun j h => List.getElem?_append_left h
theorem Fr.at {st st' : Sto} (h : Fr st st') {j : Nat} {c : Cell} (e : st[j]? = some c) : st'[j]? = some c := by rw [h j (List.getElem?_eq_some_iff.mp e).1]; exact e
theorem Fr.len (h : Fr st st') : st.length ≤ st'.length := by
 cases Nat.lt_or_ge st'.length st.length with
 | inr g => exact g
 | inl g =>
  have h1 := h st'.length g
  rw [List.getElem?_eq_none (Nat.le_refl _), List.getElem?_eq_getElem g] at h1
  cases h1
theorem Fr.trans {a b c : Sto} (h : Fr a b) (k : Fr b c) : Fr a c := fun j hj => (k j (Nat.lt_of_lt_of_le hj h.len)).trans (h j hj)
theorem Fr.set {a b : Sto} (h : Fr a b) {n : Nat} (hn : a.length ≤ n) (c : Cell) : Fr a (b.set n c) := fun j hj => by
 rw [List.getElem?_set_ne (by omega)]; exact h j hj
theorem Fr.lst {st st' : Sto} (h : Fr st st') {n : Nat} {xs : List D} (e : aq st n = some xs) : aq st' n = some xs := by
 unfold aq at e ⊢
 cases z : st[n]? with
 | none => rw [z] at e; cases e
 | some c => rw [h.at z]; rw [z] at e; exact e
section
variable {st : Sto}
theorem Zu : opD .add (.int i) (.int j) st = .ok (.int (i + j)) st := by simp only [opD]
theorem zv : opD .sub (.int i) (.int j) st = .ok (.int (i - j)) st := by simp only [opD]
theorem Ng (h : Ep i j) : opD .mul (.int i) (.int j) st = .ok (.int (i * j)) st := by simp only [opD]; rw [if_pos h]
theorem Zv (h : Dp j) : opD .fdiv (.int i) (.int j) st = .ok (.int (i.fdiv j)) st := by simp only [opD]; rw [if_pos h]
theorem zw (h : j ≠ 0) : opD .mod (.int i) (.int j) st = .ok (.int (i.fmod j)) st := by simp only [opD]; rw [if_pos h]
theorem Zw (h : Iz i j) : opD .pow (.int i) (.int j) st = .ok (.int (i ^ j.toNat)) st := by simp only [opD]; rw [if_pos h]
theorem zx (hn : st[n]? = some (.lst xs)) (hm : st[m]? = some (.lst ys)) (h : xs.length + ys.length ≤ sizeLine) : opD .add (.loc n) (.loc m) st = .ok (.loc st.length) (st ++ [.lst (xs ++ ys)]) := by
 simp only [opD, hn, hm]; rw [if_pos h]
theorem Zx : cmD .eq (.int i) (.int j) st = .ok (.bl (decide (i = j))) st := by simp [cmD, eqV, Ao, PyData.eqv] <;> rfl
theorem zy : cmD .ne (.int i) (.int j) st = .ok (.bl (!decide (i = j))) st := by simp [cmD, eqV, Ao, PyData.eqv] <;> rfl
theorem Zy : cmD .lt (.int i) (.int j) st = .ok (.bl (decide (i < j))) st := by simp only [cmD]
theorem Zz : cmD .le (.int i) (.int j) st = .ok (.bl (decide (i ≤ j))) st := by simp only [cmD]
theorem aaa : cmD .ge (.int i) (.int j) st = .ok (.bl (decide (j ≤ i))) st := by simp only [cmD]
theorem aab : btD .absB [.int i] st = .ok (.int (if i < 0 then -i else i)) st := by simp only [btD]
theorem aac : btD .lenB [.tup xs] st = .ok (.int xs.length) st := by simp only [btD]
theorem aad (h : aq st n = some xs) : btD .lenB [.loc n] st = .ok (.int xs.length) st := by simp only [btD, h]
theorem aae (e : L2.atI xs i = some d) : ixD (.tup xs) (.int i) st = .ok d st := by simp only [ixD, ixS, Eo, atD, e]
theorem ki (h : aq st n = some xs) : az st n = none ∧ gm st n = none := by
 unfold aq at h; unfold az gm
 cases z : st[n]? with
 | none => exact ⟨rfl, rfl⟩
 | some c => rw [z] at h; cases c <;> first | exact ⟨rfl, rfl⟩ | cases h
theorem aaf (h : aq st n = some xs) (e : L2.atI xs i = some d) : ixD (.loc n) (.int i) st = .ok d st := by
 simp only [ixD, (ki h).1, (ki h).2, ixS, Eo, h, atD, e]
end
section
variable {t : Nat → Ty → Option Bool} {call : Or} {env : DD.Env} {st : Sto}
theorem aag : aa t call (.var i) env st = match Dd env i with | some d => .ok d st | none => .bad := by simp only [aa] <;> rfl
theorem aah (h : Dd env i = some d) : aa t call (.var i) env st = .ok d st := by rw [aag, h]
theorem aai : aa t call (.cst d) env st = .ok d st := by simp only [aa]
end
theorem gg0 {st m : Sto} : (st ++ m)[st.length]? = m[0]? := by
 rw [List.getElem?_append_right (by omega)]; congr 1; omega
theorem Dr : ∀ {n m : Nat} {d : D}, okN n d = true → n ≤ m → Ao st m d = some (pyN n d)
 | n, m, .int i, _, _ => by cases m <;> cases n <;> simp [Ao, pyN]
 | n, m, .str x, h, _ => by
  have h2 : PyData.canLay0 (.str x) = true := by cases n <;> simpa [okN] using h
  cases m <;> cases n <;> simp [Ao, pyN, h2]
 | 0, m, .tup ds, h, _ => by simp [okN] at h
 | n + 1, 0, .tup ds, _, h => by omega
 | n + 1, m + 1, .tup ds, h, hm => by
  have all : ∀ ds : List D, ds.all (okN n) = true → Ca (ds.map (Ao st m)) = some (ds.map (pyN n)) := by
   intro ds
   induction ds with
   | nil => intro _ <;> rfl
   | cons d r ih =>
    intro h
    simp only [List.all_cons, Bool.and_eq_true] at h
    simp only [List.map_cons, Dr h.1 (by omega : n ≤ m), Ca, ih h.2, Option.map_some]
  have h : ds.all (okN n) = true := by simpa [okN] using h
  simp only [Ao, all ds h, Option.map_some, pyN]
 | n, m, .non, h, _ => by cases n <;> simp [okN] at h
 | n, m, .bl b, h, _ => by cases n <;> simp [okN] at h
 | n, m, .loc b, h, _ => by cases n <;> simp [okN] at h
theorem Jf : ∀ {n : Nat} {x y : D}, okN n x = true → okN n y = true → PyData.eqv (pyN n x) (pyN n y) = decide (x = y) := by
 intro n
 induction n with
 | zero =>
  intro x y h1 h2
  cases x <;> simp [okN] at h1 <;> cases y <;> simp [okN] at h2 <;> simp [pyN, PyData.eqv] <;> (first | rfl | exact Bool.beq_eq_decide_eq _ _)
 | succ n ih =>
  intro x y h1 h2
  cases x with
  | int i => cases y <;> simp [okN] at h2 <;> simp [pyN, PyData.eqv] <;> rfl
  | str i => cases y <;> simp [okN] at h2 <;> simp [pyN, PyData.eqv] <;> rfl
  | tup ds =>
   cases y with
   | int i => simp [pyN, PyData.eqv]
   | str i => simp [pyN, PyData.eqv]
   | tup es =>
    have all : ∀ ds es : List D, ds.all (okN n) = true → es.all (okN n) = true → PyData.eqvAll (ds.map (pyN n)) (es.map (pyN n)) = decide (ds = es) := by
     intro ds
     induction ds with
     | nil => intro es _ _; cases es <;> simp [PyData.eqvAll]
     | cons d r ih2 =>
      intro es h1 h2
      cases es with
      | nil => simp [PyData.eqvAll]
      | cons e t =>
       simp only [List.all_cons, Bool.and_eq_true] at h1 h2
       simp only [List.map_cons, PyData.eqvAll, ih h1.1 h2.1, ih2 t h1.2 h2.2, List.cons.injEq, Bool.decide_and]
    simp only [pyN, PyData.eqv, all ds es (by simpa [okN] using h1) (by simpa [okN] using h2)]
    simp
   | _ => simp [okN] at h2
  | _ => simp [okN] at h1
theorem Rj : ∀ ds es : List D, ds.all (okN n) = true → es.all (okN n) = true → PyData.eqvAll (ds.map (pyN n)) (es.map (pyN n)) = decide (ds = es)
 | [], es, _, _ => by cases es <;> simp [PyData.eqvAll]
 | d :: r, [], _, _ => by simp [PyData.eqvAll]
 | d :: r, e :: t, h1, h2 => by
  simp only [List.all_cons, Bool.and_eq_true] at h1 h2
  simp only [List.map_cons, PyData.eqvAll, Jf h1.1 h2.1, Rj r t h1.2 h2.2, List.cons.injEq, Bool.decide_and]
theorem Ki (hm : n ≤ m) : ∀ ds : List D, ds.all (okN n) = true → Ca (ds.map (Ao st m)) = some (ds.map (pyN n))
 | [], _ => rfl
 | d :: r, h => by
  simp only [List.all_cons, Bool.and_eq_true] at h
  simp only [List.map_cons, Dr h.1 hm, Ca, Ki hm r h.2, Option.map_some]
theorem nh (ha : okN n a = true) : ∀ xs : List D, xs.all (okN n) = true → ((xs.map (pyN n)).any fun y => PyData.eqv y (pyN n a)) = decide (a ∈ xs)
 | [], _ => by simp
 | d :: r, h => by
  simp only [List.all_cons, Bool.and_eq_true] at h
  simp only [List.map_cons, List.any_cons, Jf h.1 ha, nh ha r h.2, List.mem_cons, Bool.decide_or]
  congr 1
  simp only [eq_comm]
section
variable {st : Sto} {n : Nat} {a b : D} {xs ys : List D}
theorem aaj (ha : okN 40 a = true) (hb : okN 40 b = true) : cmD .eq a b st = .ok (.bl (decide (a = b))) st := by
 simp only [cmD, eqV, Dr ha (Nat.le_refl _), Dr hb (Nat.le_refl _), Jf ha hb]
theorem aak (ha : okN 40 a = true) (hx : xs.all (okN 40) = true) : cmD .inL a (.tup xs) st = .ok (.bl (decide (a ∈ xs))) st := by
 simp only [cmD, inD, inS, Dr ha (Nat.le_refl _), Dr (n := 41) (m := 41) (d := .tup xs) (by simpa [okN] using hx) (Nat.le_refl _), pyN, nh ha xs hx]
theorem aal (h : aq st l = some xs) (ha : okN 40 a = true) (hx : xs.all (okN 40) = true) : inD st a (.loc l) = some (decide (a ∈ xs)) := by
 simp only [inD, (ki h).1, (ki h).2, inS, Dr ha (Nat.le_refl _), Ao, h, Option.bind_some, Ki (Nat.le_refl 40) xs hx, Option.map_some, nh ha xs hx]
theorem aam (h : aq st l = some xs) (ha : okN 40 a = true) (hx : xs.all (okN 40) = true) : cmD .notIn a (.loc l) st = .ok (.bl (!decide (a ∈ xs))) st := by
 simp only [cmD, aal h ha hx]
theorem aan (h : aq st l = some xs) (k : aq st m = some ys) (hx : xs.all (okN 39) = true) (hy : ys.all (okN 39) = true) : eqV st (.loc l) (.loc m) = some (decide (xs = ys)) := by
 simp only [eqV, Ao, h, k, Option.bind_some, Ki (Nat.le_refl 39) xs hx, Ki (Nat.le_refl 39) ys hy, Option.map_some, PyData.eqv, Rj xs ys hx hy]
theorem aao (h : aq st l = some xs) (k : aq st m = some ys) (hx : xs.all (okN 39) = true) (hy : ys.all (okN 39) = true) : cmD .ne (.loc l) (.loc m) st = .ok (.bl (!decide (xs = ys))) st := by
 simp only [cmD, aan h k hx hy]
end
theorem Bp (h : st[n]? = some (.lst xs)) : aq st n = some xs := by simp only [aq, h]
theorem Gs : ∀ {n m : Nat} {d : D}, n ≤ m → okN n d = true → okN m d = true
 | _, _, .int _, _, _ => by simp [okN]
 | n, m, .str x, _, h => by cases n <;> cases m <;> simpa [okN] using h
 | 0, _, .tup _, _, h => by simp [okN] at h
 | n + 1, 0, .tup ds, hm, _ => by omega
 | n + 1, m + 1, .tup ds, hm, h => by
  simp only [okN, List.all_eq_true] at h ⊢
  exact fun x hx => Gs (by omega) (h x hx)
 | n, _, .non, _, h => by cases n <;> simp [okN] at h
 | n, _, .bl _, _, h => by cases n <;> simp [okN] at h
 | n, _, .loc _, _, h => by cases n <;> simp [okN] at h
theorem aap {st0 : Sto} {all xs : List D} {p : Option Nat} {body : D → Sto → Res (Option D)} {f : D → Option D} (hl : xs.length ≤ sizeLine) (hs : ∀ s, Fr st0 s → stays s p all = true)
 (hb : ∀ d ∈ xs, ∀ s, Fr st0 s → ∃ s', body d s = .ok (f d) s' ∧ Fr s s') :
 ∃ st', compLoop all p st0.length body xs (st0 ++ [.lst []]) = .ok () st' ∧ Fr st0 st' ∧ st'[st0.length]? = some (.lst (xs.filterMap f)) := by
 obtain ⟨s', e, J, y⟩ := ng (all := all) (p := p) (n0 := st0.length) (body := body) (f := f) (J := Fr st0) hs (fun s ys h => h.set (Nat.le_refl _) _) xs [] (st0 ++ [.lst []]) (.app _) (by simp) (by simpa using hl) (fun d hd s ys hJ hn => by
  obtain ⟨s', e, F⟩ := hb d hd s hJ
  exact ⟨s', e, hJ.trans F, F.at hn⟩)
 exact ⟨s', e, J, by simpa using y⟩
theorem Rk {α β : Type} (g : α → β) (xs : List α) : xs.filterMap (fun x => some (g x)) = xs.map g := by
 induction xs with
 | nil => rfl
 | cons x r ih => simp [List.filterMap_cons, ih]
theorem kj (h : aq st0 n = some xs) (F : Fr st0 s) : stays s (some n) xs = true := by simp only [stays, F.lst h, decide_true]
theorem Kj {xs : List D} {k : Nat} : cutD xs none (some (k : Int)) = xs.take k := by
 unfold cutD
 rw [HT.xn, HT.Me]
 simp only [List.drop_zero, Nat.sub_zero]
 rw [List.take_eq_take_iff]
 omega
def Wr {α : Type} (r : Res α) (Q : α → Sto → Prop) : Prop := ∃ a s, r = .ok a s ∧ Q a s
section
variable {α β : Type} {r : Res α} {Q P : α → Sto → Prop} {a : α} {s : Sto}
theorem bb (h : Q a s) : Wr (.ok a s) Q := ⟨a, s, rfl, h⟩
theorem Rl (e : r = .ok a s) (h : Q a s) : Wr r Q := ⟨a, s, e, h⟩
theorem Wr.imp (h : Wr r P) (g : ∀ a s, P a s → Q a s) : Wr r Q := by
 obtain ⟨a, s, e, p⟩ := h
 exact ⟨a, s, e, g a s p⟩
theorem Al (h : Wr r fun a s => Wr (f a s) R) : Wr (r.bind f) R := by
 obtain ⟨a, s, rfl, p⟩ := h
 exact p
theorem Cp (h : A) : ((true = true → A) ∧ (true = false → B)) := ⟨fun _ => h, fun h => by cases h⟩
theorem Az (h : B) : ((false = true → A) ∧ (false = false → B)) := ⟨(fun h => by cases h), fun _ => h⟩
end
section
variable {t : Nat → Ty → Option Bool} {call : Or} {F : Nat} {env : DD.Env} {st : Sto} {Q : D → Sto → Prop} {QL : List D → Sto → Prop} {QB : Bool → Sto → Prop} {QF : Fl → Sto → Prop}
theorem w_var (h : Dd env i = some d) (q : Q d st) : Wr (aa t call (.var i) env st) Q := ⟨d, st, aah h, q⟩
theorem Aa (q : Q d st) : Wr (aa t call (.cst d) env st) Q := ⟨d, st, aai, q⟩
theorem Af (q : QL [] st) : Wr (au t call .nil env st) QL := ⟨[], st, by rw [au], q⟩
theorem Ab (h : Wr (aa t call e env st) fun d s => Wr (au t call es env s) fun ds s => QL (d :: ds) s) : Wr (au t call (.cons e es) env st) QL := by
 rw [au]
 exact Al (h.imp fun d s h => Al (h.imp fun ds s h => bb h))
theorem Hz (q : QL [] st) : Wr (dq t call .nil env st) QL := ⟨[], st, by rw [dq], q⟩
theorem gu (h : Wr (aa t call e env st) fun d s => ∃ i, d = .int i ∧ Wr (dq t call es env s) fun ds s => QL (.int i :: ds) s) : Wr (dq t call (.cons e es) env st) QL := by
 rw [dq]
 refine Al (h.imp fun d s h => ?_)
 obtain ⟨i, rfl, h⟩ := h
 exact Al (h.imp fun ds s h => bb h)
theorem bg (h : Wr (au t call es env st) fun ds s => ds.length ≤ sizeLine ∧ Q (.tup ds) s) : Wr (aa t call (.tupE es) env st) Q := by
 rw [aa]
 refine Al (h.imp fun ds s h => ?_)
 rw [if_pos h.1]; exact bb h.2
theorem cy (h : Wr (au t call es env st) fun ds s => ds.length ≤ sizeLine ∧ Q (.loc s.length) (s ++ [.lst ds])) : Wr (aa t call (.lstE es) env st) Q := by
 rw [aa]
 refine Al (h.imp fun ds s h => ?_)
 rw [if_pos h.1]; exact bb h.2
theorem aj (h : Wr (aa t call a env st) fun x s => Wr (aa t call b env s) fun y s => Wr (opD o x y s) Q) : Wr (aa t call (.op o a b) env st) Q := by
 rw [aa]
 exact Al (h.imp fun _ _ h => Al h)
theorem aaq (h : Wr (aa t call a env st) fun x s => ∃ i, x = .int i ∧ Q (.int (-i)) s) : Wr (aa t call (.neg a) env st) Q := by
 rw [aa]
 refine Al (h.imp fun _ _ h => ?_)
 obtain ⟨i, rfl, h⟩ := h
 exact bb h
theorem rm (h : Wr (aa t call a env st) fun x s => Wr (aa t call b env s) fun y s => Wr (cmD o x y s) Q) : Wr (aa t call (.cm o a b) env st) Q := by
 rw [aa]
 exact Al (h.imp fun _ _ h => Al h)
theorem w_and (h : Wr (aa t call a env st) fun x s => ∃ c, x = .bl c ∧ (c = true → Wr (aa t call b env s) Q) ∧ (c = false → Q (.bl false) s)) : Wr (aa t call (.andE a b) env st) Q := by
 rw [aa]
 refine Al (h.imp fun _ _ h => ?_)
 obtain ⟨c, rfl, h1, h2⟩ := h
 cases c with
 | true => exact h1 rfl
 | false => exact bb (h2 rfl)
theorem w_or (h : Wr (aa t call a env st) fun x s => ∃ c, x = .bl c ∧ (c = true → Q (.bl true) s) ∧ (c = false → Wr (aa t call b env s) Q)) : Wr (aa t call (.orE a b) env st) Q := by
 rw [aa]
 refine Al (h.imp fun _ _ h => ?_)
 obtain ⟨c, rfl, h1, h2⟩ := h
 cases c with
 | true => exact bb (h1 rfl)
 | false => exact h2 rfl
theorem w_not (h : Wr (aa t call a env st) fun x s => ∃ c, x = .bl c ∧ Q (.bl (!c)) s) : Wr (aa t call (.notE a) env st) Q := by
 rw [aa]
 refine Al (h.imp fun _ _ h => ?_)
 obtain ⟨c, rfl, h1⟩ := h
 exact bb h1
theorem ay (h : Wr (au t call es env st) fun ds s => Wr (call f (ds ++ dv) s) Q) : Wr (aa t call (.call f es dv) env st) Q := by
 rw [aa]; exact Al h
theorem dk (h : Wr (au t call es env st) fun ds s => Wr (btD f ds s) Q) : Wr (aa t call (.bt f es) env st) Q := by
 rw [aa]; exact Al h
theorem ah (h : Wr (aa t call a env st) fun x s => Wr (aa t call b env s) fun y s => Wr (ixD x y s) Q) : Wr (aa t call (.ix a b) env st) Q := by
 rw [aa]
 exact Al (h.imp fun _ _ h => Al h)
theorem Rm (h : Wr (aa t call a env st) fun x s => ∃ u c, dw s x = some u ∧ eu t u ty = some c ∧ Q (.bl c) s) : Wr (aa t call (.isi a ty) env st) Q := by
 rw [aa]
 refine Al (h.imp fun x s h => ?_)
 obtain ⟨u, c, h1, h2, h3⟩ := h
 rw [h1, Option.bind_some, h2]; exact bb h3
theorem Fb (h : Q (.loc st.length) (st ++ [.dcn []])) : Wr (aa t call .dnewN env st) Q := by rw [aa]; exact bb h
theorem ia (h : Wr (aa t call a env st) fun x s => Wr (dq t call es env s) fun ds s => Wr (slD k x ds s) Q) : Wr (aa t call (.sl k a es) env st) Q := by
 rw [aa]
 exact Al (h.imp fun _ _ h => Al h)
theorem dg (h : Wr (aa t call o env st) fun x s => rdy m s x = true ∧ Wr (au t call es env s) fun ds s => Wr (mtD m x ds s) Q) : Wr (aa t call (.mt m o es) env st) Q := by
 rw [aa]
 refine Al (h.imp fun x s h => ?_)
 rw [if_pos h.1]; exact Al h.2
theorem Gu (h : Wr (Ap t call a env st) fun x s => (x = true → Wr (Ap t call b env s) QB) ∧ (x = false → QB false s)) : Wr (Ap t call (.andE a b) env st) QB := by
 rw [Ap]
 refine Al (h.imp fun x _ h => ?_)
 cases x with
 | true => exact h.1 rfl
 | false => exact bb (h.2 rfl)
theorem jg (h : Wr (Ap t call a env st) fun x s => (x = true → QB true s) ∧ (x = false → Wr (Ap t call b env s) QB)) : Wr (Ap t call (.orE a b) env st) QB := by
 rw [Ap]
 refine Al (h.imp fun x _ h => ?_)
 cases x with
 | true => exact bb (h.1 rfl)
 | false => exact h.2 rfl
theorem Gv (h : Wr (Ap t call a env st) fun x s => QB (!x) s) : Wr (Ap t call (.notE a) env st) QB := by
 rw [Ap]
 exact Al (h.imp fun x _ h => bb h)
theorem aar (h : Dd env i = some d) (hb : truth st d = some b) (q : QB b st) : Wr (Ap t call (.var i) env st) QB := by
 rw [Ap, h]; simp only [hb]; exact bb q
theorem Bk (h : Wr (aa t call a env st) fun x s => Wr (aa t call b env s) fun y s => Wr (cmD o x y s) fun d s => ∃ c, d = .bl c ∧ QB c s) : Wr (Ap t call (.cm o a b) env st) QB := by
 rw [Ap]
 refine Al (h.imp fun _ _ h => Al (h.imp fun _ _ h => Al (h.imp fun d s h => ?_)))
 obtain ⟨c, rfl, h⟩ := h
 exact bb h
theorem Rn (h : Wr (au t call es env st) fun ds s => Wr (call f (ds ++ dv) s) fun d s => ∃ c, truth s d = some c ∧ QB c s) : Wr (Ap t call (.call f es dv) env st) QB := by
 rw [Ap]
 refine Al (h.imp fun _ _ h => Al (h.imp fun d s h => ?_))
 obtain ⟨c, h1, h⟩ := h
 simp only [h1]
 exact bb h
theorem Ia (h : Wr (aa t call a env st) fun x s => ∃ u c, dw s x = some u ∧ eu t u ty = some c ∧ QB c s) : Wr (Ap t call (.isi a ty) env st) QB := by
 rw [Ap]
 refine Al (h.imp fun x s h => ?_)
 obtain ⟨u, c, h1, h2, h3⟩ := h
 rw [h1, Option.bind_some, h2]; exact bb h3
theorem Jg (h : QB true st) : Wr (br t call .nil env st) QB := by rw [br]; exact bb h
theorem Ro (h : Wr (Ap t call c env st) fun x s => (x = true → Wr (br t call r env s) QB) ∧ (x = false → QB false s)) : Wr (br t call (.cons c r) env st) QB := by
 rw [br]
 refine Al (h.imp fun x s h => ?_)
 cases x with
 | true => exact h.1 rfl
 | false => exact bb (h.2 rfl)
def Kt (t : Nat → Ty → Option Bool) (call : Or) (F : Nat) (r : Ss) (Q : Fl → Sto → Prop) (f : Fl) (s : Sto) : Prop := match f with
 | .next env' => Wr (ao t call F r env' s) Q
 | f => Q f s
theorem ai (h : QF (.next env) st) : Wr (ao t call F .nil env st) QF := ⟨_, _, zo, h⟩
theorem Ac (h : Wr (An t call F c env st) (Kt t call F r QF)) : Wr (ao t call F (.cons c r) env st) QF := by
 rw [Zo]
 refine Al (h.imp fun f s h => ?_)
 cases f <;> first | exact h | exact bb h
theorem af (h : Wr (ao t call F r env st) QF) : Kt t call F r QF (.next env) st := h
theorem Ar (h : Wr (aa t call e env st) fun d s => i < env.length ∧ QF (.next (env.set i (some d))) s) : Wr (An t call F (.set i e) env st) QF := by
 rw [zp]
 refine Al (h.imp fun d s h => ?_)
 rw [if_pos h.1]; exact bb h.2
theorem Nh (h : Wr (aa t call e env st) fun d s => ∃ env', store is false d env = some env' ∧ QF (.next env') s) : Wr (An t call F (.unp is e) env st) QF := by
 rw [Zp]
 refine Al (h.imp fun d s h => ?_)
 obtain ⟨env', h1, h⟩ := h
 simp only [h1]; exact bb h
theorem ni (h : Wr (aa t call a env st) fun x s => Wr (aa t call b env s) fun y s => (i < env.length ∧ j < env.length) ∧ QF (.next ((env.set i (some x)).set j (some y))) s) : Wr (An t call F (.par i j a b) env st) QF := by
 rw [zq]
 refine Al (h.imp fun d s h => Al (h.imp fun d s h => ?_))
 rw [if_pos h.1]; exact bb h.2
theorem ak (h : Wr (Ap t call c env st) fun x s => (x = true → Wr (ao t call F a env s) QF) ∧ (x = false → Wr (ao t call F b env s) QF)) : Wr (An t call F (.ifS c a b) env st) QF := by
 rw [Zq]
 refine Al (h.imp fun x s h => ?_)
 cases x with
 | true => exact h.1 rfl
 | false => exact h.2 rfl
theorem Ay (h : Wr (aa t call e env st) fun d s => QF (.ret d) s) : Wr (An t call F (.ret e) env st) QF := by
 rw [zr]; exact Al (h.imp fun d s h => bb h)
theorem Fv (h : Wr (aa t call e env st) fun d s => QF (.next env) s) : Wr (An t call F (.ex e) env st) QF := by
 rw [Zr]; exact Al (h.imp fun d s h => bb h)
theorem jh {tg : List Nat} {one k : Bool} {it : E} {b : Ss} (h : Wr (aa t call it env st) fun d s => ∃ xs p, fj k s d = some (xs, p) ∧ Wr (forLoop xs p (turn t call F tg one b) xs env s) QF) : Wr (An t call F (.forS tg one k it b) env st) QF := by
 rw [Zt]
 refine Al (h.imp fun d s h => ?_)
 obtain ⟨xs, p, h1, h⟩ := h
 simp only [h1]; exact h
theorem Ni {tg : List Nat} {es : Es} {b : Ss} (h : Wr (au t call es env st) fun ds s => ∃ xs, fk ds = some xs ∧ Wr (forLoop xs none (turn t call F tg true b) xs env s) QF) : Wr (An t call F (.forR tg es b) env st) QF := by
 rw [zu]
 refine Al (h.imp fun d s h => ?_)
 obtain ⟨xs, h1, h⟩ := h
 simp only [h1]; exact h
theorem Dg {tg : List Nat} {one : Bool} {b : Ss} {d : D} {env' : DD.Env} (h : store tg one d env = some env') (w : Wr (ao t call F b env' st) QF) : Wr (turn t call F tg one b d env st) QF := by
 rw [zt h]; exact w
theorem fw (J : Nat → DD.Env → Sto → Prop) (hs : ∀ i env st, J i env st → stays st p xs = true) (h0 : J 0 env st)
 (ht : ∀ (j : Nat) (d : D), xs[j]? = some d → ∀ env st, J j env st → Wr (body d env st) fun f s => ∃ env', f = .next env' ∧ J (j + 1) env' s)
 (q : ∀ env s, J xs.length env s → QF (.next env) s) : Wr (forLoop xs p body xs env st) QF := by
 obtain ⟨env', s, e, j⟩ := Ri hs xs 0 env st h0 fun j d hd env st hj => by
  rw [Nat.zero_add] at hj
  obtain ⟨f, s, e, env', rfl, j⟩ := ht j d hd env st hj
  exact ⟨env', s, e, by rwa [Nat.zero_add]⟩
 rw [Nat.zero_add] at j
 exact ⟨_, _, e, q _ _ j⟩
theorem Kk {tg : List Nat} {one : Bool} {ifs : Es} {elt : E} {d : D} {env' : DD.Env} {QO : Option D → Sto → Prop} (h : store tg one d env = some env') (w : Wr (br t call ifs env' st) fun b s => (b = true → Wr (aa t call elt env' s) fun y s => QO (some y) s) ∧ (b = false → QO none s)) : Wr (jf t call tg one env ifs elt d st) QO := by
 unfold jf
 simp only [h]
 refine Al (w.imp fun b s h => ?_)
 cases b with
 | true => exact Al ((h.1 rfl).imp fun y s h => bb h)
 | false => exact bb (h.2 rfl)
theorem nj {k nl : Nat} {one : Bool} {tg fv : List Nat} {it elt : E} {ifs : Es}
 (h : Wr (aa t call it env st) fun d s => ∃ xs p, ∃ f : D → Option D, Cq k s d = some (xs, p) ∧ xs.length ≤ sizeLine ∧ (∀ s', Fr s s' → stays s' p xs = true) ∧
  (∀ d ∈ xs, ∀ s', Fr s s' → Wr (jf t call tg one (Bx nl fv env) ifs elt d s') fun r s2 => r = f d ∧ Fr s' s2) ∧
  ∀ s', Fr s s' → s'[s.length]? = some (.lst (xs.filterMap f)) → Q (.loc s.length) s') : Wr (aa t call (.comp k one nl tg fv it ifs elt) env st) Q := by
 obtain ⟨d, s, e, xs, p, f, hi, hl, hs, hb, q⟩ := h
 rw [rj e hi]
 obtain ⟨s', e2, F, y⟩ := aap (all := xs) (xs := xs) (p := p) (f := f) hl hs fun d hd s2 F => by
  obtain ⟨r, s3, e3, rfl, F3⟩ := hb d hd s2 F
  exact ⟨s3, e3, F3⟩
 rw [e2]
 exact bb (q s' F y)
theorem Nj {all : List D} {p : Option Nat} {n0 : Nat} {body : D → Sto → Res (Option D)} {J : Nat → List D → Sto → Prop} (hs : ∀ i ys st, J i ys st → stays st p all = true) :
 ∀ (xs : List D) (i : Nat) (ys : List D) (st : Sto), J i ys st → st[n0]? = some (.lst ys) → ys.length + xs.length ≤ sizeLine →
 (∀ (j : Nat) (d : D), xs[j]? = some d → ∀ st ys, J (i + j) ys st → st[n0]? = some (.lst ys) → Wr (body d st) fun r s => s[n0]? = some (.lst ys) ∧ ((∃ y, r = some y ∧ J (i + j + 1) (ys ++ [y]) (s.set n0 (.lst (ys ++ [y])))) ∨ (r = none ∧ J (i + j + 1) ys s))) →
 ∃ st' ys', compLoop all p n0 body xs st = .ok () st' ∧ J (i + xs.length) ys' st' ∧ st'[n0]? = some (.lst ys')
 | [], i, ys, st, h, hy, _, _ => ⟨st, ys, by simp only [compLoop]; rw [if_pos (hs _ _ _ h)], h, hy⟩
 | d :: r, i, ys, st, h, hy, hl, hb => by
  obtain ⟨a, s1, e1, y1, g⟩ := hb 0 d rfl st ys h hy
  have hb' : ∀ (j : Nat) (d : D), r[j]? = some d → ∀ st ys, J (i + 1 + j) ys st → st[n0]? = some (.lst ys) → Wr (body d st) fun r s => s[n0]? = some (.lst ys) ∧ ((∃ y, r = some y ∧ J (i + 1 + j + 1) (ys ++ [y]) (s.set n0 (.lst (ys ++ [y])))) ∨ (r = none ∧ J (i + 1 + j + 1) ys s)) := fun j x hx st ys hj hy => by
   have := hb (j + 1) x (by simpa using hx) st ys (by rwa [show i + (j + 1) = i + 1 + j by omega]) hy
   rwa [show i + (j + 1) + 1 = i + 1 + j + 1 by omega] at this
  have hl2 : ys.length < sizeLine := by simp at hl; omega
  simp only [compLoop]
  rw [if_pos (hs _ _ _ h), e1]
  rcases g with ⟨y, rfl, g⟩ | ⟨rfl, g⟩
  · obtain ⟨s2, ys2, e2, j2, y2⟩ := Nj hs r (i + 1) (ys ++ [y]) _ g (Kh y1 _) (by simp at hl ⊢; omega) hb'
    refine ⟨s2, ys2, ?_, by rwa [show i + (d :: r).length = i + 1 + r.length by simp; omega], y2⟩
    simp only [y1, hl2, if_true]
    exact e2
  · obtain ⟨s2, ys2, e2, j2, y2⟩ := Nj hs r (i + 1) ys s1 g y1 (by simp at hl ⊢; omega) hb'
    exact ⟨s2, ys2, e2, by rwa [show i + (d :: r).length = i + 1 + r.length by simp; omega], y2⟩
theorem aas {k nl : Nat} {one : Bool} {tg fv : List Nat} {it elt : E} {ifs : Es}
 (h : Wr (aa t call it env st) fun d s => ∃ xs p, ∃ J : Nat → List D → Sto → Prop, Cq k s d = some (xs, p) ∧ xs.length ≤ sizeLine ∧ (∀ i ys s', J i ys s' → stays s' p xs = true) ∧ J 0 [] (s ++ [.lst []]) ∧
  (∀ (j : Nat) (d : D), xs[j]? = some d → ∀ s1 ys, J j ys s1 → s1[s.length]? = some (.lst ys) → Wr (jf t call tg one (Bx nl fv env) ifs elt d s1) fun r s2 => s2[s.length]? = some (.lst ys) ∧ ((∃ y, r = some y ∧ J (j + 1) (ys ++ [y]) (s2.set s.length (.lst (ys ++ [y])))) ∨ (r = none ∧ J (j + 1) ys s2))) ∧
  ∀ s' ys, J xs.length ys s' → s'[s.length]? = some (.lst ys) → Q (.loc s.length) s') : Wr (aa t call (.comp k one nl tg fv it ifs elt) env st) Q := by
 obtain ⟨d, s, e, xs, p, J, hi, hl, hs, h0, hb, q⟩ := h
 rw [rj e hi]
 obtain ⟨s', ys, e2, j2, y2⟩ := Nj (all := xs) (p := p) (n0 := s.length) (J := J) hs xs 0 [] (s ++ [.lst []]) h0 (gg0.trans rfl) (by simpa using hl) fun j d hd s1 ys hj hy => by
  rw [Nat.zero_add] at hj ⊢
  exact hb j d hd s1 ys hj hy
 rw [Nat.zero_add] at j2
 rw [e2]
 exact bb (q s' ys j2 y2)
def Jh (t : Nat → Ty → Option Bool) (call : Or) (tg : List Nat) (one : Bool) (env : DD.Env) (ifs : Es) (kx vx : E) (d : D) (st : Sto) : Res (Option (D × D)) := match store tg one d env with
 | some env' => (br t call ifs env' st).bind fun b st => if b then (aa t call kx env' st).bind fun k st => (aa t call vx env' st).bind fun y st => .ok (some (k, y)) st else .ok none st
 | none => .bad
theorem aat {tg : List Nat} {one : Bool} {ifs : Es} {kx vx : E} {d : D} {env' : DD.Env} {QO : Option (D × D) → Sto → Prop} (h : store tg one d env = some env') (w : Wr (br t call ifs env' st) fun b s => (b = true → Wr (aa t call kx env' s) fun k s => Wr (aa t call vx env' s) fun y s => QO (some (k, y)) s) ∧ (b = false → QO none s)) : Wr (Jh t call tg one env ifs kx vx d st) QO := by
 unfold Jh
 simp only [h]
 refine Al (w.imp fun b s h => ?_)
 cases b with
 | true => exact Al ((h.1 rfl).imp fun k s h => Al (h.imp fun y s h => bb h))
 | false => exact bb (h.2 rfl)
def Kf (Q : D → Sto → Prop) (f : Fl) (s : Sto) : Prop := match f with
 | .next _ => Q .non s
 | .ret d => Q d s
 | _ => False
theorem Bd (env : DD.Env) (h : fns[f]? = some ⟨np, nl, b⟩) (hl : args.length = np) (hn : np ≤ nl) (he : args.map some ++ List.replicate (nl - np) none = env) (w : Wr (ao t (cj t fns F n) F b env st) (Kf Q)) : Wr (cj t fns F (n + 1) f args st) Q := by
 show Wr (match fns[f]? with
  | some fn => if args.length = fn.np ∧ fn.np ≤ fn.nl then fin (ao t (cj t fns F n) F fn.body (args.map some ++ List.replicate (fn.nl - fn.np) none) st) else .bad
  | none => .bad) Q
 rw [h]; simp only; rw [if_pos ⟨hl, hn⟩, he]
 unfold fin
 refine Al (w.imp fun f s h => ?_)
 cases f with
 | next e => exact bb h
 | ret d => exact bb h
 | brk e => exact h.elim
 | cont e => exact h.elim
theorem Dy (h : B) : (((!true) = true → A) ∧ ((!true) = false → B)) := Az h
theorem ib (h : A) : (((!false) = true → A) ∧ ((!false) = false → B)) := Cp h
end
section
variable {st : Sto} {Q : D → Sto → Prop} {i j : Int} {n m : Nat} {xs ys : List D} {kvs : List (D × D)} {d k : D}
theorem Cv (h : Q (.int (i + j)) st) : Wr (opD .add (.int i) (.int j) st) Q := ⟨_, _, Zu, h⟩
theorem Rp (h : Q (.int (i - j)) st) : Wr (opD .sub (.int i) (.int j) st) Q := ⟨_, _, zv, h⟩
theorem Ib (g : Ep i j) (h : Q (.int (i * j)) st) : Wr (opD .mul (.int i) (.int j) st) Q := ⟨_, _, Ng g, h⟩
theorem kl (g : Fh i) (h : Q (.int (i * j)) st) : Wr (opD .mul (.int i) (.int j) st) Q := ⟨_, _, Ng (.inl g), h⟩
theorem rq (g : Fh j) (h : Q (.int (i * j)) st) : Wr (opD .mul (.int i) (.int j) st) Q := ⟨_, _, Ng (.inr (.inl g)), h⟩
theorem Ds (g : Dp j) (h : Q (.int (i.fdiv j)) st) : Wr (opD .fdiv (.int i) (.int j) st) Q := ⟨_, _, Zv g, h⟩
theorem cc (g : j ≠ 0) (h : Q (.int (i.fmod j)) st) : Wr (opD .mod (.int i) (.int j) st) Q := ⟨_, _, zw g, h⟩
theorem Fw (g : Iz i j) (h : Q (.int (i ^ j.toNat)) st) : Wr (opD .pow (.int i) (.int j) st) Q := ⟨_, _, Zw g, h⟩
theorem Rq (hn : st[n]? = some (.lst xs)) (hm : st[m]? = some (.lst ys)) (g : xs.length + ys.length ≤ sizeLine) (h : Q (.loc st.length) (st ++ [.lst (xs ++ ys)])) : Wr (opD .add (.loc n) (.loc m) st) Q := ⟨_, _, zx hn hm g, h⟩
theorem dz (h : Q (.bl (decide (i = j))) st) : Wr (cmD .eq (.int i) (.int j) st) Q := ⟨_, _, Zx, h⟩
theorem ji (h : Q (.bl (!decide (i = j))) st) : Wr (cmD .ne (.int i) (.int j) st) Q := ⟨_, _, zy, h⟩
theorem Ji (h : Q (.bl (decide (i < j))) st) : Wr (cmD .lt (.int i) (.int j) st) Q := ⟨_, _, Zy, h⟩
theorem nk (h : Q (.bl (decide (i ≤ j))) st) : Wr (cmD .le (.int i) (.int j) st) Q := ⟨_, _, Zz, h⟩
theorem aau (h : Q (.bl (decide (j ≤ i))) st) : Wr (cmD .ge (.int i) (.int j) st) Q := ⟨_, _, aaa, h⟩
theorem aav (ha : okN 40 a = true) (hb : okN 40 b = true) (h : Q (.bl (decide (a = b))) st) : Wr (cmD .eq a b st) Q := ⟨_, _, aaj ha hb, h⟩
theorem Nk (ha : okN 40 a = true) (hb : okN 40 b = true) (h : Q (.bl (!decide (a = b))) st) : Wr (cmD .ne a b st) Q := ⟨_, _, by simp only [cmD, eqV, Dr ha (Nat.le_refl _), Dr hb (Nat.le_refl _), Jf ha hb], h⟩
theorem Rr (h1 : aq st n = some xs) (h2 : aq st m = some ys) (hx : xs.all (okN 39) = true) (hy : ys.all (okN 39) = true) (h : Q (.bl (!decide (xs = ys))) st) : Wr (cmD .ne (.loc n) (.loc m) st) Q := ⟨_, _, aao h1 h2 hx hy, h⟩
theorem aaw (h1 : aq st n = some xs) (ha : okN 40 a = true) (hx : xs.all (okN 40) = true) (h : Q (.bl (!decide (a ∈ xs))) st) : Wr (cmD .notIn a (.loc n) st) Q := ⟨_, _, aam h1 ha hx, h⟩
theorem Ai (e : L2.atI xs i = some d) (h : Q d st) : Wr (ixD (.tup xs) (.int i) st) Q := ⟨_, _, aae e, h⟩
theorem ck (g : aq st n = some xs) (e : L2.atI xs i = some d) (h : Q d st) : Wr (ixD (.loc n) (.int i) st) Q := ⟨_, _, aaf g e, h⟩
theorem Rt (h : Q (.int xs.length) st) : Wr (btD .lenB [.tup xs] st) Q := ⟨_, _, aac, h⟩
theorem jj (g : aq st n = some xs) (h : Q (.int xs.length) st) : Wr (btD .lenB [.loc n] st) Q := ⟨_, _, aad g, h⟩
theorem Nl (h : Q (.int (if i < 0 then -i else i)) st) : Wr (btD .absB [.int i] st) Q := ⟨_, _, aab, h⟩
theorem aax (g : Eo st d = some xs) (h : Q (.loc st.length) (st ++ [.lst xs])) : Wr (btD .listB [d] st) Q := ⟨_, _, by simp only [btD, g], h⟩
theorem aay (h : Q (.int (if j > i then j else i)) st) : Wr (btD .maxB [.int i, .int j] st) Q := ⟨_, _, by simp only [btD], h⟩
theorem Kl (g : st[n]? = some (.lst xs)) (hl : xs.length < sizeLine) (h : Q .non (st.set n (.lst (xs ++ [d])))) : Wr (mtD .append (.loc n) [d] st) Q := ⟨_, _, by simp only [mtD, g]; rw [if_pos hl], h⟩
theorem Nm {k : Nat} {ds : List D} {lo hi : Option Int} (e : jz k ds = some (lo, hi)) (g : aq st n = some xs) (h : Q (.loc st.length) (st ++ [.lst (cutD xs lo hi)])) : Wr (slD k (.loc n) ds st) Q := ⟨_, _, by simp only [slD, e, g], h⟩
theorem Np {k : Nat} {ds : List D} {lo hi : Option Int} (e : jz k ds = some (lo, hi)) (h : Q (.tup (cutD xs lo hi)) st) : Wr (slD k (.tup xs) ds st) Q := ⟨_, _, by simp only [slD, e], h⟩
theorem Ic {m : Mt} (g : st[n]? = some (.lst xs)) (hm : rdy m st (.loc n) = Gm st (.loc n) := by rfl) : rdy m st (.loc n) = true := by rw [hm]; simp only [Gm, g]
end
section
variable {t : Nat → Ty → Option Bool} {call : Or} {F : Nat} {env : DD.Env} {st : Sto} {Q : D → Sto → Prop} {QF : Fl → Sto → Prop}
theorem Ru (J : Nat → DD.Env → Sto → Prop)
 (ht : ∀ m env st, J m env st → Wr (test env st) fun x s => (x = true → Wr (body env s) fun f s' => ∃ env' m', f = .next env' ∧ m' < m ∧ J m' env' s') ∧ (x = false → QF (.next env) s)) :
 ∀ (g m : Nat) (env : DD.Env) (st : Sto), m < g → J m env st → Wr (whileLoop test body g env st) QF
 | 0, m, env, st, h, _ => by omega
 | g + 1, m, env, st, h, j => by
  simp only [whileLoop]
  refine Al ((ht m env st j).imp fun x s h2 => ?_)
  cases x with
  | false => exact bb (h2.2 rfl)
  | true =>
   refine Al ((h2.1 rfl).imp fun f s' h3 => ?_)
   obtain ⟨env', m', rfl, hm, j'⟩ := h3
   exact Ru J ht g m' env' s' (by omega) j'
theorem km (J : Nat → DD.Env → Sto → Prop) (m : Nat) (hm : m < F) (h0 : J m env st)
 (ht : ∀ m env st, J m env st → Wr (Ap t call c env st) fun x s => (x = true → Wr (ao t call F b env s) fun f s' => ∃ env' m', f = .next env' ∧ m' < m ∧ J m' env' s') ∧ (x = false → QF (.next env) s)) : Wr (An t call F (.whileS c b) env st) QF := by
 rw [Zs]
 exact Ru J ht F m env st hm h0
end
section
variable {st : Sto} {Q : D → Sto → Prop} {i j : Int} {n m : Nat} {xs ys : List D} {kvs : List (D × D)} {d k : D}
end
section
variable {t : Nat → Ty → Option Bool} {call : Or} {F : Nat} {env : DD.Env} {st : Sto} {Q : D → Sto → Prop} {QB : Bool → Sto → Prop} {QF : Fl → Sto → Prop}
def nq (t : Nat → Ty → Option Bool) (call : Or) (F : Nat) (t1 : List Nat) (o1 : Bool) (t2 : List Nat) (o2 : Bool) (b : Ss) (d : D) (env : DD.Env) (st : Sto) : Res Fl := match Ho t1 o1 t2 o2 d env with | some env' => ao t call F b env' st | none => .bad
theorem aaz (h : Ho t1 o1 t2 o2 d env = some env') (w : Wr (ao t call F b env' st) QF) : Wr (nq t call F t1 o1 t2 o2 b d env st) QF := by
 unfold nq; rw [h]; exact w
theorem w_walk (J : Nat → DD.Env → Sto → Prop) (hs : ∀ i env st, J i env st → ok st = true) :
 ∀ (xs : List D) (k : Nat) (env : DD.Env) (st : Sto), J k env st → (∀ (j : Nat) (d : D), xs[j]? = some d → ∀ env st, J (k + j) env st → Wr (body d env st) fun f s => ∃ env', f = .next env' ∧ J (k + j + 1) env' s) → (∀ env s, J (k + xs.length) env s → QF (.next env) s) → Wr (Cr ok body xs env st) QF
 | [], k, env, st, h0, _, q => by
  simp only [Cr, hs k env st h0, if_true]
  exact bb (q env st h0)
 | d :: r, k, env, st, h0, ht, q => by
  simp only [Cr, hs k env st h0, if_true]
  refine Al ((ht 0 d rfl env st h0).imp fun f s h => ?_)
  obtain ⟨env', rfl, j⟩ := h
  refine w_walk J hs r (k + 1) env' s j (fun j' d' hd env2 st2 hj => ?_) fun env2 s2 hj => q env2 s2 (by rw [List.length_cons, show k + (r.length + 1) = k + 1 + r.length by omega]; exact hj)
  have := ht (j' + 1) d' (by simpa using hd) env2 st2 (by rw [show k + (j' + 1) = k + 1 + j' by omega]; exact hj)
  rwa [show k + (j' + 1) + 1 = k + 1 + j' + 1 by omega] at this
end
end DD
namespace DD
open PySem PySem.Spec L2
open PyProof.Rows hiding St RelV
variable {g : G} {X : Cx} {a b c : Expr} {a' b' c' : E} {pos apos cpos : Pos} {rest es : List Expr} {es' : Es} {F : Nat}
theorem Nq {t' : Nat} {fp : List Addr} {pins : List (Addr × Obj)} {sg : L2.St} {H : Hp} {s : Shared} {h' : Heap} (I : Inv X pins sg H s) (hf : ∀ b ∈ fp, Co X pins H b) (k : ∀ b o, b ∉ fp → s.heap.get? b = some o → h'.get? b = some o) : Inv X pins sg H { s with heap := h', toks := t' } := by
 have nit : ∀ b u, H b = some u → b ∉ fp := fun b u e z => by rw [(hf b z).1] at e; cases e
 refine I.step (g' := s.gens) (d' := s.drawn) (ch := fp) (fun b hb => ⟨(hf b hb).2.2.2.1, (hf b hb).2.1, (hf b hb).2.2.2.2.1, (hf b hb).2.2.2.2.2⟩) (fun b o _ _ hc e _ => k b o hc e) (fun b o _ _ hc e _ => ⟨o.slots, k b o hc e⟩) (fun _ _ _ _ n => n)
  (fun b o hc e => ⟨o, k b o hc e⟩) (fun _ _ e => e) (fun _ _ _ e => e) (fun b ps e => ⟨#[], by rw [e]; simp⟩) (fun m hm => ?_) (fun b u e => ?_) I.bare
 · obtain ⟨o, es, ep, ho, r⟩ := hm
   exact ⟨o, es, ep, k _ o (fun z => (hf _ z).2.1 rfl) ho, r⟩
 · refine (I.hok b u e).stay (fun c v hc q => k c v ?_ q) (fun _ q => q) fun _ _ q => q
   rcases hc with z | z
   · rw [z]; exact nit b u e
   · exact nit c _ z
def fx (o : Option Int) (xs : List Int) : Option Int := xs.foldl (fun o x => match o with | none => some x | some b => some (if x > b then x else b)) o
theorem Rv : ∀ (xs : List Int) (b : Int), fx (some b) xs = some (xs.foldl (fun m x => if x > m then x else m) b)
 | [], b => rfl
 | x :: r, b => Rv r (if x > b then x else b)
theorem aba (d : Int) : ∀ xs : List Int, (fx none xs).getD d = Fi d xs
 | [] => rfl
 | x :: r => by
  show (fx (some x) r).getD d = _
  rw [Rv]; rfl
def abb (o : Option (Int × Tok)) : Array Value := match o with | none => #[] | some x => #[.int x.1 x.2, .int x.1 x.2]
theorem abc {prog : Program} {w : World} {A : Around} {R : Result → Shared → Prop} {I : Addr} {fp wr : List Addr} {n : Nat} {P : Nat → Value → Prop} {St : Nat → Heap → Prop} (W : Walks prog w A.in1 I fp wr n P St) (val : Nat → Int) (hval : ∀ i v, P i v → ∃ t, v = .int (val i) t) (dv : Value) (S : Addr) (hSf : S ∉ fp) :
 ∀ (k j : Nat) (s : Shared) (o : Option (Int × Tok)) (c : Nat), j + k = n → St j s.heap → s.heap.get? S = some { cls := .type "list", dict := none, data := .seq (abb o) c, slots := #[] } →
 (∀ v h' tk, (match fx (o.map (·.1)) ((List.range k).map fun i => val (j + i)) with | none => v = dv | some b => ∃ t, v = .int b t) → (∀ b ob, b ∉ wr → b ≠ S → s.heap.get? b = some ob → h'.get? b = some ob) → R (.ok (.ret v)) { s with heap := h', toks := tk }) →
 codeAny (model prog w) A (.builtin "max.loop" ⟨[.ref I, .none, .ref S], [(Str.ofString "default", dv)]⟩) R s := by
 have hSw : S ∉ wr := fun h => hSf (W.sub _ h)
 have hn : (toString "max" ++ toString ".loop" : String) = "max.loop" := by decide
 have hcmp := CmpOf.ints_gt (prog := prog) (w := w) (A := A.in1) (P := P) val hval
 intro k
 induction k with
 | zero =>
  intro j s o c hk hst hS hR
  have hj : j = n := by omega
  subst hj
  refine codeAny_builtin F.entry_max_loop ?_; rw [Around.under_plainId F.plain_max_loop _]
  show wpAny _ A.in1 (seqItems? (.ref S) >>= _) _ _ s
  refine wpAny_bind (wpAny_seqItems hS rfl ?_); show wpAny _ A.in1 (tryCatch (pyNext (.ref I)) _ >>= _) _ _ s
  refine wpAny_bind (wpAny_tryCatch (W.done s _ _ hst fun h' tk kk => ?_))
  cases o with
  | none => exact wpAny_bind (wpAny_rule (wpAny_pure (hR dv h' tk rfl fun b ob hb _ e => kk b ob hb e)))
  | some x =>
   have hS' := kk S _ hSw hS
   show wpAny _ A.in1 (updateSeq S (fun _ => #[]) >>= _) _ _ _
   refine wpAny_bind ?_; refine wpAny_updateSeq (hz := by show 2 ≤ sizeLine; decide) hS' rfl (wpAny_bind (wpAny_letGo (wpAny_pure (hR _ _ tk ⟨x.2, rfl⟩ fun b ob hbw hbS e => ?_))))
   exact (Heap.get?_update_other _ _ (Ne.symm hbS)).trans (kk b ob hbw e)
 | succ k ih =>
  intro j s o c hk hst hS hR
  have hlt : j < n := by omega
  have er : (List.range (k + 1)).map (fun i => val (j + i)) = val j :: (List.range k).map fun i => val (j + 1 + i) := by
   rw [List.range_succ_eq_map, List.map_cons, List.map_map]
   congr 1
   refine List.map_congr_left fun i _ => ?_
   show val (j + (i + 1)) = _
   rw [show j + (i + 1) = j + 1 + i by omega]
  rw [er] at hR
  refine codeAny_builtin F.entry_max_loop ?_; rw [Around.under_plainId F.plain_max_loop _]
  show wpAny _ A.in1 (seqItems? (.ref S) >>= _) _ _ s
  refine wpAny_bind (wpAny_seqItems hS rfl ?_); show wpAny _ A.in1 (tryCatch (pyNext (.ref I)) _ >>= _) _ _ s
  refine wpAny_bind (wpAny_tryCatch (W.item j s _ _ hlt hst fun v h' tk hP hst' kk => ?_))
  have hS' := kk S _ hSw hS
  obtain ⟨t, rfl⟩ := hval j v hP
  have fr : ∀ h2 : Heap, (∀ b ∈ fp, ∀ ob, h'.get? b = some ob → h2.get? b = some ob) → St (j + 1) h2 := fun h2 q => W.frame _ _ _ hst' q
  have put : ∀ (f : Array Value → Array Value), St (j + 1) (h'.update S (Obj.mapSeq f)) := fun f => fr _ fun b hb ob e => (Heap.get?_update_other _ _ (fun z : S = b => hSf (z ▸ hb))).trans e
  have back : ∀ (f : Array Value → Array Value) (h2 : Heap), (∀ b ob, b ∉ wr → b ≠ S → (h'.update S (Obj.mapSeq f)).get? b = some ob → h2.get? b = some ob) → ∀ b ob, b ∉ wr → b ≠ S → s.heap.get? b = some ob → h2.get? b = some ob := fun f h2 q b ob hb hbS e => q b ob hb hbS ((Heap.get?_update_other _ _ (Ne.symm hbS)).trans (kk b ob hb e))
  cases o with
  | none =>
   show wpAny _ A.in1 (updateSeq S (fun _ => #[.int (val j) t, .int (val j) t]) >>= _) _ _ _
   refine wpAny_bind ?_; refine wpAny_updateSeq hS' rfl ?_; rw [hn]
   exact wpAny_pure ⟨plainId_quiet F.plain_max_loop _, ih (j + 1) _ (some (val j, t)) _ (by omega) (put _) (Heap.get?_update_self _ hS' rfl) fun v h2 tk2 hv q => hR v h2 tk2 hv (back _ h2 q)⟩
  | some x =>
   show wpAny _ A.in1 (tryCatch (holding [.int (val j) t, .int (val j) t] (richCompare .Gt (.int (val j) t) (.int x.1 x.2) >>= _)) _ >>= _) _ _ _
   have hc2 : ∀ (s : Shared) (Q : Value → Shared → Prop) (E : Value → Shared → Prop), Q (.bool (decide (val j > x.1))) s → wpAny (model prog w) A.in1 (richCompare .Gt (.int (val j) t) (.int x.1 x.2)) Q E s := fun s Q E q => by
    have := CmpOf.ints_gt (prog := prog) (w := w) (A := A.in1) (P := fun i v => if i = 0 then v = .int (val j) t else v = .int x.1 x.2) (fun i => if i = 0 then val j else x.1) (fun i v h => by
     by_cases z : i = 0
     · simp only [z, if_true] at h ⊢; exact ⟨_, h⟩
     · simp only [z, if_false] at h ⊢; exact ⟨_, h⟩)
    exact this 0 1 _ _ s Q E (by simp) (by simp) (by simpa using q)
   refine wpAny_bind (wpAny_tryCatch (wpAny_holding (wpAny_bind (hc2 _ _ _ (wpAny_bind (wpAny_holding (wpAny_truthy_bool (wpAny_bind (wpAny_letGo (wpAny_pure ?_))))))))))
   by_cases hb : val j > x.1
   · simp only [hb, decide_true, if_true]
     refine wpAny_bind ?_; refine wpAny_updateSeq (hz := by show 2 ≤ sizeLine; decide) hS' rfl (wpAny_bind (wpAny_letGo ?_)); rw [hn]
     refine wpAny_pure ⟨plainId_quiet F.plain_max_loop _, ih (j + 1) _ (some (val j, t)) _ (by omega) (put _) (Heap.get?_update_self _ hS' rfl) fun v h2 tk2 hv q => hR v h2 tk2 ?_ (back _ h2 q)⟩
     simpa only [fx, List.foldl_cons, Option.map_some, if_pos hb] using hv
   · simp only [hb, decide_false, Bool.false_eq_true, if_false]
     refine wpAny_bind (wpAny_letGo ?_); rw [hn]
     refine wpAny_pure ⟨plainId_quiet F.plain_max_loop _, ih (j + 1) _ (some x) c (by omega) hst' hS' fun v h2 tk2 hv q => hR v h2 tk2 ?_ fun b ob hbw hbS e => q b ob hbw hbS (kk b ob hbw e)⟩
     simpa only [fx, List.foldl_cons, Option.map_some, if_neg hb] using hv
theorem abd (a v : Value) : argsOk "max" ⟨[a], [(Str.ofString "default", v)]⟩ := by unfold argsOk; kernel_rfl
theorem abe {prog : Program} {w : World} {A : Around} {E : Value → Shared → Prop} {s : Shared} {l : Addr} {its : List Value} {xs : List Int} {dv : Value} {Q : Value → Shared → Prop} (hh : A.handled = none) (hl : s.heap.IsList l its.toArray) (hx : Vals (xs.map V.int) its)
 (h : ∀ v h' tk, (match fx none xs with | none => v = dv | some b => ∃ t, v = .int b t) → (∀ b ob, s.heap.get? b = some ob → h'.get? b = some ob) → Q v { s with heap := h', toks := tk }) :
 wpAny (model prog w) A (call (.builtin "max") [.ref l] [(Str.ofString "default", dv)]) Q E s := by
 have hn : (toString "max" ++ toString ".loop" : String) = "max.loop" := by decide
 obtain ⟨ol, hol, _⟩ := id hl
 have hll : l < s.heap.objs.size := Heap.lt_size hol
 have hlen : xs.length = its.length := by have := hx.length; simpa using this
 refine kmk_tree PySem.F.kind_max PySem.F.plain_max PySem.F.entry_max (abd _ _) ?_
 show wpAny _ A.in1 (Builtin.Builtins.bindParams "max" ["key", "default"] 0 ⟨[], [(Str.ofString "default", dv)]⟩ >>= _) _ _ s
 refine wpAny_bind (wpAny_of_eq (show Builtin.Builtins.bindParams "max" ["key", "default"] 0 ⟨[], [(Str.ofString "default", dv)]⟩ = pure [none, some dv] from rfl) (wpAny_bind (wpAny_pure (wpAny_bind (wpAny_pyIter_list hl (wpAny_bind (wpAny_newList ?_ (Nat.zero_le _))))))))
 rw [hn]
 have hz : (s.heap.push { cls := .type "list_iterator", data := .fields #[.ref l, .int 0 0] }).objs.size = s.heap.objs.size + 1 := Heap.size_push ..
 have W := Walks.list (prog := prog) (w := w) (A := A.in1) hh s.heap.objs.size l (Nat.ne_of_lt hll) its.toArray
 refine wpAny_pure ⟨plainId_quiet F.plain_max_loop _, abc W (fun i => xs.getD i 0) (fun i v hv => ?_) dv _ (fun hm => ?_) its.toArray.size 0 _ none 0 (by simp) ⟨⟨_, Heap.get?_push_of_some _ (Heap.get?_push_size _ rfl), rfl, rfl⟩, hl.at fun o e => Heap.get?_push_of_some _ (Heap.get?_push_of_some _ e)⟩ (Heap.get?_push_size _ rfl) fun v h' tk hv kk => h v h' tk ?_ fun b ob e => ?_⟩
 · have hv : its[i]? = some v := by simpa using hv
   have hi : i < xs.length := by have := (List.getElem?_eq_some_iff.mp hv).1; omega
   obtain ⟨u, hu, ru⟩ := hx.get (i := i) (x := V.int xs[i]) (by simp [hi])
   rw [hv] at hu; cases hu
   obtain ⟨t, rfl⟩ := ru
   exact ⟨t, by simp [hi]⟩
 · have hm : (s.heap.push { cls := .type "list_iterator", data := .fields #[.ref l, .int 0 0] }).objs.size = s.heap.objs.size ∨ (s.heap.push { cls := .type "list_iterator", data := .fields #[.ref l, .int 0 0] }).objs.size = l := by simpa using hm
   rw [hz] at hm
   rcases hm with z | z
   · exact Nat.succ_ne_self _ z
   · exact Nat.lt_irrefl _ (Nat.lt_trans (Nat.lt_succ_self _) (z ▸ hll))
 · have e1 : (List.range its.toArray.size).map (fun i => xs.getD (0 + i) 0) = xs := by
    rw [List.size_toArray, ← hlen]
    refine List.ext_getElem? fun i => ?_
    by_cases hi : i < xs.length
    · simp [hi]
    · simp [hi]
   rw [e1] at hv
   exact hv
 · have hb := Heap.lt_size e
   refine kk b ob (fun z => ?_) (fun z => ?_) (Heap.get?_push_of_some _ (Heap.get?_push_of_some _ e))
   · have z : b = s.heap.objs.size := by simpa using z
     exact Nat.ne_of_lt hb z
   · rw [hz] at z
     exact Nat.ne_of_lt (Nat.lt_succ_of_lt hb) z
section
variable {g : G} {X : Cx} {pos : Pos}
def abf (K : PySem.W.Frag) (ta : TA) (tv : TE) : TE := fun sg H Q => ta sg H fun vs H1 => tv sg H1 fun y H2 => ∃ a xs d, vs = [.ref a] ∧ SqL K H2 a (xs.map V.int) ∧ y = .int d ∧ Q (.int (Fi d xs)) H2
theorem abg {e v : Expr} {ta : TA} {tv : TE} {p kp : Pos} (hc : X.calm = true) (hg : Gl X "max") (hm : X.mg "max" = none) (ha : PA X [e] ta) (hv : PE X v tv) (he : backTo pos (starEach [e] X.env) = (false, eval e X.env) :: backTo pos (starEach [] X.env) := by rfl) (hp : (backTo pos (starEach [e] X.env)).any (·.1) = false := by rfl)
 : PE X (.Call (.Name "max" p) [e] [⟨some "default", v, kp⟩] pos) (abf X.K ta tv) := by
 intro pins s sg H Q I h
 refine wpAny_Call_Name_kw (Hh I hg hm boot_max (callWith_kw (thn (ha pos pins s sg H _ I h) fun us s1 ⟨vs, H1, I1, r1, q1⟩ => kws_cons (thn (hv pins s1 sg H1 _ I1 q1) fun u s2 ⟨y, H2, I2, r2, q2⟩ => kws_nil ?_)) he hp rfl rfl))
 obtain ⟨a, xs, d, rfl, sq, rfl, q⟩ := q2
 obtain ⟨u1, rfl, rfl⟩ := vals1 r1
 obtain ⟨t, rfl⟩ := r2
 obtain ⟨its, rv, pl, hz⟩ := I2.list sq
 refine abe (I2.ok.hd hc) pl.isList rv fun w h' tk hw kk => ⟨.int (Fi d xs), H2, I2.kept kk, ?_, q⟩
 have := aba d xs
 cases z : fx none xs with
 | none =>
  rw [z] at hw this
  rw [hw, ← this]; exact ⟨_, rfl⟩
 | some b =>
  rw [z] at hw this
  obtain ⟨t, rfl⟩ := hw
  rw [← this]; exact ⟨_, rfl⟩
theorem ints_rep {rho : List Addr} {H : Hp} : ∀ {ds : List D} {is : List Int} {vs : List V}, intsOf ds = some is → g.RepL rho H ds vs → vs = is.map V.int
 | [], is, vs, h, r => by simp only [intsOf] at h; cases h; simpa [DD.RepL] using r
 | d :: t, is, vs, h, r => by
  cases d with
  | int i =>
   simp only [intsOf] at h
   cases z : intsOf t with
   | none => rw [z] at h; cases h
   | some js =>
    rw [z] at h; cases h
    simp only [DD.RepL] at r
    obtain ⟨v, w, rfl, r1, r2⟩ := r
    rw [List.map_cons, ints_rep z r2, av.mp r1]
  | _ => simp [intsOf] at h
theorem abh {e v : Expr} {e' v' : E} {p kp : Pos} (hK : X.K = g.K) (hc : X.calm = true) (hg : Gl X "max") (hm : X.mg "max" = none) (ha : Sd g X e e') (hv : Sd g X v v') (hs : starEach [e] X.env = (false, eval e X.env) :: starEach [] X.env := by rfl) (he : backTo pos (starEach [e] X.env) = (false, eval e X.env) :: backTo pos (starEach [] X.env) := by rfl) (hp : (backTo pos (starEach [e] X.env)).any (·.1) = false := by rfl) :
 Sd g X (.Call (.Name "max" p) [e] [⟨some "default", v, kp⟩] pos) (.mt .maxd e' (.cons v' .nil)) := Bj (abg hc hg hm (Ad ha Ag hs) hv he hp) fun sg H Q q => by
 obtain ⟨rho, st, env, s, n, q⟩ := q
 have q : RQ g ((au g.tab g.call (.cons e' .nil) env st).bind fun ds st => match ds with
  | [x] => (if rdy .maxd st x then (au g.tab g.call (.cons v' .nil) env st).bind fun ds st => mtD .maxd x ds st else .bad)
  | _ => .bad) (Aq g rho H Q) rho H := by
  simp only [aa] at q
  simp only [au, bind_assoc, Bf] at q ⊢
  exact q
 refine mq s n q fun ds st1 vs H1 r1 hl k1 s1 n1 rps q1 => ?_
 match ds, hl with
 | [x], _ =>
  obtain ⟨u, rfl, rp⟩ := Hs rps
  simp only at q1
  split at q1
  · simp only [au, bind_assoc, Bf] at q1
    refine step s1 n1 q1 fun y st2 w H2 r2 k2 s2 n2 rw2 q2 => ?_
    cases x with
    | loc m =>
     cases y with
     | int d =>
      simp only [mtD] at q2
      cases el : aq st2 m with
      | none => rw [el] at q2; exact q2.elim
      | some ds =>
       rw [el, Option.bind_some] at q2
       cases ei : intsOf ds with
       | none => rw [ei] at q2; exact q2.elim
       | some is =>
        rw [ei] at q2
        obtain ⟨a, vs, hr, sq, rl⟩ := De s2 el
        obtain ⟨a2, hr2, rfl⟩ := Bh.mp (rp.mono k2)
        rw [hr] at hr2; cases hr2
        rw [ints_rep ei rl] at sq
        exact ⟨a, is, d, rfl, by rw [hK]; exact sq, av.mp rw2, (show Aq g rho H Q (.int (Fi d is)) st2 from q2) _ H2 r2 (k1.trans k2) s2 (av.mpr rfl)⟩
     | _ => exact q2.elim
    | _ => cases y <;> exact q2.elim
  · exact q1.elim
end
section
variable {g : G} {X : Cx} {pos : Pos} {es : List Expr} {es' : Es}
end
end DD
namespace DD
open PySem PySem.Spec L2
section
variable {prog : Program} {w : World} {A : Around} {E : Value → Shared → Prop} {s : Shared}
theorem abi {it d : Addr} {i ep : Nat} {od : Obj} {es : Array DictEntry} {Q : Option Value → Shared → Prop} (hi : s.heap.IsKeyIter it d i es.size ep) (g1 : s.heap.get? d = some od) (g2 : od.data = .dict es ep) (hl : i < es.size)
 (q : ∀ h', h'.IsKeyIter it d (i + 1) es.size ep → Heap.SameBut it s.heap h' → Q (some es[i].key) { s with heap := h' }) : wpAny (model prog w) A (pyNext (.ref it)) Q E s := by
 obtain ⟨oi, f1, f2, f3⟩ := id hi
 have hT := hi.typeIs
 have tn : ∀ {Q' : String → Shared → Prop} {A' : Around} {E' : Value → Shared → Prop}, Q' "dict_keyiterator" s → wpAny (model prog w) A' (typeNameOfWhole (.ref it)) Q' E' s := fun {_ _ _} h => wpAny_typeNameOfWhole_keyiter hT h
 unfold pyNext
 refine wpAny_bind (wpAny_attempt (wpAny_callSpecial?_slot (name := Str.ofString "__next__") hT F.slot_dict_keyiterator_next (wpAny_call_entry F.slot_dict_keyiterator_next hT F.entry_dict_keyiterator_next ?_ (F.args_dict_keyiterator_next_1 _))))
 refine wpAny_bind (wpAny_pure (wpAny_bind (wpAny_bind (wpAny_bind (tn (wpAny_pure (wpAny_bind (wpAny_fieldsOf f1 f3 ?_))))))))
 have ow : Builtin.Dict_items.ownsTuple "dict_keyiterator" = false := by decide
 simp only [ow, Bool.false_eq_true, if_false]
 show wpAny _ _ (if (Value.ref d == Value.none) = true then _ else _) _ _ s; rw [if_neg (c := (Value.ref d == Value.none) = true) Bool.false_ne_true]
 refine wpAny_bind (wpAny_pure (wpAny_bind (wpAny_dictEntries g1 g2 ?_))); rw [if_neg (by simp)]
 refine wpAny_bind (wpAny_pure (wpAny_bind (wpAny_dictEpoch g1 g2 ?_))); rw [if_neg (by simp)]
 refine wpAny_pure ?_; simp only [show ¬ ((i : Int) < 0) by omega, if_false, Int.toNat_natCast, Array.getElem?_eq_getElem hl]
 refine wpAny_bind (wpAny_bind (tn (wpAny_pure (wpAny_bind (wpAny_isOneOf_keyiter hT ?_)))))
 show wpAny _ _ (setField (.ref it) 1 (rawInt ((i : Int) + 1)) >>= _) _ _ s; refine wpAny_bind (wpAny_setField f1 f3 (by simp) ?_)
 have hi' : (s.heap.update it (Obj.mapFields (·.setIfInBounds 1 (rawInt ((i : Int) + 1))))).IsKeyIter it d (i + 1) es.size ep := ⟨_, Heap.get?_update_self _ f1 (Obj.isFreed_of_fields (Obj.data_mapFields f3 _)), (Obj.cls_mapFields ..).trans f2, by rw [Obj.data_mapFields f3]; simp [rawInt]⟩
 refine wpAny_bind (wpAny_holding (wpAny_bind (wpAny_isOneOf_keyiter (s := { s with heap := _ }) hi'.typeIs ?_)))
 show wpAny _ _ (pure es[i].key) _ _ _; exact wpAny_pure (wpAny_pure ⟨_, rfl, wpAny_pure (q _ hi' (Heap.SameBut.update ..))⟩)
theorem abj {it d : Addr} {i ep : Nat} {od : Obj} {es : Array DictEntry} {Q : Option Value → Shared → Prop} (hc : A.handled = none) (hi : s.heap.IsKeyIter it d i es.size ep) (g1 : s.heap.get? d = some od) (g2 : od.data = .dict es ep) (hl : es.size ≤ i)
 (q : ∀ h', Heap.ExtBut it s.heap h' → Q none { s with heap := h' }) : wpAny (model prog w) A (pyNext (.ref it)) Q E s := by
 obtain ⟨oi, f1, f2, f3⟩ := id hi
 have hT := hi.typeIs
 have tn : ∀ {Q' : String → Shared → Prop} {A' : Around} {E' : Value → Shared → Prop}, Q' "dict_keyiterator" s → wpAny (model prog w) A' (typeNameOfWhole (.ref it)) Q' E' s := fun {_ _ _} h => wpAny_typeNameOfWhole_keyiter hT h
 unfold pyNext
 refine wpAny_bind (wpAny_attempt (wpAny_callSpecial?_slot (name := Str.ofString "__next__") hT F.slot_dict_keyiterator_next (wpAny_call_entry F.slot_dict_keyiterator_next hT F.entry_dict_keyiterator_next ?_ (F.args_dict_keyiterator_next_1 _))))
 refine wpAny_bind (wpAny_pure (wpAny_bind (wpAny_bind (wpAny_bind (tn (wpAny_pure (wpAny_bind (wpAny_fieldsOf f1 f3 ?_))))))))
 have ow : Builtin.Dict_items.ownsTuple "dict_keyiterator" = false := by decide
 simp only [ow, Bool.false_eq_true, if_false]
 show wpAny _ _ (if (Value.ref d == Value.none) = true then _ else _) _ _ s; rw [if_neg (c := (Value.ref d == Value.none) = true) Bool.false_ne_true]
 refine wpAny_bind (wpAny_pure (wpAny_bind (wpAny_dictEntries g1 g2 ?_))); rw [if_neg (by simp)]
 refine wpAny_bind (wpAny_pure (wpAny_bind (wpAny_dictEpoch g1 g2 ?_))); rw [if_neg (by simp)]
 refine wpAny_pure ?_; simp only [show ¬ ((i : Int) < 0) by omega, if_false, Int.toNat_natCast, Array.getElem?_eq_none hl]
 refine wpAny_bind (wpAny_bind (tn (wpAny_pure ?_))); show wpAny _ _ (setField (.ref it) 0 .none >>= _) _ _ s
 refine wpAny_bind (wpAny_setField f1 f3 (by simp) ?_); show wpAny _ _ (newExc (.type "StopIteration") [] >>= _) _ _ _; refine wpAny_bind ?_; simp only [newExc, newTuple]
 refine wpAny_bind (wpAny_newObj_type (wpAny_bind (m := firstArgMember _ _) (wpAny_of_eq (a := Value.none) (by first | rfl | (simp only [firstArgMember]; rfl)) (wpAny_newObj_type ?_ (by size_fits)))) (by size_fits))
 simp only [raiseNew]; refine wpAny_bind (wpAny_handled ?_); rw [show A.in1.handled = none from hc]
 refine wpAny_bind (wpAny_pure (wpAny_throw ?_)); refine wpAny_bind (wpAny_isInstance (T := "StopIteration") (b := true) ⟨_, Heap.get?_push_size _ rfl, rfl⟩ isSubtype_stop ?_)
 exact wpAny_pure (q _ (((Heap.SameBut.update ..).extBut.push _).push _))
end
open PyProof.Rows hiding St RelV
variable {g : G} {X : Cx} {pos apos cpos : Pos} {F : Nat}
def ItN (w : World) (a : Addr) (o : Obj) (xs : List (D × Addr × V)) : It := ⟨fun i H => H a = some (.frz o (.ext (Am w a xs))) ∧ i < xs.length, fun i H x H' => H' = H ∧ ∃ t, xs[i]? = some t ∧ x = .ref t.2.1, fun i H => H a = some (.frz o (.ext (Am w a xs))) ∧ xs.length ≤ i⟩
theorem Nr {α β : Type} {R : α → β → Prop} : ∀ {xs : List α} {ys : List β} {i : Nat} {x : α}, Paired R xs ys → xs[i]? = some x → ∃ y, ys[i]? = some y ∧ R x y
 | _, _, i, x, .nil, e => by simp at e
 | _, _, 0, x, .cons (b := b) h t, e => by
  simp at e; subst e
  exact ⟨b, by simp, h⟩
 | _, _, i + 1, x, .cons h t, e => by
  obtain ⟨y, h1, h2⟩ := Nr (i := i) t (by simpa using e)
  exact ⟨y, by simpa using h1, h2⟩
theorem Rw {P : Program} {w0 w : World} {H : Hp} {h : Heap} {a : Addr} {o : Obj} {xs : List (D × Addr × V)} {es : Array DictEntry} {ep : Nat} (hok : HOk P w0 H h) (e : H a = some (.frz o (.ext (Am w a xs)))) (hd : o.data = .dict es ep) : h.get? a = some o ∧ es.size = xs.length ∧ ∀ i t (hi : i < es.size), xs[i]? = some t → es[i].key = .ref t.2.1 := by
 obtain ⟨h1, ⟨_, _, _, o', es', ep', h2, r1, r2, r3⟩, _⟩ := (show Bs P w0 H h a (.frz o (.ext _)) from hok a _ e)
 rw [h1] at h2; cases h2
 rw [hd] at r2; cases r2
 have hl := Paired.length r3
 refine ⟨h1, by simpa using hl.symm, fun i t hi ht => ?_⟩
 obtain ⟨y, e1, e2⟩ := Nr r3 ht
 have : y = es[i] := by simpa [hi] using e1.symm
 rw [← this]; exact e2.2.1
theorem abk {P : Program} {w0 w : World} {K : PySem.W.Frag} {tg : Expr} {xs : List (D × Addr × V)} {o : Obj} {es : Array DictEntry} {ep : Nat} (hd : o.data = .dict es ep) (a it : Addr) : Turn P w0 K tg (ItN w a o xs) [it] it (fun i h => i ≤ xs.length ∧ h.IsKeyIter it a i xs.length ep) where
 mem := by simp
 obj := fun i h st b hb => by
  have e : b = it := by simpa using hb
  subst e
  obtain ⟨_, u, e, c, d⟩ := st
  exact ⟨u, e, fun v z => by rw [d] at z; cases z⟩
 keep := fun i h h' st k => ⟨st.1, st.2.at fun u e => k it (by simp) u e⟩
 item := by
  intro X hP hw hK hc i pins s sg H E I hf st hg
  subst hP hw hK
  obtain ⟨hH, hi⟩ := hg
  obtain ⟨g1, hl, hk⟩ := Rw I.hok hH hd
  obtain ⟨t, hx⟩ : ∃ p, xs[i]? = some p := ⟨xs[i], List.getElem?_eq_getElem hi⟩
  obtain ⟨f0, f1, f2, f3, f4, f5⟩ := hf it (by simp)
  have hit := st.2
  rw [← hl] at hit
  refine abi hit g1 hd (by omega) fun h' hit' sb => ?_
  rw [hl] at hit'
  have I1 : Inv X pins sg H { s with heap := h' } := I.turned (t' := s.toks) (fun b o hb e => (sb.2 b hb).trans e) f0 f1 f3 f4 f5
  obtain ⟨ob, e, c, d⟩ := id hit'
  exact ⟨_, rfl, jx (s := { s with heap := h' }) e c d (by decide) ⟨.ref t.2.1, H, I1, by rw [hk i t (by omega) hx]; rfl, ⟨rfl, t, hx, rfl⟩, ⟨hi, hit'⟩, fun b hb => (hf b hb).1⟩⟩
 done := by
  intro X hP hw hK hc i pins s sg H E I hf st hg
  subst hP hw hK
  obtain ⟨hH, hi⟩ := hg
  obtain ⟨g1, hl, hk⟩ := Rw I.hok hH hd
  obtain ⟨f0, f1, f2, f3, f4, f5⟩ := hf it (by simp)
  have hit := st.2
  rw [← hl] at hit
  exact abj (I.ok.hd hc) hit g1 hd (by omega) fun h' eb => ⟨rfl, I.turned (t' := s.toks) (fun b o hb e => eb b o hb e) f0 f1 f3 f4 f5⟩
 self := fun _ _ _ _ _ st h => wpAny_pyIter_keyiter st.2 h
theorem abl {A : Around} {E : Value → Shared → Prop} {s : Shared} {prog : Program} {w : World} {d : Addr} {ep : Nat} {od : Obj} {es : Array DictEntry} {Q : Value → Shared → Prop} (hs : (d == sysModules) = false) (g1 : s.heap.get? d = some od) (hx : od.ExactDict) (g2 : od.data = .dict es ep)
 (q : Q (.ref s.heap.objs.size) { s with heap := s.heap.push { cls := .type "dict_keyiterator", data := .fields #[.ref d, .int 0 0, .int es.size 0, .int ep 0] } }) : wpAny (model prog w) A (pyIter (.ref d)) Q E s := by
 have hT : s.TypeIs (.ref d) "dict" := ⟨od, g1, hx.1⟩
 refine wpAny_pyIter_slot hT F.slot_dict_iter (wpAny_call_entry F.slot_dict_iter hT F.entry_dict_iter ?_ (F.args_dict_iter_1 _)); unfold Builtin.«dict.__iter__»; refine wpAny_bind ?_; unfold Builtin.Dict.dictSlotNone
 refine wpAny_bind (wpAny_notOrdered_dict hT ?_); show wpAny _ _ (pure (Value.ref d)) _ _ s; refine wpAny_pure ?_; show wpAny _ _ (Builtin.Dict.showsAll d >>= _) _ _ s; unfold Builtin.Dict.showsAll
 rw [hs, if_neg Bool.false_ne_true]; refine wpAny_bind (wpAny_pure (wpAny_bind (wpAny_dictEntries g1 g2 (wpAny_bind (wpAny_dictEpoch g1 g2 ?_)))))
 refine wpAny_bind (wpAny_newObj_type (wpAny_pure ⟨_, rfl, "dict_keyiterator", _, ⟨_, Heap.get?_push_size _ rfl, rfl⟩, F.slot_dict_keyiterator_next.lookup, ?_⟩)); simpa [rawInt] using q
def abm (w : World) (tl : TE) : TI := fun sg H R => tl sg H fun x H1 => ∃ a xs, x = .ref a ∧ H1 a = some (.ext (Am w a xs)) ∧ ∀ o, R (ItN w a o xs) (upd H1 a (.frz o (.ext (Am w a xs))))
theorem abn {w : World} {tg l : Expr} {tl : TE} (hl : PE X l tl) : PI X tg l (abm w tl) := by
 intro pins s sg H R I h
 refine thn (hl pins s sg H _ I h) fun v s1 ⟨x, H1, I1, r1, q1⟩ => ?_
 obtain ⟨a, xs, rfl, hH, q⟩ := q1
 cases r1
 obtain ⟨nd, hx2, loc⟩ := (show Bs X.prog X.w H1 s1.heap a (.ext _) from I1.hok a _ hH)
 obtain ⟨hm, hz, hn, o, es, ep, ho, r1, hd, r3⟩ := id nd
 have hlv : es.size = xs.length := by have := Paired.length r3; simpa using this.symm
 have I2 : Inv X pins sg (upd H1 a (.frz o (.ext (Am w a xs)))) s1 := I1.write (x := a) (e := a) (o := .frz o (.ext (Am w a xs))) (h' := s1.heap) (t' := s1.toks) (by rw [hH]; exact True.intro) (.inl rfl) (fun _ _ _ e => e) ⟨o, ho⟩ ⟨ho, nd, hx2, loc⟩
 refine abl hm ho r1 hd ?_
 refine ⟨s1.heap.objs.size, [s1.heap.objs.size], _, _, _, rfl, I2.kept (t' := s1.toks) fun b o e => Heap.get?_push_of_some _ e, abk (xs := xs) hd a _, ⟨Nat.zero_le _, _, Heap.get?_push_size _ rfl, rfl, by rw [hlv]; rfl⟩, fun b hb => ?_, q o⟩
 have e : b = s1.heap.objs.size := by simpa using hb
 subst e
 exact I2.fpOk (Nat.le_refl _) (I2.hok.fresh (Nat.le_refl _))
section
variable {prog : Program} {w : World} {A : Around} {E : Value → Shared → Prop}
theorem abo {s : Shared} {it d : Addr} {i ep : Nat} {od : Obj} {es : Array DictEntry} {k0 v0 : Value} {Q : Option Value → Shared → Prop} (hi : IsItemIter s.heap it d i es.size ep k0 v0) (g1 : s.heap.get? d = some od) (g2 : od.data = .dict es ep) (hl : i < es.size)
 (q : ∀ h', IsItemIterOut h' it d (i + 1) es.size ep es[i].key es[i].val s.heap.objs.size → h'.get? s.heap.objs.size = some { cls := .type "tuple", data := .seq #[es[i].key, es[i].val] } → h'.objs.size = s.heap.objs.size + 1 → (∀ b o, b ≠ it → s.heap.get? b = some o → h'.get? b = some o) → Q (some (.ref s.heap.objs.size)) { s with heap := h' }) :
 wpAny (model prog w) A (pyNext (.ref it)) Q E s := by
 obtain ⟨hp, gg, dr, tk, os⟩ := s
 have hT : Shared.TypeIs ⟨hp, gg, dr, tk, os⟩ (.ref it) "dict_itemiterator" := ⟨_, hi, rfl⟩
 have tn : ∀ {Q' : String → Shared → Prop} {A' : Around} {E' : Value → Shared → Prop}, Q' "dict_itemiterator" ⟨hp, gg, dr, tk, os⟩ → wpAny (model prog w) A' (typeNameOfWhole (.ref it)) Q' E' ⟨hp, gg, dr, tk, os⟩ := fun {_ _ _} h => wpAny_typeNameOfWhole_itemiter hT h
 unfold pyNext
 refine wpAny_bind (wpAny_attempt (wpAny_callSpecial?_slot (name := Str.ofString "__next__") hT F.slot_dict_itemiterator_next (wpAny_call_entry F.slot_dict_itemiterator_next hT F.entry_dict_itemiterator_next ?_ (F.args_dict_itemiterator_next_1 _))))
 refine wpAny_bind (wpAny_pure (wpAny_bind (wpAny_bind (wpAny_bind (tn (wpAny_pure (wpAny_bind (wpAny_fieldsOf hi rfl ?_))))))))
 have ow : Builtin.Dict_items.ownsTuple "dict_itemiterator" = true := by decide
 simp only [ow, if_true]; show wpAny _ _ (if (Value.ref d == Value.none) = true then _ else _) _ _ _; rw [if_neg (c := (Value.ref d == Value.none) = true) Bool.false_ne_true]
 refine wpAny_bind (wpAny_pure (wpAny_bind (wpAny_dictEntries g1 g2 ?_))); rw [if_neg (by simp)]
 refine wpAny_bind (wpAny_pure (wpAny_bind (wpAny_dictEpoch g1 g2 ?_))); rw [if_neg (by simp)]
 refine wpAny_pure ?_; simp only [show ¬ ((i : Int) < 0) by omega, if_false, Int.toNat_natCast, Array.getElem?_eq_getElem hl]
 refine wpAny_bind (wpAny_bind (tn (wpAny_pure (wpAny_bind (wpAny_isOneOf_itemiter hT ?_)))))
 show wpAny _ _ (setField (.ref it) 3 (rawInt ((i : Int) + 1)) >>= _) _ _ ⟨hp, gg, dr, tk, os⟩; refine wpAny_bind (wpAny_setField_rec hi (by simp) fun h1 e1 b1 => ?_)
 replace b1 : Heap.SameBut it hp h1 := b1
 replace e1 : IsItemIter h1 it d (i + 1) es.size ep k0 v0 := by
  unfold IsItemIter; rw [show ((i + 1 : Nat) : Int) = (i : Int) + 1 by omega]; simpa [rawInt] using e1
 have hT1 : Shared.TypeIs ⟨h1, gg, dr, tk, os⟩ (.ref it) "dict_itemiterator" := ⟨_, e1, rfl⟩
 refine wpAny_bind (wpAny_holding (wpAny_bind (wpAny_isOneOf_itemiter hT1 (wpAny_bind (wpAny_isOneOf_itemiter hT1 ?_)))))
 show wpAny _ _ (Builtin.Dict_items.pairFromOwner (.ref it) 6 es[i].key es[i].val) _ _ ⟨h1, gg, dr, tk, os⟩; unfold Builtin.Dict_items.pairFromOwner; refine wpAny_bind (wpAny_newTuple ?_)
 have z1 : h1.objs.size = hp.objs.size := b1.1
 have il : it < hp.objs.size := Heap.lt_size hi
 obtain ⟨h2, eh⟩ : ∃ h2, h2 = h1.push { cls := .type "tuple", data := .seq #[es[i].key, es[i].val] } := ⟨_, rfl⟩
 have e2 : IsItemIter h2 it d (i + 1) es.size ep k0 v0 := by rw [eh]; exact Heap.get?_push_of_some _ e1
 have t2 : h2.get? hp.objs.size = some { cls := .type "tuple", data := .seq #[es[i].key, es[i].val] } := by rw [eh, ← z1]; exact Heap.get?_push_size _ rfl
 have z2 : h2.objs.size = hp.objs.size + 1 := by rw [eh, Heap.size_push, z1]
 have k2 : ∀ b o, b ≠ it → hp.get? b = some o → h2.get? b = some o := fun b o hb e => by rw [eh]; exact Heap.get?_push_of_some _ (b1.extBut b o hb e)
 show wpAny _ _ (Builtin.Dict_items.ownedTupleIsFree (.ref it) >>= _) _ _ ⟨h1.push _, gg, dr, tk, os⟩
 rw [← eh]; show wpAny _ _ (Builtin.Dict_items.ownedTupleIsFree (.ref it) >>= _) _ _ ⟨h2, gg, dr, tk, os⟩
 simp only [z1]; clear eh e1 b1 hT1 z1 h1
 refine wpAny_bind ?_; unfold Builtin.Dict_items.ownedTupleIsFree; refine wpAny_bind (wpAny_field e2 rfl (x := .none) rfl (wpAny_pure ?_)); simp only [if_true]
 refine wpAny_bind (wpAny_field e2 rfl (x := k0) rfl (wpAny_bind (wpAny_field e2 rfl (x := v0) rfl (wpAny_bind (wpAny_setField_rec e2 (by simp) fun h3 e3 b3 => ?_)))))
 replace b3 : Heap.SameBut it h2 h3 := b3
 replace e3 : IsItemIter h3 it d (i + 1) es.size ep es[i].key v0 := e3
 refine wpAny_bind (wpAny_setField_rec e3 (by simp) fun h4 e4 b4 => ?_)
 replace b4 : Heap.SameBut it h3 h4 := b4
 replace e4 : IsItemIter h4 it d (i + 1) es.size ep es[i].key es[i].val := e4
 refine wpAny_bind (wpAny_setField_rec e4 (by simp) fun h5 e5 b5 => ?_)
 replace b5 : Heap.SameBut it h4 h5 := b5
 replace e5 : IsItemIterOut h5 it d (i + 1) es.size ep es[i].key es[i].val hp.objs.size := e5
 refine wpAny_bind (wpAny_setField_rec e5 (by simp) fun h6 e6 b6 => ?_)
 replace b6 : Heap.SameBut it h5 h6 := b6
 replace e6 : IsItemIterOut h6 it d (i + 1) es.size ep es[i].key es[i].val hp.objs.size := e6
 have up : ∀ b o, b ≠ it → h2.get? b = some o → h6.get? b = some o := fun b o hb e => b6.extBut b o hb (b5.extBut b o hb (b4.extBut b o hb (b3.extBut b o hb e)))
 exact wpAny_bind (wpAny_letGo (wpAny_pure (wpAny_pure ⟨_, rfl, wpAny_pure (q h6 e6 (up _ _ (Nat.ne_of_gt il) t2) (by show h6.objs.size = hp.objs.size + 1; rw [b6.1, b5.1, b4.1, b3.1, z2]) fun b o hb e => up b o hb (k2 b o hb e))⟩)))
theorem abp {s : Shared} {it d : Addr} {i ep : Nat} {od : Obj} {es : Array DictEntry} {k0 v0 : Value} {Q : Option Value → Shared → Prop} (hc : A.handled = none) (hi : IsItemIter s.heap it d i es.size ep k0 v0) (g1 : s.heap.get? d = some od) (g2 : od.data = .dict es ep) (hl : es.size ≤ i)
 (q : ∀ h', Heap.ExtBut it s.heap h' → Q none { s with heap := h' }) : wpAny (model prog w) A (pyNext (.ref it)) Q E s := by
 have hT : s.TypeIs (.ref it) "dict_itemiterator" := ⟨_, hi, rfl⟩
 have tn : ∀ {Q' : String → Shared → Prop} {A' : Around} {E' : Value → Shared → Prop}, Q' "dict_itemiterator" s → wpAny (model prog w) A' (typeNameOfWhole (.ref it)) Q' E' s := fun {_ _ _} h => wpAny_typeNameOfWhole_itemiter hT h
 unfold pyNext
 refine wpAny_bind (wpAny_attempt (wpAny_callSpecial?_slot (name := Str.ofString "__next__") hT F.slot_dict_itemiterator_next (wpAny_call_entry F.slot_dict_itemiterator_next hT F.entry_dict_itemiterator_next ?_ (F.args_dict_itemiterator_next_1 _))))
 refine wpAny_bind (wpAny_pure (wpAny_bind (wpAny_bind (wpAny_bind (tn (wpAny_pure (wpAny_bind (wpAny_fieldsOf hi rfl ?_))))))))
 have ow : Builtin.Dict_items.ownsTuple "dict_itemiterator" = true := by decide
 simp only [ow, if_true]; show wpAny _ _ (if (Value.ref d == Value.none) = true then _ else _) _ _ s; rw [if_neg (c := (Value.ref d == Value.none) = true) Bool.false_ne_true]
 refine wpAny_bind (wpAny_pure (wpAny_bind (wpAny_dictEntries g1 g2 ?_))); rw [if_neg (by simp)]
 refine wpAny_bind (wpAny_pure (wpAny_bind (wpAny_dictEpoch g1 g2 ?_))); rw [if_neg (by simp)]
 refine wpAny_pure ?_; simp only [show ¬ ((i : Int) < 0) by omega, if_false, Int.toNat_natCast, Array.getElem?_eq_none hl]
 refine wpAny_bind (wpAny_bind (tn (wpAny_pure ?_))); show wpAny _ _ (setField (.ref it) 2 .none >>= _) _ _ s
 refine wpAny_bind (wpAny_setField hi rfl (by simp) ?_); show wpAny _ _ (newExc (.type "StopIteration") [] >>= _) _ _ _; refine wpAny_bind ?_; simp only [newExc, newTuple]
 refine wpAny_bind (wpAny_newObj_type (wpAny_bind (m := firstArgMember _ _) (wpAny_of_eq (a := Value.none) (by first | rfl | (simp only [firstArgMember]; rfl)) (wpAny_newObj_type ?_ (by size_fits)))) (by size_fits))
 simp only [raiseNew]; refine wpAny_bind (wpAny_handled ?_); rw [show A.in1.handled = none from hc]
 refine wpAny_bind (wpAny_pure (wpAny_throw ?_)); refine wpAny_bind (wpAny_isInstance (T := "StopIteration") (b := true) ⟨_, Heap.get?_push_size _ rfl, rfl⟩ isSubtype_stop ?_)
 exact wpAny_pure (q _ (((Heap.SameBut.update ..).extBut.push _).push _))
theorem abq {s : Shared} {v d : Addr} {ep : Nat} {od : Obj} {es : Array DictEntry} {Q : Value → Shared → Prop} (hv : s.heap.IsItemsView v d) (g1 : s.heap.get? d = some od) (g2 : od.data = .dict es ep)
 (q : Q (.ref s.heap.objs.size) { s with heap := s.heap.push { cls := .type "dict_itemiterator", data := .fields #[.none, .bool false, .ref d, .int 0 0, .int es.size 0, .int ep 0, .none, .none] } }) : wpAny (model prog w) A (pyIter (.ref v)) Q E s := by
 obtain ⟨o1, f1, f2, f3⟩ := id hv
 refine wpAny_pyIter_slot hv.typeIs F.slot_dict_items_iter (wpAny_call_entry F.slot_dict_items_iter hv.typeIs F.entry_dict_items_iter ?_ (F.args_dict_items_iter_1 _)); unfold Builtin.«dict_items.__iter__»
 refine wpAny_bind (wpAny_pure (wpAny_bind ?_)); unfold Builtin.Dict_items.dictOf; refine wpAny_bind (wpAny_field f1 f3 (x := .ref d) rfl (wpAny_pure (wpAny_bind ?_))); unfold Builtin.Dict_items.newIterator
 refine wpAny_bind (wpAny_dictEntries g1 g2 (wpAny_bind (wpAny_dictEpoch g1 g2 ?_)))
 have ow : Builtin.Dict_items.ownsTuple "dict_itemiterator" = true := by decide
 simp only [ow, if_true]
 refine wpAny_newObj_type (wpAny_pure ⟨_, rfl, "dict_itemiterator", _, ⟨_, Heap.get?_push_size _ rfl, rfl⟩, F.slot_dict_itemiterator_next.lookup, ?_⟩) (by simp only [sizeOk, Builtin.Dict_items.ownedTupleFields, List.size_toArray, List.length_append, List.length_cons, List.length_nil, sizeLine_eq]; omega)
 simpa [rawInt, Builtin.Dict_items.ownedTupleFields] using q
theorem abr {s : Shared} {d : Addr} {od : Obj} {Q : Value → Shared → Prop} (hs : (d == sysModules) = false) (g1 : s.heap.get? d = some od) (hx : od.ExactDict)
 (q : Q (.ref s.heap.objs.size) { s with heap := s.heap.push { cls := .type "dict_items", data := .fields #[.ref d] } }) : wpAny (model prog w) A (call (.builtin "dict.items") [.ref d]) Q E s := by
 have hT : s.TypeIs (.ref d) "dict" := ⟨od, g1, hx.1⟩
 refine wpAny_call_entry PySem.F.slot_dict_items hT PySem.F.entry_dict_items ?_ (PySem.F.args_dict_items_1 _); unfold Builtin.«dict.items»; refine wpAny_bind ?_; unfold Builtin.Dict.noArgs
 refine wpAny_bind (wpAny_notOrdered_dict hT ?_); show wpAny _ _ (pure d) _ _ s; refine wpAny_pure ?_; show wpAny _ _ (Builtin.Dict.showsAll d >>= _) _ _ s; unfold Builtin.Dict.showsAll
 rw [hs, if_neg Bool.false_ne_true]; refine wpAny_bind (wpAny_pure (wpAny_bind (wpAny_newObj_type (wpAny_pure ⟨_, rfl, q⟩))))
end
end DD
namespace DD
open PySem PySem.Spec L2
open PyProof.Rows hiding St RelV
variable {g : G} {X : Cx} {pos apos cpos : Pos} {F : Nat}
theorem Rx {P : Program} {w0 w : World} {H : Hp} {h : Heap} {a : Addr} {o : Obj} {xs : List (D × Addr × V)} {es : Array DictEntry} {ep : Nat} (hok : HOk P w0 H h) (e : H a = some (.frz o (.ext (Am w a xs)))) (hd : o.data = .dict es ep) : h.get? a = some o ∧ es.size = xs.length ∧ ∀ i t (hi : i < es.size), xs[i]? = some t → es[i].key = .ref t.2.1 ∧ RelV t.2.2 es[i].val := by
 obtain ⟨h1, ⟨_, _, _, o', es', ep', h2, r1, r2, r3⟩, _⟩ := (show Bs P w0 H h a (.frz o (.ext _)) from hok a _ e)
 rw [h1] at h2; cases h2
 rw [hd] at r2; cases r2
 have hl := Paired.length r3
 refine ⟨h1, by simpa using hl.symm, fun i t hi ht => ?_⟩
 obtain ⟨y, e1, e2⟩ := Nr r3 ht
 have : y = es[i] := by simpa [hi] using e1.symm
 rw [← this]; exact e2.2
theorem abt : entryFor table "dict_itemiterator.__iter__" = some Builtin.«dict_keyiterator.__iter__» := by exact entryFor_alias (id' := "dict_keyiterator.__iter__") (by kernel_rfl) rfl (by decide +kernel) (by kernel_rfl)
theorem abu {P : Program} {w : World} {A : Around} {E : Value → Shared → Prop} {s : Shared} {it d : Addr} {i n ep : Nat} {k0 v0 : Value} {Q : Value → Shared → Prop} (hi : IsItemIter s.heap it d i n ep k0 v0) (h : Q (.ref it) s) : wpAny (model P w) A (pyIter (.ref it)) Q E s := by
 have hT : s.TypeIs (.ref it) "dict_itemiterator" := ⟨_, hi, rfl⟩
 exact wpAny_pyIter_slot hT F.slot_dict_itemiterator_iter (wpAny_call_entry F.slot_dict_itemiterator_iter hT abt (wpAny_pure ⟨_, rfl, "dict_itemiterator", _, hT, F.slot_dict_itemiterator_next.lookup, h⟩) (F.args_dict_itemiterator_iter_1 _))
def ItP (w : World) (a : Addr) (o : Obj) (xs : List (D × Addr × V)) : It := ⟨fun i H => H a = some (.frz o (.ext (Am w a xs))) ∧ i < xs.length, fun i H x H' => ∃ b t, x = .ref b ∧ H b = none ∧ xs[i]? = some t ∧ H' = upd H b (.tup [.ref t.2.1, t.2.2]), fun i H => H a = some (.frz o (.ext (Am w a xs))) ∧ xs.length ≤ i⟩
theorem abv {P : Program} {w0 w : World} {K : PySem.W.Frag} {elts : List Expr} {x1} {pt : Pos} {xs : List (D × Addr × V)} {o : Obj} {es : Array DictEntry} {ep : Nat} (hd : o.data = .dict es ep) (a it : Addr) : Turn P w0 K (.Tuple elts x1 pt) (ItP w a o xs) [it] it (fun i h => i ≤ xs.length ∧ ∃ k0 v0, IsItemIter h it a i xs.length ep k0 v0) where
 mem := by simp
 obj := fun i h st b hb => by
  have e : b = it := by simpa using hb
  subst e
  obtain ⟨_, k0, v0, e⟩ := st
  exact ⟨_, e, fun v z => by cases z⟩
 keep := fun i h h' st k => let ⟨h1, k0, v0, e⟩ := st; ⟨h1, k0, v0, k it (by simp) _ e⟩
 item := by
  intro X hP hw hK hc i pins s sg H E I hf st hg
  subst hP hw hK
  obtain ⟨hH, hi⟩ := hg
  obtain ⟨g1, hl, hk⟩ := Rx I.hok hH hd
  obtain ⟨t, hx⟩ : ∃ p, xs[i]? = some p := ⟨xs[i], List.getElem?_eq_getElem hi⟩
  obtain ⟨ek, rv⟩ := hk i t (by omega) hx
  obtain ⟨_, k0, v0, hit⟩ := st
  rw [← hl] at hit
  have hlt : it < s.heap.objs.size := Heap.lt_size hit
  refine abo hit g1 hd (by omega) fun h' ho hT hsz hkp => ?_
  refine ⟨_, rfl, wpAny_letOwnedTupleGo_items ho fun h2 he2 hs2 => ?_⟩
  have hn : H s.heap.objs.size = none := I.hok.fresh (Nat.le_refl _)
  have I1 := I.laid (a := s.heap.objs.size) (o := .tup [.ref t.2.1, t.2.2]) (h' := s.heap.push { cls := .type "tuple", data := .seq #[es[i].key, es[i].val] }) (t' := s.toks) (fun b u e => Heap.get?_push_of_some _ e) (Nat.le_refl _)
   ⟨by rw [sizeLine_eq]; simp, [es[i].key, es[i].val], .cons (by rw [ek]; rfl) (.cons rv .nil), ⟨_, Heap.get?_push_size _ rfl, rfl, _, rfl⟩⟩
  have hf1 : ∀ b ∈ [it], Co X pins (upd H s.heap.objs.size (.tup [.ref t.2.1, t.2.2])) b := fun b hb => by
   have hbt : b = it := by simpa using hb
   exact ⟨by rw [As (by rw [hbt]; exact Nat.ne_of_lt hlt)]; exact (hf b hb).1, (hf b hb).2⟩
  have I2 := Nq (t' := s.toks) (h' := h2) I1 hf1 fun b o hb q => by
   have hbi : b ≠ it := fun z => hb (by simp [z])
   by_cases hbs : b = s.heap.objs.size
   · subst hbs
     rw [Heap.get?_push_size _ rfl] at q
     cases q
     exact (hs2.2 _ hbi).trans hT
   · have q' : s.heap.get? b = some o := (Heap.get?_push_cases q).elim (fun z => absurd z.1 hbs) id
     exact (hs2.2 _ hbi).trans (hkp b o hbi q')
  refine ⟨.ref s.heap.objs.size, _, I2, rfl, ⟨_, t, rfl, hn, hx, rfl⟩, ⟨hi, _, _, by rw [← hl]; exact he2⟩, fun b hb => (hf1 b hb).1⟩
 done := by
  intro X hP hw hK hc i pins s sg H E I hf st hg
  subst hP hw hK
  obtain ⟨hH, hi⟩ := hg
  obtain ⟨g1, hl, hk⟩ := Rx I.hok hH hd
  obtain ⟨f0, f1, f2, f3, f4, f5⟩ := hf it (by simp)
  obtain ⟨_, k0, v0, hit⟩ := st
  rw [← hl] at hit
  exact abp (I.ok.hd hc) hit g1 hd (by omega) fun h' eb => ⟨rfl, I.turned (t' := s.toks) (fun b o hb e => eb b o hb e) f0 f1 f3 f4 f5⟩
 self := fun A i s Q E st h => let ⟨_, k0, v0, e⟩ := st; abu e h
def abw (w : World) (tl : TE) : TI := fun sg H R => tl sg H fun x H1 => ∃ a xs, x = .ref a ∧ H1 a = some (.ext (Am w a xs)) ∧ ∀ o, R (ItP w a o xs) (upd H1 a (.frz o (.ext (Am w a xs))))
theorem Ry {w : World} {elts : List Expr} {x1} {pt : Pos} {l : Expr} {tl : TE} (hl : PE X l tl) (hbase : attributeBase l "items" X.env (eval l X.env) = eval l X.env := by rfl) (hline : (apos.endLine == cpos.line) = true := by rfl) : PI X (.Tuple elts x1 pt) (.Call (.Attribute l "items" apos) [] [] cpos) (abw w tl) := by
 intro pins s sg H R I h
 refine wpAny_Call_method0_late hbase hline (thn (hl pins s sg H _ I h) fun v s1 ⟨x, H1, I1, r1, q1⟩ => ?_)
 obtain ⟨a, xs, rfl, hH, q⟩ := q1
 cases r1
 obtain ⟨nd, hx2, loc⟩ := (show Bs X.prog X.w H1 s1.heap a (.ext _) from I1.hok a _ hH)
 obtain ⟨hm, hz, hn, o, es, ep, ho, r1, hd, r3⟩ := id nd
 have hlv : es.size = xs.length := by have := Paired.length r3; simpa using this.symm
 have I2 : Inv X pins sg (upd H1 a (.frz o (.ext (Am w a xs)))) s1 := I1.write (x := a) (e := a) (o := .frz o (.ext (Am w a xs))) (h' := s1.heap) (t' := s1.toks) (by rw [hH]; exact True.intro) (.inl rfl) (fun _ _ _ e => e) ⟨o, ho⟩ ⟨ho, nd, hx2, loc⟩
 refine ⟨"dict", "dict.items", PySem.F.plainAttrs_dict, PySem.F.slot_dict_items, PySem.F.type_dict_items, ⟨o, ho, r1.1⟩, fun b e => (by cases e; exact ⟨o, ho, r1.2.1⟩), Calls.callWith_builtin rfl (PySem.evalArgs_none (abr hm ho r1 ?_))⟩
 refine abq (d := a) ⟨_, Heap.get?_push_size _ rfl, rfl, rfl⟩ (Heap.get?_push_of_some _ ho) hd ?_
 have I3 := I2.kept (t' := s1.toks) (h' := s1.heap.push { cls := .type "dict_items", data := .fields #[.ref a] }) fun b o e => Heap.get?_push_of_some _ e
 generalize s1.heap.push { cls := .type "dict_items", data := .fields #[.ref a] } = h3 at *
 refine ⟨h3.objs.size, [h3.objs.size], _, _, _, rfl, I3.kept (t' := s1.toks) fun b o e => Heap.get?_push_of_some _ e, abv (xs := xs) hd a _, ⟨Nat.zero_le _, .none, .none, by rw [← hlv]; exact Heap.get?_push_size _ rfl⟩, fun b hb => ?_, q o⟩
 have e : b = h3.objs.size := by simpa using hb
 subst e
 exact I3.fpOk (Nat.le_refl _) (I3.hok.fresh (Nat.le_refl _))
variable {g : G} {X : Cx} {pos apos cpos : Pos} {F : Nat}
theorem Nt {rho : List Addr} {H : Hp} : ∀ {kvs : List (D × D)} {xs : List (D × Addr × V)} {i : Nat} {d y : D}, Aj g.K rho H kvs xs → kvs[i]? = some (d, y) → ∃ t, xs[i]? = some t ∧ g.Rep rho H d (.ref t.2.1) ∧ g.Rep rho H y t.2.2
 | [], xs, i, d, y, _, e => by simp at e
 | (x, z) :: r, xs, 0, d, y, h, e => by
  simp only [Aj] at h
  obtain ⟨b, v, t, rfl, _, r1, r2, _⟩ := h
  simp at e
  obtain ⟨rfl, rfl⟩ := e
  exact ⟨_, rfl, r1, r2⟩
 | (x, z) :: r, xs, i + 1, d, y, h, e => by
  simp only [Aj] at h
  obtain ⟨b, v, t, rfl, _, _, _, hr⟩ := h
  obtain ⟨t2, h1, h2⟩ := Nt hr (by simpa using e)
  exact ⟨t2, by simpa using h1, h2⟩
variable {g : G} {X : Cx} {pos apos cpos : Pos} {F : Nat}
section
variable {K : PySem.W.Frag} {cls : CW} {r : List Addr} {H H2 : Hp}
mutual
theorem Km (k : ∀ a xs, SqT K H a xs → SqT K H2 a xs) : ∀ {d : D} {v : V}, Rep K r H d v → Rep K r H2 d v
 | .non, v, h => by simpa [Rep] using h
 | .bl b, v, h => by simpa [Rep] using h
 | .int b, v, h => by simpa [Rep] using h
 | .str b, v, h => by simpa [Rep] using h
 | .loc n, v, h => by simpa [Rep] using h
 | .tup ds, v, h => by
  simp only [Rep] at h ⊢
  obtain ⟨a, vs, e, q, l⟩ := h
  exact ⟨a, vs, e, k a vs q, Jj k l⟩
theorem Jj (k : ∀ a xs, SqT K H a xs → SqT K H2 a xs) : ∀ {d : List D} {v : List V}, RepL K r H d v → RepL K r H2 d v
 | [], v, h => by simpa [RepL] using h
 | x :: t, v, h => by
  simp only [RepL] at h ⊢
  obtain ⟨y, u, e, p, q⟩ := h
  exact ⟨y, u, e, Km k p, Jj k q⟩
end
theorem Kn (k : ∀ a xs, SqT K H a xs → SqT K H2 a xs) : ∀ {kvs : List (D × D)} {ws : List (D × Addr × V)}, Aj K r H kvs ws → Aj K r H2 kvs ws
 | [], ws, h => by simpa [Aj] using h
 | (x, d) :: t, ws, h => by
  simp only [Aj] at h ⊢
  obtain ⟨b, v, u, e, p, q, q2, w⟩ := h
  exact ⟨b, v, u, e, p, Km k q, Km k q2, Kn k w⟩
theorem abx (k : ∀ a xs, SqT K H a xs → SqT K H2 a xs) (kf : ∀ b o, H b = some (.frz o (.own 0)) → H2 b = some (.frz o (.own 0))) {a : Addr} {c : Cell} (h : Dx K cls r H a c) (e : ∀ o, H a = some o → H2 a = some o) : Dx K cls r H2 a c := by
 cases c with
 | lst ds => obtain ⟨vs, p, q⟩ := h; exact ⟨vs, e _ p, Jj k q⟩
 | frz ds =>
  obtain ⟨vs, p, q⟩ := h
  refine ⟨vs, ?_, Jj k q⟩
  rcases p with ⟨o, p⟩ | p
  · exact .inl ⟨o, e _ p⟩
  · exact .inr p
 | dcn kvs => obtain ⟨ws, p, q⟩ := h; exact ⟨ws, e _ p, Kn k q⟩
 | dcg kvs => obtain ⟨ws, o, p, q⟩ := h; exact ⟨ws, o, e _ p, Kn k q⟩
 | lamT => exact Gp.mono h kf e
 | fnl => exact Dw.mono h kf
theorem nu {a : Addr} {o : Obj} {φ : Heap → Prop} (e : H a = some (.frz o (.ext φ))) : ∀ b xs, SqT K H b xs → SqT K (upd H a (.ext φ)) b xs := fun b xs h => by
 rcases h with h | h
 · rcases h with h | ⟨o2, h⟩
   · exact .inl (.inl (by rw [As (Cz h e nofun)]; exact h))
   · exact .inl (.inr ⟨o2, by rw [As (Cz h e (fun z => by cases z))]; exact h⟩)
 · exact .inr h
theorem aby {r0 : List Addr} {H0 : Hp} {a : Addr} {o : Obj} {φ : Heap → Prop} (k : Keep K r0 H0 r H) (h0 : ∀ o u, H0 a ≠ some (.frz o u)) (e : H a = some (.frz o (.ext φ))) : Keep K r0 H0 r (upd H a (.ext φ)) :=
 ⟨k.ext, fun b xs h => nu e b xs (k.tup b xs h), fun b u x h => by
  have hb : b ≠ a := fun z => h0 u x (by rw [← z]; exact h)
  rw [As hb]; exact k.fz b u x h⟩
theorem abz {st : Sto} {n : Nat} {a : Addr} {kvs : List (D × D)} (s : StoRep K cls r st H) (ha : r[n]? = some a) (hc : st[n]? = some (.dcg kvs)) :
 ∃ xs o, H a = some (.frz o (.ext (Am cls.w a xs))) ∧ StoRep K cls r (st.set n (.dcn kvs)) (upd H a (.ext (Am cls.w a xs))) := by
 obtain ⟨xs, o, e, nv⟩ := s.cells n a _ ha hc
 have hk := nu (K := K) e
 refine ⟨xs, o, e, by simp [s.len], fun m1 m2 b c d h1 h2 h3 h4 t1 t2 => ?_, fun m b c h1 h2 => ?_⟩
 · have tr : ∀ (m : Nat) (c : Cell), (st.set n (.dcn kvs))[m]? = some c → trk c = true → ∃ c', st[m]? = some c' ∧ trk c' = true := fun m c h t => by
    rw [List.getElem?_set] at h
    by_cases z : n = m
    · subst z; exact ⟨_, hc, rfl⟩
    · rw [if_neg z] at h; exact ⟨c, h, t⟩
   obtain ⟨c1, e1, f1⟩ := tr m1 c h3 t1
   obtain ⟨c2, e2, f2⟩ := tr m2 d h4 t2
   exact s.nd m1 m2 b c1 c2 h1 h2 e1 e2 f1 f2
 · rw [List.getElem?_set] at h2
   by_cases z : n = m
   · subst z
     rw [if_pos rfl] at h2
     rw [ha] at h1; cases h1
     rw [if_pos (List.getElem?_eq_some_iff.mp hc).1] at h2
     cases h2
     exact ⟨xs, Bm, Kn hk nv⟩
   · rw [if_neg z] at h2
     cases ht : trk c with
     | true =>
      have hne : b ≠ a := fun w => by
       subst w
       exact z (s.nd n m b _ c ha h1 hc h2 rfl ht)
      exact abx hk (fun b o h => by rw [As (Cz h e (fun z => by cases z))]; exact h) (s.cells m b c h1 h2) fun o ho => by rw [As hne]; exact ho
     | false =>
      cases c with
      | frz xs =>
       obtain ⟨us, p, q⟩ := s.cells m b (.frz xs) h1 h2
       refine ⟨us, ?_, Jj hk q⟩
       rcases p with ⟨o2, p⟩ | p
       · exact .inl ⟨o2, by rw [As (Cz p e (fun z => by cases z))]; exact p⟩
       · exact .inr p
      | _ => cases ht
theorem aca (k : ∀ a xs, SqT K H a xs → SqT K H2 a xs) {env : Env} {sg : L2.St} (h : EnvRep K r H env sg) : EnvRep K r H2 env sg :=
 ⟨h.len, fun i d e => let ⟨v, p, q⟩ := h.val i d e; ⟨v, p, Km k q⟩⟩
end
theorem acb {pins : List (Addr × Obj)} {sg : L2.St} {H : Hp} {s : Shared} {a : Addr} {o : Obj} {φ : Heap → Prop} (I : Inv X pins sg H s) (h0 : ∀ o u, X.H₀ a ≠ some (.frz o u)) (e : H a = some (.frz o (.ext φ))) : Inv X pins sg (upd H a (.ext φ)) s := by
 have nn : ∀ b, H b = none → (upd H a (.ext φ)) b = none := fun b h => by rw [As (fun z => by rw [z, e] at h; cases h)]; exact h
 have nt : ∀ b xs, H b = some (.tup xs) → (upd H a (.ext φ)) b = some (.tup xs) := fun b xs h => by rw [As (fun z => by rw [z, e] at h; cases h)]; exact h
 have no : ∀ b c, H b = some (.own c) → (upd H a (.ext φ)) b = some (.own c) := fun b xs h => by rw [As (fun z => by rw [z, e] at h; cases h)]; exact h
 refine ⟨I.ok, I.os, I.bare, ⟨I.base.keep, I.base.slot, fun b u q n x => nn b (I.base.free b u q n x), I.base.there, fun b xs q => nt b xs (I.base.tups b xs q), fun b u x q => ?_, fun b ps q => ?_⟩, I.loc, I.cell, nn _ I.free, fun x c q => nn c (I.freeC x c q), fun p hp => ?_, fun b u q => ?_, I.len⟩
 · have hb : b ≠ a := fun z => h0 u x (by rw [← z]; exact q)
   rw [As hb]; exact I.base.frzs b u x q
 · obtain ⟨more, q2⟩ := I.base.tbls b ps q
   exact ⟨more, by rw [As (fun z => by rw [z, e] at q2; cases q2)]; exact q2⟩
 · obtain ⟨p1, p2, p3⟩ := I.pin p hp
   exact ⟨p1, nn _ p2, p3⟩
 · by_cases hb : b = a
   · subst hb
     rw [Bm] at q; cases q
     exact (I.hok b _ e).2.stay (fun _ _ _ z => z) (fun c z => no c _ z) nt
   · rw [As hb] at q
     exact (I.hok b u q).stay (fun _ _ _ z => z) (fun c z => no c _ z) nt
def acd (t : TS) : TS := fun D sg H => t { D with nx := fun sg1 H1 => ∃ a o φ, (∀ o u, H a ≠ some (.frz o u)) ∧ H1 a = some (.frz o (.ext φ)) ∧ D.nx sg1 (upd H1 a (.ext φ)) } sg H
theorem Rz {st : Stmt} {t : TS} (h : PS X st t) : PS X st (acd t) := fun pins s sg H D I q => thn (h pins s sg H _ I q) fun f s' r => by
 cases f with
 | next =>
  obtain ⟨sg', H', I', a, o, φ, h0, e, q⟩ := r
  exact ⟨sg', _, acb I' (fun o u z => h0 o u (I.base.frzs _ _ _ z)) e, q⟩
 | _ => exact r
theorem Nu {J : It} {ws : List D} {ok : Sto → Bool} {T : TG} {sf : D → Env → Option Env} {x' : Ss} {r1 : List Addr} {H1 : Hp} {D : Ends} {sg : L2.St} {st1 : Sto} {env : Env}
 (hJ : ∀ rho st H, g.Keep r1 H1 rho H → g.Sto rho st H → ok st = true → J.stop ws.length H ∧ ∀ (i : Nat) (d : DD.D), ws[i]? = some d → J.go i H ∧ ∀ x H', J.yld i H x H' → Bo H H' ∧ g.Rep rho H' d x)
 (hT : ∀ (rho : List Addr) (H : Hp) (Q : L2.St → Hp → Prop) (d : DD.D) (v : V) (env env' : Env) (sg : L2.St), sf d env = some env' → g.Rep rho H d v → g.Env rho H env sg → (∀ sg', g.Env rho H env' sg' → Q sg' H) → T v sg H Q)
 (s1 : g.Sto r1 st1 H1) (n1 : g.Env r1 H1 env sg) (q1 : RQ g (Cr ok (fun d env st => match sf d env with | some env' => ao g.tab g.call F x' env' st | none => .bad) ws env st1) (ar g r1 H1 D) r1 H1) :
 ∃ W : Nat → Nat → L2.St → Hp → Prop, (∃ m, W 0 m sg H1) ∧ ∀ i m sg H, W i m sg H →
  (J.stop i H ∧ D.nx sg H) ∨ (J.go i H ∧ ∃ N : L2.St → Hp → Prop, (∀ sg' H', N sg' H' → ∃ m', m' < m ∧ W (i + 1) m' sg' H') ∧ ∀ x H', J.yld i H x H' → T x sg H' fun sg2 H2 => tSs g F x' { D with nx := N, ct := N, bk := D.nx } sg2 H2) := by
 refine ⟨fun i m sg H => m = ws.length - i ∧ i ≤ ws.length ∧ ∃ rho st env, g.Keep r1 H1 rho H ∧ g.Sto rho st H ∧ g.Env rho H env sg ∧ RQ g (Cr ok (fun d env st => match sf d env with | some env' => ao g.tab g.call F x' env' st | none => .bad) (ws.drop i) env st) (ar g rho H D) rho H, ⟨ws.length, by simp, Nat.zero_le _, r1, st1, env, .refl _ _, s1, n1, q1⟩, ?_⟩
 rintro i m sg H ⟨rfl, hi, rho, st, env, kk, s, n, q⟩
 have hst : ok st = true := by
  cases z : ok st with
  | true => rfl
  | false =>
   exfalso
   cases e : ws.drop i with
   | nil => rw [e] at q; simp only [Cr, z] at q; exact q
   | cons d t => rw [e] at q; simp only [Cr, z] at q; exact q
 obtain ⟨h1, h2⟩ := hJ rho st H kk s hst
 by_cases hlt : i < ws.length
 · rw [List.drop_eq_getElem_cons hlt] at q
   simp only [Cr, hst, if_true] at q
   obtain ⟨hgo, hy⟩ := h2 i ws[i] (List.getElem?_eq_getElem hlt)
   refine .inr ⟨hgo, fun sg H => i + 1 ≤ ws.length ∧ ∃ rho st env, g.Keep r1 H1 rho H ∧ g.Sto rho st H ∧ g.Env rho H env sg ∧ RQ g (Cr ok (fun d env st => match sf d env with | some env' => ao g.tab g.call F x' env' st | none => .bad) (ws.drop (i + 1)) env st) (ar g rho H D) rho H, fun sg' H' h => ⟨ws.length - (i + 1), by omega, rfl, h.1, h.2⟩, fun x H' y => ?_⟩
   obtain ⟨eS, rx⟩ := hy x H' y
   have k0 : g.Keep rho H rho H' := Bo.keep eS rho
   have q := RQ.mono k0 q fun f st p => ar.mono k0 p
   have kk := kk.trans k0
   have s := s.same eS
   have n := n.mono k0
   cases es : sf ws[i] env with
   | none => rw [es] at q; exact q.elim
   | some env1 =>
    rw [es] at q
    refine hT rho H' _ _ x env env1 sg es rx n fun sg1 n1 => ?_
    refine ⟨rho, st, env1, s, n1, ?_⟩
    revert q
    simp only
    cases ao g.tab g.call F x' env1 st with
    | bad => exact fun q => q
    | exc c st2 => exact fun q => q
    | ok f st2 =>
     simp only [Bf]
     cases f with
     | next env2 => exact fun q sg2 H2 r2 k2 s2 n2 => ⟨hlt, r2, st2, env2, kk.trans k2, s2, n2, RQ.mono k2 q fun f st p => ar.mono k2 p⟩
     | cont env2 => exact fun q sg2 H2 r2 k2 s2 n2 => ⟨hlt, r2, st2, env2, kk.trans k2, s2, n2, RQ.mono k2 q fun f st p => ar.mono k2 p⟩
     | brk env2 => exact fun q => q
     | ret d => exact fun q => q
 · have e : i = ws.length := by omega
   subst e
   refine .inl ⟨h1, ?_⟩
   rw [List.drop_eq_nil_of_le (Nat.le_refl _)] at q
   simp only [Cr, hst, if_true] at q
   exact (show ar g rho H D (.next env) st from q) sg H rho (.refl _ _) s n
theorem Sa {kd : Bool} {n : Nat} {a : Addr} {rho r1 : List Addr} {H H1 : Hp} {o : HO} {D : Ends} {kvs : List (DD.D × DD.D)} {r : Res Fl} (h0 : ∀ o u, H a ≠ some (.frz o u)) (k1 : g.Keep rho H r1 H1) (hr : r1[n]? = some a)
 (q : RQ g (r.bind fun f st' => (match f with | .next env' => (match ja n st' with | some st2 => .ok (.next env') st2 | none => .bad) | f => .ok f st')) (ar g rho H D) r1 H1) :
 RQ g r (ar g r1 H1 { D with nx := fun sg1 H1 => ∃ a o φ, (∀ o u, H a ≠ some (.frz o u)) ∧ H1 a = some (.frz o (.ext φ)) ∧ D.nx sg1 (upd H1 a (.ext φ)) }) r1 H1 := by
 cases r with
 | bad => exact q
 | exc c st => exact q
 | ok f st =>
  cases f with
  | next env =>
   simp only [Bf] at q
   cases et : ja n st with
   | none => rw [et] at q; exact q.elim
   | some st2 =>
    rw [et] at q
    unfold ja at et
    split at et
    · rename_i kv ec
      cases et
      intro sg H' r' k' s' n'
      obtain ⟨xs, o, e, s2⟩ := abz s' (k'.at hr) ec
      exact ⟨a, o, _, h0, e, (show ar g rho H D (.next env) _ from q) sg _ r' (aby (k1.trans k') h0 e) s2 (aca (nu e) n')⟩
    · cases et
  | ret d => exact ar.mono k1 (show ar g rho H D (.ret d) st from q)
  | brk env => exact ar.mono k1 (show ar g rho H D (.brk env) st from q)
  | cont env => exact ar.mono k1 (show ar g rho H D (.cont env) st from q)
theorem Sb {rho : List Addr} {H1 H : Hp} {a : Addr} {o : Obj} {kvs : List (D × D)} {xs : List (D × Addr × V)} (hf : H a = some (.frz o (.ext (Am g.cls.w a xs)))) (nv : Aj g.K rho H kvs xs) : (ItP g.cls.w a o xs).stop (cg true kvs).length H ∧ ∀ (i : Nat) (d : D), (cg true kvs)[i]? = some d → (ItP g.cls.w a o xs).go i H ∧ ∀ x H', (ItP g.cls.w a o xs).yld i H x H' → Bo H H' ∧ g.Rep rho H' d x := by
 have hl := gr nv
 refine ⟨⟨hf, by simp [cg]; omega⟩, fun i d hd => ?_⟩
 simp only [cg, if_true, List.getElem?_map] at hd
 cases hx : kvs[i]? with
 | none => rw [hx] at hd; cases hd
 | some p =>
  rw [hx] at hd; cases hd
  obtain ⟨t, h1, h2, h3⟩ := Nt (y := p.2) nv hx
  refine ⟨⟨hf, (List.getElem?_eq_some_iff.mp h1).1⟩, fun x H' y => ?_⟩
  obtain ⟨b, t', rfl, hb, h4, rfl⟩ := y
  rw [h1] at h4; cases h4
  have eS := Ew hb (.tup [.ref t.2.1, t.2.2])
  have k0 : g.Keep rho H rho _ := Bo.keep eS rho
  exact ⟨eS, Cj.mpr ⟨b, _, rfl, SqT.of Bm, by simp only [G.RepL, RepL]; exact ⟨_, _, rfl, h2.mono k0, _, _, rfl, h3.mono k0, rfl⟩⟩⟩
theorem ace {rho : List Addr} {H1 H : Hp} {a : Addr} {o : Obj} {kvs : List (D × D)} {xs : List (D × Addr × V)} (hf : H a = some (.frz o (.ext (Am g.cls.w a xs)))) (nv : Aj g.K rho H kvs xs) : (ItN g.cls.w a o xs).stop (cg false kvs).length H ∧ ∀ (i : Nat) (d : D), (cg false kvs)[i]? = some d → (ItN g.cls.w a o xs).go i H ∧ ∀ x H', (ItN g.cls.w a o xs).yld i H x H' → Bo H H' ∧ g.Rep rho H' d x := by
 have hl := gr nv
 refine ⟨⟨hf, by simp [cg]; omega⟩, fun i d hd => ?_⟩
 simp only [cg, Bool.false_eq_true, if_false, List.getElem?_map] at hd
 cases hx : kvs[i]? with
 | none => rw [hx] at hd; cases hd
 | some p =>
  rw [hx] at hd; cases hd
  obtain ⟨t, h1, h2, h3⟩ := Nt (y := p.2) nv hx
  refine ⟨⟨hf, (List.getElem?_eq_some_iff.mp h1).1⟩, fun x H' y => Mx y.1 ?_⟩
  obtain ⟨_, t', h4, rfl⟩ := y
  rw [h1] at h4; cases h4
  exact h2
theorem sd {is : List Nat} {elts : List Expr} {x1} {pt : Pos} {l : Expr} {body : List Stmt} {x' : Ss} {l' : E} (hp : PassesOwn (model X.prog X.w) X.A X.env X.xe) (hc : X.calm = true) (ha : Sd g X l l') (ht : PG X (.Tuple elts x1 pt) (tg g.K is false)) (hx : df g X F body x')
 (hbase : attributeBase l "items" X.env (eval l X.env) = eval l X.env := by rfl) (hline : (apos.endLine == cpos.line) = true := by rfl)
 (hs : ∀ x, foldedSetIterable (.Call (.Attribute l "items" apos) [] [] cpos) X.env x = pure x := by intro _; rfl) : SdS g X F (.For (.Tuple elts x1 pt) (.Call (.Attribute l "items" apos) [] [] cpos) body [] pos) (.forD true is false l' x') :=
 Df (Rz (Hk hp hc (Ry (w := g.cls.w) ha hbase hline) ht hx hs)) fun D sg H q => by
 obtain ⟨rho, st, env, s, n, q⟩ := q
 simp only [An] at q
 refine step s n q fun d st1 v H1 r1 k1 s1 n1 rp q1 => ?_
 cases d with
 | loc m =>
  dsimp only at q1
  cases ed : az st1 m with
  | none => rw [ed] at q1; exact q1.elim
  | some kvs =>
   rw [ed] at q1
   obtain ⟨a, xs, hr, hc, hH, nv⟩ := Dj s1 ed
   obtain ⟨a2, hr2, rfl⟩ := Bh.mp rp
   rw [hr] at hr2; cases hr2
   have h0 : ∀ o u, H a ≠ some (.frz o u) := fun o u z => by rw [k1.fz _ _ _ z] at hH; cases hH
   refine ⟨a, xs, rfl, hH, fun o => ?_⟩
   obtain ⟨k3, s3⟩ := s1.wroteC (o := .frz o (.ext (Am g.cls.w a xs))) (c1 := .dcg kvs) hr hc rfl hH ⟨fun _ => nofun, fun _ _ => nofun⟩ fun H3 eH kk => ⟨xs, o, eH, nv.mono kk⟩
   have q2 := Sa (kd := true) (kvs := kvs) (o := .lst []) h0 (k1.trans k3) hr (RQ.mono k3 q1 fun _ _ z => z)
   refine Nu (J := ItP g.cls.w a o xs) (ws := cg true kvs) (ok := fun _ => true) (sf := fun d env => store is false d env) (fun rho st H kk s hst => ?_) (fun rho H Q d v env env' sg e r n h => fu e r n h) s3 (n1.mono k3) q2
   obtain ⟨z1, z2⟩ := Sb (H1 := H) (kk.fz a o _ Bm) ((nv.mono k3).mono kk)
   exact ⟨z1, z2⟩
 | _ => exact q1.elim
theorem Nv {is : List Nat} {one : Bool} {tgt l : Expr} {body : List Stmt} {x' : Ss} {l' : E} (hp : PassesOwn (model X.prog X.w) X.A X.env X.xe) (hc : X.calm = true) (ha : Sd g X l l') (ht : PG X tgt (tg g.K is one)) (hx : df g X F body x')
 (hs : ∀ x, foldedSetIterable l X.env x = pure x := by intro _; rfl) : SdS g X F (.For tgt l body [] pos) (.forD false is one l' x') :=
 Df (Rz (Hk hp hc (abn (w := g.cls.w) ha) ht hx hs)) fun D sg H q => by
 obtain ⟨rho, st, env, s, n, q⟩ := q
 simp only [An] at q
 refine step s n q fun d st1 v H1 r1 k1 s1 n1 rp q1 => ?_
 cases d with
 | loc m =>
  dsimp only at q1
  cases ed : az st1 m with
  | none => rw [ed] at q1; exact q1.elim
  | some kvs =>
   rw [ed] at q1
   obtain ⟨a, xs, hr, hc, hH, nv⟩ := Dj s1 ed
   obtain ⟨a2, hr2, rfl⟩ := Bh.mp rp
   rw [hr] at hr2; cases hr2
   have h0 : ∀ o u, H a ≠ some (.frz o u) := fun o u z => by rw [k1.fz _ _ _ z] at hH; cases hH
   refine ⟨a, xs, rfl, hH, fun o => ?_⟩
   obtain ⟨k3, s3⟩ := s1.wroteC (o := .frz o (.ext (Am g.cls.w a xs))) (c1 := .dcg kvs) hr hc rfl hH ⟨fun _ => nofun, fun _ _ => nofun⟩ fun H3 eH kk => ⟨xs, o, eH, nv.mono kk⟩
   have q2 := Sa (kd := true) (kvs := kvs) (o := .lst []) h0 (k1.trans k3) hr (RQ.mono k3 q1 fun _ _ z => z)
   refine Nu (J := ItN g.cls.w a o xs) (ws := cg false kvs) (ok := fun _ => true) (sf := fun d env => store is one d env) (fun rho st H kk s hst => ?_) (fun rho H Q d v env env' sg e r n h => fu e r n h) s3 (n1.mono k3) q2
   obtain ⟨z1, z2⟩ := ace (H1 := H) (kk.fz a o _ Bm) ((nv.mono k3).mono kk)
   exact ⟨z1, z2⟩
 | _ => exact q1.elim
theorem acf {elts : List Expr} {x1} {pt : Pos} {l : Expr} {l' : E} (ha : Sd g X l l') (hbase : attributeBase l "items" X.env (eval l X.env) = eval l X.env := by rfl) (hline : (apos.endLine == cpos.line) = true := by rfl) : SdI g X (.Tuple elts x1 pt) (.Call (.Attribute l "items" apos) [] [] cpos) 6 (.mt .frzN l' .nil) := by
 refine ⟨_, Ry (w := g.cls.w) ha hbase hline, fun rho st env sg H R s n q => ?_⟩
 simp only [aa] at q
 refine step s n q fun d st1 v H1 r1 k1 s1 n1 rp q1 => ?_
 split at q1
 · simp only [au, Bf] at q1
   cases d with
   | loc m =>
    simp only [mtD] at q1
    cases ed : az st1 m with
    | none => rw [ed] at q1; exact q1.elim
    | some kvs =>
     rw [ed] at q1
     obtain ⟨ys, p, e, q1⟩ := q1
     obtain ⟨a, xs, hr, hc, hH, nv⟩ := Dj s1 ed
     obtain ⟨a2, hr2, rfl⟩ := Bh.mp rp
     rw [hr] at hr2; cases hr2
     have hlm := (List.getElem?_eq_some_iff.mp hc).1
     have ec : (st1.set m (.dcg kvs))[m]? = some (.dcg kvs) := by simp [hlm]
     simp only [Cq, ec] at e
     cases e
     refine ⟨a, xs, rfl, hH, fun o => ?_⟩
     obtain ⟨k3, s3⟩ := s1.wroteC (o := .frz o (.ext (Am g.cls.w a xs))) (c1 := .dcg kvs) hr hc rfl hH ⟨fun _ => nofun, fun _ _ => nofun⟩ fun H3 eH kk => ⟨xs, o, eH, nv.mono kk⟩
     exact q1 _ r1 (ItP g.cls.w a o xs) (k1.trans k3) s3 fun rho st H kk s hst => Sb (H1 := H) (kk.fz a o _ Bm) ((nv.mono k3).mono kk)
   | _ => exact q1.elim
 · exact q1.elim
variable {g : G} {X : Cx} {pos apos cpos : Pos} {F : Nat}
theorem acg : bootBuiltins "zip" = some (.type "zip") := by decide +kernel
def Itz (K : PySem.W.Frag) (a b : Addr) : It :=
 ⟨fun i H => ∃ xs ys x y, SqL K H a xs ∧ SqL K H b ys ∧ xs[i]? = some x ∧ ys[i]? = some y, fun i H x H' => ∃ c v w, x = .ref c ∧ H c = none ∧ H' = upd H c (.tup [v, w]) ∧ (∀ xs, SqL K H a xs → xs[i]? = some v) ∧ ∀ ys, SqL K H b ys → ys[i]? = some w, fun i H => ∃ xs ys, SqL K H a xs ∧ SqL K H b ys ∧ xs.length ≤ i⟩
def ach (l1 l2 z TI TO i1 i2 : Addr) (i : Nat) (h : Heap) : Prop := IsZip h z TI TO .none ∧ IsPair h TI (.ref i1) (.ref i2) ∧ (∃ a b, IsPair h TO a b) ∧ h.IsListIter i1 l1 i ∧ h.IsListIter i2 l2 i
theorem aci {P : Program} {w : World} {K : PySem.W.Frag} {elts : List Expr} {x1} {pt : Pos} {l1 l2 z TI TO i1 i2 : Addr} (D : ZipApart z TI TO i1 i2 l1 l2) : Turn P w K (.Tuple elts x1 pt) (Itz K l1 l2) [z, TI, TO, i1, i2] z (ach l1 l2 z TI TO i1 i2) where
 mem := by simp
 obj := fun i h st b hb => by
  obtain ⟨hz, hTI, ⟨a0, b0, hTO⟩, ⟨o1, h1, c1, d1⟩, ⟨o2, h2, c2, d2⟩⟩ := st
  simp only [List.mem_cons, List.not_mem_nil, or_false] at hb
  rcases hb with rfl | rfl | rfl | rfl | rfl
  · exact ⟨_, hz, fun v z => by cases z⟩
  · exact ⟨_, hTI, fun v z => by cases z⟩
  · exact ⟨_, hTO, fun v z => by cases z⟩
  · exact ⟨o1, h1, fun v z => by rw [d1] at z; cases z⟩
  · exact ⟨o2, h2, fun v z => by rw [d2] at z; cases z⟩
 keep := fun i h h' st k => by
  obtain ⟨hz, hTI, ⟨a0, b0, hTO⟩, h1, h2⟩ := st
  exact ⟨k z (by simp) _ hz, k TI (by simp) _ hTI, ⟨a0, b0, k TO (by simp) _ hTO⟩, h1.at fun o q => k i1 (by simp) o q, h2.at fun o q => k i2 (by simp) o q⟩
 item := by
  intro X hP hw hK hc i pins s sg H E I hf st hg
  subst hP hw hK
  obtain ⟨xs, ys, x, y, hq1, hq2, hx, hy⟩ := hg
  obtain ⟨its1, rv1, p1, hz1⟩ := I.list hq1
  obtain ⟨its2, rv2, p2, hz2⟩ := I.list hq2
  obtain ⟨u1, hu1, ru1⟩ := rv1.get hx
  obtain ⟨u2, hu2, ru2⟩ := rv2.get hy
  obtain ⟨hz, hTI, ⟨a0, b0, hTO⟩, h1, h2⟩ := st
  refine wpAny_pyNext_zip_item D hz hTI hTO h1 h2 p1.isList p2.isList (x := u1) (y := u2) (by simpa using hu1) (by simpa using hu2) fun h' hz' hTO' h1' h2' hT hsz hk => ?_
  refine ⟨_, rfl, wpAny_letOwnedTupleGo_zip hz' fun h3 hz3 hs3 => ?_⟩
  have hlt : ∀ b ∈ [z, TI, TO, i1, i2], b < s.heap.objs.size := fun b hb => by
   simp only [List.mem_cons, List.not_mem_nil, or_false] at hb
   rcases hb with rfl | rfl | rfl | rfl | rfl
   · exact Heap.lt_size hz
   · exact Heap.lt_size hTI
   · exact Heap.lt_size hTO
   · obtain ⟨o, q, _⟩ := h1; exact Heap.lt_size q
   · obtain ⟨o, q, _⟩ := h2; exact Heap.lt_size q
  have hne : ∀ b ∈ [z, TI, TO, i1, i2], b ≠ s.heap.objs.size := fun b hb => Nat.ne_of_lt (hlt b hb)
  have hn : H s.heap.objs.size = none := I.hok.fresh (Nat.le_refl _)
  have I1 := I.laid (a := s.heap.objs.size) (o := .tup [x, y]) (h' := s.heap.push { cls := .type "tuple", data := .seq #[u1, u2] }) (t' := s.toks) (fun b u e => Heap.get?_push_of_some _ e) (Nat.le_refl _)
   ⟨by rw [sizeLine_eq]; simp, [u1, u2], .cons ru1 (.cons ru2 .nil), ⟨_, Heap.get?_push_size _ rfl, rfl, _, rfl⟩⟩
  have hf1 : ∀ b ∈ [z, TI, TO, i1, i2], Co X pins (upd H s.heap.objs.size (.tup [x, y])) b := fun b hb => ⟨by rw [As (hne b hb)]; exact (hf b hb).1, (hf b hb).2⟩
  have I2 := Nq (t' := s.toks) (h' := h3) I1 hf1 fun b o hb q => by
   have hbz : b ≠ z := fun e => hb (by simp [e])
   by_cases hbs : b = s.heap.objs.size
   · subst hbs
     rw [Heap.get?_push_size _ rfl] at q
     cases q
     exact (hs3.2 _ hbz).trans hT
   · have q' : s.heap.get? b = some o := (Heap.get?_push_cases q).elim (fun e => absurd e.1 hbs) id
     exact (hs3.2 _ hbz).trans (hk b o hbz (fun e => hb (by simp [e])) (fun e => hb (by simp [e])) (fun e => hb (by simp [e])) q')
  refine ⟨.ref s.heap.objs.size, _, I2, rfl, ⟨_, x, y, rfl, hn, rfl, fun zs hq => by rw [I.list_inj hq hq1]; exact hx, fun zs hq => by rw [I.list_inj hq hq2]; exact hy⟩, ⟨hz3, (hs3.2 _ D.TIz).trans (hk TI _ D.TIz D.TITO D.TIi1 D.TIi2 hTI), ⟨_, _, (hs3.2 _ D.TOz).trans hTO'⟩, h1'.at fun o q => (hs3.2 _ D.i1z).trans q, h2'.at fun o q => (hs3.2 _ D.i2z).trans q⟩, fun b hb => (hf1 b hb).1⟩
 done := by
  intro X hP hw hK hc i pins s sg H E I hf st hg
  subst hP hw hK
  obtain ⟨xs, ys, hq1, hq2, hx⟩ := hg
  obtain ⟨its1, rv1, p1, hz1⟩ := I.list hq1
  obtain ⟨its2, rv2, p2, hz2⟩ := I.list hq2
  obtain ⟨hz, hTI, ⟨a0, b0, hTO⟩, h1, h2⟩ := st
  have hl := rv1.length
  exact wpAny_pyNext_zip_end (I.ok.hd hc) D hz hTI hTO h1 h2 p1.isList p2.isList (.inl (by simp; omega)) fun h' hk => ⟨rfl, Nq (t' := s.toks) I hf fun b o hb q => hk b o (fun e => hb (by simp [e])) (fun e => hb (by simp [e])) (fun e => hb (by simp [e])) (fun e => hb (by simp [e])) q⟩
 self := fun _ i s Q E st h => wpAny_pyIter_zip st.1 h
def acj (K : PySem.W.Frag) (ta : TA) : TI := fun sg H R => ta sg H fun vs H1 => ∃ a b, vs = [.ref a, .ref b] ∧ (∃ xs, SqL K H1 a xs) ∧ (∃ ys, SqL K H1 b ys) ∧ R (Itz K a b) H1
theorem ack {l m : Expr} {ta : TA} {elts : List Expr} {x1} {pt p pos : Pos} (hg : Gl X "zip") (hm : X.mg "zip" = none) (ha : PA X [l, m] ta) (hs : starEach [l, m] X.env = [(false, eval l X.env), (false, eval m X.env)] := by rfl) (hs2 : starEach [m] X.env = [(false, eval m X.env)] := by rfl) : PI X (.Tuple elts x1 pt) (.Call (.Name "zip" p) [l, m] [] pos) (acj X.K ta) := by
 intro pins s sg H R I h
 refine Call_ (Hh I hg hm acg (PyProof.Rows.callWith_type1 (thn (ha pos pins s sg H _ I h) fun us s1 ⟨vs, H1, I1, r1, q1⟩ => ?_) (by rw [hs, hs2]) (by rw [hs2]; rfl)))
 obtain ⟨a, b, e, ⟨xs, hq1⟩, ⟨ys, hq2⟩, q⟩ := q1
 subst e
 cases r1 with
 | cons r rr =>
  cases rr with
  | cons r' rr =>
  cases rr
  cases r
  cases r'
  obtain ⟨its1, rv1, p1, hz1⟩ := I1.list hq1
  obtain ⟨its2, rv2, p2, hz2⟩ := I1.list hq2
  have a1 : a < s1.heap.objs.size := by obtain ⟨o, q, _⟩ := p1.isList; exact Heap.lt_size q
  have a2 : b < s1.heap.objs.size := by obtain ⟨o, q, _⟩ := p2.isList; exact Heap.lt_size q
  refine call_zip_2 p1.isList p2.isList fun h' hz hTI hTO hi1 hi2 hsz hk => wpAny_pyIter_zip hz ?_
  refine ⟨_, [s1.heap.objs.size + 4, s1.heap.objs.size + 2, s1.heap.objs.size + 3, s1.heap.objs.size, s1.heap.objs.size + 1], _, _, H1, rfl, I1.kept (t' := s1.toks) hk, aci (zipApart_new a1 a2), ⟨hz, hTI, ⟨_, _, hTO⟩, hi1, hi2⟩, fun c hc => ?_, q⟩
  have hc : s1.heap.objs.size ≤ c := by
   simp only [List.mem_cons, List.not_mem_nil, or_false] at hc
   rcases hc with e | e | e | e | e <;> rw [e] <;> first | exact Nat.le_add_right _ _ | exact Nat.le_refl _
  exact I1.fpOk hc (I1.hok.fresh hc)
def tgZ (K : PySem.W.Frag) (t1 : List Nat) (o1 : Bool) (t2 : List Nat) (o2 : Bool) : TG := Ma K 2 (Jw (tg K t1 o1) (Jw (tg K t2 o2) ma))
theorem acm {rho : List Addr} {H : Hp} {Q : L2.St → Hp → Prop} {t1 t2 : List Nat} {o1 o2 : Bool} {d : D} {v : V} {env env' : Env} {sg : L2.St} (e : Ho t1 o1 t2 o2 d env = some env') (r : g.Rep rho H d v) (n : g.Env rho H env sg) (h : ∀ sg', g.Env rho H env' sg' → Q sg' H) : tgZ g.K t1 o1 t2 o2 v sg H Q := by
 unfold Ho at e
 split at e
 · rename_i x y
   obtain ⟨p, vs, rfl, sq, rl⟩ := Cj.mp r
   simp only [G.RepL, RepL] at rl
   obtain ⟨v1, w1, rfl, r1, v2, w2, rfl, r2, rfl⟩ := rl
   cases e1 : store t1 o1 x env with
   | none => rw [e1] at e; cases e
   | some env1 =>
    rw [e1, Option.bind_some] at e
    exact ⟨p, _, rfl, sq, rfl, v1, _, rfl, fu e1 r1 n fun sg1 n1 => ⟨v2, _, rfl, fu e r2 n1 fun sg2 n2 => ⟨rfl, h sg2 n2⟩⟩⟩
 · cases e
theorem acn {xs ys : List D} (h : xs.length ≤ ys.length) : (Eu xs ys).length = xs.length := by simp [Eu]; omega
theorem aco {t1 t2 : List Nat} {o1 o2 : Bool} {elts : List Expr} {x1} {pt p pos2 : Pos} {l m : Expr} {body : List Stmt} {x' : Ss} {l' m' : E} (hK : X.K = g.K) (hp : PassesOwn (model X.prog X.w) X.A X.env X.xe) (hc : X.calm = true) (hg : Gl X "zip") (hm : X.mg "zip" = none) (ha : Sd g X l l') (hb : Sd g X m m') (ht : PG X (.Tuple elts x1 pt) (tgZ g.K t1 o1 t2 o2)) (hx : df g X F body x')
 (he : starEach [l, m] X.env = [(false, eval l X.env), (false, eval m X.env)] := by rfl) (he2 : starEach [m] X.env = [(false, eval m X.env)] := by rfl) (hs : ∀ x, foldedSetIterable (.Call (.Name "zip" p) [l, m] [] pos) X.env x = pure x := by intro _; rfl) : SdS g X F (.For (.Tuple elts x1 pt) (.Call (.Name "zip" p) [l, m] [] pos) body [] pos2) (.forZ t1 o1 t2 o2 l' m' x') :=
 Df (Hk hp hc (ack hg hm (Ad ha (Ad hb Ag he2) (by rw [he, he2])) he he2) ht hx hs) fun D sg H q => by
 obtain ⟨rho, st, env, s, n, q⟩ := q
 simp only [An] at q
 refine mq s n q fun ds st1 vs H1 r1 hl k1 s1 n1 rps q1 => ?_
 split at q1
 · rename_i i j
   simp only [G.RepL, RepL] at rps
   obtain ⟨v1, w1, rfl, rp1, v2, w2, rfl, rp2, rfl⟩ := rps
   split at q1
   · rename_i xs ys e1 e2
     split at q1
     · rename_i hle
       obtain ⟨a, vs, hr1, sq1, rl1⟩ := De s1 e1
       obtain ⟨b, ws, hr2, sq2, rl2⟩ := De s1 e2
       obtain ⟨p2, hr3, rfl⟩ := Bh.mp rp1
       rw [hr1] at hr3; cases hr3
       obtain ⟨p3, hr4, rfl⟩ := Bh.mp rp2
       rw [hr2] at hr4; cases hr4
       refine ⟨a, b, rfl, ⟨vs, by rw [hK]; exact sq1⟩, ⟨ws, by rw [hK]; exact sq2⟩, ?_⟩
       rw [hK]
       refine Nu (J := Itz g.K a b) (ws := Eu xs ys) (sf := fun d env => Ho t1 o1 t2 o2 d env) (fun rho st H kk s hst => ?_) (fun rho H Q d v env env' sg e r n h => acm e r n h) s1 n1 (RQ.mono (.refl _ _) q1 fun f st p => ar.mono k1 p)
       simp only [Bool.and_eq_true] at hst
       have f1 : aq st i = some xs := odt hst.1
       have f2 : aq st j = some ys := odt hst.2
       obtain ⟨c1, vs1, g1, sq3, rl3⟩ := De s f1
       rw [kk.at hr1] at g1; cases g1
       obtain ⟨c2, ws1, g2, sq4, rl4⟩ := De s f2
       rw [kk.at hr2] at g2; cases g2
       refine ⟨⟨vs1, ws1, sq3, sq4, by rw [acn hle, rl3.length]; exact Nat.le_refl _⟩, fun k d hd => ?_⟩
       simp only [Eu, List.getElem?_zipWith] at hd
       cases hx1 : xs[k]? with
       | none => rw [hx1] at hd; simp at hd
       | some x =>
        cases hy1 : ys[k]? with
        | none => rw [hx1, hy1] at hd; simp at hd
        | some y =>
         rw [hx1, hy1] at hd
         simp at hd
         subst hd
         obtain ⟨v, hv, rv⟩ := rl3.get hx1
         obtain ⟨w, hw, rw1⟩ := rl4.get hy1
         refine ⟨⟨vs1, ws1, v, w, sq3, sq4, hv, hw⟩, fun x0 H' yy => ?_⟩
         obtain ⟨c, v', w', rfl, hcn, rfl, z1, z2⟩ := yy
         have z1 := z1 _ sq3
         have z2 := z2 _ sq4
         rw [hv] at z1; cases z1
         rw [hw] at z2; cases z2
         have eS := Ew hcn (.tup [v, w])
         have k0 : g.Keep rho H rho _ := Bo.keep eS rho
         exact ⟨eS, Cj.mpr ⟨c, _, rfl, SqT.of Bm, by simp only [G.RepL, RepL]; exact ⟨_, _, rfl, rv.mono k0, _, _, rfl, rw1.mono k0, rfl⟩⟩⟩
     · exact q1.elim
   · exact q1.elim
 · exact q1.elim
end DD
namespace DD
open PySem PySem.Spec L2
open PyProof.Rows hiding St RelV
open PyProof.Rows.KTD (kt_dictFind_strs)
variable {g : G} {X : Cx} {pos apos cpos p p2 : Pos} {F : Nat} {a b : Expr} {a' b' : E}
section
variable {s : Shared} {E : Value → Shared → Prop} {A : Around}
end
end DD
namespace DD
open PySem PySem.Spec L2
open PyProof.Rows hiding St RelV
variable {g : G} {X : Cx} {pos apos cpos p p2 : Pos} {F : Nat} {a b : Expr} {a' b' : E} {es : List Expr} {es' : Es}
theorem se {st : Stmt} : SdS g X F st (.unp [] (.cst .non)) := fun pins s sg H D I q => by
 obtain ⟨rho, st, env, S, n, q⟩ := q
 simp only [An, aa, Bf, store] at q
 exact q.elim
section
variable {prog : Program} {w : World} {A : Around} {E : Value → Shared → Prop} {s : Shared}
end
variable {g : G} {X : Cx} {pos apos cpos : Pos} {F : Nat}
variable {g : G} {X : Cx} {pos apos cpos : Pos} {F : Nat}
variable {g : G} {X : Cx} {pos apos cpos p p2 : Pos} {F : Nat}
structure LamB (L : Lam) (mg : Str → Option Value) (base : Heap) : Prop where
 code : PySem.W.CodeHd base L.c L.P
 bm : ∃ bm ob, mg "__builtins__" = some (.ref bm) ∧ bm ≠ builtinsNs ∧ base.get? bm = some ob ∧ ob.cls = .type "module" ∧ ob.dict = some builtinsNs ∧ ob.data = .plain
 pm : (mg "__name__").getD .none = L.pm
theorem Se {i j : Nat} {c : Value} : ∀ l : List Value, TriplesOk l → TriplesOk (l ++ [rawInt i, rawInt j, c])
 | [], _ => by simp [TriplesOk, rawInt]
 | .int _ _ :: .int _ _ :: _ :: r, h => Se r h
 | [.int _ _], h => h.elim
 | [.int _ _, .int _ _], h => h.elim
theorem acp {pins : List (Addr × Obj)} {sg : L2.St} {H : Hp} {s : Shared} {h'' : Heap} {P c' f : Addr} {ps more : Array Value} {oc fo : Obj} {tk : Nat} (I : Inv X pins sg H s) (hH : H P = some (.tbl ps))
 (hx : ∀ b o, b ≠ P → s.heap.get? b = some o → h''.get? b = some o) (hc : s.heap.objs.size ≤ c') (hf : c' < f) (e1 : h''.get? c' = some oc) (e2 : h''.get? P = some { cls := .none, data := .fields (ps ++ more) }) (e3 : h''.get? f = some fo) :
 Inv X pins sg (upd (upd (upd H c' (.frz oc (.own 0))) P (.tbl (ps ++ more))) f (.frz fo (.own 0))) { s with heap := h'', toks := tk } := by
 have hP : P < s.heap.objs.size := I.hok.lt hH
 have nc : H c' = none := I.hok.fresh hc
 have nf : H f = none := I.hok.fresh (Nat.le_trans hc (Nat.le_of_lt hf))
 have at_ : ∀ b, b ≠ P → b ≠ c' → b ≠ f → (upd (upd (upd H c' (.frz oc (.own 0))) P (.tbl (ps ++ more))) f (.frz fo (.own 0))) b = H b := fun b z1 z2 z3 => by rw [As z3, As z1, As z2]
 have old : ∀ b u, H b = some u → b ≠ P → (upd (upd (upd H c' (.frz oc (.own 0))) P (.tbl (ps ++ more))) f (.frz fo (.own 0))) b = some u := fun b u q z => by rw [at_ b z (El q nc) (El q nf)]; exact q
 have hPf : P ≠ f := Nat.ne_of_lt (Nat.lt_of_lt_of_le hP (Nat.le_trans hc (Nat.le_of_lt hf)))
 refine I.un ⟨fun b o q n _ _ => hx b o (fun z => by rw [z, hH] at n; cases n) q, fun b o q n _ _ => ⟨o.slots, hx b o (fun z => by rw [z, hH] at n; cases n) q⟩, fun b o q n _ => ?_, fun b o q _ => ?_, fun b xs q => old b _ q (Cz q hH (fun z => by cases z)), fun b o u q => old b _ q (Cz q hH (fun z => by cases z)), fun b qs q => ?_⟩ fun b u q => ?_
 · have hb := Heap.lt_size q
   rw [at_ b (fun z => by rw [z, hH] at n; cases n) (Nat.ne_of_lt (Nat.lt_of_lt_of_le hb hc)) (Nat.ne_of_lt (Nat.lt_of_lt_of_le hb (Nat.le_trans hc (Nat.le_of_lt hf))))]; exact n
 · by_cases z : b = P
   · subst z; exact ⟨_, e2⟩
   · exact ⟨o, hx b o z q⟩
 · by_cases z : b = P
   · subst z
     rw [hH] at q; cases q
     exact ⟨more, by rw [As hPf, Bm]⟩
   · exact ⟨#[], by rw [old b _ q z]; simp⟩
 · by_cases z3 : b = f
   · subst z3
     rw [Bm] at q; cases q
     exact ⟨e3, fo, e3⟩
   · rw [As z3] at q
     by_cases z1 : b = P
     · subst z1
       rw [Bm] at q; cases q
       exact e2
     · rw [As z1] at q
       by_cases z2 : b = c'
       · subst z2
         rw [Bm] at q; cases q
         exact ⟨e1, oc, e1⟩
       · rw [As z2] at q
         refine (I.hok b u q).stay (fun a v ha r => hx a v ?_ r) (fun a r => old a _ r (Cz r hH (fun z => by cases z))) fun a xs r => old a _ r (Cz r hH (fun z => by cases z))
         rcases ha with rfl | ha
         · exact z1
         · exact Cz ha hH (fun z => by cases z)
theorem acq {params : Arguments} {body : Expr} {scope : Scope} (hL : LamB g.cls.lam X.mg X.base) (hcode : X.env.code = .ref g.cls.lam.c) (hq : X.env.qual ++ "<lambda>" = g.cls.lam.qual) (hpa : params = g.cls.lam.params) (hb : body = g.cls.lam.body) (hs : scope = g.cls.lam.scope) (hpos : pos = g.cls.lam.pos)
 (hdef : defaultsOf params X.env = ([], [])) (hfree : ∀ x ∈ scope.names, x.2 ≠ .free) : Sd g X (.Lambda params body scope pos) .lamE := by
 intro pins s sg H Q I h
 obtain ⟨rho, st, env, S, n, q⟩ := h
 simp only [aa] at q
 refine PySem.W.kla_eval hdef ?_
 have hcl : closureFor scope X.env = pure [] := PySem.closureFor_none hfree
 split at q
 · rename_i e1
   have hl1 : 1 < rho.length := by rw [S.len]; exact (List.getElem?_eq_some_iff.mp e1).1
   obtain ⟨P, hP⟩ : ∃ a, rho[1]? = some a := ⟨_, List.getElem?_eq_getElem hl1⟩
   have cr : Gp g.cls.lam H P := S.cells 1 P .lamT hP e1
   obtain ⟨eP, ps, hH, ht, hc⟩ := cr
   have hPs : s.heap.get? P = some { cls := .none, data := .fields ps } := I.hok P _ hH
   have hns := I.ok.mod.glob.keeps I.bk
   obtain ⟨bm, ob, b1, b2, b3, b4, b5, b6⟩ := hL.bm
   have hgP : mainGlobals ≠ P := fun z => by
    obtain ⟨o, es, ep, e, hd, _⟩ := hns
    rw [z, hPs] at e; cases e; cases hd
   have hbP : bm ≠ P := fun z => by
    have e := I.bk _ _ b3
    rw [z, hPs] at e; cases e; cases b4
   have hbG : bm ≠ mainGlobals := fun z => by
    obtain ⟨o, es, ep, e, hd, _⟩ := I.ok.mod.glob
    rw [z, e] at b3; cases b3; rw [hd] at b6; cases b6
   have hB : s.heap.BuiltinsAt X.mg P := ⟨bm, ob, b1, b2, hbG, hbP, I.bk _ _ b3, b4, b5, b6⟩
   have hC : PySem.W.CodeHd s.heap g.cls.lam.c P := by rw [eP]; exact hL.code.keeps I.bk
   rw [hq]
   rcases hc with hn | ⟨c', oc, hf, hc', co⟩
   · refine PySem.W.kla_makeFunction (mg := X.mg) hcl I.ok.glob hns hcode hC hPs ht (by rw [hpos]; exact hn) hgP hB fun c' ctv h' tk hx hge hlt hrec htb => ?_
     obtain ⟨c2, oc, vs, t, e2, hoc, hd, hv⟩ := hrec
     cases e2
     have keep : ∀ b o, b ≠ P → s.heap.get? b = some o → (h'.push (PySem.W.kla_obj "<lambda>" g.cls.lam.qual params body scope [] ((X.mg "__name__").getD .none) c' ctv)).get? b = some o := fun b o z e => Heap.get?_push_of_some _ (hx b o z e)
     have I' := acp (tk := tk) I hH keep hge hlt (Heap.get?_push_of_some _ hoc) (Heap.get?_push_of_some _ htb) (Heap.get?_push_size _ rfl)
     have nc : H c' = none := I.hok.fresh hge
     have hcf : s.heap.objs.size ≤ h'.objs.size := Nat.le_trans hge (Nat.le_of_lt hlt)
     have nf : H h'.objs.size = none := I.hok.fresh hcf
     have hPl : P < s.heap.objs.size := I.hok.lt hH
     have n1 : P ≠ c' := Nat.ne_of_lt (Nat.lt_of_lt_of_le hPl hge)
     have n2 : h'.objs.size ≠ P := Nat.ne_of_gt (Nat.lt_of_lt_of_le hPl hcf)
     have n3 : h'.objs.size ≠ c' := Nat.ne_of_gt hlt
     have S1 := S.same (Ew nc (.frz oc (.own 0)))
     have k1 : g.Keep rho H rho _ := Bo.keep (Ew nc (.frz oc (.own 0))) rho
     have hH1 : (upd H c' (.frz oc (.own 0))) P = some (.tbl ps) := by rw [As n1]; exact hH
     obtain ⟨k2, S2⟩ := S1.wroteC (o := .tbl (ps ++ #[rawInt pos.line, rawInt pos.col, .ref c'])) (c1 := .lamT) hP e1 rfl hH1 ⟨fun _ => nofun, fun _ _ => nofun⟩ fun H3 eH kk => by
      refine ⟨eP, _, eH, ?_, .inr ⟨c', oc, ?_, kk.fz _ _ _ Bm, vs, t, hd, hv⟩⟩
      · rw [Array.toList_append]
        exact Se _ ht
      · rw [Array.toList_append, ← hpos]
        exact codeAmong_snoc _ ht (by rw [hpos]; exact hn)
     have nf2 : (upd (upd H c' (.frz oc (.own 0))) P (.tbl (ps ++ #[rawInt pos.line, rawInt pos.col, .ref c']))) h'.objs.size = none := by rw [As n2, As n3]; exact nf
     have hset : st.set 1 .lamT = st := by
      apply List.ext_getElem?
      intro i
      by_cases z : 1 = i
      · subst z; rw [List.getElem?_set_self (List.getElem?_eq_some_iff.mp e1).1, e1]
      · rw [List.getElem?_set_ne z]
     rw [hset] at S2
     obtain ⟨k3, S3⟩ := S2.laid (p := h'.objs.size) (o := .frz (PySem.W.kla_obj "<lambda>" g.cls.lam.qual params body scope [] ((X.mg "__name__").getD .none) c' ctv) (.own 0)) (c := .fnl) nf2 (by
      refine ⟨c', oc, ctv, ?_, ?_, vs, t, hd, hv⟩
      · rw [Bm, hpa, hb, hs, hL.pm]
      · rw [As n3.symm, As n1.symm, Bm])
     exact ⟨.ref h'.objs.size, _, I', rfl, (show Aq g rho H Q (.loc st.length) (st ++ [.fnl]) from q) _ _ _ ((k1.trans k2).trans k3) S3 (Bh.mpr ⟨_, by rw [← S.len]; simp, rfl⟩)⟩
   · refine PySem.W.kla_makeFunctionHit (mg := X.mg) hcl I.ok.glob hns hcode hC hPs ht (by rw [hpos]; exact hf) hB fun ctv h' tk hk hsz => ?_
     have nf : H h'.objs.size = none := I.hok.fresh hsz
     have I' := I.laid (t' := tk) (o := .frz (PySem.W.kla_obj "<lambda>" g.cls.lam.qual params body scope [] ((X.mg "__name__").getD .none) c' ctv) (.own 0)) (fun b o e => Heap.get?_push_of_some _ (hk b o e)) hsz ⟨Heap.get?_push_size _ rfl, _, Heap.get?_push_size _ rfl⟩
     obtain ⟨k3, S3⟩ := S.laid (p := h'.objs.size) (o := .frz (PySem.W.kla_obj "<lambda>" g.cls.lam.qual params body scope [] ((X.mg "__name__").getD .none) c' ctv) (.own 0)) (c := .fnl) nf (by
      refine ⟨c', oc, ctv, ?_, ?_, co⟩
      · rw [Bm, hpa, hb, hs, hL.pm]
      · rw [As (El hc' nf)]; exact hc')
     exact ⟨.ref h'.objs.size, _, I', rfl, (show Aq g rho H Q (.loc st.length) (st ++ [.fnl]) from q) _ _ _ k3 S3 (Bh.mpr ⟨_, by rw [← S.len]; simp, rfl⟩)⟩
 · exact q.elim
variable {g : G} {X : Cx} {pos apos cpos p p2 : Pos} {F : Nat}
structure LamC (L : Lam) (x : Str) : Prop where
 sc : FnScope [x] [x] L.scope
 body : ∃ bp, L.body = .Name x bp
 bind : ∀ (c' : Addr) (ctv u : Value), bindArgs (PySem.W.kla_fn "<lambda>" L.qual L.params L.body L.scope [] L.pm (.ref c') ctv) ⟨[u], []⟩ = pure [(x, u)]
 vis : Vis L.scope x
 nd : (x == ("__debug__" : Str)) = false
 nc : (x == ("__classdict__" : Str)) = false
theorem acr {P : Program} {w : World} {K : PySem.W.Frag} {mg : Str → Option Value} {base : Heap} {A : Around} {outer : List PySem.Env} {s : Shared} {H : Hp} {f : Addr} {v : V} {u : Value} {Q : VK} {E : XK} {CX : CXT} {L : Lam} {x : Str} (C : LamC L x)
 (hr : Room 1 A) (e0 : Env0 P w K mg base A outer s H) (hF : Dw L H f) (r : L2.RelV v u) (q : Q v H) : codeAny (model P w) A (.call (.ref f) ⟨[u], []⟩) (CR CX outer P w H s Q E) s := by
 obtain ⟨c', oc, ctv, h1, h2, vs, t, h3, h4⟩ := hF
 obtain ⟨bp, hbody⟩ := C.body
 have ho : s.heap.get? f = some _ := (e0.hok f _ h1).1
 have hc : s.heap.get? c' = some oc := (e0.hok c' _ h2).1
 have lim : s.heap.NoLimit := e0.mod.nolimit.keeps fun b o e => (e0.bs b o e).1
 refine PySem.W.kla_callFunE (body := L.body) hr.depth ho rfl C.sc.co C.sc.gen rfl ⟨c', oc, vs, t, rfl, hc, h3, h4⟩ ?_
 rw [C.bind]
 have hkind : ∀ y ∈ [(x, u)], L.scope.names.lookup y.1 = some .local ∨ (L.scope.names.lookup y.1 = some .cell ∧ ((cellsFrom (s.heap.objs.size + 1) L.scope.names []).lookup y.1).isSome = true) := fun y hy => by
  cases List.mem_singleton.mp hy
  rcases C.sc.par x (by simp) with q | q
  · exact .inl q
  · exact .inr ⟨q, PySem.W.cellsFrom_some _ _ _ (.inl q)⟩
 refine wpAny_pure (wpAny_newFunctionEnv_cells C.sc.kind hkind fun env he s1 ic => ?_)
 subst he
 refine ⟨lim.keeps ic.toInCall.keep, PySem.W.kla_codeExpr ?_⟩
 have I : Inv (En CX P w K mg base [x] L.qual L.scope f (.ref c') A outer s H E) [] (start [x] [v]) H s1 := Pt (us := [u]) C.sc hr.hd e0 rfl (.cons r .nil) ic
 rw [hbody]
 refine wpAny_mono (pg (i := 0) (X := En CX P w K mg base [x] L.qual L.scope f (.ref c') A outer s H E) rfl C.vis C.nd C.nc [] s1 _ H Q I ⟨v, rfl, q⟩) (fun u' s' hs => ?_) fun e s' hs => hs
 obtain ⟨v', H', J, rv, q⟩ := hs
 exact ⟨v', H', J.os, J.bare, J.base, J.hok, rv, q⟩
theorem Sf {pins : List (Addr × Obj)} {sg : L2.St} {H : Hp} {s : Shared} {L : Lam} {f : Addr} (I : Inv X pins sg H s) (h : Dw L H f) : PySem.W.FnAt f s.heap := by
 obtain ⟨c', oc, ctv, h1, _⟩ := h
 exact ⟨_, _, _, _, (I.hok f _ h1).1⟩
theorem acs {x y : Str} {f' e' : E} {e : Expr} (C : LamC g.cls.lam y) (hr : Room 1 X.A) (hx : Passes (CXd X.prog X.w) X g.xk) (hf : Sd g X (.Name x p) f') (ha : Sd g X e e')
 (he : starEach [e] X.env = (false, eval e X.env) :: starEach [] X.env := by rfl) (hpl : (backTo pos (starEach [] X.env)).any (·.1) = false := by rfl) : Sd g X (.Call (.Name x p) [e] [] pos) (.callL f' e') := by
 intro pins s sg H Q I h
 obtain ⟨rho, st, env, S, n, q⟩ := h
 simp only [aa] at q
 refine wpAny_Call_Name_kw (thn (hf pins s sg H (fun v H1 => ∃ (f : Addr) (r1 : List Addr) (st1 : Sto) (m : Nat), v = .ref f ∧ r1[m]? = some f ∧ st1[m]? = some Cell.fnl ∧ g.Keep rho H r1 H1 ∧ g.Sto r1 st1 H1 ∧ g.Env r1 H1 env sg ∧ RQ g (aa g.tab g.call e' env st1) (Aq g rho H Q) r1 H1) I (step S n q fun d st1 x H1 r1 k1 s1 n1 rp q1 => ?_)) fun u s1 h0 => ?_)
 · cases d with
   | loc m =>
    dsimp only at q1
    split at q1
    · rename_i ec
      obtain ⟨a, hra, rfl⟩ := Bh.mp rp
      exact ⟨a, r1, st1, m, rfl, hra, ec, k1, s1, n1, q1⟩
    · exact q1.elim
   | _ => exact q1.elim
 · obtain ⟨x, H1, I1, rx, f, r1, st1, m, ex, hm, hc, k1, S1, n1, q1⟩ := h0
   subst ex
   obtain rfl : u = Value.ref f := rx
   have hF : Dw g.cls.lam H1 f := S1.cells m f .fnl hm hc
   refine PySem.W.callWith_F (Sf I1 hF) (thn (Ad ha Ag he pos pins s1 sg H1 (fun vs H2 => Dw g.cls.lam H2 f ∧ ∃ v, vs = [v] ∧ Q v H2) I1 ⟨r1, st1, env, S1, n1, ?_⟩) fun us s2 ⟨vs, H2, I2, r, hF2, v, ev, q2⟩ => ⟨Sf I2 hF2, ?_⟩) he hpl
   · simp only [au]
     revert q1
     cases aa g.tab g.call e' env st1 with
     | bad => exact fun q => q
     | exc c st2 => exact fun q => q
     | ok d st2 =>
      intro q1 vs H2 r2 k2 s2 rl
      simp only [DD.RepL] at rl
      obtain ⟨v, t, rfl, rv, rfl⟩ := rl
      exact ⟨hF.mono fun b o z => k2.fz _ _ _ z, v, rfl, (show Aq g rho H Q d st2 from q1) v H2 r2 (k1.trans k2) s2 rv⟩
   · subst ev
     cases r with
     | cons r1 r2 =>
      cases r2
      refine wpAny_call (codeAny_mono (acr (CX := CXd X.prog X.w) (E := g.xk) C hr I2.env0 hF2 r1 q2) fun r s' hq => ?_)
      cases r with
      | error e => exact hx pins sg H2 s2 e s' I2 hq
      | ok fl =>
       cases fl with
       | ret u => exact I2.after hq
       | next => exact False.elim hq
       | brk => exact False.elim hq
       | cont => exact False.elim hq
end DD
namespace L2
open PySem PySem.Spec PyProof.Rows
def Nx (P : Addr) (H : Hp) : Prop := ∀ b, H b = none ∨ (∃ o xs, H b = some (.frz o (.lst xs))) ∨ (b = P ∧ H b = some (.tbl #[]))
theorem acu {Pr : Program} {w : World} {K : PySem.W.Frag} {mg mb : Str → Option Value} {CX : CXT} {k : Nat} {fa a c P : Addr} {fd : FuncData} {x : Str} {sp : Sp} {s₁ : Shared} {vs : List Value} {ns : List Int}
 (KX : K.In s₁.heap) (hns : s₁.heap.Ns mainGlobals mg) (hb : s₁.heap.Ns builtinsNs mb) (hbb : ∀ x : Str, x ≠ "__name__" → mb x = bootBuiltins x) (hlim : s₁.heap.NoLimit) (hg : s₁.gens = #[])
 (ha : s₁.heap.get? a = some { cls := .type "list", data := .seq vs.toArray }) (hi : IntsAre vs ns) (hl : ns.length ≤ sizeLine) (hr : Room k callerA)
 (hT : s₁.heap.TableAt c P #[]) (hKP : K.lookup P = none)
 (F : ∀ base : Heap, K.In base → base.Ns mainGlobals mg → (∀ b o, b ≠ a → b ≠ P → s₁.heap.get? b = some o → base.get? b = some o) → FnOk Pr w K mg base CX k fa fd [x] sp) (hbind : ∀ (s : Shared) (u : Value), BindsTo s fd ⟨[u], []⟩ [(x, u)])
 (hsp : ∀ H : Hp, Nx P H → SqL K H a (ns.map V.int) → H P = some (.tbl #[]) → sp [.ref a] H (fun v _ => v = .bl true) fun _ _ _ => False)
 (hCX : ∀ H e s', CX [] H s₁ (fun _ _ _ => False) e s' → False) :
 codeAny (model Pr w) callerA (.call (.ref fa) ⟨[.ref a], []⟩) (fun r s' => r = .ok (.ret (.bool true)) ∧ OldK s₁.heap s'.heap ∧ s'.os = s₁.os ∧ AllBare s'.gens) s₁ := by
 have rv := qg hi
 have lenV := hi.length
 have hPo : s₁.heap.get? P = some { cls := .none, data := .fields #[] } := hT.2
 have hPa : P ≠ a := fun z => by rw [z, ha] at hPo; cases hPo
 have core : ∀ H : Hp, Nx P H → SqL K H a (ns.map V.int) → HOk Pr w H s₁.heap → (∀ b, H b ≠ none → b = a ∨ b = P) → (H a ≠ none → K.lookup a = none) → H P = some (.tbl #[]) →
  codeAny (model Pr w) callerA (.call (.ref fa) ⟨[.ref a], []⟩) (fun r s' => r = .ok (.ret (.bool true)) ∧ OldK s₁.heap s'.heap ∧ s'.os = s₁.os ∧ AllBare s'.gens) s₁ := by
  intro H hO hS hok hA hK hPt
  have base_of : ∀ {b : Addr} {o : Obj}, s₁.heap.get? b = some o → H b = none → (Em s₁.heap H).get? b = some o := fun e n => vp e n
  have noA : ∀ {b : Addr} {o : Obj} {es : Array DictEntry} {ep : Nat}, s₁.heap.get? b = some o → o.data = .dict es ep → H b = none := fun {b o es ep} e d => by
   cases q : H b with
   | none => rfl
   | some u =>
    rcases hA b (by rw [q]; simp) with e' | e'
    · subst e'
      rw [ha] at e; cases e
      have d' : Data.seq vs.toArray _ = Data.dict es ep := d
      cases d'
    · subst e'
      rw [hPo] at e; cases e
      have d' : Data.fields #[] = Data.dict es ep := d
      cases d'
  have nsK : ∀ {b : Addr} {m : Str → Option Value}, s₁.heap.Ns b m → (Em s₁.heap H).Ns b m := fun {b m} ⟨o, es, ep, e, d, r⟩ => ⟨o, es, ep, base_of e (noA e d), d, r⟩
  have hKb : K.In (Em s₁.heap H) := fun b o e => base_of (KX b o e) (by
   cases q : H b with
   | none => rfl
   | some u =>
    rcases hA b (by rw [q]; simp) with e' | e'
    · subst e'
      rw [hK (by rw [q]; simp)] at e; cases e
    · subst e'; rw [hKP] at e; cases e)
  have hM : Mod K mg (Em s₁.heap H) := ⟨hKb, nsK hns, ⟨mb, nsK hb, hbb⟩, let ⟨mc, h1, h2⟩ := hlim; ⟨mc, nsK h1, h2⟩⟩
  have e0 : Env0 Pr w K mg (Em s₁.heap H) callerA [] s₁ H := ⟨rfl, hM, fun b o e => Vp e, Nat.le_of_eq (Vo _ _), trivial, fun b hb => absurd (show b ∈ ([] : List Addr) from hb) (by simp), hok, .of_eq hg⟩
  refine codeAny_mono ((F _ hKb (nsK hns) fun b o h1 h2 e => base_of e (Decidable.byContradiction fun z => (hA b z).elim h1 h2)).run callerA [] s₁ H ⟨[.ref a], []⟩ [.ref a] [.ref a] _ _ hr e0 (hbind s₁ (.ref a)) (.cons rfl .nil) (hsp H hO hS hPt)) fun r s' h => ?_
  cases r with
  | error e => exact (hCX H e s' h).elim
  | ok fl =>
   cases fl with
   | next => exact False.elim h
   | brk => exact False.elim h
   | cont => exact False.elim h
   | ret u =>
    obtain ⟨v, H', os, bare, un, hok', r', q⟩ := h
    have q' : v = .bl true := q
    subst q'
    obtain rfl : u = Value.bool true := r'
    obtain ⟨more, hm⟩ := un.tbls P _ hPt
    have hP' : s'.heap.get? P = some { cls := .none, data := .fields (#[] ++ more) } := hok' P _ hm
    have kp : ∀ b o, b ≠ P → s₁.heap.get? b = some o → s'.heap.get? b = some o := fun b o hbP e => by
     cases q : H b with
     | none => exact un.keep b o e q (by intro z; exact absurd (show b ∈ ([] : List Addr) from z) (by simp)) (by simp)
     | some u =>
      rcases hO b with z | ⟨ob, xs, z⟩ | ⟨z, _⟩
      · rw [q] at z; cases z
      · have z2 := un.frzs b ob _ z
        obtain ⟨e1, _⟩ := hok b _ z
        obtain ⟨e2, _⟩ := hok' b _ z2
        rw [e] at e1; cases e1
        exact e2
      · exact absurd z hbP
    refine ⟨rfl, ⟨fun b o e => ?_, fun b o e => ?_⟩, os, bare⟩
    · by_cases hbP : b = P
      · subst hbP
        have e2 : o = { cls := .none, data := .fields #[] } := Option.some.inj (e.symm.trans hPo)
        subst e2
        exact .inr (.inl ⟨hT.isCodeTable, rfl, #[], more, rfl, hP'⟩)
      · exact .inl (kp b o hbP e)
    · by_cases hbP : b = P
      · subst hbP; exact ⟨_, hP'⟩
      · exact ⟨o, kp b o hbP e⟩
 cases hk : K.lookup a with
 | some o =>
  have e := KX a o hk
  rw [ha] at e
  cases e
  refine core (fun b => if b = P then some (.tbl #[]) else none) (fun b => ?_) (.inr ⟨_, vs.toArray, _, hk, rfl, rfl, rfl, by rw [List.size_toArray, lenV]; exact hl, by simpa using rv⟩) (fun b u z => ?_) (fun b z => ?_) (fun z => ?_) (if_pos rfl)
  · by_cases hb : b = P
    · exact .inr (.inr ⟨hb, if_pos hb⟩)
    · exact .inl (if_neg hb)
  · by_cases hb : b = P
    · have z' := (if_pos hb).symm.trans z
      cases z'
      subst hb
      exact hPo
    · have z' := (if_neg hb).symm.trans z
      cases z'
  · by_cases hb : b = P
    · exact .inr hb
    · exact absurd (if_neg hb) z
  · exact absurd (if_neg (Ne.symm hPa)) z
 | none =>
  refine core (fun b => if b = P then some (.tbl #[]) else if b = a then some (.frz { cls := .type "list", data := .seq vs.toArray } (.lst (ns.map V.int))) else none) (fun b => ?_) (.inl (.inr ⟨{ cls := .type "list", data := .seq vs.toArray }, (if_neg (Ne.symm hPa)).trans (if_pos rfl)⟩)) (fun b u z => ?_) (fun b z => ?_) (fun _ => hk) (if_pos rfl)
  · by_cases hb : b = P
    · exact .inr (.inr ⟨hb, if_pos hb⟩)
    · by_cases hb2 : b = a
      · exact .inr (.inl ⟨_, _, (if_neg hb).trans (if_pos hb2)⟩)
      · exact .inl ((if_neg hb).trans (if_neg hb2))
  · by_cases hb : b = P
    · have z' := (if_pos hb).symm.trans z
      cases z'
      subst hb
      exact hPo
    · have z' := (if_neg hb).symm.trans z
      by_cases hb2 : b = a
      · have z' := (if_pos hb2).symm.trans z'
        cases z'
        subst hb2
        exact ⟨ha, by rw [List.length_map]; exact hl, vs, _, rv, ha⟩
      · have z' := (if_neg hb2).symm.trans z'
        cases z'
  · by_cases hb : b = P
    · exact .inr hb
    · by_cases hb2 : b = a
      · exact .inl hb2
      · exact absurd ((if_neg hb).trans (if_neg hb2)) z
end L2
namespace DD
open PySem PySem.Spec L2
open PyProof.Rows hiding St RelV
theorem Sg {K : PySem.W.Frag} {rho : List Addr} {H : Hp} : ∀ ns : List Int, RepL K rho H (ns.map D.int) (ns.map V.int)
 | [] => by simp [RepL]
 | n :: r => by simp only [List.map_cons, RepL]; exact ⟨_, _, rfl, by simp [Rep], Sg r⟩
theorem acv {K : PySem.W.Frag} {cls : CW} {run : List D → Sto → Res D} {ns : List Int} {st : Sto} (e : run [.loc 0] [.frz (ns.map D.int), .lamT] = .ok (.bl true) st)
 (H : Hp) (a : Addr) (hO : Nx cls.lam.P H) (hS : SqL K H a (ns.map V.int)) (hP : H cls.lam.P = some (.tbl #[])) : spD K cls 1 run [.ref a] H (fun v _ => v = .bl true) fun _ _ _ => False := by
 refine ⟨rfl, [a, cls.lam.P], [.frz (ns.map D.int), .lamT], [.loc 0], ⟨rfl, ?_, ?_⟩, ?_, ?_⟩
 · intro n k b c d h1 h2 h3 h4 t1 t2
   match n, k with
   | 0, _ => cases h3; cases t1
   | _, 0 => cases h4; cases t2
   | 1, 1 => rfl
   | n + 2, _ => cases h3
   | _, k + 2 => cases h4
 · intro n b c h1 h2
   match n with
   | 0 =>
    cases h1; cases h2
    refine ⟨ns.map V.int, ?_, Sg ns⟩
    rcases hS with h | h
    · rcases h with h | ⟨o, h⟩
      · rcases hO _ with z | ⟨o, xs, z⟩ | ⟨_, z⟩ <;> rw [h] at z <;> cases z
      · exact .inl ⟨o, h⟩
    · exact .inr h
   | 1 =>
    cases h1; cases h2
    exact ⟨rfl, #[], hP, trivial, .inl rfl⟩
   | n + 2 => cases h1
 · simp [RepL, Rep]
 · rw [e]
   intro v H' rho' _ _ r
   simpa [Rep] using r
def sh : Expr → Arguments | .Lambda p _ _ _ => p | _ => ⟨[], [], none, [], [], none, []⟩
def Sh : Expr → Expr | .Lambda _ b _ _ => b | e => e
def ie : Expr → Scope | .Lambda _ _ s _ => s | _ => Bc (.Pass ⟨0, 0, 0, 0⟩)
def si : Expr → Pos | .Lambda _ _ _ p => p | _ => ⟨0, 0, 0, 0⟩
structure LamOk (cls : CW) (mg : Str → Option Value) (base : Heap) (fd : FuncData) (x : Str) (qual : Str) (l : Expr) : Prop where
 b : LamB cls.lam mg base
 c : LamC cls.lam x
 code : fd.code = .ref cls.lam.c
 q : qual ++ ".<locals>." ++ "<lambda>" = cls.lam.qual
 pa : sh l = cls.lam.params
 bo : Sh l = cls.lam.body
 sc : ie l = cls.lam.scope
 po : si l = cls.lam.pos
theorem acw {p : Program} {loose : List Str} {mean : ExcName → Option Value} {mg mb : Str → Option Value} {h base : Heap} {L : Lam} {a : Addr} {vs : Array Value} (T : Top p loose mean mg mb h) (hc : h.IsCode L.c L.P #[]) (ht : h.TableAt L.c L.P #[]) (ha : h.get? a = some { cls := .type "list", data := .seq vs }) (hk : ∀ b o, b ≠ a → b ≠ L.P → h.get? b = some o → base.get? b = some o) (hpm : (mg "__name__").getD .none = L.pm) : LamB L mg base := by
 obtain ⟨o, ws, file, tf, flags, tg, inF, text, tt, e1, r1, r2, r3, r4, r5, r6, r7, r8, hne⟩ := PySem.W.CodeHd.of hc ht
 obtain ⟨bm, ob, b1, b2, b3, b4, b5, b6⟩ := T.bmain
 refine ⟨⟨o, ws, file, tf, flags, tg, inF, text, tt, hk _ _ (fun z => ?_) hne e1, r1, r2, r3, r4, r5, r6, r7, r8, hne⟩, ⟨bm, ob, b1, b2, hk _ _ (fun z => ?_) (fun z => ?_) b3, b4, b5, b6⟩, hpm⟩
 · rw [z, ha] at e1; cases e1; simp at r1
 · rw [z, ha] at b3; cases b3; simp at b4
 · have e := ht.2; rw [z, e] at b3; cases b3; cases b4
theorem acx {K : PySem.W.Frag} {h : Heap} {P c : Addr} (X : K.In h) (hn : PySem.W.noTabs K = true) (ht : h.TableAt c P #[]) : K.lookup P = none := by
 cases e : K.lookup P with
 | none => rfl
 | some o =>
  have h1 := X _ _ e
  rw [ht.2] at h1
  cases h1
  have h2 := List.all_eq_true.mp hn _ (PySem.W.mem_of_lookupK e)
  exact absurd (show false = true from h2) Bool.false_ne_true
section
variable {prog : Program} {w : World} {A : Around} {E : Value → Shared → Prop} {s : Shared}
def EqW (prog : Program) (w : World) (A : Around) (s : Shared) (x y : Value) (b : Bool) : Prop := ∀ (E : Value → Shared → Prop) (Q : Bool → Shared → Prop), Q b s → wpAny (model prog w) A (eqBool x y) Q E s
theorem acy {l b : Addr} {x0 x1 y0 y1 : Value} {n n2 : Nat} {dd dd2 : Option Addr} {sl sl2 : Array (Option Value)} {e0 e1 : Bool} {Q : Value → Shared → Prop}
 (hl : s.heap.get? l = some { cls := .type "tuple", dict := dd, data := .seq #[x0, x1] n, slots := sl }) (hb : s.heap.get? b = some { cls := .type "tuple", dict := dd2, data := .seq #[y0, y1] n2, slots := sl2 })
 (h0 : EqW prog w A s x0 y0 e0) (h1 : EqW prog w A s x1 y1 e1) (h : Q (.bool (!(e0 && e1))) s) : wpAny (model prog w) A (Builtin.«tuple.__ne__» ⟨[.ref l, .ref b], []⟩) (fun fin s' => ∃ v, fin = .done (.ret v) ∧ Q v s') E s := by
 have f2 := AutoSeq1.sub_tuple_tuple
 obtain ⟨hp, g, d, tk, os⟩ := s
 unfold EqW at h0 h1
 cases e0 <;> cases e1 <;> (wp_walk using wpAny_loadPart' hl, wpAny_loadPart' hb, h0, h1) <;> exact ⟨_, rfl, h⟩
theorem acz {l b : Addr} {k : Bool} (hne : l ≠ b) (h : ∀ (E : Value → Shared → Prop) (Q : Value → Shared → Prop), Q (.bool k) s → wpAny (model prog w) A (richCompare .Eq (.ref l) (.ref b)) Q E s) : EqW prog w A s (.ref l) (.ref b) k := by
 intro E Q hq
 unfold eqBool
 exact wpAny_holding (wpAny_ite_split (fun z => (hne (Value.ref.inj (eq_of_beq z))).elim) fun _ => wpAny_bind (h E _ (wpAny_truthy_bool hq)))
end
variable {g : G} {X : Cx} {a b : Expr} {a' b' : E} {pos apos cpos : Pos} {F : Nat}
def Si (g : G) : R2 := fun x y H Q => ∃ rho st d e b, g.Sto rho st H ∧ g.Rep rho H d x ∧ g.Rep rho H e y ∧ eqF st d e = some b ∧ Q (.bl (!b)) H
theorem ada {st : Sto} {d e : D} {b : Bool} (h : eqF st d e = some b) : ∃ x n y m e0 e1, d = .tup [x, .loc n] ∧ e = .tup [y, .loc m] ∧ n ≠ m ∧ eqV st x y = some e0 ∧ eqN st (.loc n) (.loc m) = some e1 ∧ b = (e0 && e1) := by
 unfold eqF at h
 split at h
 · split at h
   · cases h
   · rename_i hn
     obtain ⟨e0, h0, h⟩ := Option.bind_eq_some_iff.mp h
     obtain ⟨e1, h1, h⟩ := Option.map_eq_some_iff.mp h
     exact ⟨_, _, _, _, e0, e1, rfl, rfl, hn, h0, h1, h.symm⟩
 · cases h
theorem sj {pins : List (Addr × Obj)} {sg : L2.St} {H : Hp} {s : Shared} {rho : List Addr} {x : D} {n : Nat} {v : V} {u : Value} (hK : X.K = g.K) (I : Inv X pins sg H s) (r : g.Rep rho H (.tup [x, .loc n]) v) (ru : RelV v u) :
 ∃ (a : Addr) (v0 : V) (u0 : Value) (p : Addr) (k : Nat) (dd : Option Addr) (sl : Array (Option Value)), u = .ref a ∧ g.Rep rho H x v0 ∧ RelV v0 u0 ∧ rho[n]? = some p ∧ s.heap.get? a = some { cls := .type "tuple", dict := dd, data := .seq #[u0, .ref p] k, slots := sl } := by
 obtain ⟨a, vs, rfl, sq, l⟩ := Cj.mp r
 cases ru
 simp only [G.RepL, RepL] at l
 obtain ⟨v0, t, rfl, r0, v1, t1, rfl, r1, rfl⟩ := l
 obtain ⟨p, hp, rfl⟩ := Bh.mp r1
 rw [← hK] at sq
 obtain ⟨its, rvs, ⟨o, ho, hc, k, hd⟩, _⟩ := I.tuple sq
 cases rvs with
 | cons q0 q => cases q with
  | cons q1 q =>
   cases q; cases q1
   obtain ⟨cl, dd, da, sl⟩ := o
   simp only at hc hd
   subst hc hd
   exact ⟨a, v0, _, p, k, dd, sl, rfl, r0, q0, hp, ho⟩
theorem adb (hK : X.K = g.K) (hw : g.cls.w = X.w) (hu : X.A.units + 64 < cLine) : OpR X (compareOp .NotEq) (Si g) := by
 intro pins s sg H x y v u Q I rx ry h
 obtain ⟨rho, st, d, e, r, S, r1, r2, he, hq⟩ := h
 obtain ⟨x0, n, y0, m, e0, e1, rfl, rfl, hnm, h0, h1, rfl⟩ := ada he
 obtain ⟨a1, v0, u0, p1, k1, dd1, sl1, rfl, rv0, ru0, hr1, ho1⟩ := sj hK I r1 rx
 obtain ⟨a2, w0, z0, p2, k2, dd2, sl2, rfl, rw0, rz0, hr2, ho2⟩ := sj hK I r2 ry
 obtain ⟨pd, pz, g1, g2, rfl⟩ := Kc h0
 obtain ⟨as, q1⟩ := reads hK I S 40 x0 v0 u0 pd rv0 ru0 g1
 obtain ⟨bs, q2⟩ := reads hK I S 40 y0 w0 z0 pz rw0 rz0 g2
 obtain ⟨c1, c2⟩ := fq 40 x0 pd g1
 obtain ⟨c3, c4⟩ := fq 40 y0 pz g2
 have E0 : EqW X.prog X.w X.A.in1 s u0 z0 (PyData.eqv pd pz) := fun E Q hq => SeqAt.eqAt_reads pd pz X.A.in1 s _ _ as bs q1 q2 c1 c3 (by show X.A.units + 1 + min pd.depth pz.depth < cLine; omega) X.prog X.w E Q hq
 have E1 : EqW X.prog X.w X.A.in1 s (.ref p1) (.ref p2) e1 := by
  simp only [eqN] at h1
  cases f1 : az st n with
  | none => rw [f1] at h1; cases h1
  | some ka =>
   cases f2 : az st m with
   | none => rw [f1, f2] at h1; cases h1
   | some kb =>
    rw [f1, f2] at h1
    simp only at h1
    obtain ⟨b1, xa, j1, i1, hH1, na⟩ := Dj S f1
    obtain ⟨b2, xb, j2, i2, hH2, nb⟩ := Dj S f2
    rw [hr1] at j1; cases j1
    rw [hr2] at j2; cases j2
    have hne : p1 ≠ p2 := fun z => hnm (S.nd n m p1 _ _ hr1 (by rw [z]; exact hr2) i1 i2 rfl rfl)
    obtain ⟨m1, z1, ya, pa, da⟩ := Fs hK hw I hH1 na
    obtain ⟨m2, z2, yb, pb, db⟩ := Fs hK hw I hH2 nb
    have la : ka.length = ya.length := (gr na).trans (Paired.length pa)
    have lb : kb.length = yb.length := (gr nb).trans (Paired.length pb)
    refine acz hne fun E Q hq => ?_
    by_cases hl : ka.length = kb.length
    · rw [if_pos hl] at h1
      refine eqH (neg := false) (knd := Cu X.prog X.w) (r := e1) (by show X.A.units + 1 + 1 + 16 < cLine; omega) (by show X.A.units + 1 < cLine; omega) m1 m2 da db (fun _ => Rc (A := X.A.in1.in1) hK (by show X.A.units + 1 + 1 + 60 < cLine; omega) I S nb pb na pa h1) ?_
      rw [← la, ← lb, hl, beq_self_eq_true, Bool.true_and, Bool.false_xor]
      exact hq
    · rw [if_neg hl] at h1
      cases h1
      refine eqH (neg := false) (knd := Cu X.prog X.w) (r := false) (by show X.A.units + 1 + 1 + 16 < cLine; omega) (by show X.A.units + 1 < cLine; omega) m1 m2 da db (fun z => absurd (la.trans (z.trans lb.symm)) hl) ?_
      rw [Bool.and_false, Bool.false_xor]
      exact hq
 have ta : s.TypeIs (.ref a1) "tuple" := ⟨_, ho1, rfl⟩
 have tb : s.TypeIs (.ref a2) "tuple" := ⟨_, ho2, rfl⟩
 exact wpAny_richCompare_same_room (op := .NotEq) ta tb PySem.F.slot_tuple_ne (wpAny_call_entry PySem.F.slot_tuple_ne ta PySem.F.entry_tuple_ne (acy ho1 ho2 E0 E1 ⟨(fun x => nomatch x), ⟨.bl _, H, I, rfl, hq⟩⟩) (PySem.F.args_tuple_ne_2 _ _)) (by omega)
theorem ade {sg : L2.St} {H : Hp} {Q : VK} (q : tE g (.mt .neG a' (.cons b' .nil)) sg H Q) : tOp (Si g) (tE g a') (tE g b') sg H Q := by
 obtain ⟨rho, st, env, s, n, q⟩ := q
 simp only [aa] at q
 refine step s n q fun x st1 u H1 r1 k1 s1 n1 rx q1 => ?_
 simp only [rdy, if_true, au, bind_assoc, Bf] at q1
 refine step s1 n1 q1 fun y st2 w H2 r2 k2 s2 n2 ry q2 => ?_
 simp only [mtD] at q2
 cases e : eqF st2 x y with
 | none => rw [e] at q2; exact q2.elim
 | some z =>
  rw [e] at q2
  exact ⟨r2, st2, x, y, z, s2, rx.mono k2, ry, e, (show Aq g rho H Q (.bl (!z)) st2 from q2) _ H2 r2 (k1.trans k2) s2 (Cg.mpr rfl)⟩
theorem adf : ∀ x ds st st' d, mtD .neG x ds st = .ok d st' → ∃ b, d = .bl b := fun x ds st st' d h => by
 simp only [mtD] at h
 repeat' (split at h)
 all_goals first | (cases h; exact ⟨_, rfl⟩) | cases h
theorem Sj (hK : X.K = g.K) (hw : g.cls.w = X.w) (hu : X.A.units + 64 < cLine) (ha : Sd g X a a') (hb : Sd g X b b') : SdT g X (.Compare a [.NotEq] [b] pos) (.mt .neG a' (.cons b' .nil)) := Ey (Gj (op := .NotEq) (adb (g := g) hK hw hu) ha hb (gj _)) fun sg H Q q => ade (mtT adf q)
theorem sk {k v : Expr} {k' v' : E} (hK : X.K = g.K) (hw : g.cls.w = X.w) (hu : X.A.units + 64 < cLine) (hk : Sd g X k k') (hv : Sd g X v v') : Sd g X (.Dict [some k] [v] pos) (.mt .put1N .dnewN (.cons k' (.cons v' .nil))) := by
 intro pins s sg H Q I h
 obtain ⟨rho, st, env, S, n, q⟩ := h
 simp only [aa, Bf] at q
 have e0 : az (st ++ [.dcn []]) st.length = some [] := by simp [az]
 have hrd : rdy .put1N (st ++ [.dcn []]) (.loc st.length) = true := by simp only [rdy, e0]; rfl
 rw [if_pos hrd] at q
 simp only [au, Bf, bind_assoc] at q
 have hp := I.hok.fresh (Nat.le_refl s.heap.objs.size)
 have new : Am g.cls.w s.heap.objs.size [] (s.heap.push { cls := .type "dict", data := .dict #[] }) := ⟨beq_eq_false_iff_ne.mpr (Ne.symm (Nat.ne_of_lt I.big)), Nat.zero_le _, List.nodup_nil, _, #[], 0, Heap.get?_push_size _ rfl, ⟨rfl, rfl, rfl⟩, rfl, .nil⟩
 have I1 := I.laid (a := s.heap.objs.size) (o := .ext (Am g.cls.w s.heap.objs.size [])) (t' := s.toks) (fun _ _ q => Heap.get?_push_of_some _ q) (Nat.le_refl _) ⟨new, ⟨_, Heap.get?_push_size _ rfl⟩, Hv⟩
 obtain ⟨k2, s2⟩ := S.laid hp (o := .ext (Am g.cls.w s.heap.objs.size [])) (c := .dcn []) ⟨[], Bm, by simp [Aj]⟩
 have hr0 : (rho ++ [s.heap.objs.size])[st.length]? = some s.heap.objs.size := by rw [← S.len]; simp
 have n2 := n.mono k2
 have q := RQ.mono k2 q fun _ _ x => x
 refine wpAny_Dict_any rfl rfl (by simp) (by simp) (thn (Yg hk hv yg pins _ sg _ (fun ps H2 => ∃ x y w1 w2 r4 st4, ps = [(w1, w2)] ∧ g.Keep rho H r4 H2 ∧ g.Sto r4 st4 H2 ∧ r4[st.length]? = some s.heap.objs.size ∧ az st4 st.length = some [] ∧ ba x = true ∧ g.Rep r4 H2 x w1 ∧ g.Rep r4 H2 y w2 ∧ Aq g rho H Q (.loc st.length) (st4.set st.length (.dcn [(x, y)]))) I1 (step s2 n2 q fun x st3 u H3 r3 k3 s3 n3 ru q3 => step s3 n3 q3 fun y st4 w H4 r4 k4 s4 n4 rw4 q4 => ?_)) fun ws sh2 h0 => ?_)
 · simp only [mtD] at q4
   split at q4
   · rename_i kvs ed
     split at q4
     · rename_i hx
       obtain ⟨hx, rfl⟩ := hx
       exact ⟨x, y, _, _, r4, st4, rfl, (k2.trans k3).trans k4, s4, (k3.trans k4).at hr0, ed, hx, ru.mono k4, rw4, q4⟩
     · exact q4.elim
   · exact q4.elim
 · obtain ⟨ps, H2, I2, rel, x, y, w1, w2, r4, st4, e1, kk, S4, hr4, ed, hx, rx, ry, q4⟩ := h0
   subst e1
   obtain ⟨p3, xs, hr3, hc3, hH, nv⟩ := Dj S4 ed
   rw [hr4] at hr3; cases hr3
   have nv0 := nv
   simp only [Aj] at nv0
   subst nv0
   cases rel with
   | cons r0 rn =>
    cases rn
    unfold storeAll
    simp only [List.forIn_cons, List.forIn_nil, bind_assoc, pure_bind]
    refine wpAny_bind (wpAny_bind (ra hK hw hu I2 hH nv rx hx r0.1 r0.2 (by show 0 < sizeLine; decide) fun q9 s5 ekv I5 => wpAny_pure (wpAny_pure ?_)))
    subst ekv
    obtain ⟨k5, S5⟩ := S4.wroteC (o := .ext (Am g.cls.w s.heap.objs.size [(x, q9, w2)])) (c1 := .dcn [(x, y)]) hr4 hc3 rfl hH ⟨fun _ => nofun, fun _ _ => nofun⟩ fun H3 eH k9 => ⟨_, eH, by simp only [Aj]; exact ⟨q9, w2, [], rfl, hx, rx.mono k9, ry.mono k9, rfl⟩⟩
    exact ⟨.ref s.heap.objs.size, _, I5, rfl, q4 _ _ r4 (kk.trans k5) S5 (Bh.mpr ⟨_, hr4, rfl⟩)⟩
end DD
namespace DD
open PySem L2
section
variable {t : Nat → Ty → Option Bool} {call : Or} {F : Nat} {env : DD.Env} {st : Sto} {Q : D → Sto → Prop} {QF : Fl → Sto → Prop} {QB : Bool → Sto → Prop} {n m : Nat} {kvs : List (D × D)} {k d : D} {xs : List D}
theorem adg (g : st[1]? = some .lamT) (h : Q (.loc st.length) (st ++ [.fnl])) : Wr (aa t call .lamE env st) Q := ⟨_, _, by rw [aa, g], h⟩
theorem adh {f e : E} (h : Wr (aa t call f env st) fun x s => ∃ n, x = .loc n ∧ s[n]? = some .fnl ∧ Wr (aa t call e env s) Q) : Wr (aa t call (.callL f e) env st) Q := by
 rw [aa]
 refine Al (h.imp fun x s h => ?_)
 obtain ⟨n, rfl, h1, h2⟩ := h
 simp only [h1]; exact h2
theorem Dz (g : st[n]? = some (.dcn kvs)) : az st n = some kvs := by simp only [az, g]
theorem Ie {m : Mt} (g : st[n]? = some (.dcn kvs)) (hm : rdy m st (.loc n) = (az st n).isSome := by rfl) : rdy m st (.loc n) = true := by rw [hm, Dz g]; rfl
theorem Sk (g : st[n]? = some (.dcn [])) (hk : ba k = true) (h : Q (.loc n) (st.set n (.dcn [(k, d)]))) : Wr (mtD .put1N (.loc n) [k, d] st) Q := ⟨_, _, by simp only [mtD, Dz g, hk, and_self, if_true], h⟩
theorem Sl (g : st[n]? = some (.dcn kvs)) (hk : ba k = true) (h : Q ((Ba kvs k).getD d) st) : Wr (mtD .getN (.loc n) [k, d] st) Q := ⟨_, _, by simp only [mtD, Dz g]; rw [if_pos hk], h⟩
theorem sm (g : st[n]? = some (.dcn kvs)) (hk : ba k = true) (e : Ba kvs k = some d) (h : Q d st) : Wr (ixD (.loc n) k st) Q := ⟨_, _, by simp only [ixD, Dz g, hk, if_true, e], h⟩
theorem ny (g : st[n]? = some (.dcg kvs)) (hk : ba k = true) (e : Ba kvs k = some d) (h : Q d st) : Wr (ixD (.loc n) k st) Q := ⟨_, _, by simp only [ixD, az, gm, g, hk, if_true, e], h⟩
theorem adi (g : st[n]? = some (.dcn kvs)) (h : Q .non (st.set n (.dcn []))) : Wr (mtD .clearN (.loc n) [] st) Q := ⟨_, _, by simp only [mtD, Dz g], h⟩
theorem adj (g : st[n]? = some (.dcn kvs)) (h : Q (.loc n) (st.set n (.dcg kvs))) : Wr (mtD .frzN (.loc n) [] st) Q := ⟨_, _, by simp only [mtD, Dz g], h⟩
theorem Sm {a b : D} {x : Bool} (e : eqF st a b = some x) (h : Q (.bl (!x)) st) : Wr (mtD .neG a [b] st) Q := ⟨_, _, by simp only [mtD, e], h⟩
theorem adk {is : List Int} {i : Int} (g : aq st n = some xs) (e : intsOf xs = some is) (h : Q (.int (Fi i is)) st) : Wr (mtD .maxd (.loc n) [.int i] st) Q := ⟨_, _, by simp only [mtD, g, Option.bind_some, e], h⟩
theorem Sn (g : st[n]? = some (.lst (xs ++ [d]))) (h : Q d (st.set n (.lst xs))) : Wr (mtD .pop (.loc n) [] st) Q := ⟨_, _, by simp only [mtD, g, List.getLast?_concat, List.dropLast_concat], h⟩
theorem adl {i : Int} (g : st[n]? = some (.lst xs)) (hi : -(2 ^ 63) ≤ i ∧ i < 2 ^ 63 ∧ xs.length * i.toNat ≤ sizeLine) (h : Q (.loc st.length) (st ++ [.lst (List.replicate i.toNat xs).flatten])) : Wr (opD .mul (.loc n) (.int i) st) Q := ⟨_, _, by simp only [opD, g]; rw [if_pos hi], h⟩
theorem so {m : Mt} {o : E} {es : Es} (h : Wr (aa t call o env st) fun x s => rdy m s x = true ∧ Wr (au t call es env s) fun ds s => Wr (mtD m x ds s) fun d s => ∃ c, truth s d = some c ∧ QB c s) : Wr (Ap t call (.mt m o es) env st) QB := by
 rw [Ap]
 refine Al (h.imp fun x s h => ?_)
 rw [if_pos h.1]
 refine Al (h.2.imp fun ds s h => Al (h.imp fun d s h => ?_))
 obtain ⟨c, h1, h2⟩ := h
 rw [h1]; exact bb h2
theorem jk {o k v : E} (h : Wr (aa t call v env st) fun y s => Wr (aa t call o env s) fun x s => Wr (aa t call k env s) fun kk s => ∃ n kvs, x = .loc n ∧ s[n]? = some (.dcn kvs) ∧ ba kk = true ∧ kvs.length < sizeLine ∧ QF (.next env) (s.set n (.dcn (Bw kvs kk y)))) : Wr (An t call F (.dput o k v) env st) QF := by
 rw [An]
 refine Al (h.imp fun y s h => Al (h.imp fun x s h => Al (h.imp fun kk s h => ?_)))
 obtain ⟨n, kvs, rfl, h1, h2, h3, h4⟩ := h
 simp only [Dz h1, h2, h3, and_self, if_true]
 exact bb h4
theorem Jk {kd one : Bool} {tg : List Nat} {it : E} {b : Ss} (h : Wr (aa t call it env st) fun d s => ∃ n kvs, d = .loc n ∧ s[n]? = some (.dcn kvs) ∧ Wr (Cr (fun _ => true) (turn t call F tg one b) (cg kd kvs) env (s.set n (.dcg kvs))) fun f s' => ∃ env', f = .next env' ∧ s'[n]? = some (.dcg kvs) ∧ QF (.next env') (s'.set n (.dcn kvs))) : Wr (An t call F (.forD kd tg one it b) env st) QF := by
 rw [An]
 refine Al (h.imp fun d s h => ?_)
 obtain ⟨n, kvs, rfl, h1, h⟩ := h
 simp only [Dz h1]
 refine Al (Wr.imp h fun f s h => ?_)
 obtain ⟨env', rfl, h2, h3⟩ := h
 simp only [ja, h2]
 exact bb h3
theorem adm {t1 t2 : List Nat} {o1 o2 : Bool} {a c : E} {b : Ss} (h : Wr (au t call (.cons a (.cons c .nil)) env st) fun ds s => ∃ n m xs ys, ds = [.loc n, .loc m] ∧ aq s n = some xs ∧ aq s m = some ys ∧ xs.length ≤ ys.length ∧ Wr (Cr (fun st => stays st (some n) xs && stays st (some m) ys) (nq t call F t1 o1 t2 o2 b) (Eu xs ys) env s) QF) : Wr (An t call F (.forZ t1 o1 t2 o2 a c b) env st) QF := by
 rw [An]
 refine Al (h.imp fun ds s h => ?_)
 obtain ⟨n, m, xs, ys, rfl, h1, h2, hl, h⟩ := h
 simp only [h1, h2, hl, if_true]; exact h
theorem Ny {all : List D} {p : Option Nat} {n0 : Nat} {body : D → Sto → Res (Option (D × D))} {f : D → Option (D × D)} {J : Sto → Prop} (hs : ∀ st, J st → stays st p all = true) (hset : ∀ st kvs, J st → J (st.set n0 (.dcn kvs))) :
 ∀ (xs : List D) (kvs : List (D × D)) (st : Sto), J st → st[n0]? = some (.dcn kvs) → kvs.length + xs.length ≤ sizeLine → (∀ d ∈ xs, ∀ k y, f d = some (k, y) → ba k = true) →
 (∀ d ∈ xs, ∀ st kvs, J st → st[n0]? = some (.dcn kvs) → ∃ st', body d st = .ok (f d) st' ∧ J st' ∧ st'[n0]? = some (.dcn kvs)) →
 ∃ st', Bn all p n0 body xs st = .ok () st' ∧ J st' ∧ st'[n0]? = some (.dcn (Gn kvs (xs.filterMap f)))
 | [], kvs, st, h, hy, _, _, _ => ⟨st, by simp only [Bn]; rw [if_pos (hs _ h)], h, by simpa [Gn] using hy⟩
 | d :: r, kvs, st, h, hy, hl, hk, hb => by
  obtain ⟨s1, e1, j1, y1⟩ := hb d List.mem_cons_self st kvs h hy
  simp only [Bn]
  rw [if_pos (hs _ h), e1]
  have hl2 : kvs.length < sizeLine := by simp at hl; omega
  cases hf : f d with
  | none =>
   obtain ⟨s2, e2, j2, y2⟩ := Ny hs hset r kvs s1 j1 y1 (by simp at hl ⊢; omega) (fun x hx => hk x (List.mem_cons_of_mem _ hx)) fun x hx => hb x (List.mem_cons_of_mem _ hx)
   exact ⟨s2, e2, j2, by rw [List.filterMap_cons, hf]; exact y2⟩
  | some kv =>
   obtain ⟨k, y⟩ := kv
   have hlen : (Bw kvs k y).length ≤ kvs.length + 1 := by unfold Bw; split <;> simp
   obtain ⟨s2, e2, j2, y2⟩ := Ny hs hset r (Bw kvs k y) (s1.set n0 (.dcn (Bw kvs k y))) (hset _ _ j1) (Kh y1 _) (by simp at hl ⊢; omega) (fun x hx => hk x (List.mem_cons_of_mem _ hx)) fun x hx => hb x (List.mem_cons_of_mem _ hx)
   refine ⟨s2, ?_, j2, by rw [List.filterMap_cons, hf]; simpa [Gn] using y2⟩
   simp only [y1, hl2, hk d List.mem_cons_self k y hf, and_self, if_true]
   exact e2
theorem adn {k nl : Nat} {one : Bool} {tg fv : List Nat} {it kx vx : E} {ifs : Es}
 (h : Wr (aa t call it env st) fun d s => ∃ xs p, ∃ f : D → Option (D × D), Cq k s d = some (xs, p) ∧ xs.length ≤ sizeLine ∧ (∀ d ∈ xs, ∀ k y, f d = some (k, y) → ba k = true) ∧ (∀ s', Fr s s' → stays s' p xs = true) ∧
  (∀ d ∈ xs, ∀ s', Fr s s' → Wr (Jh t call tg one (Bx nl fv env) ifs kx vx d s') fun r s2 => r = f d ∧ Fr s' s2) ∧
  ∀ s', Fr s s' → s'[s.length]? = some (.dcn (Gn [] (xs.filterMap f))) → Q (.loc s.length) s') : Wr (aa t call (.dcompN k one nl tg fv it ifs kx vx) env st) Q := by
 obtain ⟨d, s, e, xs, p, f, hi, hl, hk, hs, hb, q⟩ := h
 rw [aa, e]
 simp only [Bf, hi]
 obtain ⟨s', e2, F, y⟩ := Ny (all := xs) (p := p) (n0 := s.length) (body := Jh t call tg one (Bx nl fv env) ifs kx vx) (f := f) (J := Fr s) hs (fun s2 ys h => h.set (Nat.le_refl _) _) xs [] (s ++ [.dcn []]) (.app _) (by simp) (by simpa using hl) hk (fun d hd s2 ys hJ hn => by
  obtain ⟨r, s3, e3, rfl, F3⟩ := hb d hd s2 hJ
  exact ⟨s3, e3, hJ.trans F3, F3.at hn⟩)
 show Wr ((Bn xs p s.length (Jh t call tg one (Bx nl fv env) ifs kx vx) xs (s ++ [.dcn []])).bind fun _ st' => .ok (.loc s.length) st') Q
 rw [e2]
 exact bb (q s' F y)
end
end DD
namespace My
open PySem PySem.Spec L2 DD
open PyProof.Rows hiding St
noncomputable def top (i : Nat) : Stmt := PySem.Challenge.pw_partproof_k21_forms_of_terms.main.body.getD i (.Pass ⟨0, 0, 0, 0⟩)
abbrev Lv (s : Stmt) (x : String) : Prop := (Bc s).names.lookup (Str.ofString x) = some NameKind.local
abbrev fO (x q : Str) (s : Stmt) := PySem.W.fnOf x q (iz s) (Gk s) (Bc s)
theorem So {P : Program} {w : World} {X : Cx} : Passes (CXd P w) X (fun _ _ _ => False) := fun _ _ _ _ _ _ _ h => h.elim
abbrev gw : Stmt := top 6
abbrev Fx : Stmt := top 7
abbrev fy : Stmt := top 8
abbrev Fy : Stmt := top 9
abbrev Fz : Stmt := top 10
abbrev Ga : Stmt := top 12
abbrev fc : Stmt := top 13
abbrev cw : Stmt := top 14
abbrev gb : Stmt := top 16
abbrev Dk : Stmt := top 17
abbrev Ea : Stmt := top 18
abbrev Eb : Stmt := top 19
abbrev Gb : Stmt := top 20
abbrev gc : Stmt := top 21
abbrev Ge : Stmt := top 22
abbrev Cy : Stmt := top 23
abbrev Ec : Stmt := top 24
abbrev Dl : Stmt := top 25
abbrev Gw : Stmt := top 26
abbrev dm : Stmt := top 27
abbrev dh : Stmt := top 28
abbrev Ed : Stmt := top 29
abbrev Fc : Stmt := top 30
abbrev Ct : Stmt := top 31
def dt : Expr := match Gk Ga with | [.Return (some (.Call _ [_, l] _ _)) _] => l | _ => .Name "x" ⟨0, 0, 0, 0⟩
abbrev ci (i : Int) : E := .cst (.int i)
abbrev cs (x : Str) : E := .cst (.str x)
abbrev o1 (e : E) : Es := .cons e .nil
abbrev o2 (s : S) : Ss := .cons s .nil
noncomputable def ko : Ss := (o2 (.ret (.andE (.isi (.var 0) (.b "int")) (.notE (.isi (.var 0) (.b "bool"))))))
noncomputable def Ko : Ss := (.cons (.par 0 1 (.bt .absB (o1 (.var 0))) (.bt .absB (o1 (.var 1)))) (.cons (.whileS (.cm .ne (.var 1) (ci 0)) (o2 (.par 0 1 (.var 1) (.op .mod (.var 0) (.var 1))))) (o2 (.ret (.var 0)))))
noncomputable def Kp : Ss := (.cons (.ifS (.orE (.notE (.call 0 (o1 (.var 0)) [])) (.notE (.call 0 (o1 (.var 1)) []))) (o2 (.unp [] (.cst .non))) .nil) (.cons (.ifS (.cm .eq (.var 1) (ci 0)) (o2 (.unp [] (.cst .non))) .nil) (.cons (.set 2 (.call 1 (.cons (.var 0) (o1 (.var 1))) [])) (.cons (.ifS (.cm .lt (.var 1) (ci 0)) (o2 (.set 2 (.neg (.var 2)))) .nil) (o2 (.ret (.tupE (.cons (.op .fdiv (.var 0) (.var 2)) (o1 (.op .fdiv (.var 1) (.var 2)))))))))))
noncomputable def kq : Ss := (.cons (.ifS (.andE (.cm .eq (.ix (.var 0) (ci 1)) (ci 1)) (.cm .eq (.ix (.var 1) (ci 1)) (ci 1))) (o2 (.ret (.tupE (.cons (.op .add (.ix (.var 0) (ci 0)) (.ix (.var 1) (ci 0))) (o1 (ci 1)))))) .nil) (o2 (.ret (.call 2 (.cons (.op .add (.op .mul (.ix (.var 0) (ci 0)) (.ix (.var 1) (ci 1))) (.op .mul (.ix (.var 1) (ci 0)) (.ix (.var 0) (ci 1)))) (o1 (.op .mul (.ix (.var 0) (ci 1)) (.ix (.var 1) (ci 1))))) []))))
noncomputable def Kq : Ss := (.cons (.ifS (.andE (.cm .eq (.ix (.var 0) (ci 1)) (ci 1)) (.cm .eq (.ix (.var 1) (ci 1)) (ci 1))) (o2 (.ret (.tupE (.cons (.op .mul (.ix (.var 0) (ci 0)) (.ix (.var 1) (ci 0))) (o1 (ci 1)))))) .nil) (o2 (.ret (.call 2 (.cons (.op .mul (.ix (.var 0) (ci 0)) (.ix (.var 1) (ci 0))) (o1 (.op .mul (.ix (.var 0) (ci 1)) (.ix (.var 1) (ci 1))))) []))))
noncomputable def kr : Ss := (o2 (.ret (.call 6 (.cons (.var 0) (.cons .lamE .nil)) [])))
noncomputable def Ee : Ss := (.cons (.set 2 (.ix (.var 0) (ci 0))) (.cons (.ifS (.cm .eq (.var 2) (cs "number")) (o2 (.ret (.tupE (.cons (.ix (.var 0) (ci 1)) (.cons .dnewN .nil))))) .nil) (.cons (.ifS (.cm .eq (.var 2) (cs "weigh")) (o2 (.ret (.call 7 (.cons (.lstE (o1 (.call 6 (.cons (.ix (.var 0) (ci 2)) (o1 (.var 1))) []))) (o1 (.lstE (o1 (.ix (.var 0) (ci 1)))))) []))) .nil) (.cons (.ifS (.cm .eq (.var 2) (cs "plus")) (o2 (.ret (.call 7 (.cons (.comp 1 true 1 [0] [1] (.ix (.var 0) (ci 1)) .nil (.call 6 (.cons (.var 0) (o1 (.var 1))) [])) (o1 (.op .mul (.lstE (o1 (.cst (.tup [.int 1, .int 1])))) (.bt .lenB (o1 (.ix (.var 0) (ci 1))))))) []))) .nil) (o2 (.ret (.tupE (.cons (.cst (.tup [.int 0, .int 1])) (o1 (.mt .put1N .dnewN (.cons (.callL (.var 1) (.var 0)) (o1 (.cst (.tup [.int 1, .int 1]))))))))))))))
noncomputable def Kr : Ss := (.cons (.set 2 (.cst (.tup [.int 0, .int 1]))) (.cons (.set 3 .dnewN) (.cons (.forZ [4, 5] false [6] true (.var 0) (.var 1) (.cons (.set 2 (.call 3 (.cons (.var 2) (o1 (.call 4 (.cons (.var 6) (o1 (.var 4))) []))) [])) (o2 (.forD true [7, 8] false (.var 5) (o2 (.dput (.var 3) (.var 7) (.call 3 (.cons (.mt .getN (.var 3) (.cons (.var 7) (o1 (.cst (.tup [.int 0, .int 1]))))) (o1 (.call 4 (.cons (.var 6) (o1 (.var 8))) []))) []))))))) (o2 (.ret (.tupE (.cons (.var 2) (o1 (.dcompN 6 false 2 [0, 1] [] (.mt .frzN (.var 3) .nil) (o1 (.cm .ne (.var 1) (.cst (.tup [.int 0, .int 1])))) (.var 0) (.var 1))))))))))
noncomputable def Ks : Ss := (.cons (.ifS (.cm .lt (.var 1) (.bt .lenB (o1 (.var 0)))) (o2 (.ret (.ix (.var 0) (.var 1)))) .nil) (o2 (.ret (ci 0))))
noncomputable def ku : Ss := (.cons (.set 2 (.lstE .nil)) (.cons (.ifS (.cm .ge (.var 0) (.op .pow (ci 10) (ci 30))) (.cons (.set 3 (.op .sub (.var 0) (.op .pow (ci 10) (ci 30)))) (.cons (.forR [4] (o1 (.var 1)) (.cons (.ex (.mt .append (.var 2) (o1 (.op .mod (.var 3) (.op .pow (ci 10) (ci 45)))))) (o2 (.set 3 (.op .fdiv (.var 3) (.op .pow (ci 10) (ci 45))))))) (o2 (.ret (.var 2))))) .nil) (.cons (.set 5 (.op .add (.op .mod (.var 0) (.op .add (.op .pow (ci 10) (ci 18)) (ci 9))) (ci 48271))) (.cons (.forR [4] (o1 (.op .add (.var 1) (ci 2))) (.cons (.set 5 (.op .mod (.op .add (.op .add (.op .mul (.var 5) (.var 5)) (.op .mul (ci 48271) (.var 5))) (.var 4)) (.op .add (.op .pow (ci 10) (ci 18)) (ci 9)))) (o2 (.ex (.mt .append (.var 2) (o1 (.var 5))))))) (o2 (.ret (.sl 1 (.var 2) (o1 (ci 2)))))))))
noncomputable def Ku : Ss := (.cons (.set 2 (.bt .absB (o1 (.var 0)))) (.cons (.set 3 (.var 1)) (.cons (.whileS (.cm .ne (.var 3) (ci 0)) (o2 (.par 2 3 (.var 3) (.op .mod (.var 2) (.var 3))))) (o2 (.ret (.tupE (.cons (.op .fdiv (.var 0) (.var 2)) (o1 (.op .fdiv (.var 1) (.var 2))))))))))
noncomputable def Kv : Ss := (.cons (.set 1 .dnewN) (.cons (.forD true [2, 3] false (.var 0) (o2 (.ifS (.cm .ne (.ix (.var 3) (ci 0)) (ci 0)) (o2 (.dput (.var 1) (.var 2) (.var 3))) .nil))) (o2 (.ret (.var 1)))))
noncomputable def sr : Ss := (o2 (.ret (.call 10 (.cons (.op .add (.op .mul (.ix (.var 0) (ci 0)) (.ix (.var 1) (ci 1))) (.op .mul (.ix (.var 1) (ci 0)) (.ix (.var 0) (ci 1)))) (o1 (.op .mul (.ix (.var 0) (ci 1)) (.ix (.var 1) (ci 1))))) [])))
noncomputable def Sr : Ss := (o2 (.ret (.call 10 (.cons (.op .mul (.ix (.var 0) (ci 0)) (.ix (.var 1) (ci 0))) (o1 (.op .mul (.ix (.var 0) (ci 1)) (.ix (.var 1) (ci 1))))) [])))
noncomputable def Kw : Ss := (.cons (.set 1 (.op .mod (.op .fdiv (.var 0) (ci 16)) (.ix (.lstE (.cons (ci 3) (.cons (ci 6) (.cons (ci 6) (o1 (.op .pow (ci 10) (ci 12))))))) (.op .mod (.var 0) (ci 4))))) (o2 (.ret (.call 10 (.cons (.op .mul (.var 1) (.op .sub (ci 1) (.op .mul (.op .mod (.op .fdiv (.var 0) (ci 8)) (ci 2)) (ci 2)))) (o1 (.op .add (ci 1) (.op .mul (.op .mod (.op .fdiv (.var 0) (ci 4)) (ci 2)) (.op .mod (.op .fdiv (.var 0) (ci 97)) (.ix (.lstE (.cons (ci 5) (o1 (.op .pow (ci 10) (ci 12))))) (.op .mod (.op .fdiv (.var 0) (ci 89)) (ci 2)))))))) []))))
noncomputable def Kx : Ss := (.cons (.set 3 (.ix (.var 2) (.op .mod (.ix (.var 1) (ci 0)) (.bt .lenB (o1 (.var 2)))))) (.cons (.set 4 (.ix (.var 2) (.op .mod (.ix (.var 1) (ci 1)) (.bt .lenB (o1 (.var 2)))))) (.cons (.set 5 (.ix (.var 2) (.op .mod (.ix (.var 1) (ci 2)) (.bt .lenB (o1 (.var 2)))))) (.cons (.set 6 (.op .mod (.var 0) (ci 10))) (.cons (.ifS (.cm .eq (.var 6) (ci 0)) (o2 (.ret (.tupE (.cons (cs "number") (o1 (.call 14 (o1 (.ix (.var 1) (ci 3))) [])))))) .nil) (.cons (.ifS (.cm .eq (.var 6) (ci 1)) (o2 (.ret (.tupE (.cons (cs "unknown") (o1 (.ix (cs "abcd") (.op .mod (.ix (.var 1) (ci 3)) (ci 4)))))))) .nil) (.cons (.ifS (.cm .lt (.var 6) (ci 5)) (o2 (.ret (.tupE (.cons (cs "weigh") (.cons (.call 14 (o1 (.ix (.var 1) (ci 3))) []) (o1 (.var 3))))))) .nil) (.cons (.ifS (.cm .lt (.var 6) (ci 8)) (.cons (.ifS (.cm .eq (.op .mod (.op .fdiv (.ix (.var 1) (ci 3)) (ci 4)) (ci 8)) (ci 5)) (o2 (.ret (.tupE (.cons (cs "plus") (o1 (.tupE (.cons (.var 3) (.cons (.var 4) (.cons (.var 5) (.cons (.var 3) (.cons (.var 5) (o1 (.var 4))))))))))))) .nil) (o2 (.ret (.tupE (.cons (cs "plus") (o1 (.sl 2 (.tupE (.cons (.var 3) (.cons (.var 4) (o1 (.var 5))))) (o1 (.op .mod (.ix (.var 1) (ci 3)) (ci 4)))))))))) .nil) (.cons (.ifS (.cm .eq (.var 6) (ci 8)) (o2 (.ret (.tupE (.cons (cs "call") (.cons (.ix (cs "fg") (.op .mod (.ix (.var 1) (ci 3)) (ci 2))) (o1 (.sl 2 (.tupE (.cons (.var 3) (o1 (.var 4)))) (o1 (.op .add (ci 1) (.op .mod (.ix (.var 1) (ci 3)) (ci 2))))))))))) .nil) (.cons (.set 7 (.tupE (.cons (cs "unknown") (o1 (cs "m"))))) (.cons (.ifS (.cm .eq (.op .mod (.ix (.var 1) (ci 3)) (ci 2)) (ci 1)) (o2 (.set 7 (.tupE (.cons (cs "put") (.cons (.var 7) (.cons (.var 4) (o1 (.var 5)))))))) .nil) (o2 (.ret (.tupE (.cons (cs "read") (.cons (.var 7) (o1 (.var 3))))))))))))))))))
noncomputable def ky : Ss := (.cons (.set 1 (.lstE (o1 (.var 0)))) (.cons (.set 2 (ci 0)) (.cons (.whileS (.andE (.cm .ne (.var 1) (.lstE .nil)) (.cm .lt (.var 2) (ci 99))) (.cons (.set 3 (.mt .pop (.var 1) .nil)) (.cons (.set 2 (.op .add (.var 2) (ci 1))) (o2 (.set 1 (.op .add (.var 1) (.comp 1 true 1 [0] [] (.var 3) (o1 (.isi (.var 0) (.b "tuple"))) (.var 0)))))))) (o2 (.ret (.var 2))))))
noncomputable def Ky : Ss := (.cons (.set 1 (.lstE (o1 (.tupE (.cons (.var 0) (o1 (ci 1))))))) (.cons (.set 2 (ci 1)) (.cons (.whileS (.cm .ne (.var 1) (.lstE .nil)) (.cons (.unp [3, 4] (.mt .pop (.var 1) .nil)) (.cons (.set 2 (.bt .maxB (.cons (.var 2) (o1 (.var 4))))) (.cons (.set 5 (.comp 1 true 1 [0] [] (.sl 1 (.var 3) (o1 (ci 1))) (o1 (.isi (.var 0) (.b "tuple"))) (.var 0))) (.cons (.ifS (.orE (.cm .eq (.ix (.var 3) (ci 0)) (cs "plus")) (.cm .eq (.ix (.var 3) (ci 0)) (cs "call"))) (o2 (.set 5 (.bt .listB (o1 (.ix (.var 3) (.neg (ci 1))))))) .nil) (.cons (.ifS (.cm .eq (.ix (.var 3) (ci 0)) (cs "number")) (o2 (.set 5 (.lstE .nil))) .nil) (.cons (.ifS (.cm .eq (.ix (.var 3) (ci 0)) (cs "weigh")) (o2 (.set 5 (.lstE (o1 (.ix (.var 3) (ci 2)))))) .nil) (o2 (.set 1 (.op .add (.var 1) (.comp 0 true 1 [0] [4] (.var 5) .nil (.tupE (.cons (.var 0) (o1 (.op .add (.var 1) (ci 1)))))))))))))))) (o2 (.ret (.var 2))))))
noncomputable def ig : Ss := (.cons (.ifS (.notE (.isi (.var 0) (.b "tuple"))) (o2 (.ret (ci 0))) .nil) (o2 (.ret (.op .add (ci 1) (.mt .maxd (.comp 1 true 1 [0] [] (.var 0) .nil (.call 18 (o1 (.var 0)) [])) (o1 (ci 0)))))))
noncomputable def kz : Ss := (.cons (.set 1 (.lstE (.cons (.tupE (.cons (cs "unknown") (o1 (cs "a")))) (o1 (.tupE (.cons (cs "number") (o1 (.tupE (.cons (ci 2) (o1 (ci 1))))))))))) (.cons (.forS [2] true false (.sl 3 (.var 0) (.cons (ci 1) (o1 (ci 16)))) (.cons (.set 3 (.call 9 (.cons (.var 2) (o1 (ci 5))) [])) (.cons (.set 4 (.call 15 (.cons (.ix (.var 3) (ci 0)) (.cons (.sl 1 (.var 3) (o1 (ci 1))) (o1 (.var 1)))) [])) (.cons (.set 5 (.orE (.cm .notIn (.ix (.var 4) (ci 0)) (.tupE (.cons (cs "call") (o1 (cs "read"))))) (.cm .le (.call 18 (o1 (.var 4)) []) (ci 8)))) (o2 (.ifS (.andE (.var 5) (.andE (.cm .le (.call 16 (o1 (.var 4)) []) (ci 40)) (.cm .le (.call 17 (o1 (.var 4)) []) (ci 12)))) (o2 (.ex (.mt .append (.var 1) (o1 (.var 4))))) .nil)))))) (o2 (.ret (.var 1)))))
noncomputable def Ef : Ss := (.cons (.ifS (.cm .eq (.ix (.var 0) (ci 0)) (cs "number")) (o2 (.ret (.tupE (.cons (.ix (.var 0) (ci 1)) (.cons .dnewN .nil))))) .nil) (.cons (.ifS (.cm .eq (.ix (.var 0) (ci 0)) (cs "weigh")) (.cons (.unp [1, 2] (.call 20 (o1 (.ix (.var 0) (ci 2))) [])) (.cons (.set 3 .dnewN) (.cons (.forD false [4] true (.var 2) (o2 (.ifS (.cm .ne (.ix (.ix (.var 0) (ci 1)) (ci 0)) (ci 0)) (o2 (.dput (.var 3) (.var 4) (.call 13 (.cons (.ix (.var 2) (.var 4)) (o1 (.ix (.var 0) (ci 1)))) []))) .nil))) (o2 (.ret (.tupE (.cons (.call 13 (.cons (.var 1) (o1 (.ix (.var 0) (ci 1)))) []) (o1 (.var 3))))))))) .nil) (.cons (.ifS (.cm .ne (.ix (.var 0) (ci 0)) (cs "plus")) (o2 (.ret (.tupE (.cons (.tupE (.cons (ci 0) (o1 (ci 1)))) (o1 (.mt .put1N .dnewN (.cons (.var 0) (o1 (.tupE (.cons (ci 1) (o1 (ci 1)))))))))))) .nil) (.cons (.set 1 (.tupE (.cons (ci 0) (o1 (ci 1))))) (.cons (.set 3 .dnewN) (.cons (.forS [5] true true (.ix (.var 0) (ci 1)) (.cons (.unp [6, 2] (.call 20 (o1 (.var 5)) [])) (.cons (.set 1 (.call 12 (.cons (.var 1) (o1 (.var 6))) [])) (o2 (.forD false [4] true (.var 2) (o2 (.dput (.var 3) (.var 4) (.call 12 (.cons (.mt .getN (.var 3) (.cons (.var 4) (o1 (.tupE (.cons (ci 0) (o1 (ci 1))))))) (o1 (.ix (.var 2) (.var 4)))) [])))))))) (o2 (.ret (.tupE (.cons (.var 1) (o1 (.call 11 (o1 (.var 3)) []))))))))))))
noncomputable def eg : Ss := (.cons (.ifS (.cm .eq (.ix (.var 0) (ci 0)) (cs "number")) (o2 (.ret (.ix (.var 0) (ci 1)))) .nil) (.cons (.ifS (.cm .eq (.ix (.var 0) (ci 0)) (cs "weigh")) (o2 (.ret (.call 13 (.cons (.ix (.var 0) (ci 1)) (o1 (.call 21 (.cons (.ix (.var 0) (ci 2)) (o1 (.var 1))) []))) []))) .nil) (.cons (.ifS (.cm .ne (.ix (.var 0) (ci 0)) (cs "plus")) (o2 (.ret (.ix (.var 1) (.var 0)))) .nil) (.cons (.set 2 (.tupE (.cons (ci 0) (o1 (ci 1))))) (.cons (.forS [3] true true (.ix (.var 0) (ci 1)) (o2 (.set 2 (.call 12 (.cons (.var 2) (o1 (.call 21 (.cons (.var 3) (o1 (.var 1))) []))) [])))) (o2 (.ret (.var 2))))))))
noncomputable def Eg : Ss := (o2 (.ifS (.cm .eq (.ix (.var 0) (ci 0)) (cs "weigh")) (o2 (.ex (.call 22 (.cons (.ix (.var 0) (ci 2)) (o1 (.var 1))) []))) (o2 (.ifS (.cm .eq (.ix (.var 0) (ci 0)) (cs "plus")) (o2 (.forS [2] true true (.ix (.var 0) (ci 1)) (o2 (.ex (.call 22 (.cons (.var 2) (o1 (.var 1))) []))))) (o2 (.ifS (.andE (.cm .ne (.ix (.var 0) (ci 0)) (cs "number")) (.cm .notIn (.var 0) (.var 1))) (o2 (.ex (.mt .append (.var 1) (o1 (.var 0))))) .nil))))))
noncomputable def Kz : Ss := (.cons (.forS [1] true false (.call 19 (o1 (.var 0)) []) (.cons (.set 2 (.call 5 (o1 (.var 1)) [])) (.cons (.set 3 (.call 20 (o1 (.var 1)) [])) (.cons (.ifS (.orE (.notE (.isi (.var 2) (.b "tuple"))) (.orE (.cm .ne (.bt .lenB (o1 (.var 2))) (ci 2)) (.orE (.notE (.isi (.ix (.var 2) (ci 1)) (.b "dict"))) (.mt .neG (.var 2) (o1 (.var 3)))))) (o2 (.ret (.cst (.bl false)))) .nil) (.cons (.set 4 (.lstE .nil)) (.cons (.ex (.call 22 (.cons (.var 1) (o1 (.var 4))) [])) (.cons (.set 5 .dnewN) (.cons (.forR [6] (o1 (.bt .lenB (o1 (.var 4)))) (o2 (.dput (.var 5) (.ix (.var 4) (.var 6)) (.call 14 (o1 (.op .add (.call 8 (.cons (.var 0) (o1 (.op .add (ci 16) (.var 6)))) []) (.op .mul (ci 5) (.var 6)))) [])))) (.cons (.set 7 (.ix (.var 2) (ci 0))) (.cons (.forD false [8] true (.ix (.var 2) (ci 1)) (o2 (.set 7 (.call 12 (.cons (.var 7) (o1 (.call 13 (.cons (.ix (.ix (.var 2) (ci 1)) (.var 8)) (o1 (.ix (.var 5) (.var 8)))) []))) [])))) (.cons (.ifS (.cm .ne (.var 7) (.call 21 (.cons (.var 1) (o1 (.var 5))) [])) (o2 (.ret (.cst (.bl false)))) .nil) (.cons (.ex (.mt .clearN (.ix (.var 2) (ci 1)) .nil)) (o2 (.ifS (.mt .neG (.call 5 (o1 (.var 1)) []) (o1 (.var 3))) (o2 (.ret (.cst (.bl false)))) .nil)))))))))))))) (o2 (.ret (.cst (.bl true)))))
noncomputable def fns : List Fn := [⟨1, 1, ko⟩, ⟨2, 2, Ko⟩, ⟨2, 3, Kp⟩, ⟨2, 2, kq⟩, ⟨2, 2, Kq⟩, ⟨1, 1, kr⟩, ⟨2, 3, Ee⟩, ⟨2, 9, Kr⟩, ⟨2, 2, Ks⟩, ⟨2, 6, ku⟩, ⟨2, 4, Ku⟩, ⟨1, 4, Kv⟩, ⟨2, 2, sr⟩, ⟨2, 2, Sr⟩, ⟨1, 2, Kw⟩, ⟨3, 8, Kx⟩, ⟨1, 4, ky⟩, ⟨1, 6, Ky⟩, ⟨1, 1, ig⟩, ⟨1, 6, kz⟩, ⟨1, 7, Ef⟩, ⟨2, 4, eg⟩, ⟨2, 3, Eg⟩, ⟨1, 9, Kz⟩]
noncomputable def tab (n : Nat) (t : Ty) : Option Bool := match n with
 | _ => none
theorem gx {n : Nat} {x : String} (h : x ≠ "ValueError") : tab n (.b x) = none := by
 unfold tab
 split
 · rfl
section
variable (K : PySem.W.Frag) (mg : Str → Option Value) (fd : Nat → FuncData) (cls : CW)
structure Txt : Prop where
 f_0 : FunD K "is_whole" "is_whole" gw (cls.fn 0) (fd 0)
 m_0 : mg "is_whole" = some (.ref (cls.fn 0))
 b_0 : Binds K (fd 0) ["thing"] []
 f_1 : FunD K "common_divisor" "common_divisor" Fx (cls.fn 1) (fd 1)
 m_1 : mg "common_divisor" = some (.ref (cls.fn 1))
 b_1 : Binds K (fd 1) ["one", "other"] []
 f_2 : FunD K "fraction" "fraction" fy (cls.fn 2) (fd 2)
 m_2 : mg "fraction" = some (.ref (cls.fn 2))
 b_2 : Binds K (fd 2) ["top", "bottom"] []
 J14 : ∃ ds : List Value, Vals [.int 1] ds ∧ Binds K (fd 2) ["top", "bottom"] ds
 f_3 : FunD K "plus" "plus" Fy (cls.fn 3) (fd 3)
 m_3 : mg "plus" = some (.ref (cls.fn 3))
 b_3 : Binds K (fd 3) ["one", "other"] []
 f_4 : FunD K "times" "times" Fz (cls.fn 4) (fd 4)
 m_4 : mg "times" = some (.ref (cls.fn 4))
 b_4 : Binds K (fd 4) ["one", "other"] []
 f_5 : FunD K "form_of" "form_of" Ga (cls.fn 5) (fd 5)
 m_5 : mg "form_of" = some (.ref (cls.fn 5))
 b_5 : Binds K (fd 5) ["term"] []
 f_6 : FunD K "form_by" "form_by" fc (cls.fn 6) (fd 6)
 m_6 : mg "form_by" = some (.ref (cls.fn 6))
 b_6 : Binds K (fd 6) ["term", "key_of"] []
 f_7 : FunD K "combined" "combined" cw (cls.fn 7) (fd 7)
 m_7 : mg "combined" = some (.ref (cls.fn 7))
 b_7 : Binds K (fd 7) ["forms", "weights"] []
 f_8 : FunD K "_law_cell_at" "_law_cell_at" gb (cls.fn 8) (fd 8)
 m_8 : mg "_law_cell_at" = some (.ref (cls.fn 8))
 b_8 : Binds K (fd 8) ["_law_script", "_law_k"] []
 f_9 : FunD K "_law_stream" "_law_stream" Dk (cls.fn 9) (fd 9)
 m_9 : mg "_law_stream" = some (.ref (cls.fn 9))
 b_9 : Binds K (fd 9) ["_law_cell", "_law_many"] []
 f_10 : FunD K "_law_fraction" "_law_fraction" Ea (cls.fn 10) (fd 10)
 m_10 : mg "_law_fraction" = some (.ref (cls.fn 10))
 b_10 : Binds K (fd 10) ["_law_top", "_law_bottom"] []
 f_11 : FunD K "_law_slim" "_law_slim" Eb (cls.fn 11) (fd 11)
 m_11 : mg "_law_slim" = some (.ref (cls.fn 11))
 b_11 : Binds K (fd 11) ["_law_weights"] []
 f_12 : FunD K "_law_plus" "_law_plus" Gb (cls.fn 12) (fd 12)
 m_12 : mg "_law_plus" = some (.ref (cls.fn 12))
 b_12 : Binds K (fd 12) ["_law_one", "_law_other"] []
 f_13 : FunD K "_law_times" "_law_times" gc (cls.fn 13) (fd 13)
 m_13 : mg "_law_times" = some (.ref (cls.fn 13))
 b_13 : Binds K (fd 13) ["_law_one", "_law_other"] []
 f_14 : FunD K "_law_number" "_law_number" Ge (cls.fn 14) (fd 14)
 m_14 : mg "_law_number" = some (.ref (cls.fn 14))
 b_14 : Binds K (fd 14) ["_law_x"] []
 f_15 : FunD K "_law_term" "_law_term" Cy (cls.fn 15) (fd 15)
 m_15 : mg "_law_term" = some (.ref (cls.fn 15))
 b_15 : Binds K (fd 15) ["_law_x", "_law_ys", "_law_terms_here"] []
 f_16 : FunD K "_law_size" "_law_size" Ec (cls.fn 16) (fd 16)
 m_16 : mg "_law_size" = some (.ref (cls.fn 16))
 b_16 : Binds K (fd 16) ["_law_term_here"] []
 f_17 : FunD K "_law_deep" "_law_deep" Dl (cls.fn 17) (fd 17)
 m_17 : mg "_law_deep" = some (.ref (cls.fn 17))
 b_17 : Binds K (fd 17) ["_law_term_here"] []
 f_18 : FunD K "_law_tall" "_law_tall" Gw (cls.fn 18) (fd 18)
 m_18 : mg "_law_tall" = some (.ref (cls.fn 18))
 b_18 : Binds K (fd 18) ["_law_thing"] []
 f_19 : FunD K "_law_terms" "_law_terms" dm (cls.fn 19) (fd 19)
 m_19 : mg "_law_terms" = some (.ref (cls.fn 19))
 b_19 : Binds K (fd 19) ["_law_script"] []
 f_20 : FunD K "_law_form" "_law_form" dh (cls.fn 20) (fd 20)
 m_20 : mg "_law_form" = some (.ref (cls.fn 20))
 b_20 : Binds K (fd 20) ["_law_term_here"] []
 f_21 : FunD K "_law_value" "_law_value" Ed (cls.fn 21) (fd 21)
 m_21 : mg "_law_value" = some (.ref (cls.fn 21))
 b_21 : Binds K (fd 21) ["_law_term_here", "_law_values"] []
 f_22 : FunD K "_law_inner" "_law_inner" Fc (cls.fn 22) (fd 22)
 m_22 : mg "_law_inner" = some (.ref (cls.fn 22))
 b_22 : Binds K (fd 22) ["_law_term_here", "_law_found"] []
 f_23 : FunD K "law" "law" Ct (cls.fn 23) (fd 23)
 m_23 : mg "law" = some (.ref (cls.fn 23))
 b_23 : Binds K (fd 23) ["_law_script"] []
 J7 : TupAt K mg "ONE" [.int 1, .int 1]
 J3 : TupAt K mg "ZERO" [.int 0, .int 1]
 J5 : mg "abs" = none
 J9 : mg "bool" = none
 J10 : mg "dict" = none
 J11 : mg "int" = none
 J1 : mg "isinstance" = none
 J2 : mg "len" = none
 J12 : mg "list" = none
 J8 : mg "max" = none
 J6 : mg "range" = none
 J4 : mg "tuple" = none
 J13 : mg "zip" = none
end
section
variable {Pr : Program} {w : World} {K : PySem.W.Frag} {mg : Str → Option Value} {base : Heap} {fd : Nat → FuncData} {cls : CW} {FF : Nat}
abbrev Fk (Pr : Program) (w : World) (K : PySem.W.Frag) (mg : Str → Option Value) (base : Heap) (fd : Nat → FuncData) (cls : CW) (FF n i : Nat) (ps : List Str) (k : Nat) : Prop := FnOk Pr w K mg base (CXd Pr w) (2 * n) (cls.fn i) (fd i) ps (spD K cls k (cj tab fns FF n i))
structure IH (F : Nat → List Str → Nat → Prop) : Prop where
 i_0 : F 0 ["thing"] 1
 i_1 : F 1 ["one", "other"] 2
 i_2 : F 2 ["top", "bottom"] 2
 i_3 : F 3 ["one", "other"] 2
 i_4 : F 4 ["one", "other"] 2
 i_5 : F 5 ["term"] 1
 i_6 : F 6 ["term", "key_of"] 2
 i_7 : F 7 ["forms", "weights"] 2
 i_8 : F 8 ["_law_script", "_law_k"] 2
 i_9 : F 9 ["_law_cell", "_law_many"] 2
 i_10 : F 10 ["_law_top", "_law_bottom"] 2
 i_11 : F 11 ["_law_weights"] 1
 i_12 : F 12 ["_law_one", "_law_other"] 2
 i_13 : F 13 ["_law_one", "_law_other"] 2
 i_14 : F 14 ["_law_x"] 1
 i_15 : F 15 ["_law_x", "_law_ys", "_law_terms_here"] 3
 i_16 : F 16 ["_law_term_here"] 1
 i_17 : F 17 ["_law_term_here"] 1
 i_18 : F 18 ["_law_thing"] 1
 i_19 : F 19 ["_law_script"] 1
 i_20 : F 20 ["_law_term_here"] 1
 i_21 : F 21 ["_law_term_here", "_law_values"] 2
 i_22 : F 22 ["_law_term_here", "_law_found"] 2
 i_23 : F 23 ["_law_script"] 1
abbrev Fj {Pr : Program} {w : World} {K : W.Frag} {mg : Str → Option Value} {base : Heap} {fd : Nat → FuncData} {cls : CW} {FF n : Nat} (_ : IH (Fk Pr w K mg base fd cls FF n)) (i : Nat) (ps : List Str) (k : Nat) : Prop := Fk Pr w K mg base fd cls FF (n + 1) i ps k
theorem ado : FnScope ["thing"] ["thing"] (Bc gw) := ⟨rfl, rfl, rfl, by decide +kernel, rfl, by decide +kernel, by decide +kernel⟩
theorem su : Lv gw "thing" := by kernel_rfl
theorem Nz : FnScope ["one", "other"] ["one", "other"] (Bc Fx) := ⟨rfl, rfl, rfl, by decide +kernel, rfl, by decide +kernel, by decide +kernel⟩
theorem jl : Lv Fx "one" := by kernel_rfl
theorem Ig : Lv Fx "other" := by kernel_rfl
theorem Oa : FnScope ["top", "bottom", "divisor"] ["top", "bottom"] (Bc fy) := ⟨rfl, rfl, rfl, by decide +kernel, rfl, by decide +kernel, by decide +kernel⟩
theorem Ob : Lv fy "top" := by kernel_rfl
theorem Jl : Lv fy "bottom" := by kernel_rfl
theorem jm : Lv fy "divisor" := by kernel_rfl
theorem adp : FnScope ["one", "other"] ["one", "other"] (Bc Fy) := ⟨rfl, rfl, rfl, by decide +kernel, rfl, by decide +kernel, by decide +kernel⟩
theorem Jm : Lv Fy "one" := by kernel_rfl
theorem jn : Lv Fy "other" := by kernel_rfl
theorem adq : FnScope ["one", "other"] ["one", "other"] (Bc Fz) := ⟨rfl, rfl, rfl, by decide +kernel, rfl, by decide +kernel, by decide +kernel⟩
theorem La : Lv Fz "one" := by kernel_rfl
theorem Lb : Lv Fz "other" := by kernel_rfl
theorem ads : FnScope ["term"] ["term"] (Bc Ga) := ⟨rfl, rfl, rfl, by decide +kernel, rfl, by decide +kernel, by decide +kernel⟩
theorem adt : Lv Ga "term" := by kernel_rfl
theorem Su : FnScope ["term", "key_of", "word"] ["term", "key_of"] (Bc fc) := ⟨rfl, rfl, rfl, by decide +kernel, rfl, by decide +kernel, by decide +kernel⟩
theorem Gx : Lv fc "term" := by kernel_rfl
theorem Sv : (Bc fc).names.lookup (Str.ofString "key_of") = some NameKind.cell := by kernel_rfl
theorem Lc : Lv fc "word" := by kernel_rfl
theorem Fd : FnScope ["forms", "weights", "constant", "sums", "own", "bases", "weight", "base", "number"] ["forms", "weights"] (Bc cw) := ⟨rfl, rfl, rfl, by decide +kernel, rfl, by decide +kernel, by decide +kernel⟩
theorem adu : Lv cw "forms" := by kernel_rfl
theorem adv : Lv cw "weights" := by kernel_rfl
theorem Ld : Lv cw "constant" := by kernel_rfl
theorem Le : Lv cw "sums" := by kernel_rfl
theorem Sw : Lv cw "own" := by kernel_rfl
theorem sx : Lv cw "bases" := by kernel_rfl
theorem Oc : Lv cw "weight" := by kernel_rfl
theorem Od : Lv cw "base" := by kernel_rfl
theorem Sx : Lv cw "number" := by kernel_rfl
theorem adw : FnScope ["_law_script", "_law_k"] ["_law_script", "_law_k"] (Bc gb) := ⟨rfl, rfl, rfl, by decide +kernel, rfl, by decide +kernel, by decide +kernel⟩
theorem sy : Lv gb "_law_script" := by kernel_rfl
theorem Sy : Lv gb "_law_k" := by kernel_rfl
theorem gf : FnScope ["_law_cell", "_law_many", "_law_found", "_law_rest", "_law_k", "_law_number_here"] ["_law_cell", "_law_many"] (Bc Dk) := ⟨rfl, rfl, rfl, by decide +kernel, rfl, by decide +kernel, by decide +kernel⟩
theorem oe : Lv Dk "_law_cell" := by kernel_rfl
theorem Sz : Lv Dk "_law_many" := by kernel_rfl
theorem Jn : Lv Dk "_law_found" := by kernel_rfl
theorem Lf : Lv Dk "_law_rest" := by kernel_rfl
theorem Oe : Lv Dk "_law_k" := by kernel_rfl
theorem Ih : Lv Dk "_law_number_here" := by kernel_rfl
theorem lg : FnScope ["_law_top", "_law_bottom", "_law_one", "_law_other"] ["_law_top", "_law_bottom"] (Bc Ea) := ⟨rfl, rfl, rfl, by decide +kernel, rfl, by decide +kernel, by decide +kernel⟩
theorem Ta : Lv Ea "_law_top" := by kernel_rfl
theorem Tb : Lv Ea "_law_bottom" := by kernel_rfl
theorem jo : Lv Ea "_law_one" := by kernel_rfl
theorem Jo : Lv Ea "_law_other" := by kernel_rfl
theorem Lg : FnScope ["_law_weights", "_law_found", "_law_base", "_law_weight"] ["_law_weights"] (Bc Eb) := ⟨rfl, rfl, rfl, by decide +kernel, rfl, by decide +kernel, by decide +kernel⟩
theorem adx : Lv Eb "_law_weights" := by kernel_rfl
theorem Of : Lv Eb "_law_found" := by kernel_rfl
theorem Tc : Lv Eb "_law_base" := by kernel_rfl
theorem og : Lv Eb "_law_weight" := by kernel_rfl
theorem ady : FnScope ["_law_one", "_law_other"] ["_law_one", "_law_other"] (Bc Gb) := ⟨rfl, rfl, rfl, by decide +kernel, rfl, by decide +kernel, by decide +kernel⟩
theorem Og : Lv Gb "_law_one" := by kernel_rfl
theorem oh : Lv Gb "_law_other" := by kernel_rfl
theorem adz : FnScope ["_law_one", "_law_other"] ["_law_one", "_law_other"] (Bc gc) := ⟨rfl, rfl, rfl, by decide +kernel, rfl, by decide +kernel, by decide +kernel⟩
theorem Te : Lv gc "_law_one" := by kernel_rfl
theorem Tf : Lv gc "_law_other" := by kernel_rfl
theorem Tg : FnScope ["_law_x", "_law_top"] ["_law_x"] (Bc Ge) := ⟨rfl, rfl, rfl, by decide +kernel, rfl, by decide +kernel, by decide +kernel⟩
theorem Ii : Lv Ge "_law_x" := by kernel_rfl
theorem Th : Lv Ge "_law_top" := by kernel_rfl
theorem gy : FnScope ["_law_x", "_law_ys", "_law_terms_here", "_law_one", "_law_other", "_law_third", "_law_way", "_law_array"] ["_law_x", "_law_ys", "_law_terms_here"] (Bc Cy) := ⟨rfl, rfl, rfl, by decide +kernel, rfl, by decide +kernel, by decide +kernel⟩
theorem aea : Lv Cy "_law_x" := by kernel_rfl
theorem Dt : Lv Cy "_law_ys" := by kernel_rfl
theorem Ij : Lv Cy "_law_terms_here" := by kernel_rfl
theorem Gy : Lv Cy "_law_one" := by kernel_rfl
theorem Ik : Lv Cy "_law_other" := by kernel_rfl
theorem Jp : Lv Cy "_law_third" := by kernel_rfl
theorem Il : Lv Cy "_law_way" := by kernel_rfl
theorem lh : Lv Cy "_law_array" := by kernel_rfl
theorem Im : FnScope ["_law_term_here", "_law_left", "_law_many", "_law_some"] ["_law_term_here"] (Bc Ec) := ⟨rfl, rfl, rfl, by decide +kernel, rfl, by decide +kernel, by decide +kernel⟩
theorem aeb : Lv Ec "_law_term_here" := by kernel_rfl
theorem jq : Lv Ec "_law_left" := by kernel_rfl
theorem Jq : Lv Ec "_law_many" := by kernel_rfl
theorem ti : Lv Ec "_law_some" := by kernel_rfl
theorem du : FnScope ["_law_term_here", "_law_left", "_law_deep_here", "_law_some", "_law_at", "_law_inner_here"] ["_law_term_here"] (Bc Dl) := ⟨rfl, rfl, rfl, by decide +kernel, rfl, by decide +kernel, by decide +kernel⟩
theorem aec : Lv Dl "_law_term_here" := by kernel_rfl
theorem jr : Lv Dl "_law_left" := by kernel_rfl
theorem Lh : Lv Dl "_law_deep_here" := by kernel_rfl
theorem Gf : Lv Dl "_law_some" := by kernel_rfl
theorem Ti : (Bc Dl).names.lookup (Str.ofString "_law_at") = some NameKind.cell := by kernel_rfl
theorem Jr : Lv Dl "_law_inner_here" := by kernel_rfl
theorem aed : FnScope ["_law_thing"] ["_law_thing"] (Bc Gw) := ⟨rfl, rfl, rfl, by decide +kernel, rfl, by decide +kernel, by decide +kernel⟩
theorem tj : Lv Gw "_law_thing" := by kernel_rfl
theorem Io : FnScope ["_law_script", "_law_terms_here", "_law_cell", "_law_xs", "_law_term_here", "_law_low"] ["_law_script"] (Bc dm) := ⟨rfl, rfl, rfl, by decide +kernel, rfl, by decide +kernel, by decide +kernel⟩
theorem aee : Lv dm "_law_script" := by kernel_rfl
theorem Li : Lv dm "_law_terms_here" := by kernel_rfl
theorem Tj : Lv dm "_law_cell" := by kernel_rfl
theorem Oh : Lv dm "_law_xs" := by kernel_rfl
theorem ip : Lv dm "_law_term_here" := by kernel_rfl
theorem tm : Lv dm "_law_low" := by kernel_rfl
theorem Dm : FnScope ["_law_term_here", "_law_constant", "_law_weights", "_law_found", "_law_base", "_law_part", "_law_more"] ["_law_term_here"] (Bc dh) := ⟨rfl, rfl, rfl, by decide +kernel, rfl, by decide +kernel, by decide +kernel⟩
theorem Eh : Lv dh "_law_term_here" := by kernel_rfl
theorem Ip : Lv dh "_law_constant" := by kernel_rfl
theorem iq : Lv dh "_law_weights" := by kernel_rfl
theorem gz : Lv dh "_law_found" := by kernel_rfl
theorem Gz : Lv dh "_law_base" := by kernel_rfl
theorem Tn : Lv dh "_law_part" := by kernel_rfl
theorem To : Lv dh "_law_more" := by kernel_rfl
theorem lj : FnScope ["_law_term_here", "_law_values", "_law_found", "_law_part"] ["_law_term_here", "_law_values"] (Bc Ed) := ⟨rfl, rfl, rfl, by decide +kernel, rfl, by decide +kernel, by decide +kernel⟩
theorem Gg : Lv Ed "_law_term_here" := by kernel_rfl
theorem Oi : Lv Ed "_law_values" := by kernel_rfl
theorem Lj : Lv Ed "_law_found" := by kernel_rfl
theorem tp : Lv Ed "_law_part" := by kernel_rfl
theorem Tp : FnScope ["_law_term_here", "_law_found", "_law_part"] ["_law_term_here", "_law_found"] (Bc Fc) := ⟨rfl, rfl, rfl, by decide +kernel, rfl, by decide +kernel, by decide +kernel⟩
theorem Ha : Lv Fc "_law_term_here" := by kernel_rfl
theorem Lk : Lv Fc "_law_found" := by kernel_rfl
theorem tq : Lv Fc "_law_part" := by kernel_rfl
theorem Ei : FnScope ["_law_script", "_law_term_here", "_law_found", "_law_due", "_law_bases", "_law_values", "_law_k", "_law_total", "_law_base"] ["_law_script"] (Bc Ct) := ⟨rfl, rfl, rfl, by decide +kernel, rfl, by decide +kernel, by decide +kernel⟩
theorem Tq : Lv Ct "_law_script" := by kernel_rfl
theorem Iq : Lv Ct "_law_term_here" := by kernel_rfl
theorem fe : Lv Ct "_law_found" := by kernel_rfl
theorem oj : Lv Ct "_law_due" := by kernel_rfl
theorem ll : Lv Ct "_law_bases" := by kernel_rfl
theorem Ll : Lv Ct "_law_values" := by kernel_rfl
theorem Lm : Lv Ct "_law_k" := by kernel_rfl
theorem Ln : Lv Ct "_law_total" := by kernel_rfl
theorem Oj : Lv Ct "_law_base" := by kernel_rfl
section
variable {n : Nat} (hw : cls.w = w) (T : Txt K mg fd cls) (hL : LamOk cls mg base (fd 5) "base" "form_of" dt) (ih : IH (Fk Pr w K mg base fd cls FF n))
include hw T hL ih
theorem aef : Fj ih 0 ["thing"] 1 := by
 refine Bu (m := 2 * n + 1) (body' := ko) T.f_0 ado rfl fun cdv hcv A outer s H E hrm => ?_
 have hr := hrm.mono (show 2 * n ≤ 2 * n + 1 by omega)
 have hu := hr.units
 subst hw
 refine Ae ?_ ?_
 refine Ax ?_
 refine yw ?_ ?_
 refine Gq ?_ ?_ ?_ ?_ T.J1 ?_ T.J11 ?_ ?_
 rfl
 decide
 exact fun n => gx (n := n) (x := "int") (by decide)
 rfl
 rfl
 rfl
 exact sv su
 refine qp ?_
 refine yx ?_
 refine Gq ?_ ?_ ?_ ?_ T.J1 ?_ T.J9 ?_ ?_
 rfl
 decide
 exact fun n => gx (n := n) (x := "bool") (by decide)
 rfl
 rfl
 rfl
 exact sv su
 exact ag
theorem aeg : Fj ih 1 ["one", "other"] 2 := by
 refine Bu (m := 2 * n + 1) (body' := Ko) T.f_1 Nz rfl fun cdv hcv A outer s H E hrm => ?_
 have hr := hrm.mono (show 2 * n ≤ 2 * n + 1 by omega)
 have hu := hr.units
 subst hw
 refine Ae ?_ ?_
 refine Mo (i := 0) (j := 1) ?_ ?_ ?_ ?_ ?_ ?_ ?_ ?_ ?_ ?_
 rfl
 exact Nz.nd
 rfl
 rfl
 decide
 exact jl
 exact Ig
 refine ml ?_ T.J5 ?_
 rfl
 refine Ad ?_ ?_
 exact sv jl
 exact Ag
 refine ml ?_ T.J5 ?_
 rfl
 refine Ad ?_ ?_
 exact sv Ig
 exact Ag
 rfl
 refine Ae ?_ ?_
 refine Ke ?_ ?_ ?_
 exact PassesOwn.leaving
 refine dj ?_ ?_ ?_ ?_
 rfl
 exact hu
 exact sv Ig
 exact ae
 refine Ae ?_ ?_
 refine Mo (i := 0) (j := 1) ?_ ?_ ?_ ?_ ?_ ?_ ?_ ?_ ?_ ?_
 rfl
 exact Nz.nd
 rfl
 rfl
 decide
 exact jl
 exact Ig
 exact sv Ig
 refine Cb ?_ ?_
 exact sv jl
 exact sv Ig
 rfl
 exact ag
 refine Ae ?_ ?_
 refine Ax ?_
 exact sv jl
 exact ag
theorem aeh : Fj ih 2 ["top", "bottom"] 2 := by
 refine Bu (m := 2 * n + 1) (body' := Kp) T.f_2 Oa rfl fun cdv hcv A outer s H E hrm => ?_
 have hr := hrm.mono (show 2 * n ≤ 2 * n + 1 by omega)
 have hu := hr.units
 subst hw
 refine Ae ?_ ?_
 refine Be ?_ ?_ ?_
 refine PW.pt ?_
 refine jc ?_ ?_
 refine Jc ?_
 refine ft ?_ ?_ ?_ ?_
 rfl
 refine Av ih.i_0 hr (by rfl) T.m_0 T.f_0.kp T.b_0 .nil Aw ax (aw rfl) ?_
 refine Ad ?_ ?_
 exact sv Ob
 exact Ag
 exact rg
 intro _; rfl
 refine Ml ?_
 refine Jc ?_
 refine ft ?_ ?_ ?_ ?_
 rfl
 refine Av ih.i_0 hr (by rfl) T.m_0 T.f_0.kp T.b_0 .nil Aw ax (aw rfl) ?_
 refine Ad ?_ ?_
 exact sv Jl
 exact Ag
 exact rg
 intro _; rfl
 refine Ae ?_ ?_
 exact se
 exact ag
 exact ag
 refine Ae ?_ ?_
 refine Be ?_ ?_ ?_
 refine By ?_ ?_ ?_ ?_
 rfl
 exact hu
 exact sv Jl
 exact ae
 refine Ae ?_ ?_
 exact se
 exact ag
 exact ag
 refine Ae ?_ ?_
 refine Au (i := 2) ?_ ?_ ?_ ?_
 exact Oa.nd
 rfl
 exact Or.inl jm
 refine Av ih.i_1 hr (by rfl) T.m_1 T.f_1.kp T.b_1 .nil Aw ax (aw rfl) ?_
 refine Ad ?_ ?_
 exact sv Ob
 refine Ad ?_ ?_
 exact sv Jl
 exact Ag
 refine Ae ?_ ?_
 refine Be ?_ ?_ ?_
 refine Ja ?_ ?_
 exact sv Jl
 exact ae
 refine Ae ?_ ?_
 refine Au (i := 2) ?_ ?_ ?_ ?_
 exact Oa.nd
 rfl
 exact Or.inl jm
 refine qj ?_
 exact sv jm
 exact ag
 exact ag
 refine Ae ?_ ?_
 refine Ax ?_
 refine Bg ?_
 refine Ad ?_ ?_
 refine Dq ?_ ?_
 exact sv Ob
 exact sv jm
 refine Ad ?_ ?_
 refine Dq ?_ ?_
 exact sv Jl
 exact sv jm
 exact Ag
 exact ag
theorem aei : Fj ih 3 ["one", "other"] 2 := by
 refine Bu (m := 2 * n + 1) (body' := kq) T.f_3 adp rfl fun cdv hcv A outer s H E hrm => ?_
 have hr := hrm.mono (show 2 * n ≤ 2 * n + 1 by omega)
 have hu := hr.units
 subst hw
 refine Ae ?_ ?_
 refine Be ?_ ?_ ?_
 refine PW.pt ?_
 refine Ht ?_ ?_
 refine By ?_ ?_ ?_ ?_
 rfl
 exact hu
 refine Ah ?_ ?_ ?_ ?_ ?_ ?_
 rfl
 rfl
 exact hu
 exact sv Jm
 exact ae
 intro _ _; rfl
 exact ae
 refine Jb ?_
 refine By ?_ ?_ ?_ ?_
 rfl
 exact hu
 refine Ah ?_ ?_ ?_ ?_ ?_ ?_
 rfl
 rfl
 exact hu
 exact sv jn
 exact ae
 intro _ _; rfl
 exact ae
 refine Ae ?_ ?_
 refine Ax ?_
 refine Bg ?_
 refine Ad ?_ ?_
 refine Ck ?_ ?_
 refine Ah ?_ ?_ ?_ ?_ ?_ ?_
 rfl
 rfl
 exact hu
 exact sv Jm
 exact ae
 intro _ _; rfl
 refine Ah ?_ ?_ ?_ ?_ ?_ ?_
 rfl
 rfl
 exact hu
 exact sv jn
 exact ae
 intro _ _; rfl
 refine Ad ?_ ?_
 exact ae
 exact Ag
 exact ag
 exact ag
 refine Ae ?_ ?_
 refine Ax ?_
 refine Av ih.i_2 hr (by rfl) T.m_2 T.f_2.kp T.b_2 .nil Aw ax (aw rfl) ?_
 refine Ad ?_ ?_
 refine Ck ?_ ?_
 refine cn ?_ ?_ ?_
 rfl
 refine Ah ?_ ?_ ?_ ?_ ?_ ?_
 rfl
 rfl
 exact hu
 exact sv Jm
 exact ae
 intro _ _; rfl
 refine Ah ?_ ?_ ?_ ?_ ?_ ?_
 rfl
 rfl
 exact hu
 exact sv jn
 exact ae
 intro _ _; rfl
 refine cn ?_ ?_ ?_
 rfl
 refine Ah ?_ ?_ ?_ ?_ ?_ ?_
 rfl
 rfl
 exact hu
 exact sv jn
 exact ae
 intro _ _; rfl
 refine Ah ?_ ?_ ?_ ?_ ?_ ?_
 rfl
 rfl
 exact hu
 exact sv Jm
 exact ae
 intro _ _; rfl
 refine Ad ?_ ?_
 refine cn ?_ ?_ ?_
 rfl
 refine Ah ?_ ?_ ?_ ?_ ?_ ?_
 rfl
 rfl
 exact hu
 exact sv Jm
 exact ae
 intro _ _; rfl
 refine Ah ?_ ?_ ?_ ?_ ?_ ?_
 rfl
 rfl
 exact hu
 exact sv jn
 exact ae
 intro _ _; rfl
 exact Ag
 exact ag
theorem aej : Fj ih 4 ["one", "other"] 2 := by
 refine Bu (m := 2 * n + 1) (body' := Kq) T.f_4 adq rfl fun cdv hcv A outer s H E hrm => ?_
 have hr := hrm.mono (show 2 * n ≤ 2 * n + 1 by omega)
 have hu := hr.units
 subst hw
 refine Ae ?_ ?_
 refine Be ?_ ?_ ?_
 refine PW.pt ?_
 refine Ht ?_ ?_
 refine By ?_ ?_ ?_ ?_
 rfl
 exact hu
 refine Ah ?_ ?_ ?_ ?_ ?_ ?_
 rfl
 rfl
 exact hu
 exact sv La
 exact ae
 intro _ _; rfl
 exact ae
 refine Jb ?_
 refine By ?_ ?_ ?_ ?_
 rfl
 exact hu
 refine Ah ?_ ?_ ?_ ?_ ?_ ?_
 rfl
 rfl
 exact hu
 exact sv Lb
 exact ae
 intro _ _; rfl
 exact ae
 refine Ae ?_ ?_
 refine Ax ?_
 refine Bg ?_
 refine Ad ?_ ?_
 refine cn ?_ ?_ ?_
 rfl
 refine Ah ?_ ?_ ?_ ?_ ?_ ?_
 rfl
 rfl
 exact hu
 exact sv La
 exact ae
 intro _ _; rfl
 refine Ah ?_ ?_ ?_ ?_ ?_ ?_
 rfl
 rfl
 exact hu
 exact sv Lb
 exact ae
 intro _ _; rfl
 refine Ad ?_ ?_
 exact ae
 exact Ag
 exact ag
 exact ag
 refine Ae ?_ ?_
 refine Ax ?_
 refine Av ih.i_2 hr (by rfl) T.m_2 T.f_2.kp T.b_2 .nil Aw ax (aw rfl) ?_
 refine Ad ?_ ?_
 refine cn ?_ ?_ ?_
 rfl
 refine Ah ?_ ?_ ?_ ?_ ?_ ?_
 rfl
 rfl
 exact hu
 exact sv La
 exact ae
 intro _ _; rfl
 refine Ah ?_ ?_ ?_ ?_ ?_ ?_
 rfl
 rfl
 exact hu
 exact sv Lb
 exact ae
 intro _ _; rfl
 refine Ad ?_ ?_
 refine cn ?_ ?_ ?_
 rfl
 refine Ah ?_ ?_ ?_ ?_ ?_ ?_
 rfl
 rfl
 exact hu
 exact sv La
 exact ae
 intro _ _; rfl
 refine Ah ?_ ?_ ?_ ?_ ?_ ?_
 rfl
 rfl
 exact hu
 exact sv Lb
 exact ae
 intro _ _; rfl
 exact Ag
 exact ag
theorem aek : Fj ih 5 ["term"] 1 := by
 refine Bu (m := 2 * n + 1) (body' := kr) T.f_5 ads rfl fun cdv hcv A outer s H E hrm => ?_
 have hr := hrm.mono (show 2 * n ≤ 2 * n + 1 by omega)
 have hu := hr.units
 subst hw
 refine Ae ?_ ?_
 refine Ax ?_
 refine Av ih.i_6 hr (by rfl) T.m_6 T.f_6.kp T.b_6 .nil Aw ax (aw rfl) ?_
 refine Ad ?_ ?_
 exact sv adt
 refine Ad ?_ ?_
 refine acq ?_ ?_ ?_ ?_ ?_ ?_ ?_ ?_ ?_
 exact hL.b
 refine hcv.symm.trans ?_
 exact hL.code
 exact hL.q
 exact hL.pa
 exact hL.bo
 exact hL.sc
 exact hL.po
 rfl
 decide
 exact Ag
 exact ag
theorem ael : Fj ih 6 ["term", "key_of"] 2 := by
 refine Bu (m := 2 * n + 1) (body' := Ee) T.f_6 Su rfl fun cdv hcv A outer s H E hrm => ?_
 have hr := hrm.mono (show 2 * n ≤ 2 * n + 1 by omega)
 have hu := hr.units
 subst hw
 refine Ae ?_ ?_
 refine Au (i := 2) ?_ ?_ ?_ ?_
 exact Su.nd
 rfl
 exact Or.inl Lc
 refine Ah ?_ ?_ ?_ ?_ ?_ ?_
 rfl
 rfl
 exact hu
 exact sv Gx
 exact ae
 intro _ _; rfl
 refine Ae ?_ ?_
 refine Be ?_ ?_ ?_
 refine By ?_ ?_ ?_ ?_
 rfl
 exact hu
 exact sv Lc
 exact bh
 refine Ae ?_ ?_
 refine Ax ?_
 refine Bg ?_
 refine Ad ?_ ?_
 refine Ah ?_ ?_ ?_ ?_ ?_ ?_
 rfl
 rfl
 exact hu
 exact sv Gx
 exact ae
 intro _ _; rfl
 refine Ad ?_ ?_
 refine Gr ?_
 rfl
 exact Ag
 exact ag
 exact ag
 refine Ae ?_ ?_
 refine Be ?_ ?_ ?_
 refine By ?_ ?_ ?_ ?_
 rfl
 exact hu
 exact sv Lc
 exact bh
 refine Ae ?_ ?_
 refine Ax ?_
 refine Av ih.i_7 hr (by rfl) T.m_7 T.f_7.kp T.b_7 .nil Aw ax (aw rfl) ?_
 refine Ad ?_ ?_
 refine cx ?_
 refine Ad ?_ ?_
 refine Av ih.i_6 hr (by rfl) T.m_6 T.f_6.kp T.b_6 .nil Aw ax (aw rfl) ?_
 refine Ad ?_ ?_
 refine Ah ?_ ?_ ?_ ?_ ?_ ?_
 rfl
 rfl
 exact hu
 exact sv Gx
 exact ae
 intro _ _; rfl
 refine Ad ?_ ?_
 refine Cs 1 ?_
 exact pv 1 (hv := Or.inr (Or.inl Sv))
 exact Ag
 exact Ag
 refine Ad ?_ ?_
 refine cx ?_
 refine Ad ?_ ?_
 refine Ah ?_ ?_ ?_ ?_ ?_ ?_
 rfl
 rfl
 exact hu
 exact sv Gx
 exact ae
 intro _ _; rfl
 exact Ag
 exact Ag
 exact ag
 exact ag
 refine Ae ?_ ?_
 refine Be ?_ ?_ ?_
 refine By ?_ ?_ ?_ ?_
 rfl
 exact hu
 exact sv Lc
 exact bh
 refine Ae ?_ ?_
 refine Ax ?_
 refine Av ih.i_7 hr (by rfl) T.m_7 T.f_7.kp T.b_7 .nil Aw ax (aw rfl) ?_
 refine Ad ?_ ?_
 refine kh (cl := [(Str.ofString "key_of", s.heap.objs.size + 1)]) (N := ["part", "key_of"]) (nl := 1) (fv := [1]) (tgs := [0]) (one := true) (k := 1) ?_ ?_ ?_ ?_ ?_ ?_ ?_ ?_ ?_ ?_ ?_ ?_ ?_ ?_
 rfl
 rfl
 rfl
 decide
 decide
 rfl
 refine Hw ?_ ?_
 exact ⟨rfl, trivial⟩
 rfl
 rfl
 refine Hx ?_
 exact ⟨⟨_, _, rfl, rfl, rfl, by first | exact Or.inl rfl | exact Or.inr rfl, by first | exact Or.inl rfl | exact Or.inr rfl⟩, trivial⟩
 decide
 refine Kg ?_ ?_
 rfl
 refine Ah ?_ ?_ ?_ ?_ ?_ ?_
 rfl
 rfl
 exact hu
 exact sv Gx
 exact ae
 intro _ _; rfl
 intro L s0 H0 fp pn
 refine cp ?_ ?_ ?_ ?_
 show List.Nodup (["part", "key_of"] : List Str); decide
 rfl
 exact Or.inl rfl
 refine Or.inr ?_
 exact rfl
 intro L s0 H0 fp pn
 exact Mv
 intro L s0 H0 fp pn
 refine Av ih.i_6 hr (by rfl) T.m_6 T.f_6.kp T.b_6 .nil Aw So (aw rfl) ?_
 refine Ad ?_ ?_
 refine Cs 0 ?_
 exact pv 0
 refine Ad ?_ ?_
 refine Cs 1 ?_
 exact pv 1
 exact Ag
 refine Ad ?_ ?_
 refine cn ?_ ?_ ?_
 rfl
 refine cx ?_
 refine Ad ?_ ?_
 exact Hy (by rfl) (by rfl) T.J7 (fun _ _ => by simp [DD.G.RepL, DD.RepL, DD.Rep])
 exact Ag
 refine gq ?_ ?_ T.J2 ?_
 rfl
 rfl
 refine Ad ?_ ?_
 refine Ah ?_ ?_ ?_ ?_ ?_ ?_
 rfl
 rfl
 exact hu
 exact sv Gx
 exact ae
 intro _ _; rfl
 exact Ag
 exact Ag
 exact ag
 exact ag
 refine Ae ?_ ?_
 refine Ax ?_
 refine Bg ?_
 refine Ad ?_ ?_
 exact Hy (by rfl) (by rfl) T.J3 (fun _ _ => by simp [DD.G.RepL, DD.RepL, DD.Rep])
 refine Ad ?_ ?_
 refine sk ?_ ?_ ?_ ?_ ?_
 rfl
 rfl
 exact hu
 refine acs (y := "base") ?_ ?_ ?_ ?_ ?_
 exact hL.c
 refine hrm.mono ?_
 omega
 exact ax
 refine Cs 1 ?_
 exact pv 1 (hv := Or.inr (Or.inl Sv))
 exact sv Gx
 exact Hy (by rfl) (by rfl) T.J7 (fun _ _ => by simp [DD.G.RepL, DD.RepL, DD.Rep])
 exact Ag
 exact ag
theorem aem : Fj ih 7 ["forms", "weights"] 2 := by
 refine Bu (m := 2 * n + 1) (body' := Kr) T.f_7 Fd rfl fun cdv hcv A outer s H E hrm => ?_
 have hr := hrm.mono (show 2 * n ≤ 2 * n + 1 by omega)
 have hu := hr.units
 subst hw
 refine Ae ?_ ?_
 refine Au (i := 2) ?_ ?_ ?_ ?_
 exact Fd.nd
 rfl
 exact Or.inl Ld
 exact Hy (by rfl) (by rfl) T.J3 (fun _ _ => by simp [DD.G.RepL, DD.RepL, DD.Rep])
 refine Ae ?_ ?_
 refine Au (i := 3) ?_ ?_ ?_ ?_
 exact Fd.nd
 rfl
 exact Or.inl Le
 refine Gr ?_
 rfl
 refine Ae ?_ ?_
 refine aco (t1 := [4, 5]) (o1 := false) (t2 := [6]) (o2 := true) ?_ ?_ ?_ ?_ T.J13 ?_ ?_ ?_ ?_
 rfl
 exact PassesOwn.leaving
 rfl
 rfl
 exact sv adu
 exact sv adv
 refine fh ?_ ?_
 rfl
 refine cq ?_ ?_
 refine fh ?_ ?_
 rfl
 refine cq ?_ ?_
 refine cu (i := 4) ?_ ?_ ?_
 exact Fd.nd
 rfl
 exact Or.inl Sw
 refine cq ?_ ?_
 refine cu (i := 5) ?_ ?_ ?_
 exact Fd.nd
 rfl
 exact Or.inl sx
 exact Fg
 refine cq ?_ ?_
 refine cp ?_ ?_ ?_
 exact Fd.nd
 rfl
 exact Or.inl Oc
 exact Fg
 refine Ae ?_ ?_
 refine Au (i := 2) ?_ ?_ ?_ ?_
 exact Fd.nd
 rfl
 exact Or.inl Ld
 refine Av ih.i_3 hr (by rfl) T.m_3 T.f_3.kp T.b_3 .nil Aw ax (aw rfl) ?_
 refine Ad ?_ ?_
 exact sv Ld
 refine Ad ?_ ?_
 refine Av ih.i_4 hr (by rfl) T.m_4 T.f_4.kp T.b_4 .nil Aw ax (aw rfl) ?_
 refine Ad ?_ ?_
 exact sv Oc
 refine Ad ?_ ?_
 exact sv Sw
 exact Ag
 exact Ag
 refine Ae ?_ ?_
 refine sd (is := [7, 8]) ?_ ?_ ?_ ?_ ?_
 exact PassesOwn.leaving
 rfl
 exact sv sx
 refine fh ?_ ?_
 rfl
 refine cq ?_ ?_
 refine cu (i := 7) ?_ ?_ ?_
 exact Fd.nd
 rfl
 exact Or.inl Od
 refine cq ?_ ?_
 refine cu (i := 8) ?_ ?_ ?_
 exact Fd.nd
 rfl
 exact Or.inl Sx
 exact Fg
 refine Ae ?_ ?_
 refine je ?_ ?_ ?_ ?_ ?_ ?_
 rfl
 rfl
 exact hu
 exact sv Le
 exact sv Od
 refine Av ih.i_3 hr (by rfl) T.m_3 T.f_3.kp T.b_3 .nil Aw ax (aw rfl) ?_
 refine Ad ?_ ?_
 refine Rf ?_ ?_ ?_ ?_ ?_ ?_ ?_
 rfl
 rfl
 exact hu
 exact sv Le
 exact sv Od
 exact Hy (by rfl) (by rfl) T.J3 (fun _ _ => by simp [DD.G.RepL, DD.RepL, DD.Rep])
 exact ⟨by rfl, by rfl, by rfl, by rfl⟩
 refine Ad ?_ ?_
 refine Av ih.i_4 hr (by rfl) T.m_4 T.f_4.kp T.b_4 .nil Aw ax (aw rfl) ?_
 refine Ad ?_ ?_
 exact sv Oc
 refine Ad ?_ ?_
 exact sv Sx
 exact Ag
 exact Ag
 exact ag
 exact ag
 refine Ae ?_ ?_
 refine Ax ?_
 refine Bg ?_
 refine Ad ?_ ?_
 exact sv Ld
 refine Ad ?_ ?_
 refine Zi (cl := []) (N := ["base", "number"]) (nl := 2) (fv := []) (tgs := [0, 1]) (one := false) (k := 6) ?_ ?_ ?_ ?_ ?_ ?_ ?_ ?_ ?_ ?_ ?_ ?_ ?_ ?_ ?_ ?_ ?_
 rfl
 rfl
 exact hu
 rfl
 rfl
 decide
 decide
 rfl
 refine Hw ?_ ?_
 exact trivial
 rfl
 rfl
 refine Hx ?_
 exact trivial
 decide
 refine acf ?_
 exact sv Le
 intro L s0 H0 fp pn
 refine fh ?_ ?_
 rfl
 refine cq ?_ ?_
 refine cu (i := 0) ?_ ?_ ?_ ?_
 show List.Nodup (["base", "number"] : List Str); decide
 rfl
 exact Or.inl rfl
 refine Or.inr ?_
 exact rfl
 refine cq ?_ ?_
 refine cu (i := 1) ?_ ?_ ?_ ?_
 show List.Nodup (["base", "number"] : List Str); decide
 rfl
 exact Or.inl rfl
 refine Or.inr ?_
 exact rfl
 exact Fg
 intro L s0 H0 fp pn
 refine mw ?_
 refine dj ?_ ?_ ?_ ?_
 rfl
 exact hu
 refine Cs 1 ?_
 exact pv 1
 exact Hy (by rfl) (by rfl) T.J3 (fun _ _ => by simp [DD.G.RepL, DD.RepL, DD.Rep])
 intro L s0 H0 fp pn
 refine Cs 0 ?_
 exact pv 0
 intro L s0 H0 fp pn
 refine Cs 1 ?_
 exact pv 1
 exact Ag
 exact ag
theorem aen : Fj ih 8 ["_law_script", "_law_k"] 2 := by
 refine Bu (m := 2 * n + 1) (body' := Ks) T.f_8 adw rfl fun cdv hcv A outer s H E hrm => ?_
 have hr := hrm.mono (show 2 * n ≤ 2 * n + 1 by omega)
 have hu := hr.units
 subst hw
 refine Ae ?_ ?_
 refine Be ?_ ?_ ?_
 refine Ja ?_ ?_
 exact sv Sy
 refine gq ?_ ?_ T.J2 ?_
 rfl
 rfl
 refine Ad ?_ ?_
 exact sv sy
 exact Ag
 refine Ae ?_ ?_
 refine Ax ?_
 refine Ah ?_ ?_ ?_ ?_ ?_ ?_
 rfl
 rfl
 exact hu
 exact sv sy
 exact sv Sy
 intro _ _; rfl
 exact ag
 exact ag
 refine Ae ?_ ?_
 refine Ax ?_
 exact ae
 exact ag
theorem aeo : Fj ih 9 ["_law_cell", "_law_many"] 2 := by
 refine Bu (m := 2 * n + 1) (body' := ku) T.f_9 gf rfl fun cdv hcv A outer s H E hrm => ?_
 have hr := hrm.mono (show 2 * n ≤ 2 * n + 1 by omega)
 have hu := hr.units
 subst hw
 refine Ae ?_ ?_
 refine Au (i := 2) ?_ ?_ ?_ ?_
 exact gf.nd
 rfl
 exact Or.inl Jn
 refine cx ?_
 exact Ag
 refine Ae ?_ ?_
 refine Be ?_ ?_ ?_
 refine yq ?_ ?_
 exact sv oe
 refine Fp ?_ ?_
 exact ae
 exact ae
 refine Ae ?_ ?_
 refine Au (i := 3) ?_ ?_ ?_ ?_
 exact gf.nd
 rfl
 exact Or.inl Lf
 refine Qi ?_ ?_
 exact sv oe
 refine Fp ?_ ?_
 exact ae
 exact ae
 refine Ae ?_ ?_
 refine Mq (is := [4]) ?_ ?_ ?_ T.J6 ?_ ?_ ?_
 exact PassesOwn.leaving
 rfl
 rfl
 exact sv Sz
 refine cp ?_ ?_ ?_
 exact gf.nd
 rfl
 exact Or.inl Oe
 refine Ae ?_ ?_
 refine Ft ?_
 refine kg ?_ ?_ ?_
 rfl
 exact sv Jn
 refine Cb ?_ ?_
 exact sv Lf
 refine Fp ?_ ?_
 exact ae
 exact ae
 refine Ae ?_ ?_
 refine Au (i := 3) ?_ ?_ ?_ ?_
 exact gf.nd
 rfl
 exact Or.inl Lf
 refine Dq ?_ ?_
 exact sv Lf
 refine Fp ?_ ?_
 exact ae
 exact ae
 exact ag
 refine Ae ?_ ?_
 refine Ax ?_
 exact sv Jn
 exact ag
 exact ag
 refine Ae ?_ ?_
 refine Au (i := 5) ?_ ?_ ?_ ?_
 exact gf.nd
 rfl
 exact Or.inl Ih
 refine Ck ?_ ?_
 refine Cb ?_ ?_
 exact sv oe
 refine Ck ?_ ?_
 refine Fp ?_ ?_
 exact ae
 exact ae
 exact ae
 exact ae
 refine Ae ?_ ?_
 refine Mq (is := [4]) ?_ ?_ ?_ T.J6 ?_ ?_ ?_
 exact PassesOwn.leaving
 rfl
 rfl
 refine Ck ?_ ?_
 exact sv Sz
 exact ae
 refine cp ?_ ?_ ?_
 exact gf.nd
 rfl
 exact Or.inl Oe
 refine Ae ?_ ?_
 refine Au (i := 5) ?_ ?_ ?_ ?_
 exact gf.nd
 rfl
 exact Or.inl Ih
 refine Cb ?_ ?_
 refine Ck ?_ ?_
 refine Ck ?_ ?_
 refine cn ?_ ?_ ?_
 rfl
 exact sv Ih
 exact sv Ih
 refine cn ?_ ?_ ?_
 rfl
 exact ae
 exact sv Ih
 exact sv Oe
 refine Ck ?_ ?_
 refine Fp ?_ ?_
 exact ae
 exact ae
 exact ae
 refine Ae ?_ ?_
 refine Ft ?_
 refine kg ?_ ?_ ?_
 rfl
 exact sv Jn
 exact sv Ih
 exact ag
 refine Ae ?_ ?_
 refine Ax ?_
 refine mv ?_ ?_ ?_
 rfl
 exact sv Jn
 exact ae
 exact ag
theorem aep : Fj ih 10 ["_law_top", "_law_bottom"] 2 := by
 refine Bu (m := 2 * n + 1) (body' := Ku) T.f_10 lg rfl fun cdv hcv A outer s H E hrm => ?_
 have hr := hrm.mono (show 2 * n ≤ 2 * n + 1 by omega)
 have hu := hr.units
 subst hw
 refine Ae ?_ ?_
 refine Au (i := 2) ?_ ?_ ?_ ?_
 exact lg.nd
 rfl
 exact Or.inl jo
 refine ml ?_ T.J5 ?_
 rfl
 refine Ad ?_ ?_
 exact sv Ta
 exact Ag
 refine Ae ?_ ?_
 refine Au (i := 3) ?_ ?_ ?_ ?_
 exact lg.nd
 rfl
 exact Or.inl Jo
 exact sv Tb
 refine Ae ?_ ?_
 refine Ke ?_ ?_ ?_
 exact PassesOwn.leaving
 refine dj ?_ ?_ ?_ ?_
 rfl
 exact hu
 exact sv Jo
 exact ae
 refine Ae ?_ ?_
 refine Mo (i := 2) (j := 3) ?_ ?_ ?_ ?_ ?_ ?_ ?_ ?_ ?_ ?_
 rfl
 exact lg.nd
 rfl
 rfl
 decide
 exact jo
 exact Jo
 exact sv Jo
 refine Cb ?_ ?_
 exact sv jo
 exact sv Jo
 rfl
 exact ag
 refine Ae ?_ ?_
 refine Ax ?_
 refine Bg ?_
 refine Ad ?_ ?_
 refine Dq ?_ ?_
 exact sv Ta
 exact sv jo
 refine Ad ?_ ?_
 refine Dq ?_ ?_
 exact sv Tb
 exact sv jo
 exact Ag
 exact ag
theorem aeq : Fj ih 11 ["_law_weights"] 1 := by
 refine Bu (m := 2 * n + 1) (body' := Kv) T.f_11 Lg rfl fun cdv hcv A outer s H E hrm => ?_
 have hr := hrm.mono (show 2 * n ≤ 2 * n + 1 by omega)
 have hu := hr.units
 subst hw
 refine Ae ?_ ?_
 refine Au (i := 1) ?_ ?_ ?_ ?_
 exact Lg.nd
 rfl
 exact Or.inl Of
 refine Gr ?_
 rfl
 refine Ae ?_ ?_
 refine sd (is := [2, 3]) ?_ ?_ ?_ ?_ ?_
 exact PassesOwn.leaving
 rfl
 exact sv adx
 refine fh ?_ ?_
 rfl
 refine cq ?_ ?_
 refine cu (i := 2) ?_ ?_ ?_
 exact Lg.nd
 rfl
 exact Or.inl Tc
 refine cq ?_ ?_
 refine cu (i := 3) ?_ ?_ ?_
 exact Lg.nd
 rfl
 exact Or.inl og
 exact Fg
 refine Ae ?_ ?_
 refine Be ?_ ?_ ?_
 refine dj ?_ ?_ ?_ ?_
 rfl
 exact hu
 refine Ah ?_ ?_ ?_ ?_ ?_ ?_
 rfl
 rfl
 exact hu
 exact sv og
 exact ae
 intro _ _; rfl
 exact ae
 refine Ae ?_ ?_
 refine je ?_ ?_ ?_ ?_ ?_ ?_
 rfl
 rfl
 exact hu
 exact sv Of
 exact sv Tc
 exact sv og
 exact ag
 exact ag
 exact ag
 refine Ae ?_ ?_
 refine Ax ?_
 exact sv Of
 exact ag
theorem aer : Fj ih 12 ["_law_one", "_law_other"] 2 := by
 refine Bu (m := 2 * n + 1) (body' := sr) T.f_12 ady rfl fun cdv hcv A outer s H E hrm => ?_
 have hr := hrm.mono (show 2 * n ≤ 2 * n + 1 by omega)
 have hu := hr.units
 subst hw
 refine Ae ?_ ?_
 refine Ax ?_
 refine Av ih.i_10 hr (by rfl) T.m_10 T.f_10.kp T.b_10 .nil Aw ax (aw rfl) ?_
 refine Ad ?_ ?_
 refine Ck ?_ ?_
 refine cn ?_ ?_ ?_
 rfl
 refine Ah ?_ ?_ ?_ ?_ ?_ ?_
 rfl
 rfl
 exact hu
 exact sv Og
 exact ae
 intro _ _; rfl
 refine Ah ?_ ?_ ?_ ?_ ?_ ?_
 rfl
 rfl
 exact hu
 exact sv oh
 exact ae
 intro _ _; rfl
 refine cn ?_ ?_ ?_
 rfl
 refine Ah ?_ ?_ ?_ ?_ ?_ ?_
 rfl
 rfl
 exact hu
 exact sv oh
 exact ae
 intro _ _; rfl
 refine Ah ?_ ?_ ?_ ?_ ?_ ?_
 rfl
 rfl
 exact hu
 exact sv Og
 exact ae
 intro _ _; rfl
 refine Ad ?_ ?_
 refine cn ?_ ?_ ?_
 rfl
 refine Ah ?_ ?_ ?_ ?_ ?_ ?_
 rfl
 rfl
 exact hu
 exact sv Og
 exact ae
 intro _ _; rfl
 refine Ah ?_ ?_ ?_ ?_ ?_ ?_
 rfl
 rfl
 exact hu
 exact sv oh
 exact ae
 intro _ _; rfl
 exact Ag
 exact ag
theorem aes : Fj ih 13 ["_law_one", "_law_other"] 2 := by
 refine Bu (m := 2 * n + 1) (body' := Sr) T.f_13 adz rfl fun cdv hcv A outer s H E hrm => ?_
 have hr := hrm.mono (show 2 * n ≤ 2 * n + 1 by omega)
 have hu := hr.units
 subst hw
 refine Ae ?_ ?_
 refine Ax ?_
 refine Av ih.i_10 hr (by rfl) T.m_10 T.f_10.kp T.b_10 .nil Aw ax (aw rfl) ?_
 refine Ad ?_ ?_
 refine cn ?_ ?_ ?_
 rfl
 refine Ah ?_ ?_ ?_ ?_ ?_ ?_
 rfl
 rfl
 exact hu
 exact sv Te
 exact ae
 intro _ _; rfl
 refine Ah ?_ ?_ ?_ ?_ ?_ ?_
 rfl
 rfl
 exact hu
 exact sv Tf
 exact ae
 intro _ _; rfl
 refine Ad ?_ ?_
 refine cn ?_ ?_ ?_
 rfl
 refine Ah ?_ ?_ ?_ ?_ ?_ ?_
 rfl
 rfl
 exact hu
 exact sv Te
 exact ae
 intro _ _; rfl
 refine Ah ?_ ?_ ?_ ?_ ?_ ?_
 rfl
 rfl
 exact hu
 exact sv Tf
 exact ae
 intro _ _; rfl
 exact Ag
 exact ag
theorem aet : Fj ih 14 ["_law_x"] 1 := by
 refine Bu (m := 2 * n + 1) (body' := Kw) T.f_14 Tg rfl fun cdv hcv A outer s H E hrm => ?_
 have hr := hrm.mono (show 2 * n ≤ 2 * n + 1 by omega)
 have hu := hr.units
 subst hw
 refine Ae ?_ ?_
 refine Au (i := 1) ?_ ?_ ?_ ?_
 exact Tg.nd
 rfl
 exact Or.inl Th
 refine Cb ?_ ?_
 refine Dq ?_ ?_
 exact sv Ii
 exact ae
 refine Ah ?_ ?_ ?_ ?_ ?_ ?_
 rfl
 rfl
 exact hu
 refine cx ?_
 refine Ad ?_ ?_
 exact ae
 refine Ad ?_ ?_
 exact ae
 refine Ad ?_ ?_
 exact ae
 refine Ad ?_ ?_
 refine Fp ?_ ?_
 exact ae
 exact ae
 exact Ag
 refine Cb ?_ ?_
 exact sv Ii
 exact ae
 intro _ _; rfl
 refine Ae ?_ ?_
 refine Ax ?_
 refine Av ih.i_10 hr (by rfl) T.m_10 T.f_10.kp T.b_10 .nil Aw ax (aw rfl) ?_
 refine Ad ?_ ?_
 refine cn ?_ ?_ ?_
 rfl
 exact sv Th
 refine Qi ?_ ?_
 exact ae
 refine cn ?_ ?_ ?_
 rfl
 refine Cb ?_ ?_
 refine Dq ?_ ?_
 exact sv Ii
 exact ae
 exact ae
 exact ae
 refine Ad ?_ ?_
 refine Ck ?_ ?_
 exact ae
 refine cn ?_ ?_ ?_
 rfl
 refine Cb ?_ ?_
 refine Dq ?_ ?_
 exact sv Ii
 exact ae
 exact ae
 refine Cb ?_ ?_
 refine Dq ?_ ?_
 exact sv Ii
 exact ae
 refine Ah ?_ ?_ ?_ ?_ ?_ ?_
 rfl
 rfl
 exact hu
 refine cx ?_
 refine Ad ?_ ?_
 exact ae
 refine Ad ?_ ?_
 refine Fp ?_ ?_
 exact ae
 exact ae
 exact Ag
 refine Cb ?_ ?_
 refine Dq ?_ ?_
 exact sv Ii
 exact ae
 exact ae
 intro _ _; rfl
 exact Ag
 exact ag
theorem aeu : Fj ih 15 ["_law_x", "_law_ys", "_law_terms_here"] 3 := by
 refine Bu (m := 2 * n + 1) (body' := Kx) T.f_15 gy rfl fun cdv hcv A outer s H E hrm => ?_
 have hr := hrm.mono (show 2 * n ≤ 2 * n + 1 by omega)
 have hu := hr.units
 subst hw
 refine Ae ?_ ?_
 refine Au (i := 3) ?_ ?_ ?_ ?_
 exact gy.nd
 rfl
 exact Or.inl Gy
 refine Ah ?_ ?_ ?_ ?_ ?_ ?_
 rfl
 rfl
 exact hu
 exact sv Ij
 refine Cb ?_ ?_
 refine Ah ?_ ?_ ?_ ?_ ?_ ?_
 rfl
 rfl
 exact hu
 exact sv Dt
 exact ae
 intro _ _; rfl
 refine gq ?_ ?_ T.J2 ?_
 rfl
 rfl
 refine Ad ?_ ?_
 exact sv Ij
 exact Ag
 intro _ _; rfl
 refine Ae ?_ ?_
 refine Au (i := 4) ?_ ?_ ?_ ?_
 exact gy.nd
 rfl
 exact Or.inl Ik
 refine Ah ?_ ?_ ?_ ?_ ?_ ?_
 rfl
 rfl
 exact hu
 exact sv Ij
 refine Cb ?_ ?_
 refine Ah ?_ ?_ ?_ ?_ ?_ ?_
 rfl
 rfl
 exact hu
 exact sv Dt
 exact ae
 intro _ _; rfl
 refine gq ?_ ?_ T.J2 ?_
 rfl
 rfl
 refine Ad ?_ ?_
 exact sv Ij
 exact Ag
 intro _ _; rfl
 refine Ae ?_ ?_
 refine Au (i := 5) ?_ ?_ ?_ ?_
 exact gy.nd
 rfl
 exact Or.inl Jp
 refine Ah ?_ ?_ ?_ ?_ ?_ ?_
 rfl
 rfl
 exact hu
 exact sv Ij
 refine Cb ?_ ?_
 refine Ah ?_ ?_ ?_ ?_ ?_ ?_
 rfl
 rfl
 exact hu
 exact sv Dt
 exact ae
 intro _ _; rfl
 refine gq ?_ ?_ T.J2 ?_
 rfl
 rfl
 refine Ad ?_ ?_
 exact sv Ij
 exact Ag
 intro _ _; rfl
 refine Ae ?_ ?_
 refine Au (i := 6) ?_ ?_ ?_ ?_
 exact gy.nd
 rfl
 exact Or.inl Il
 refine Cb ?_ ?_
 exact sv aea
 exact ae
 refine Ae ?_ ?_
 refine Be ?_ ?_ ?_
 refine By ?_ ?_ ?_ ?_
 rfl
 exact hu
 exact sv Il
 exact ae
 refine Ae ?_ ?_
 refine Ax ?_
 refine Bg ?_
 refine Ad ?_ ?_
 exact bh
 refine Ad ?_ ?_
 refine Av ih.i_14 hr (by rfl) T.m_14 T.f_14.kp T.b_14 .nil Aw ax (aw rfl) ?_
 refine Ad ?_ ?_
 refine Ah ?_ ?_ ?_ ?_ ?_ ?_
 rfl
 rfl
 exact hu
 exact sv Dt
 exact ae
 intro _ _; rfl
 exact Ag
 exact Ag
 exact ag
 exact ag
 refine Ae ?_ ?_
 refine Be ?_ ?_ ?_
 refine By ?_ ?_ ?_ ?_
 rfl
 exact hu
 exact sv Il
 exact ae
 refine Ae ?_ ?_
 refine Ax ?_
 refine Bg ?_
 refine Ad ?_ ?_
 exact bh
 refine Ad ?_ ?_
 refine Ah ?_ ?_ ?_ ?_ ?_ ?_
 rfl
 rfl
 exact hu
 exact bh
 refine Cb ?_ ?_
 refine Ah ?_ ?_ ?_ ?_ ?_ ?_
 rfl
 rfl
 exact hu
 exact sv Dt
 exact ae
 intro _ _; rfl
 exact ae
 intro _ _; rfl
 exact Ag
 exact ag
 exact ag
 refine Ae ?_ ?_
 refine Be ?_ ?_ ?_
 refine Ja ?_ ?_
 exact sv Il
 exact ae
 refine Ae ?_ ?_
 refine Ax ?_
 refine Bg ?_
 refine Ad ?_ ?_
 exact bh
 refine Ad ?_ ?_
 refine Av ih.i_14 hr (by rfl) T.m_14 T.f_14.kp T.b_14 .nil Aw ax (aw rfl) ?_
 refine Ad ?_ ?_
 refine Ah ?_ ?_ ?_ ?_ ?_ ?_
 rfl
 rfl
 exact hu
 exact sv Dt
 exact ae
 intro _ _; rfl
 exact Ag
 refine Ad ?_ ?_
 exact sv Gy
 exact Ag
 exact ag
 exact ag
 refine Ae ?_ ?_
 refine Be ?_ ?_ ?_
 refine Ja ?_ ?_
 exact sv Il
 exact ae
 refine Ae ?_ ?_
 refine Be ?_ ?_ ?_
 refine By ?_ ?_ ?_ ?_
 rfl
 exact hu
 refine Cb ?_ ?_
 refine Dq ?_ ?_
 refine Ah ?_ ?_ ?_ ?_ ?_ ?_
 rfl
 rfl
 exact hu
 exact sv Dt
 exact ae
 intro _ _; rfl
 exact ae
 exact ae
 exact ae
 refine Ae ?_ ?_
 refine Ax ?_
 refine Bg ?_
 refine Ad ?_ ?_
 exact bh
 refine Ad ?_ ?_
 refine Bg ?_
 refine Ad ?_ ?_
 exact sv Gy
 refine Ad ?_ ?_
 exact sv Ik
 refine Ad ?_ ?_
 exact sv Jp
 refine Ad ?_ ?_
 exact sv Gy
 refine Ad ?_ ?_
 exact sv Jp
 refine Ad ?_ ?_
 exact sv Ik
 exact Ag
 exact Ag
 exact ag
 exact ag
 refine Ae ?_ ?_
 refine Ax ?_
 refine Bg ?_
 refine Ad ?_ ?_
 exact bh
 refine Ad ?_ ?_
 refine Qt ?_ ?_ ?_
 rfl
 refine Bg ?_
 refine Ad ?_ ?_
 exact sv Gy
 refine Ad ?_ ?_
 exact sv Ik
 refine Ad ?_ ?_
 exact sv Jp
 exact Ag
 refine Cb ?_ ?_
 refine Ah ?_ ?_ ?_ ?_ ?_ ?_
 rfl
 rfl
 exact hu
 exact sv Dt
 exact ae
 intro _ _; rfl
 exact ae
 exact Ag
 exact ag
 exact ag
 refine Ae ?_ ?_
 refine Be ?_ ?_ ?_
 refine By ?_ ?_ ?_ ?_
 rfl
 exact hu
 exact sv Il
 exact ae
 refine Ae ?_ ?_
 refine Ax ?_
 refine Bg ?_
 refine Ad ?_ ?_
 exact bh
 refine Ad ?_ ?_
 refine Ah ?_ ?_ ?_ ?_ ?_ ?_
 rfl
 rfl
 exact hu
 exact bh
 refine Cb ?_ ?_
 refine Ah ?_ ?_ ?_ ?_ ?_ ?_
 rfl
 rfl
 exact hu
 exact sv Dt
 exact ae
 intro _ _; rfl
 exact ae
 intro _ _; rfl
 refine Ad ?_ ?_
 refine Qt ?_ ?_ ?_
 rfl
 refine Bg ?_
 refine Ad ?_ ?_
 exact sv Gy
 refine Ad ?_ ?_
 exact sv Ik
 exact Ag
 refine Ck ?_ ?_
 exact ae
 refine Cb ?_ ?_
 refine Ah ?_ ?_ ?_ ?_ ?_ ?_
 rfl
 rfl
 exact hu
 exact sv Dt
 exact ae
 intro _ _; rfl
 exact ae
 exact Ag
 exact ag
 exact ag
 refine Ae ?_ ?_
 refine Au (i := 7) ?_ ?_ ?_ ?_
 exact gy.nd
 rfl
 exact Or.inl lh
 refine Bg ?_
 refine Ad ?_ ?_
 exact bh
 refine Ad ?_ ?_
 exact bh
 exact Ag
 refine Ae ?_ ?_
 refine Be ?_ ?_ ?_
 refine By ?_ ?_ ?_ ?_
 rfl
 exact hu
 refine Cb ?_ ?_
 refine Ah ?_ ?_ ?_ ?_ ?_ ?_
 rfl
 rfl
 exact hu
 exact sv Dt
 exact ae
 intro _ _; rfl
 exact ae
 exact ae
 refine Ae ?_ ?_
 refine Au (i := 7) ?_ ?_ ?_ ?_
 exact gy.nd
 rfl
 exact Or.inl lh
 refine Bg ?_
 refine Ad ?_ ?_
 exact bh
 refine Ad ?_ ?_
 exact sv lh
 refine Ad ?_ ?_
 exact sv Ik
 refine Ad ?_ ?_
 exact sv Jp
 exact Ag
 exact ag
 exact ag
 refine Ae ?_ ?_
 refine Ax ?_
 refine Bg ?_
 refine Ad ?_ ?_
 exact bh
 refine Ad ?_ ?_
 exact sv lh
 refine Ad ?_ ?_
 exact sv Gy
 exact Ag
 exact ag
theorem aev : Fj ih 16 ["_law_term_here"] 1 := by
 refine Bu (m := 2 * n + 1) (body' := ky) T.f_16 Im rfl fun cdv hcv A outer s H E hrm => ?_
 have hr := hrm.mono (show 2 * n ≤ 2 * n + 1 by omega)
 have hu := hr.units
 subst hw
 refine Ae ?_ ?_
 refine Au (i := 1) ?_ ?_ ?_ ?_
 exact Im.nd
 rfl
 exact Or.inl jq
 refine cx ?_
 refine Ad ?_ ?_
 exact sv aeb
 exact Ag
 refine Ae ?_ ?_
 refine Au (i := 2) ?_ ?_ ?_ ?_
 exact Im.nd
 rfl
 exact Or.inl Jq
 exact ae
 refine Ae ?_ ?_
 refine Ke ?_ ?_ ?_
 exact PassesOwn.leaving
 refine PW.pt ?_
 refine Ht ?_ ?_
 refine dj ?_ ?_ ?_ ?_
 rfl
 exact hu
 exact sv jq
 refine cx ?_
 exact Ag
 refine Jb ?_
 refine Ja ?_ ?_
 exact sv Jq
 exact ae
 refine Ae ?_ ?_
 refine Au (i := 3) ?_ ?_ ?_ ?_
 exact Im.nd
 rfl
 exact Or.inl ti
 refine qu ?_ ?_
 rfl
 exact sv jq
 refine Ae ?_ ?_
 refine Au (i := 2) ?_ ?_ ?_ ?_
 exact Im.nd
 rfl
 exact Or.inl Jq
 refine Ck ?_ ?_
 exact sv Jq
 exact ae
 refine Ae ?_ ?_
 refine Au (i := 1) ?_ ?_ ?_ ?_
 exact Im.nd
 rfl
 exact Or.inl jq
 refine Ck ?_ ?_
 exact sv jq
 refine kh (cl := []) (N := ["_law_part"]) (nl := 1) (fv := []) (tgs := [0]) (one := true) (k := 1) ?_ ?_ ?_ ?_ ?_ ?_ ?_ ?_ ?_ ?_ ?_ ?_ ?_ ?_
 rfl
 rfl
 rfl
 decide
 decide
 rfl
 refine Hw ?_ ?_
 exact trivial
 rfl
 rfl
 refine Hx ?_
 exact trivial
 decide
 refine Kg ?_ ?_
 rfl
 exact sv ti
 intro L s0 H0 fp pn
 refine cp ?_ ?_ ?_ ?_
 show List.Nodup (["_law_part"] : List Str); decide
 rfl
 exact Or.inl rfl
 refine Or.inr ?_
 exact rfl
 intro L s0 H0 fp pn
 refine mw ?_
 refine ft ?_ ?_ ?_ ?_
 rfl
 refine Gq ?_ ?_ ?_ ?_ T.J1 ?_ T.J4 ?_ ?_
 rfl
 decide
 exact fun n => gx (n := n) (x := "tuple") (by decide)
 rfl
 rfl
 rfl
 refine Cs 0 ?_
 exact pv 0
 exact Je
 intro _; rfl
 intro L s0 H0 fp pn
 refine Cs 0 ?_
 exact pv 0
 exact ag
 refine Ae ?_ ?_
 refine Ax ?_
 exact sv Jq
 exact ag
theorem aew : Fj ih 17 ["_law_term_here"] 1 := by
 refine Bu (m := 2 * n + 1) (body' := Ky) T.f_17 du rfl fun cdv hcv A outer s H E hrm => ?_
 have hr := hrm.mono (show 2 * n ≤ 2 * n + 1 by omega)
 have hu := hr.units
 subst hw
 refine Ae ?_ ?_
 refine Au (i := 1) ?_ ?_ ?_ ?_
 exact du.nd
 rfl
 exact Or.inl jr
 refine cx ?_
 refine Ad ?_ ?_
 refine Bg ?_
 refine Ad ?_ ?_
 exact sv aec
 refine Ad ?_ ?_
 exact ae
 exact Ag
 exact Ag
 refine Ae ?_ ?_
 refine Au (i := 2) ?_ ?_ ?_ ?_
 exact du.nd
 rfl
 exact Or.inl Lh
 exact ae
 refine Ae ?_ ?_
 refine Ke ?_ ?_ ?_
 exact PassesOwn.leaving
 refine dj ?_ ?_ ?_ ?_
 rfl
 exact hu
 exact sv jr
 refine cx ?_
 exact Ag
 refine Ae ?_ ?_
 refine Mn (is := [3, 4]) ?_ ?_
 refine qu ?_ ?_
 rfl
 exact sv jr
 refine fh ?_ ?_
 rfl
 refine cq ?_ ?_
 refine cu (i := 3) ?_ ?_ ?_
 exact du.nd
 rfl
 exact Or.inl Gf
 refine cq ?_ ?_
 refine cu (i := 4) ?_ ?_ ?_
 exact du.nd
 rfl
 refine Or.inr ?_
 exact Ti
 exact Fg
 refine Ae ?_ ?_
 refine Au (i := 2) ?_ ?_ ?_ ?_
 exact du.nd
 rfl
 exact Or.inl Lh
 refine Yy ?_ ?_ T.J8 ?_
 rfl
 rfl
 refine Ad ?_ ?_
 exact sv Lh
 refine Ad ?_ ?_
 refine Cs 4 ?_
 exact pv 4 (hv := Or.inr (Or.inl Ti))
 exact Ag
 refine Ae ?_ ?_
 refine Zm (i := 5) (hNd := du.nd) (hix := by rfl) (hx := Jr) (cl := []) (N := ["_law_part"]) (nl := 1) (fv := []) (tgs := [0]) (one := true) (k := 1) ?_ ?_ ?_ ?_ ?_ ?_ ?_ ?_ ?_ ?_ ?_ ?_ ?_ ?_
 rfl
 rfl
 rfl
 decide
 decide
 rfl
 refine Hw ?_ ?_
 exact trivial
 rfl
 rfl
 refine Hx ?_
 exact trivial
 decide
 refine Kg ?_ ?_
 rfl
 refine mv ?_ ?_ ?_
 rfl
 exact sv Gf
 exact ae
 intro L s0 H0 fp pn
 refine cp ?_ ?_ ?_ ?_
 show List.Nodup (["_law_part"] : List Str); decide
 rfl
 exact Or.inl rfl
 refine Or.inr ?_
 exact rfl
 intro L s0 H0 fp pn
 refine mw ?_
 refine ft ?_ ?_ ?_ ?_
 rfl
 refine Gq ?_ ?_ ?_ ?_ T.J1 ?_ T.J4 ?_ ?_
 rfl
 decide
 exact fun n => gx (n := n) (x := "tuple") (by decide)
 rfl
 rfl
 rfl
 refine Cs 0 ?_
 exact pv 0
 exact Je
 intro _; rfl
 intro L s0 H0 fp pn
 refine Cs 0 ?_
 exact pv 0
 refine Ae ?_ ?_
 refine Be ?_ ?_ ?_
 refine PW.pt ?_
 refine jc ?_ ?_
 refine By ?_ ?_ ?_ ?_
 rfl
 exact hu
 refine Ah ?_ ?_ ?_ ?_ ?_ ?_
 rfl
 rfl
 exact hu
 exact sv Gf
 exact ae
 intro _ _; rfl
 exact bh
 refine Ml ?_
 refine By ?_ ?_ ?_ ?_
 rfl
 exact hu
 refine Ah ?_ ?_ ?_ ?_ ?_ ?_
 rfl
 rfl
 exact hu
 exact sv Gf
 exact ae
 intro _ _; rfl
 exact bh
 refine Ae ?_ ?_
 refine Au (i := 5) ?_ ?_ ?_ ?_
 exact du.nd
 rfl
 exact Or.inl Jr
 refine yz ?_ ?_ T.J12 ?_
 rfl
 rfl
 refine Ad ?_ ?_
 refine Ah ?_ ?_ ?_ ?_ ?_ ?_
 rfl
 rfl
 exact hu
 exact sv Gf
 refine qj ?_
 exact ae
 intro _ _; rfl
 exact Ag
 exact ag
 exact ag
 refine Ae ?_ ?_
 refine Be ?_ ?_ ?_
 refine By ?_ ?_ ?_ ?_
 rfl
 exact hu
 refine Ah ?_ ?_ ?_ ?_ ?_ ?_
 rfl
 rfl
 exact hu
 exact sv Gf
 exact ae
 intro _ _; rfl
 exact bh
 refine Ae ?_ ?_
 refine Au (i := 5) ?_ ?_ ?_ ?_
 exact du.nd
 rfl
 exact Or.inl Jr
 refine cx ?_
 exact Ag
 exact ag
 exact ag
 refine Ae ?_ ?_
 refine Be ?_ ?_ ?_
 refine By ?_ ?_ ?_ ?_
 rfl
 exact hu
 refine Ah ?_ ?_ ?_ ?_ ?_ ?_
 rfl
 rfl
 exact hu
 exact sv Gf
 exact ae
 intro _ _; rfl
 exact bh
 refine Ae ?_ ?_
 refine Au (i := 5) ?_ ?_ ?_ ?_
 exact du.nd
 rfl
 exact Or.inl Jr
 refine cx ?_
 refine Ad ?_ ?_
 refine Ah ?_ ?_ ?_ ?_ ?_ ?_
 rfl
 rfl
 exact hu
 exact sv Gf
 exact ae
 intro _ _; rfl
 exact Ag
 exact ag
 exact ag
 refine Ae ?_ ?_
 refine Au (i := 1) ?_ ?_ ?_ ?_
 exact du.nd
 rfl
 exact Or.inl jr
 refine Ck ?_ ?_
 exact sv jr
 refine kh (cl := [(Str.ofString "_law_at", s.heap.objs.size + 1)]) (N := ["_law_part", "_law_at"]) (nl := 1) (fv := [4]) (tgs := [0]) (one := true) (k := 0) ?_ ?_ ?_ ?_ ?_ ?_ ?_ ?_ ?_ ?_ ?_ ?_ ?_ ?_
 rfl
 rfl
 rfl
 decide
 decide
 rfl
 refine Hw ?_ ?_
 exact ⟨rfl, trivial⟩
 rfl
 rfl
 refine Hx ?_
 exact ⟨⟨_, _, rfl, rfl, rfl, by first | exact Or.inl rfl | exact Or.inr rfl, by first | exact Or.inl rfl | exact Or.inr rfl⟩, trivial⟩
 decide
 refine Zg ?_ ?_
 rfl
 exact sv Jr
 intro L s0 H0 fp pn
 refine cp ?_ ?_ ?_ ?_
 show List.Nodup (["_law_part", "_law_at"] : List Str); decide
 rfl
 exact Or.inl rfl
 refine Or.inr ?_
 exact rfl
 intro L s0 H0 fp pn
 exact Mv
 intro L s0 H0 fp pn
 refine Bg ?_
 refine Ad ?_ ?_
 refine Cs 0 ?_
 exact pv 0
 refine Ad ?_ ?_
 refine Ck ?_ ?_
 refine Cs 1 ?_
 exact pv 1
 exact ae
 exact Ag
 exact ag
 refine Ae ?_ ?_
 refine Ax ?_
 exact sv Lh
 exact ag
theorem aex : Fj ih 18 ["_law_thing"] 1 := by
 refine Bu (m := 2 * n + 1) (body' := ig) T.f_18 aed rfl fun cdv hcv A outer s H E hrm => ?_
 have hr := hrm.mono (show 2 * n ≤ 2 * n + 1 by omega)
 have hu := hr.units
 subst hw
 refine Ae ?_ ?_
 refine Be ?_ ?_ ?_
 refine Jc ?_
 refine ft ?_ ?_ ?_ ?_
 rfl
 refine Gq ?_ ?_ ?_ ?_ T.J1 ?_ T.J4 ?_ ?_
 rfl
 decide
 exact fun n => gx (n := n) (x := "tuple") (by decide)
 rfl
 rfl
 rfl
 exact sv tj
 exact Je
 intro _; rfl
 refine Ae ?_ ?_
 refine Ax ?_
 exact ae
 exact ag
 exact ag
 refine Ae ?_ ?_
 refine Ax ?_
 refine Ck ?_ ?_
 exact ae
 refine abh ?_ ?_ ?_ T.J8 ?_ ?_
 rfl
 rfl
 rfl
 refine kh (cl := []) (N := ["_law_one"]) (nl := 1) (fv := []) (tgs := [0]) (one := true) (k := 1) ?_ ?_ ?_ ?_ ?_ ?_ ?_ ?_ ?_ ?_ ?_ ?_ ?_ ?_
 rfl
 rfl
 rfl
 decide
 decide
 rfl
 refine Hw ?_ ?_
 exact trivial
 rfl
 rfl
 refine Hx ?_
 exact trivial
 decide
 refine Kg ?_ ?_
 rfl
 exact sv tj
 intro L s0 H0 fp pn
 refine cp ?_ ?_ ?_ ?_
 show List.Nodup (["_law_one"] : List Str); decide
 rfl
 exact Or.inl rfl
 refine Or.inr ?_
 exact rfl
 intro L s0 H0 fp pn
 exact Mv
 intro L s0 H0 fp pn
 refine Av ih.i_18 hr (by rfl) T.m_18 T.f_18.kp T.b_18 .nil Aw So (aw rfl) ?_
 refine Ad ?_ ?_
 refine Cs 0 ?_
 exact pv 0
 exact Ag
 exact ae
 exact ag
theorem aey : Fj ih 19 ["_law_script"] 1 := by
 refine Bu (m := 2 * n + 1) (body' := kz) T.f_19 Io rfl fun cdv hcv A outer s H E hrm => ?_
 have hr := hrm.mono (show 2 * n ≤ 2 * n + 1 by omega)
 have hu := hr.units
 subst hw
 refine Ae ?_ ?_
 refine Au (i := 1) ?_ ?_ ?_ ?_
 exact Io.nd
 rfl
 exact Or.inl Li
 refine cx ?_
 refine Ad ?_ ?_
 refine Bg ?_
 refine Ad ?_ ?_
 exact bh
 refine Ad ?_ ?_
 exact bh
 exact Ag
 refine Ad ?_ ?_
 refine Bg ?_
 refine Ad ?_ ?_
 exact bh
 refine Ad ?_ ?_
 refine Bg ?_
 refine Ad ?_ ?_
 exact ae
 refine Ad ?_ ?_
 exact ae
 exact Ag
 exact Ag
 exact Ag
 refine Ae ?_ ?_
 refine Qr (is := [2]) ?_ ?_ ?_ ?_ ?_ ?_
 rfl
 exact PassesOwn.leaving
 rfl
 refine zf ?_ ?_ ?_ ?_
 rfl
 exact sv aee
 exact ae
 exact ae
 refine cp ?_ ?_ ?_
 exact Io.nd
 rfl
 exact Or.inl Tj
 refine Ae ?_ ?_
 refine Au (i := 3) ?_ ?_ ?_ ?_
 exact Io.nd
 rfl
 exact Or.inl Oh
 refine Av ih.i_9 hr (by rfl) T.m_9 T.f_9.kp T.b_9 .nil Aw ax (aw rfl) ?_
 refine Ad ?_ ?_
 exact sv Tj
 refine Ad ?_ ?_
 exact ae
 exact Ag
 refine Ae ?_ ?_
 refine Au (i := 4) ?_ ?_ ?_ ?_
 exact Io.nd
 rfl
 exact Or.inl ip
 refine Av ih.i_15 hr (by rfl) T.m_15 T.f_15.kp T.b_15 .nil Aw ax (aw rfl) ?_
 refine Ad ?_ ?_
 refine Ah ?_ ?_ ?_ ?_ ?_ ?_
 rfl
 rfl
 exact hu
 exact sv Oh
 exact ae
 intro _ _; rfl
 refine Ad ?_ ?_
 refine mv ?_ ?_ ?_
 rfl
 exact sv Oh
 exact ae
 refine Ad ?_ ?_
 exact sv Li
 exact Ag
 refine Ae ?_ ?_
 refine Au (i := 5) ?_ ?_ ?_ ?_
 exact Io.nd
 rfl
 exact Or.inl tm
 refine Yw ?_ ?_
 refine yt ?_ ?_ ?_ ?_ ?_
 rfl
 rfl
 exact hu
 refine Ah ?_ ?_ ?_ ?_ ?_ ?_
 rfl
 rfl
 exact hu
 exact sv ip
 exact ae
 intro _ _; rfl
 refine Bg ?_
 refine Ad ?_ ?_
 exact bh
 refine Ad ?_ ?_
 exact bh
 exact Ag
 refine qp ?_
 refine Yp ?_ ?_
 refine Av ih.i_18 hr (by rfl) T.m_18 T.f_18.kp T.b_18 .nil Aw ax (aw rfl) ?_
 refine Ad ?_ ?_
 exact sv ip
 exact Ag
 exact ae
 refine Ae ?_ ?_
 refine Be ?_ ?_ ?_
 refine PW.pt ?_
 refine Ht ?_ ?_
 refine ft ?_ ?_ ?_ ?_
 rfl
 exact sv tm
 exact Zl
 intro _; rfl
 refine Ht ?_ ?_
 refine qm ?_ ?_
 refine Av ih.i_16 hr (by rfl) T.m_16 T.f_16.kp T.b_16 .nil Aw ax (aw rfl) ?_
 refine Ad ?_ ?_
 exact sv ip
 exact Ag
 exact ae
 refine Jb ?_
 refine qm ?_ ?_
 refine Av ih.i_17 hr (by rfl) T.m_17 T.f_17.kp T.b_17 .nil Aw ax (aw rfl) ?_
 refine Ad ?_ ?_
 exact sv ip
 exact Ag
 exact ae
 refine Ae ?_ ?_
 refine Ft ?_
 refine kg ?_ ?_ ?_
 rfl
 exact sv Li
 exact sv ip
 exact ag
 exact ag
 exact ag
 refine Ae ?_ ?_
 refine Ax ?_
 exact sv Li
 exact ag
theorem aez : Fj ih 20 ["_law_term_here"] 1 := by
 refine Bu (m := 2 * n + 1) (body' := Ef) T.f_20 Dm rfl fun cdv hcv A outer s H E hrm => ?_
 have hr := hrm.mono (show 2 * n ≤ 2 * n + 1 by omega)
 have hu := hr.units
 subst hw
 refine Ae ?_ ?_
 refine Be ?_ ?_ ?_
 refine By ?_ ?_ ?_ ?_
 rfl
 exact hu
 refine Ah ?_ ?_ ?_ ?_ ?_ ?_
 rfl
 rfl
 exact hu
 exact sv Eh
 exact ae
 intro _ _; rfl
 exact bh
 refine Ae ?_ ?_
 refine Ax ?_
 refine Bg ?_
 refine Ad ?_ ?_
 refine Ah ?_ ?_ ?_ ?_ ?_ ?_
 rfl
 rfl
 exact hu
 exact sv Eh
 exact ae
 intro _ _; rfl
 refine Ad ?_ ?_
 refine Gr ?_
 rfl
 exact Ag
 exact ag
 exact ag
 refine Ae ?_ ?_
 refine Be ?_ ?_ ?_
 refine By ?_ ?_ ?_ ?_
 rfl
 exact hu
 refine Ah ?_ ?_ ?_ ?_ ?_ ?_
 rfl
 rfl
 exact hu
 exact sv Eh
 exact ae
 intro _ _; rfl
 exact bh
 refine Ae ?_ ?_
 refine Mn (is := [1, 2]) ?_ ?_
 refine Av ih.i_20 hr (by rfl) T.m_20 T.f_20.kp T.b_20 .nil Aw ax (aw rfl) ?_
 refine Ad ?_ ?_
 refine Ah ?_ ?_ ?_ ?_ ?_ ?_
 rfl
 rfl
 exact hu
 exact sv Eh
 exact ae
 intro _ _; rfl
 exact Ag
 refine fh ?_ ?_
 rfl
 refine cq ?_ ?_
 refine cu (i := 1) ?_ ?_ ?_
 exact Dm.nd
 rfl
 exact Or.inl Ip
 refine cq ?_ ?_
 refine cu (i := 2) ?_ ?_ ?_
 exact Dm.nd
 rfl
 exact Or.inl iq
 exact Fg
 refine Ae ?_ ?_
 refine Au (i := 3) ?_ ?_ ?_ ?_
 exact Dm.nd
 rfl
 exact Or.inl gz
 refine Gr ?_
 rfl
 refine Ae ?_ ?_
 refine Nv (is := [4]) (one := true) ?_ ?_ ?_ ?_ ?_
 exact PassesOwn.leaving
 rfl
 exact sv iq
 refine cp ?_ ?_ ?_
 exact Dm.nd
 rfl
 exact Or.inl Gz
 refine Ae ?_ ?_
 refine Be ?_ ?_ ?_
 refine dj ?_ ?_ ?_ ?_
 rfl
 exact hu
 refine Ah ?_ ?_ ?_ ?_ ?_ ?_
 rfl
 rfl
 exact hu
 refine Ah ?_ ?_ ?_ ?_ ?_ ?_
 rfl
 rfl
 exact hu
 exact sv Eh
 exact ae
 intro _ _; rfl
 exact ae
 intro _ _; rfl
 exact ae
 refine Ae ?_ ?_
 refine je ?_ ?_ ?_ ?_ ?_ ?_
 rfl
 rfl
 exact hu
 exact sv gz
 exact sv Gz
 refine Av ih.i_13 hr (by rfl) T.m_13 T.f_13.kp T.b_13 .nil Aw ax (aw rfl) ?_
 refine Ad ?_ ?_
 refine Ah ?_ ?_ ?_ ?_ ?_ ?_
 rfl
 rfl
 exact hu
 exact sv iq
 exact sv Gz
 intro _ _; rfl
 refine Ad ?_ ?_
 refine Ah ?_ ?_ ?_ ?_ ?_ ?_
 rfl
 rfl
 exact hu
 exact sv Eh
 exact ae
 intro _ _; rfl
 exact Ag
 exact ag
 exact ag
 exact ag
 refine Ae ?_ ?_
 refine Ax ?_
 refine Bg ?_
 refine Ad ?_ ?_
 refine Av ih.i_13 hr (by rfl) T.m_13 T.f_13.kp T.b_13 .nil Aw ax (aw rfl) ?_
 refine Ad ?_ ?_
 exact sv Ip
 refine Ad ?_ ?_
 refine Ah ?_ ?_ ?_ ?_ ?_ ?_
 rfl
 rfl
 exact hu
 exact sv Eh
 exact ae
 intro _ _; rfl
 exact Ag
 refine Ad ?_ ?_
 exact sv gz
 exact Ag
 exact ag
 exact ag
 refine Ae ?_ ?_
 refine Be ?_ ?_ ?_
 refine dj ?_ ?_ ?_ ?_
 rfl
 exact hu
 refine Ah ?_ ?_ ?_ ?_ ?_ ?_
 rfl
 rfl
 exact hu
 exact sv Eh
 exact ae
 intro _ _; rfl
 exact bh
 refine Ae ?_ ?_
 refine Ax ?_
 refine Bg ?_
 refine Ad ?_ ?_
 refine Bg ?_
 refine Ad ?_ ?_
 exact ae
 refine Ad ?_ ?_
 exact ae
 exact Ag
 refine Ad ?_ ?_
 refine sk ?_ ?_ ?_ ?_ ?_
 rfl
 rfl
 exact hu
 exact sv Eh
 refine Bg ?_
 refine Ad ?_ ?_
 exact ae
 refine Ad ?_ ?_
 exact ae
 exact Ag
 exact Ag
 exact ag
 exact ag
 refine Ae ?_ ?_
 refine Au (i := 1) ?_ ?_ ?_ ?_
 exact Dm.nd
 rfl
 exact Or.inl Ip
 refine Bg ?_
 refine Ad ?_ ?_
 exact ae
 refine Ad ?_ ?_
 exact ae
 exact Ag
 refine Ae ?_ ?_
 refine Au (i := 3) ?_ ?_ ?_ ?_
 exact Dm.nd
 rfl
 exact Or.inl gz
 refine Gr ?_
 rfl
 refine Ae ?_ ?_
 refine mr (is := [5]) ?_ ?_ ?_ ?_ ?_ ?_
 rfl
 exact PassesOwn.leaving
 rfl
 refine Ah ?_ ?_ ?_ ?_ ?_ ?_
 rfl
 rfl
 exact hu
 exact sv Eh
 exact ae
 intro _ _; rfl
 refine cp ?_ ?_ ?_
 exact Dm.nd
 rfl
 exact Or.inl Tn
 refine Ae ?_ ?_
 refine Mn (is := [6, 2]) ?_ ?_
 refine Av ih.i_20 hr (by rfl) T.m_20 T.f_20.kp T.b_20 .nil Aw ax (aw rfl) ?_
 refine Ad ?_ ?_
 exact sv Tn
 exact Ag
 refine fh ?_ ?_
 rfl
 refine cq ?_ ?_
 refine cu (i := 6) ?_ ?_ ?_
 exact Dm.nd
 rfl
 exact Or.inl To
 refine cq ?_ ?_
 refine cu (i := 2) ?_ ?_ ?_
 exact Dm.nd
 rfl
 exact Or.inl iq
 exact Fg
 refine Ae ?_ ?_
 refine Au (i := 1) ?_ ?_ ?_ ?_
 exact Dm.nd
 rfl
 exact Or.inl Ip
 refine Av ih.i_12 hr (by rfl) T.m_12 T.f_12.kp T.b_12 .nil Aw ax (aw rfl) ?_
 refine Ad ?_ ?_
 exact sv Ip
 refine Ad ?_ ?_
 exact sv To
 exact Ag
 refine Ae ?_ ?_
 refine Nv (is := [4]) (one := true) ?_ ?_ ?_ ?_ ?_
 exact PassesOwn.leaving
 rfl
 exact sv iq
 refine cp ?_ ?_ ?_
 exact Dm.nd
 rfl
 exact Or.inl Gz
 refine Ae ?_ ?_
 refine je ?_ ?_ ?_ ?_ ?_ ?_
 rfl
 rfl
 exact hu
 exact sv gz
 exact sv Gz
 refine Av ih.i_12 hr (by rfl) T.m_12 T.f_12.kp T.b_12 .nil Aw ax (aw rfl) ?_
 refine Ad ?_ ?_
 refine Rf ?_ ?_ ?_ ?_ ?_ ?_ ?_
 rfl
 rfl
 exact hu
 exact sv gz
 exact sv Gz
 refine Bg ?_
 refine Ad ?_ ?_
 exact ae
 refine Ad ?_ ?_
 exact ae
 exact Ag
 exact ⟨by rfl, by rfl, by rfl, by rfl⟩
 refine Ad ?_ ?_
 refine Ah ?_ ?_ ?_ ?_ ?_ ?_
 rfl
 rfl
 exact hu
 exact sv iq
 exact sv Gz
 intro _ _; rfl
 exact Ag
 exact ag
 exact ag
 refine Ae ?_ ?_
 refine Ax ?_
 refine Bg ?_
 refine Ad ?_ ?_
 exact sv Ip
 refine Ad ?_ ?_
 refine Av ih.i_11 hr (by rfl) T.m_11 T.f_11.kp T.b_11 .nil Aw ax (aw rfl) ?_
 refine Ad ?_ ?_
 exact sv gz
 exact Ag
 exact Ag
 exact ag
theorem afa : Fj ih 21 ["_law_term_here", "_law_values"] 2 := by
 refine Bu (m := 2 * n + 1) (body' := eg) T.f_21 lj rfl fun cdv hcv A outer s H E hrm => ?_
 have hr := hrm.mono (show 2 * n ≤ 2 * n + 1 by omega)
 have hu := hr.units
 subst hw
 refine Ae ?_ ?_
 refine Be ?_ ?_ ?_
 refine By ?_ ?_ ?_ ?_
 rfl
 exact hu
 refine Ah ?_ ?_ ?_ ?_ ?_ ?_
 rfl
 rfl
 exact hu
 exact sv Gg
 exact ae
 intro _ _; rfl
 exact bh
 refine Ae ?_ ?_
 refine Ax ?_
 refine Ah ?_ ?_ ?_ ?_ ?_ ?_
 rfl
 rfl
 exact hu
 exact sv Gg
 exact ae
 intro _ _; rfl
 exact ag
 exact ag
 refine Ae ?_ ?_
 refine Be ?_ ?_ ?_
 refine By ?_ ?_ ?_ ?_
 rfl
 exact hu
 refine Ah ?_ ?_ ?_ ?_ ?_ ?_
 rfl
 rfl
 exact hu
 exact sv Gg
 exact ae
 intro _ _; rfl
 exact bh
 refine Ae ?_ ?_
 refine Ax ?_
 refine Av ih.i_13 hr (by rfl) T.m_13 T.f_13.kp T.b_13 .nil Aw ax (aw rfl) ?_
 refine Ad ?_ ?_
 refine Ah ?_ ?_ ?_ ?_ ?_ ?_
 rfl
 rfl
 exact hu
 exact sv Gg
 exact ae
 intro _ _; rfl
 refine Ad ?_ ?_
 refine Av ih.i_21 hr (by rfl) T.m_21 T.f_21.kp T.b_21 .nil Aw ax (aw rfl) ?_
 refine Ad ?_ ?_
 refine Ah ?_ ?_ ?_ ?_ ?_ ?_
 rfl
 rfl
 exact hu
 exact sv Gg
 exact ae
 intro _ _; rfl
 refine Ad ?_ ?_
 exact sv Oi
 exact Ag
 exact Ag
 exact ag
 exact ag
 refine Ae ?_ ?_
 refine Be ?_ ?_ ?_
 refine dj ?_ ?_ ?_ ?_
 rfl
 exact hu
 refine Ah ?_ ?_ ?_ ?_ ?_ ?_
 rfl
 rfl
 exact hu
 exact sv Gg
 exact ae
 intro _ _; rfl
 exact bh
 refine Ae ?_ ?_
 refine Ax ?_
 refine Ah ?_ ?_ ?_ ?_ ?_ ?_
 rfl
 rfl
 exact hu
 exact sv Oi
 exact sv Gg
 intro _ _; rfl
 exact ag
 exact ag
 refine Ae ?_ ?_
 refine Au (i := 2) ?_ ?_ ?_ ?_
 exact lj.nd
 rfl
 exact Or.inl Lj
 refine Bg ?_
 refine Ad ?_ ?_
 exact ae
 refine Ad ?_ ?_
 exact ae
 exact Ag
 refine Ae ?_ ?_
 refine mr (is := [3]) ?_ ?_ ?_ ?_ ?_ ?_
 rfl
 exact PassesOwn.leaving
 rfl
 refine Ah ?_ ?_ ?_ ?_ ?_ ?_
 rfl
 rfl
 exact hu
 exact sv Gg
 exact ae
 intro _ _; rfl
 refine cp ?_ ?_ ?_
 exact lj.nd
 rfl
 exact Or.inl tp
 refine Ae ?_ ?_
 refine Au (i := 2) ?_ ?_ ?_ ?_
 exact lj.nd
 rfl
 exact Or.inl Lj
 refine Av ih.i_12 hr (by rfl) T.m_12 T.f_12.kp T.b_12 .nil Aw ax (aw rfl) ?_
 refine Ad ?_ ?_
 exact sv Lj
 refine Ad ?_ ?_
 refine Av ih.i_21 hr (by rfl) T.m_21 T.f_21.kp T.b_21 .nil Aw ax (aw rfl) ?_
 refine Ad ?_ ?_
 exact sv tp
 refine Ad ?_ ?_
 exact sv Oi
 exact Ag
 exact Ag
 exact ag
 refine Ae ?_ ?_
 refine Ax ?_
 exact sv Lj
 exact ag
theorem afb : Fj ih 22 ["_law_term_here", "_law_found"] 2 := by
 refine Bu (m := 2 * n + 1) (body' := Eg) T.f_22 Tp rfl fun cdv hcv A outer s H E hrm => ?_
 have hr := hrm.mono (show 2 * n ≤ 2 * n + 1 by omega)
 have hu := hr.units
 subst hw
 refine Ae ?_ ?_
 refine Be ?_ ?_ ?_
 refine By ?_ ?_ ?_ ?_
 rfl
 exact hu
 refine Ah ?_ ?_ ?_ ?_ ?_ ?_
 rfl
 rfl
 exact hu
 exact sv Ha
 exact ae
 intro _ _; rfl
 exact bh
 refine Ae ?_ ?_
 refine Ft ?_
 refine Av ih.i_22 hr (by rfl) T.m_22 T.f_22.kp T.b_22 .nil Aw ax (aw rfl) ?_
 refine Ad ?_ ?_
 refine Ah ?_ ?_ ?_ ?_ ?_ ?_
 rfl
 rfl
 exact hu
 exact sv Ha
 exact ae
 intro _ _; rfl
 refine Ad ?_ ?_
 exact sv Lk
 exact Ag
 exact ag
 refine Ae ?_ ?_
 refine Be ?_ ?_ ?_
 refine By ?_ ?_ ?_ ?_
 rfl
 exact hu
 refine Ah ?_ ?_ ?_ ?_ ?_ ?_
 rfl
 rfl
 exact hu
 exact sv Ha
 exact ae
 intro _ _; rfl
 exact bh
 refine Ae ?_ ?_
 refine mr (is := [2]) ?_ ?_ ?_ ?_ ?_ ?_
 rfl
 exact PassesOwn.leaving
 rfl
 refine Ah ?_ ?_ ?_ ?_ ?_ ?_
 rfl
 rfl
 exact hu
 exact sv Ha
 exact ae
 intro _ _; rfl
 refine cp ?_ ?_ ?_
 exact Tp.nd
 rfl
 exact Or.inl tq
 refine Ae ?_ ?_
 refine Ft ?_
 refine Av ih.i_22 hr (by rfl) T.m_22 T.f_22.kp T.b_22 .nil Aw ax (aw rfl) ?_
 refine Ad ?_ ?_
 exact sv tq
 refine Ad ?_ ?_
 exact sv Lk
 exact Ag
 exact ag
 exact ag
 refine Ae ?_ ?_
 refine Be ?_ ?_ ?_
 refine PW.pt ?_
 refine Ht ?_ ?_
 refine dj ?_ ?_ ?_ ?_
 rfl
 exact hu
 refine Ah ?_ ?_ ?_ ?_ ?_ ?_
 rfl
 rfl
 exact hu
 exact sv Ha
 exact ae
 intro _ _; rfl
 exact bh
 refine Jb ?_
 refine Yt ?_ ?_ ?_ ?_ ?_
 rfl
 rfl
 exact hu
 exact sv Ha
 exact sv Lk
 refine Ae ?_ ?_
 refine Ft ?_
 refine kg ?_ ?_ ?_
 rfl
 exact sv Lk
 exact sv Ha
 exact ag
 exact ag
 exact ag
 exact ag
 exact ag
theorem afc : Fj ih 23 ["_law_script"] 1 := by
 refine Bu (m := 2 * n + 1) (body' := Kz) T.f_23 Ei rfl fun cdv hcv A outer s H E hrm => ?_
 have hr := hrm.mono (show 2 * n ≤ 2 * n + 1 by omega)
 have hu := hr.units
 subst hw
 refine Ae ?_ ?_
 refine Qr (is := [1]) ?_ ?_ ?_ ?_ ?_ ?_
 rfl
 exact PassesOwn.leaving
 rfl
 refine Av ih.i_19 hr (by rfl) T.m_19 T.f_19.kp T.b_19 .nil Aw ax (aw rfl) ?_
 refine Ad ?_ ?_
 exact sv Tq
 exact Ag
 refine cp ?_ ?_ ?_
 exact Ei.nd
 rfl
 exact Or.inl Iq
 refine Ae ?_ ?_
 refine Au (i := 2) ?_ ?_ ?_ ?_
 exact Ei.nd
 rfl
 exact Or.inl fe
 refine Av ih.i_5 hr (by rfl) T.m_5 T.f_5.kp T.b_5 .nil Aw ax (aw rfl) ?_
 refine Ad ?_ ?_
 exact sv Iq
 exact Ag
 refine Ae ?_ ?_
 refine Au (i := 3) ?_ ?_ ?_ ?_
 exact Ei.nd
 rfl
 exact Or.inl oj
 refine Av ih.i_20 hr (by rfl) T.m_20 T.f_20.kp T.b_20 .nil Aw ax (aw rfl) ?_
 refine Ad ?_ ?_
 exact sv Iq
 exact Ag
 refine Ae ?_ ?_
 refine Be ?_ ?_ ?_
 refine PW.pt ?_
 refine jc ?_ ?_
 refine Jc ?_
 refine ft ?_ ?_ ?_ ?_
 rfl
 refine Gq ?_ ?_ ?_ ?_ T.J1 ?_ T.J4 ?_ ?_
 rfl
 decide
 exact fun n => gx (n := n) (x := "tuple") (by decide)
 rfl
 rfl
 rfl
 exact sv fe
 exact Je
 intro _; rfl
 refine jc ?_ ?_
 refine dj ?_ ?_ ?_ ?_
 rfl
 exact hu
 refine gq ?_ ?_ T.J2 ?_
 rfl
 rfl
 refine Ad ?_ ?_
 exact sv fe
 exact Ag
 exact ae
 refine jc ?_ ?_
 refine Jc ?_
 refine ft ?_ ?_ ?_ ?_
 rfl
 refine Gq ?_ ?_ ?_ ?_ T.J1 ?_ T.J10 ?_ ?_
 rfl
 decide
 exact fun n => gx (n := n) (x := "dict") (by decide)
 rfl
 rfl
 rfl
 refine Ah ?_ ?_ ?_ ?_ ?_ ?_
 rfl
 rfl
 exact hu
 exact sv fe
 exact ae
 intro _ _; rfl
 exact Je
 intro _; rfl
 refine Ml ?_
 refine Sj ?_ ?_ ?_ ?_ ?_
 rfl
 rfl
 exact hu
 exact sv fe
 exact sv oj
 refine Ae ?_ ?_
 refine Ax ?_
 exact Jz
 exact ag
 exact ag
 refine Ae ?_ ?_
 refine Au (i := 4) ?_ ?_ ?_ ?_
 exact Ei.nd
 rfl
 exact Or.inl ll
 refine cx ?_
 exact Ag
 refine Ae ?_ ?_
 refine Ft ?_
 refine Av ih.i_22 hr (by rfl) T.m_22 T.f_22.kp T.b_22 .nil Aw ax (aw rfl) ?_
 refine Ad ?_ ?_
 exact sv Iq
 refine Ad ?_ ?_
 exact sv ll
 exact Ag
 refine Ae ?_ ?_
 refine Au (i := 5) ?_ ?_ ?_ ?_
 exact Ei.nd
 rfl
 exact Or.inl Ll
 refine Gr ?_
 rfl
 refine Ae ?_ ?_
 refine Mq (is := [6]) ?_ ?_ ?_ T.J6 ?_ ?_ ?_
 exact PassesOwn.leaving
 rfl
 rfl
 refine gq ?_ ?_ T.J2 ?_
 rfl
 rfl
 refine Ad ?_ ?_
 exact sv ll
 exact Ag
 refine cp ?_ ?_ ?_
 exact Ei.nd
 rfl
 exact Or.inl Lm
 refine Ae ?_ ?_
 refine je ?_ ?_ ?_ ?_ ?_ ?_
 rfl
 rfl
 exact hu
 exact sv Ll
 refine Ah ?_ ?_ ?_ ?_ ?_ ?_
 rfl
 rfl
 exact hu
 exact sv ll
 exact sv Lm
 intro _ _; rfl
 refine Av ih.i_14 hr (by rfl) T.m_14 T.f_14.kp T.b_14 .nil Aw ax (aw rfl) ?_
 refine Ad ?_ ?_
 refine Ck ?_ ?_
 refine Av ih.i_8 hr (by rfl) T.m_8 T.f_8.kp T.b_8 .nil Aw ax (aw rfl) ?_
 refine Ad ?_ ?_
 exact sv Tq
 refine Ad ?_ ?_
 refine Ck ?_ ?_
 exact ae
 exact sv Lm
 exact Ag
 refine cn ?_ ?_ ?_
 rfl
 exact ae
 exact sv Lm
 exact Ag
 exact ag
 refine Ae ?_ ?_
 refine Au (i := 7) ?_ ?_ ?_ ?_
 exact Ei.nd
 rfl
 exact Or.inl Ln
 refine Ah ?_ ?_ ?_ ?_ ?_ ?_
 rfl
 rfl
 exact hu
 exact sv fe
 exact ae
 intro _ _; rfl
 refine Ae ?_ ?_
 refine Nv (is := [8]) (one := true) ?_ ?_ ?_ ?_ ?_
 exact PassesOwn.leaving
 rfl
 refine Ah ?_ ?_ ?_ ?_ ?_ ?_
 rfl
 rfl
 exact hu
 exact sv fe
 exact ae
 intro _ _; rfl
 refine cp ?_ ?_ ?_
 exact Ei.nd
 rfl
 exact Or.inl Oj
 refine Ae ?_ ?_
 refine Au (i := 7) ?_ ?_ ?_ ?_
 exact Ei.nd
 rfl
 exact Or.inl Ln
 refine Av ih.i_12 hr (by rfl) T.m_12 T.f_12.kp T.b_12 .nil Aw ax (aw rfl) ?_
 refine Ad ?_ ?_
 exact sv Ln
 refine Ad ?_ ?_
 refine Av ih.i_13 hr (by rfl) T.m_13 T.f_13.kp T.b_13 .nil Aw ax (aw rfl) ?_
 refine Ad ?_ ?_
 refine Ah ?_ ?_ ?_ ?_ ?_ ?_
 rfl
 rfl
 exact hu
 refine Ah ?_ ?_ ?_ ?_ ?_ ?_
 rfl
 rfl
 exact hu
 exact sv fe
 exact ae
 intro _ _; rfl
 exact sv Oj
 intro _ _; rfl
 refine Ad ?_ ?_
 refine Ah ?_ ?_ ?_ ?_ ?_ ?_
 rfl
 rfl
 exact hu
 exact sv Ll
 exact sv Oj
 intro _ _; rfl
 exact Ag
 exact Ag
 exact ag
 refine Ae ?_ ?_
 refine Be ?_ ?_ ?_
 refine dj ?_ ?_ ?_ ?_
 rfl
 exact hu
 exact sv Ln
 refine Av ih.i_21 hr (by rfl) T.m_21 T.f_21.kp T.b_21 .nil Aw ax (aw rfl) ?_
 refine Ad ?_ ?_
 exact sv Iq
 refine Ad ?_ ?_
 exact sv Ll
 exact Ag
 refine Ae ?_ ?_
 refine Ax ?_
 exact Jz
 exact ag
 exact ag
 refine Ae ?_ ?_
 refine Ft ?_
 refine zk ?_ ?_ ?_
 rfl
 rfl
 refine Ah ?_ ?_ ?_ ?_ ?_ ?_
 rfl
 rfl
 exact hu
 exact sv fe
 exact ae
 intro _ _; rfl
 refine Ae ?_ ?_
 refine Be ?_ ?_ ?_
 refine Sj ?_ ?_ ?_ ?_ ?_
 rfl
 rfl
 exact hu
 refine Av ih.i_5 hr (by rfl) T.m_5 T.f_5.kp T.b_5 .nil Aw ax (aw rfl) ?_
 refine Ad ?_ ?_
 exact sv Iq
 exact Ag
 exact sv oj
 refine Ae ?_ ?_
 refine Ax ?_
 exact Jz
 exact ag
 exact ag
 exact ag
 refine Ae ?_ ?_
 refine Ax ?_
 exact Jz
 exact ag
end
theorem Tr (hw : cls.w = w) (T : Txt K mg fd cls) (hL : LamOk cls mg base (fd 5) "base" "form_of" dt) : ∀ n, IH (Fk Pr w K mg base fd cls FF n)
 | 0 => ⟨Bv, Bv, Bv, Bv, Bv, Bv, Bv, Bv, Bv, Bv, Bv, Bv, Bv, Bv, Bv, Bv, Bv, Bv, Bv, Bv, Bv, Bv, Bv, Bv⟩
 | n + 1 => by
  have ih := Tr hw T hL n
  exact ⟨aef hw T hL ih, aeg hw T hL ih, aeh hw T hL ih, aei hw T hL ih, aej hw T hL ih, aek hw T hL ih, ael hw T hL ih, aem hw T hL ih, aen hw T hL ih, aeo hw T hL ih, aep hw T hL ih, aeq hw T hL ih, aer hw T hL ih, aes hw T hL ih, aet hw T hL ih, aeu hw T hL ih, aev hw T hL ih, aew hw T hL ih, aex hw T hL ih, aey hw T hL ih, aez hw T hL ih, afa hw T hL ih, afb hw T hL ih, afc hw T hL ih⟩
end
abbrev Tt (l : List Addr) : Nat → Addr := fun i => l.getD i 0
instance : Inhabited FuncData := ⟨PySem.W.fnOf "" "" (iz (.Pass ⟨0, 0, 0, 0⟩)) (Gk (.Pass ⟨0, 0, 0, 0⟩)) (Bc (.Pass ⟨0, 0, 0, 0⟩)) .none .none .none .none none .none .none⟩
theorem afd (kV doc pm : Value) (an : Option Addr) (cdv ct : Value) (us : List Value) (hl : us.length = 1) : bindArgs (fO "law" "law" Ct .none kV doc pm an cdv ct) ⟨us, []⟩ = pure ((["_law_script"] : List Str).zip us) := match us, hl with | [_], _ => rfl
theorem afe {K : PySem.W.Frag} {kv0 dc0 pm0 cd0 ct0 : Value} {an0 : Option Addr} : Binds K (fO "is_whole" "is_whole" gw .none kv0 dc0 pm0 an0 cd0 ct0) ["thing"] [] := Binds.all fun us hl => match us, hl with | [_], _ => rfl
theorem aff {K : PySem.W.Frag} {kv1 dc1 pm1 cd1 ct1 : Value} {an1 : Option Addr} : Binds K (fO "common_divisor" "common_divisor" Fx .none kv1 dc1 pm1 an1 cd1 ct1) ["one", "other"] [] := Binds.all fun us hl => match us, hl with | [_, _], _ => rfl
theorem afg {K : PySem.W.Frag} {kv3 dc3 pm3 cd3 ct3 : Value} {an3 : Option Addr} : Binds K (fO "plus" "plus" Fy .none kv3 dc3 pm3 an3 cd3 ct3) ["one", "other"] [] := Binds.all fun us hl => match us, hl with | [_, _], _ => rfl
theorem afh {K : PySem.W.Frag} {kv4 dc4 pm4 cd4 ct4 : Value} {an4 : Option Addr} : Binds K (fO "times" "times" Fz .none kv4 dc4 pm4 an4 cd4 ct4) ["one", "other"] [] := Binds.all fun us hl => match us, hl with | [_, _], _ => rfl
theorem afi {K : PySem.W.Frag} {kv5 dc5 pm5 cd5 ct5 : Value} {an5 : Option Addr} : Binds K (fO "form_of" "form_of" Ga .none kv5 dc5 pm5 an5 cd5 ct5) ["term"] [] := Binds.all fun us hl => match us, hl with | [_], _ => rfl
theorem afj {K : PySem.W.Frag} {kv6 dc6 pm6 cd6 ct6 : Value} {an6 : Option Addr} : Binds K (fO "form_by" "form_by" fc .none kv6 dc6 pm6 an6 cd6 ct6) ["term", "key_of"] [] := Binds.all fun us hl => match us, hl with | [_, _], _ => rfl
theorem afk {K : PySem.W.Frag} {kv7 dc7 pm7 cd7 ct7 : Value} {an7 : Option Addr} : Binds K (fO "combined" "combined" cw .none kv7 dc7 pm7 an7 cd7 ct7) ["forms", "weights"] [] := Binds.all fun us hl => match us, hl with | [_, _], _ => rfl
theorem afl {K : PySem.W.Frag} {kv8 dc8 pm8 cd8 ct8 : Value} {an8 : Option Addr} : Binds K (fO "_law_cell_at" "_law_cell_at" gb .none kv8 dc8 pm8 an8 cd8 ct8) ["_law_script", "_law_k"] [] := Binds.all fun us hl => match us, hl with | [_, _], _ => rfl
theorem afm {K : PySem.W.Frag} {kv9 dc9 pm9 cd9 ct9 : Value} {an9 : Option Addr} : Binds K (fO "_law_stream" "_law_stream" Dk .none kv9 dc9 pm9 an9 cd9 ct9) ["_law_cell", "_law_many"] [] := Binds.all fun us hl => match us, hl with | [_, _], _ => rfl
theorem afn {K : PySem.W.Frag} {kv10 dc10 pm10 cd10 ct10 : Value} {an10 : Option Addr} : Binds K (fO "_law_fraction" "_law_fraction" Ea .none kv10 dc10 pm10 an10 cd10 ct10) ["_law_top", "_law_bottom"] [] := Binds.all fun us hl => match us, hl with | [_, _], _ => rfl
theorem afo {K : PySem.W.Frag} {kv11 dc11 pm11 cd11 ct11 : Value} {an11 : Option Addr} : Binds K (fO "_law_slim" "_law_slim" Eb .none kv11 dc11 pm11 an11 cd11 ct11) ["_law_weights"] [] := Binds.all fun us hl => match us, hl with | [_], _ => rfl
theorem afp {K : PySem.W.Frag} {kv12 dc12 pm12 cd12 ct12 : Value} {an12 : Option Addr} : Binds K (fO "_law_plus" "_law_plus" Gb .none kv12 dc12 pm12 an12 cd12 ct12) ["_law_one", "_law_other"] [] := Binds.all fun us hl => match us, hl with | [_, _], _ => rfl
theorem afq {K : PySem.W.Frag} {kv13 dc13 pm13 cd13 ct13 : Value} {an13 : Option Addr} : Binds K (fO "_law_times" "_law_times" gc .none kv13 dc13 pm13 an13 cd13 ct13) ["_law_one", "_law_other"] [] := Binds.all fun us hl => match us, hl with | [_, _], _ => rfl
theorem afr {K : PySem.W.Frag} {kv14 dc14 pm14 cd14 ct14 : Value} {an14 : Option Addr} : Binds K (fO "_law_number" "_law_number" Ge .none kv14 dc14 pm14 an14 cd14 ct14) ["_law_x"] [] := Binds.all fun us hl => match us, hl with | [_], _ => rfl
theorem afs {K : PySem.W.Frag} {kv15 dc15 pm15 cd15 ct15 : Value} {an15 : Option Addr} : Binds K (fO "_law_term" "_law_term" Cy .none kv15 dc15 pm15 an15 cd15 ct15) ["_law_x", "_law_ys", "_law_terms_here"] [] := Binds.all fun us hl => match us, hl with | [_, _, _], _ => rfl
theorem aft {K : PySem.W.Frag} {kv16 dc16 pm16 cd16 ct16 : Value} {an16 : Option Addr} : Binds K (fO "_law_size" "_law_size" Ec .none kv16 dc16 pm16 an16 cd16 ct16) ["_law_term_here"] [] := Binds.all fun us hl => match us, hl with | [_], _ => rfl
theorem afu {K : PySem.W.Frag} {kv17 dc17 pm17 cd17 ct17 : Value} {an17 : Option Addr} : Binds K (fO "_law_deep" "_law_deep" Dl .none kv17 dc17 pm17 an17 cd17 ct17) ["_law_term_here"] [] := Binds.all fun us hl => match us, hl with | [_], _ => rfl
theorem afv {K : PySem.W.Frag} {kv18 dc18 pm18 cd18 ct18 : Value} {an18 : Option Addr} : Binds K (fO "_law_tall" "_law_tall" Gw .none kv18 dc18 pm18 an18 cd18 ct18) ["_law_thing"] [] := Binds.all fun us hl => match us, hl with | [_], _ => rfl
theorem afw {K : PySem.W.Frag} {kv19 dc19 pm19 cd19 ct19 : Value} {an19 : Option Addr} : Binds K (fO "_law_terms" "_law_terms" dm .none kv19 dc19 pm19 an19 cd19 ct19) ["_law_script"] [] := Binds.all fun us hl => match us, hl with | [_], _ => rfl
theorem afx {K : PySem.W.Frag} {kv20 dc20 pm20 cd20 ct20 : Value} {an20 : Option Addr} : Binds K (fO "_law_form" "_law_form" dh .none kv20 dc20 pm20 an20 cd20 ct20) ["_law_term_here"] [] := Binds.all fun us hl => match us, hl with | [_], _ => rfl
theorem afy {K : PySem.W.Frag} {kv21 dc21 pm21 cd21 ct21 : Value} {an21 : Option Addr} : Binds K (fO "_law_value" "_law_value" Ed .none kv21 dc21 pm21 an21 cd21 ct21) ["_law_term_here", "_law_values"] [] := Binds.all fun us hl => match us, hl with | [_, _], _ => rfl
theorem afz {K : PySem.W.Frag} {kv22 dc22 pm22 cd22 ct22 : Value} {an22 : Option Addr} : Binds K (fO "_law_inner" "_law_inner" Fc .none kv22 dc22 pm22 an22 cd22 ct22) ["_law_term_here", "_law_found"] [] := Binds.all fun us hl => match us, hl with | [_, _], _ => rfl
theorem aga {K : PySem.W.Frag} {kv23 dc23 pm23 cd23 ct23 : Value} {an23 : Option Addr} : Binds K (fO "law" "law" Ct .none kv23 dc23 pm23 an23 cd23 ct23) ["_law_script"] [] := Binds.all fun us hl => match us, hl with | [_], _ => rfl
set_option maxHeartbeats 0 in
theorem agb (w : World) {K : PySem.W.Frag} {mg : Str → Option Value} {h : Heap} (X : K.In h) (G : h.Ns mainGlobals mg)
 {t2 : Addr} {to2 : Value} {td2 : Option Addr} {tn2 : Nat} {ts2 : Array (Option Value)} {tk2_0 : Nat}
 {ga_ONE : Addr} {gd_ONE : Option Addr} {gn_ONE : Nat} {gs_ONE : Array (Option Value)} {gk_ONE_0 : Nat} {gk_ONE_1 : Nat}
 {ga_ZERO : Addr} {gd_ZERO : Option Addr} {gn_ZERO : Nat} {gs_ZERO : Array (Option Value)} {gk_ZERO_0 : Nat} {gk_ZERO_1 : Nat}
 (a0 : PySem.W.nsIn K mainGlobals "is_whole" = some (some (.ref f0)))
 (l0 : K.lookup f0 = some ⟨oc0, od0, .func (fO "is_whole" "is_whole" gw .none kv0 dc0 pm0 an0 cd0 ct0), sl0⟩)
 (c0 : PySem.W.codeIn K cd0 "is_whole" = true)
 (k0 : PySem.W.keepIn K (.ref f0) = true)
 (a1 : PySem.W.nsIn K mainGlobals "common_divisor" = some (some (.ref f1)))
 (l1 : K.lookup f1 = some ⟨oc1, od1, .func (fO "common_divisor" "common_divisor" Fx .none kv1 dc1 pm1 an1 cd1 ct1), sl1⟩)
 (c1 : PySem.W.codeIn K cd1 "common_divisor" = true)
 (k1 : PySem.W.keepIn K (.ref f1) = true)
 (a2 : PySem.W.nsIn K mainGlobals "fraction" = some (some (.ref f2)))
 (l2 : K.lookup f2 = some ⟨oc2, od2, .func (fO "fraction" "fraction" fy (.ref t2) kv2 dc2 pm2 an2 cd2 ct2), sl2⟩)
 (c2 : PySem.W.codeIn K cd2 "fraction" = true)
 (k2 : PySem.W.keepIn K (.ref f2) = true)
 (t2_l : K.lookup t2 = some ⟨to2, td2, .seq #[.int 1 tk2_0] tn2, ts2⟩)
 (a3 : PySem.W.nsIn K mainGlobals "plus" = some (some (.ref f3)))
 (l3 : K.lookup f3 = some ⟨oc3, od3, .func (fO "plus" "plus" Fy .none kv3 dc3 pm3 an3 cd3 ct3), sl3⟩)
 (c3 : PySem.W.codeIn K cd3 "plus" = true)
 (k3 : PySem.W.keepIn K (.ref f3) = true)
 (a4 : PySem.W.nsIn K mainGlobals "times" = some (some (.ref f4)))
 (l4 : K.lookup f4 = some ⟨oc4, od4, .func (fO "times" "times" Fz .none kv4 dc4 pm4 an4 cd4 ct4), sl4⟩)
 (c4 : PySem.W.codeIn K cd4 "times" = true)
 (k4 : PySem.W.keepIn K (.ref f4) = true)
 (a5 : PySem.W.nsIn K mainGlobals "form_of" = some (some (.ref f5)))
 (l5 : K.lookup f5 = some ⟨oc5, od5, .func (fO "form_of" "form_of" Ga .none kv5 dc5 pm5 an5 cd5 ct5), sl5⟩)
 (c5 : PySem.W.codeIn K cd5 "form_of" = true)
 (k5 : PySem.W.keepIn K (.ref f5) = true)
 (a6 : PySem.W.nsIn K mainGlobals "form_by" = some (some (.ref f6)))
 (l6 : K.lookup f6 = some ⟨oc6, od6, .func (fO "form_by" "form_by" fc .none kv6 dc6 pm6 an6 cd6 ct6), sl6⟩)
 (c6 : PySem.W.codeIn K cd6 "form_by" = true)
 (k6 : PySem.W.keepIn K (.ref f6) = true)
 (a7 : PySem.W.nsIn K mainGlobals "combined" = some (some (.ref f7)))
 (l7 : K.lookup f7 = some ⟨oc7, od7, .func (fO "combined" "combined" cw .none kv7 dc7 pm7 an7 cd7 ct7), sl7⟩)
 (c7 : PySem.W.codeIn K cd7 "combined" = true)
 (k7 : PySem.W.keepIn K (.ref f7) = true)
 (a8 : PySem.W.nsIn K mainGlobals "_law_cell_at" = some (some (.ref f8)))
 (l8 : K.lookup f8 = some ⟨oc8, od8, .func (fO "_law_cell_at" "_law_cell_at" gb .none kv8 dc8 pm8 an8 cd8 ct8), sl8⟩)
 (c8 : PySem.W.codeIn K cd8 "_law_cell_at" = true)
 (k8 : PySem.W.keepIn K (.ref f8) = true)
 (a9 : PySem.W.nsIn K mainGlobals "_law_stream" = some (some (.ref f9)))
 (l9 : K.lookup f9 = some ⟨oc9, od9, .func (fO "_law_stream" "_law_stream" Dk .none kv9 dc9 pm9 an9 cd9 ct9), sl9⟩)
 (c9 : PySem.W.codeIn K cd9 "_law_stream" = true)
 (k9 : PySem.W.keepIn K (.ref f9) = true)
 (a10 : PySem.W.nsIn K mainGlobals "_law_fraction" = some (some (.ref f10)))
 (l10 : K.lookup f10 = some ⟨oc10, od10, .func (fO "_law_fraction" "_law_fraction" Ea .none kv10 dc10 pm10 an10 cd10 ct10), sl10⟩)
 (c10 : PySem.W.codeIn K cd10 "_law_fraction" = true)
 (k10 : PySem.W.keepIn K (.ref f10) = true)
 (a11 : PySem.W.nsIn K mainGlobals "_law_slim" = some (some (.ref f11)))
 (l11 : K.lookup f11 = some ⟨oc11, od11, .func (fO "_law_slim" "_law_slim" Eb .none kv11 dc11 pm11 an11 cd11 ct11), sl11⟩)
 (c11 : PySem.W.codeIn K cd11 "_law_slim" = true)
 (k11 : PySem.W.keepIn K (.ref f11) = true)
 (a12 : PySem.W.nsIn K mainGlobals "_law_plus" = some (some (.ref f12)))
 (l12 : K.lookup f12 = some ⟨oc12, od12, .func (fO "_law_plus" "_law_plus" Gb .none kv12 dc12 pm12 an12 cd12 ct12), sl12⟩)
 (c12 : PySem.W.codeIn K cd12 "_law_plus" = true)
 (k12 : PySem.W.keepIn K (.ref f12) = true)
 (a13 : PySem.W.nsIn K mainGlobals "_law_times" = some (some (.ref f13)))
 (l13 : K.lookup f13 = some ⟨oc13, od13, .func (fO "_law_times" "_law_times" gc .none kv13 dc13 pm13 an13 cd13 ct13), sl13⟩)
 (c13 : PySem.W.codeIn K cd13 "_law_times" = true)
 (k13 : PySem.W.keepIn K (.ref f13) = true)
 (a14 : PySem.W.nsIn K mainGlobals "_law_number" = some (some (.ref f14)))
 (l14 : K.lookup f14 = some ⟨oc14, od14, .func (fO "_law_number" "_law_number" Ge .none kv14 dc14 pm14 an14 cd14 ct14), sl14⟩)
 (c14 : PySem.W.codeIn K cd14 "_law_number" = true)
 (k14 : PySem.W.keepIn K (.ref f14) = true)
 (a15 : PySem.W.nsIn K mainGlobals "_law_term" = some (some (.ref f15)))
 (l15 : K.lookup f15 = some ⟨oc15, od15, .func (fO "_law_term" "_law_term" Cy .none kv15 dc15 pm15 an15 cd15 ct15), sl15⟩)
 (c15 : PySem.W.codeIn K cd15 "_law_term" = true)
 (k15 : PySem.W.keepIn K (.ref f15) = true)
 (a16 : PySem.W.nsIn K mainGlobals "_law_size" = some (some (.ref f16)))
 (l16 : K.lookup f16 = some ⟨oc16, od16, .func (fO "_law_size" "_law_size" Ec .none kv16 dc16 pm16 an16 cd16 ct16), sl16⟩)
 (c16 : PySem.W.codeIn K cd16 "_law_size" = true)
 (k16 : PySem.W.keepIn K (.ref f16) = true)
 (a17 : PySem.W.nsIn K mainGlobals "_law_deep" = some (some (.ref f17)))
 (l17 : K.lookup f17 = some ⟨oc17, od17, .func (fO "_law_deep" "_law_deep" Dl .none kv17 dc17 pm17 an17 cd17 ct17), sl17⟩)
 (c17 : PySem.W.codeIn K cd17 "_law_deep" = true)
 (k17 : PySem.W.keepIn K (.ref f17) = true)
 (a18 : PySem.W.nsIn K mainGlobals "_law_tall" = some (some (.ref f18)))
 (l18 : K.lookup f18 = some ⟨oc18, od18, .func (fO "_law_tall" "_law_tall" Gw .none kv18 dc18 pm18 an18 cd18 ct18), sl18⟩)
 (c18 : PySem.W.codeIn K cd18 "_law_tall" = true)
 (k18 : PySem.W.keepIn K (.ref f18) = true)
 (a19 : PySem.W.nsIn K mainGlobals "_law_terms" = some (some (.ref f19)))
 (l19 : K.lookup f19 = some ⟨oc19, od19, .func (fO "_law_terms" "_law_terms" dm .none kv19 dc19 pm19 an19 cd19 ct19), sl19⟩)
 (c19 : PySem.W.codeIn K cd19 "_law_terms" = true)
 (k19 : PySem.W.keepIn K (.ref f19) = true)
 (a20 : PySem.W.nsIn K mainGlobals "_law_form" = some (some (.ref f20)))
 (l20 : K.lookup f20 = some ⟨oc20, od20, .func (fO "_law_form" "_law_form" dh .none kv20 dc20 pm20 an20 cd20 ct20), sl20⟩)
 (c20 : PySem.W.codeIn K cd20 "_law_form" = true)
 (k20 : PySem.W.keepIn K (.ref f20) = true)
 (a21 : PySem.W.nsIn K mainGlobals "_law_value" = some (some (.ref f21)))
 (l21 : K.lookup f21 = some ⟨oc21, od21, .func (fO "_law_value" "_law_value" Ed .none kv21 dc21 pm21 an21 cd21 ct21), sl21⟩)
 (c21 : PySem.W.codeIn K cd21 "_law_value" = true)
 (k21 : PySem.W.keepIn K (.ref f21) = true)
 (a22 : PySem.W.nsIn K mainGlobals "_law_inner" = some (some (.ref f22)))
 (l22 : K.lookup f22 = some ⟨oc22, od22, .func (fO "_law_inner" "_law_inner" Fc .none kv22 dc22 pm22 an22 cd22 ct22), sl22⟩)
 (c22 : PySem.W.codeIn K cd22 "_law_inner" = true)
 (k22 : PySem.W.keepIn K (.ref f22) = true)
 (a23 : PySem.W.nsIn K mainGlobals "law" = some (some (.ref f23)))
 (l23 : K.lookup f23 = some ⟨oc23, od23, .func (fO "law" "law" Ct .none kv23 dc23 pm23 an23 cd23 ct23), sl23⟩)
 (c23 : PySem.W.codeIn K cd23 "law" = true)
 (k23 : PySem.W.keepIn K (.ref f23) = true)
 (q0 : PySem.W.nsIn K mainGlobals "ONE" = some (some (.ref ga_ONE)))
 (q2 : K.lookup ga_ONE = some ⟨.type "tuple", gd_ONE, .seq #[.int 1 gk_ONE_0, .int 1 gk_ONE_1] gn_ONE, gs_ONE⟩)
 (q1 : PySem.W.nsIn K mainGlobals "ZERO" = some (some (.ref ga_ZERO)))
 (q3 : K.lookup ga_ZERO = some ⟨.type "tuple", gd_ZERO, .seq #[.int 0 gk_ZERO_0, .int 1 gk_ZERO_1] gn_ZERO, gs_ZERO⟩)
 (q4 : PySem.W.nsIn K mainGlobals "abs" = some none)
 (q5 : PySem.W.nsIn K mainGlobals "bool" = some none)
 (q6 : PySem.W.nsIn K mainGlobals "dict" = some none)
 (q7 : PySem.W.nsIn K mainGlobals "int" = some none)
 (q8 : PySem.W.nsIn K mainGlobals "isinstance" = some none)
 (q9 : PySem.W.nsIn K mainGlobals "len" = some none)
 (q10 : PySem.W.nsIn K mainGlobals "list" = some none)
 (q11 : PySem.W.nsIn K mainGlobals "max" = some none)
 (q12 : PySem.W.nsIn K mainGlobals "range" = some none)
 (q13 : PySem.W.nsIn K mainGlobals "tuple" = some none)
 (q14 : PySem.W.nsIn K mainGlobals "zip" = some none)
 : ∃ (ad : Nat → Addr) (fd : Nat → FuncData) (cf : Nat → Addr), (∀ L : Lam, Txt K mg fd ⟨w, cf, ad, L⟩) ∧ ∀ (s : Shared) (u : Value), BindsTo s (fd 23) ⟨[u], []⟩ [("_law_script", u)] := by
 refine ⟨(Tt [f0, f1, f2, f3, f4, f5, f6, f7, f8, f9, f10, f11, f12, f13, f14, f15, f16, f17, f18, f19, f20, f21, f22, f23]), (fun i => ([fO "is_whole" "is_whole" gw .none kv0 dc0 pm0 an0 cd0 ct0, fO "common_divisor" "common_divisor" Fx .none kv1 dc1 pm1 an1 cd1 ct1, fO "fraction" "fraction" fy (.ref t2) kv2 dc2 pm2 an2 cd2 ct2, fO "plus" "plus" Fy .none kv3 dc3 pm3 an3 cd3 ct3, fO "times" "times" Fz .none kv4 dc4 pm4 an4 cd4 ct4, fO "form_of" "form_of" Ga .none kv5 dc5 pm5 an5 cd5 ct5, fO "form_by" "form_by" fc .none kv6 dc6 pm6 an6 cd6 ct6, fO "combined" "combined" cw .none kv7 dc7 pm7 an7 cd7 ct7, fO "_law_cell_at" "_law_cell_at" gb .none kv8 dc8 pm8 an8 cd8 ct8, fO "_law_stream" "_law_stream" Dk .none kv9 dc9 pm9 an9 cd9 ct9, fO "_law_fraction" "_law_fraction" Ea .none kv10 dc10 pm10 an10 cd10 ct10, fO "_law_slim" "_law_slim" Eb .none kv11 dc11 pm11 an11 cd11 ct11, fO "_law_plus" "_law_plus" Gb .none kv12 dc12 pm12 an12 cd12 ct12, fO "_law_times" "_law_times" gc .none kv13 dc13 pm13 an13 cd13 ct13, fO "_law_number" "_law_number" Ge .none kv14 dc14 pm14 an14 cd14 ct14, fO "_law_term" "_law_term" Cy .none kv15 dc15 pm15 an15 cd15 ct15, fO "_law_size" "_law_size" Ec .none kv16 dc16 pm16 an16 cd16 ct16, fO "_law_deep" "_law_deep" Dl .none kv17 dc17 pm17 an17 cd17 ct17, fO "_law_tall" "_law_tall" Gw .none kv18 dc18 pm18 an18 cd18 ct18, fO "_law_terms" "_law_terms" dm .none kv19 dc19 pm19 an19 cd19 ct19, fO "_law_form" "_law_form" dh .none kv20 dc20 pm20 an20 cd20 ct20, fO "_law_value" "_law_value" Ed .none kv21 dc21 pm21 an21 cd21 ct21, fO "_law_inner" "_law_inner" Fc .none kv22 dc22 pm22 an22 cd22 ct22, fO "law" "law" Ct .none kv23 dc23 pm23 an23 cd23 ct23] : List FuncData).getD i default), (Tt [0, 0]), fun L => ⟨
  (bu (st := gw) l0 c0 k0),
  (PySem.W.mg_of X G a0),
  (afe),
  (bu (st := Fx) l1 c1 k1),
  (PySem.W.mg_of X G a1),
  (aff),
  (bu (st := fy) l2 c2 k2),
  (PySem.W.mg_of X G a2),
  (by
  intro s us KX hl
  have hl2 : us.length = 2 := by simpa using hl
  match us, hl2 with
  | [_, _], _ => exact .of_defaults (T := t2) rfl (KX _ _ t2_l) rfl rfl rfl),
  (by
  refine ⟨[.int 1 tk2_0], .cons ⟨_, rfl⟩ (.nil), ?_⟩
  intro s us KX hl
  have hl2 : us.length = 1 := by simpa using hl
  match us, hl2 with
  | [_], _ => exact .of_defaults (T := t2) rfl (KX _ _ t2_l) rfl rfl rfl),
  (bu (st := Fy) l3 c3 k3),
  (PySem.W.mg_of X G a3),
  (afg),
  (bu (st := Fz) l4 c4 k4),
  (PySem.W.mg_of X G a4),
  (afh),
  (bu (st := Ga) l5 c5 k5),
  (PySem.W.mg_of X G a5),
  (afi),
  (bu (st := fc) l6 c6 k6),
  (PySem.W.mg_of X G a6),
  (afj),
  (bu (st := cw) l7 c7 k7),
  (PySem.W.mg_of X G a7),
  (afk),
  (bu (st := gb) l8 c8 k8),
  (PySem.W.mg_of X G a8),
  (afl),
  (bu (st := Dk) l9 c9 k9),
  (PySem.W.mg_of X G a9),
  (afm),
  (bu (st := Ea) l10 c10 k10),
  (PySem.W.mg_of X G a10),
  (afn),
  (bu (st := Eb) l11 c11 k11),
  (PySem.W.mg_of X G a11),
  (afo),
  (bu (st := Gb) l12 c12 k12),
  (PySem.W.mg_of X G a12),
  (afp),
  (bu (st := gc) l13 c13 k13),
  (PySem.W.mg_of X G a13),
  (afq),
  (bu (st := Ge) l14 c14 k14),
  (PySem.W.mg_of X G a14),
  (afr),
  (bu (st := Cy) l15 c15 k15),
  (PySem.W.mg_of X G a15),
  (afs),
  (bu (st := Ec) l16 c16 k16),
  (PySem.W.mg_of X G a16),
  (aft),
  (bu (st := Dl) l17 c17 k17),
  (PySem.W.mg_of X G a17),
  (afu),
  (bu (st := Gw) l18 c18 k18),
  (PySem.W.mg_of X G a18),
  (afv),
  (bu (st := dm) l19 c19 k19),
  (PySem.W.mg_of X G a19),
  (afw),
  (bu (st := dh) l20 c20 k20),
  (PySem.W.mg_of X G a20),
  (afx),
  (bu (st := Ed) l21 c21 k21),
  (PySem.W.mg_of X G a21),
  (afy),
  (bu (st := Fc) l22 c22 k22),
  (PySem.W.mg_of X G a22),
  (afz),
  (bu (st := Ct) l23 c23 k23),
  (PySem.W.mg_of X G a23),
  (aga),
  (⟨_, _, _, _, PySem.W.mg_of X G q0, q2, rfl, rfl, by simp [sizeLine], .cons ⟨_, rfl⟩ (.cons ⟨_, rfl⟩ (.nil))⟩),
  (⟨_, _, _, _, PySem.W.mg_of X G q1, q3, rfl, rfl, by simp [sizeLine], .cons ⟨_, rfl⟩ (.cons ⟨_, rfl⟩ (.nil))⟩),
  (PySem.W.mg_none_of X G q4),
  (PySem.W.mg_none_of X G q5),
  (PySem.W.mg_none_of X G q6),
  (PySem.W.mg_none_of X G q7),
  (PySem.W.mg_none_of X G q8),
  (PySem.W.mg_none_of X G q9),
  (PySem.W.mg_none_of X G q10),
  (PySem.W.mg_none_of X G q11),
  (PySem.W.mg_none_of X G q12),
  (PySem.W.mg_none_of X G q13),
  (PySem.W.mg_none_of X G q14)⟩, fun s u => .of_eq (afd _ _ _ _ _ _ [u] rfl)⟩
def Ol (FF n : Nat) : List D → Sto → Res D := cj tab fns FF n 23
def Js (P c : Addr) (pm : Value) : Lam := { P := P, c := c, qual := (Str.ofString "form_of") ++ ".<locals>." ++ "<lambda>", params := sh dt, body := Sh dt, scope := ie dt, pos := si dt, pm := pm }
theorem agc (P c : Addr) (pm : Value) : LamC (Js P c pm) "base" := ⟨⟨rfl, rfl, rfl, by decide +kernel, rfl, by show ∀ x ∈ (["base"] : List Str), (ie dt).names.lookup x = some .local ∨ (ie dt).names.lookup x = some .cell; decide +kernel, by show ∀ y ∈ (ie dt).names, y.2 ≠ .free; decide +kernel⟩, ⟨_, rfl⟩, fun _ _ _ => rfl, Or.inl (by show (ie dt).names.lookup (Str.ofString "base") = some .local; decide +kernel), by decide +kernel, by decide +kernel⟩
theorem walk {n : Nat} {l : PySem.W.OpenLaw} {q : Program} {loose : List Str} {XP : (Str → Option Value) → Heap → Prop} {YP : World → Heap → Prop} {d : DefRec} {K : Params → PySem.W.Frag} (hn : l.most = some 63) (hdf : d.params.defaults = []) (hN : d.name = "law") (hr : Room (2 * n) callerA)
 (hY : ∀ (w : World) (h : Heap), YP w h → (K w.params).In h) (hnt : ∀ p, PySem.W.noTabs (K p) = true) (hrc : ((recsOf q).find? fun e => e.name == (Str.ofString "form_of")).isSome = true)
 (hT : ∀ (w : World) (mg : Str → Option Value) (h : Heap), (K w.params).In h → h.Ns mainGlobals mg → ∃ (ad : Nat → Addr) (fd : Nat → FuncData) (cf : Nat → Addr), (∀ L : Lam, Txt (K w.params) mg fd ⟨w, cf, ad, L⟩) ∧ ∀ (s : Shared) (u : Value), BindsTo s (fd 23) ⟨[u], []⟩ [("_law_script", u)])
 (hm : ∀ ns : List Int, ns.length ≤ 63 → ∃ FF st, Ol FF n [.loc 0] [.frz (ns.map D.int), .lamT] = .ok (.bl true) st) :
 PySem.W.WalkO q loose XP YP l.row.toRowW d [] (fun f vs => PySem.call f vs) := by
 refine Att.Yi hn hdf fun w s₀ s₁ mg mb fa o pm cd doc a vs ns G Y ho hd hcd hmg hobj hints hlen hg => ?_
 have KX := hY w _ Y
 obtain ⟨ad, fd, cf, T, hb⟩ := hT w mg _ KX G.T.g
 obtain ⟨r, hr1⟩ := Option.isSome_iff_exists.mp hrc
 obtain ⟨a6, o6, fd6, c, P, m1, m2, m3, m4, m5, m6⟩ := G.T.tab r (List.mem_of_find?_eq_some hr1)
 have hrn : r.name = Str.ofString "form_of" := eq_of_beq (List.find?_some (p := fun e : DefRec => e.name == (Str.ofString "form_of")) hr1)
 have T0 := T {}
 have t1 := T0.m_5
 rw [hrn] at m1
 cases t1.symm.trans m1
 obtain ⟨oc, od, dV, kV, dc, pm6, an, cdv, ct, osl, efd, lk, hcd6⟩ := T0.f_5.ex
 have z := KX _ _ lk
 rw [m2] at z
 cases z
 have hco : (fd 5).code = .ref c := by cases m3; exact m4
 rw [hN] at hmg
 cases T0.m_23.symm.trans hmg
 refine acu (CX := CXd l.prog w) (k := 2 * n) (c := c) (P := P) (fd := fd 23) (x := "_law_script") (sp := fun vs H Q E => ∃ FF, spD (K w.params) ⟨w, cf, ad, Js P c ((mg "__name__").getD .none)⟩ 1 (Ol FF n) vs H Q E) KX G.T.g G.T.b G.T.builtins G.T.nolimit hg hobj hints (Nat.le_trans hlen (by decide)) hr m6 (acx KX (hnt _) m6) (fun base kb nb hk => ?_) hb (fun H hO hS hP => ?_) fun H e s' h => Zn H s₁ e s' h
 · have hL : LamOk ⟨w, cf, ad, Js P c ((mg "__name__").getD .none)⟩ mg base (fd 5) "base" "form_of" dt := ⟨acw (L := Js P c ((mg "__name__").getD .none)) G.T m5 m6 hobj hk rfl, agc _ _ _, hco, rfl, rfl, rfl, rfl, rfl⟩
   have F := fun FF => (Tr (Pr := l.prog) (w := w) (base := base) (FF := FF) (cls := ⟨w, cf, ad, Js P c ((mg "__name__").getD .none)⟩) rfl (T _) hL n).i_23
   exact ⟨fun vs H Q E h => let ⟨FF, h⟩ := h; (F FF).len vs H Q E h, fun A outer s H args us vs Q E h1 h2 h3 h4 h => let ⟨FF, h⟩ := h; (F FF).run A outer s H args us vs Q E h1 h2 h3 h4 h⟩
 · obtain ⟨FF, st, e⟩ := hm ns hlen
   exact ⟨FF, acv e H a hO hS hP⟩
end My
set_option exponentiation.threshold 10000
namespace My
open PySem L2 DD
theorem agd (a b : Rat) : (a + b).num * (a.den * b.den : Nat) = (a.num * b.den + b.num * a.den) * (a + b).den := by
 have h : mkRat (a + b).num (a + b).den = mkRat (a.num * b.den + b.num * a.den) (a.den * b.den) := by rw [Rat.mkRat_self, Rat.add_def']
 exact (Rat.mkRat_eq_iff (a + b).den_nz (Nat.mul_ne_zero a.den_nz b.den_nz)).mp h
theorem age (a b : Rat) : (a * b).num * (a.den * b.den : Nat) = (a.num * b.num) * (a * b).den := by
 have h : mkRat (a * b).num (a * b).den = mkRat (a.num * b.num) (a.den * b.den) := by rw [Rat.mkRat_self, Rat.mul_def']
 exact (Rat.mkRat_eq_iff (a * b).den_nz (Nat.mul_ne_zero a.den_nz b.den_nz)).mp h
theorem tu {q : Rat} {N : Nat} {z : Int} (h : q.num * N = z * q.den) : q.den ∣ N := by
 have h1 : (q.den : Int) ∣ q.num * N := ⟨z, by rw [h, Int.mul_comm]⟩
 have h2 : q.den ∣ q.num.natAbs * N := by
  have := Int.natAbs_dvd_natAbs.mpr h1
  simpa [Int.natAbs_mul] using this
 exact (q.reduced.symm).dvd_of_dvd_mul_left h2
def Bq (N M : Nat) (q : Rat) : Prop := q.den ∣ N ∧ q.num.natAbs ≤ M * q.den
theorem Bq.mono {N N' M M' : Nat} {q : Rat} (h : Bq N M q) (hN : N ∣ N') (hM : M ≤ M') : Bq N' M' q := ⟨Nat.dvd_trans h.1 hN, Nat.le_trans h.2 (Nat.mul_le_mul_right _ hM)⟩
theorem Bq.add {N M M' : Nat} {a b : Rat} (ha : Bq N M a) (hb : Bq N M' b) : Bq N (M + M') (a + b) := by
 have c := agd a b
 have pa := Nat.pos_of_ne_zero a.den_nz
 have pb := Nat.pos_of_ne_zero b.den_nz
 obtain ⟨⟨k1, e1⟩, h1⟩ := ha
 obtain ⟨⟨k2, e2⟩, h2⟩ := hb
 refine ⟨tu (z := a.num * k1 + b.num * k2) ?_, ?_⟩
 · have hp : ((a.den * b.den : Nat) : Int) ≠ 0 := by exact_mod_cast Nat.mul_ne_zero a.den_nz b.den_nz
   refine Int.eq_of_mul_eq_mul_right hp ?_
   have f1 : (N : Int) = a.den * k1 := by exact_mod_cast e1
   have f2 : (N : Int) = b.den * k2 := by exact_mod_cast e2
   calc (a + b).num * N * ((a.den * b.den : Nat) : Int) = (a + b).num * ((a.den * b.den : Nat) : Int) * N := by grind
    _ = (a.num * b.den + b.num * a.den) * (a + b).den * N := by rw [c]
    _ = (a.num * k1 + b.num * k2) * (a + b).den * ((a.den * b.den : Nat) : Int) := by push_cast; grind
 · have hp : 0 < a.den * b.den := Nat.mul_pos pa pb
   refine Nat.le_of_mul_le_mul_right ?_ hp
   have c2 : (a + b).num.natAbs * (a.den * b.den) = (a.num * b.den + b.num * a.den).natAbs * (a + b).den := by
    have := congrArg Int.natAbs c
    rwa [Int.natAbs_mul, Int.natAbs_mul, Int.natAbs_natCast, Int.natAbs_natCast] at this
   rw [c2]
   have h3 : (a.num * b.den + b.num * a.den).natAbs ≤ a.num.natAbs * b.den + b.num.natAbs * a.den := by
    refine Nat.le_trans (Int.natAbs_add_le _ _) ?_
    rw [Int.natAbs_mul, Int.natAbs_mul, Int.natAbs_natCast, Int.natAbs_natCast]
    exact Nat.le_refl _
   have h4 : a.num.natAbs * b.den + b.num.natAbs * a.den ≤ M * a.den * b.den + M' * b.den * a.den := Nat.add_le_add (Nat.mul_le_mul_right _ h1) (Nat.mul_le_mul_right _ h2)
   calc (a.num * b.den + b.num * a.den).natAbs * (a + b).den ≤ (M * a.den * b.den + M' * b.den * a.den) * (a + b).den := Nat.mul_le_mul_right _ (Nat.le_trans h3 h4)
    _ = (M + M') * (a + b).den * (a.den * b.den) := by grind
theorem Bq.mul {N N' M M' : Nat} {a b : Rat} (ha : Bq N M a) (hb : Bq N' M' b) : Bq (N * N') (M * M') (a * b) := by
 have c := age a b
 have pa := Nat.pos_of_ne_zero a.den_nz
 have pb := Nat.pos_of_ne_zero b.den_nz
 obtain ⟨⟨k1, e1⟩, h1⟩ := ha
 obtain ⟨⟨k2, e2⟩, h2⟩ := hb
 refine ⟨tu (z := a.num * b.num * (k1 * k2)) ?_, ?_⟩
 · have f : ((N * N' : Nat) : Int) = ((a.den * b.den : Nat) : Int) * (k1 * k2) := by rw [e1, e2]; push_cast; grind
   rw [f, ← Int.mul_assoc, c]
   grind
 · have hp : 0 < a.den * b.den := Nat.mul_pos pa pb
   refine Nat.le_of_mul_le_mul_right ?_ hp
   have c2 : (a * b).num.natAbs * (a.den * b.den) = a.num.natAbs * b.num.natAbs * (a * b).den := by
    have := congrArg Int.natAbs c
    rwa [Int.natAbs_mul, Int.natAbs_mul, Int.natAbs_mul, Int.natAbs_natCast, Int.natAbs_natCast] at this
   rw [c2]
   calc a.num.natAbs * b.num.natAbs * (a * b).den ≤ M * a.den * (M' * b.den) * (a * b).den := Nat.mul_le_mul_right _ (Nat.mul_le_mul h1 h2)
    _ = M * M' * (a * b).den * (a.den * b.den) := by grind
theorem Bq.zero {N M : Nat} : Bq N M 0 := ⟨⟨N, by simp⟩, by simp⟩
theorem Bq.one {N : Nat} : Bq N 1 1 := ⟨⟨N, by simp⟩, by simp⟩
def Ok (q : Rat) : Prop := q.den ≤ 2 ^ 3900 ∧ q.num.natAbs < 2 ^ 8000
theorem Bq.ok {N M : Nat} {q : Rat} (h : Bq N M q) (h0 : 0 < N) (hN : N ≤ 2 ^ 3900) (hM : M * N < 2 ^ 8000) : Ok q :=
 have hd := Nat.le_of_dvd h0 h.1
 ⟨Nat.le_trans hd hN, Nat.lt_of_le_of_lt (Nat.le_trans h.2 (Nat.mul_le_mul_left _ hd)) hM⟩
theorem agf : Ok 1 := ⟨Nat.one_le_two_pow, by show 1 < 2 ^ 8000; exact Nat.one_lt_two_pow (by decide)⟩
abbrev W (x : String) : D := .str (Str.ofString x)
def Fq (q : Rat) : D := .tup [.int q.num, .int q.den]
theorem agg {a b : Rat} (h : Fq a = Fq b) : a = b := by
 simp only [Fq, D.tup.injEq, List.cons.injEq, D.int.injEq, and_true] at h
 exact Rat.ext h.1 (by exact_mod_cast h.2)
abbrev Wt := List (D × Rat)
def look (ws : Wt) (b : D) : Option Rat := (ws.find? fun p => decide (p.1 = b)).map (·.2)
def get (ws : Wt) (b : D) : Rat := (look ws b).getD 0
def put (ws : Wt) (b : D) (x : Rat) : Wt := if (ws.any fun p => decide (p.1 = b)) = true then ws.map fun p => if p.1 = b then (p.1, x) else p else ws ++ [(b, x)]
def fd (ws : Wt) : List (D × D) := ws.map fun p => (p.1, Fq p.2)
def ks (ws : Wt) : List D := ws.map (·.1)
theorem gh (b : D) : ∀ ws : Wt, Ba (fd ws) b = (look ws b).map Fq
 | [] => rfl
 | p :: r => by
  have ih := gh b r
  unfold Ba look fd at *
  by_cases h : p.1 = b
  · simp [h]
  · simp only [List.map_cons]
    rw [List.find?_cons_of_neg (by simpa using h), List.find?_cons_of_neg (by simpa using h)]
    exact ih
theorem Tu (ws : Wt) (b : D) (x : Rat) : Bw (fd ws) b (Fq x) = fd (put ws b x) := by
 unfold Bw put fd
 have h : ((ws.map fun p => (p.1, Fq p.2)).any fun p => decide (p.1 = b)) = ws.any fun p => decide (p.1 = b) := by
  rw [List.any_map]; rfl
 rw [h]
 split
 · rw [List.map_map, List.map_map]
   apply List.map_congr_left
   intro p _
   show (if p.1 = b then (p.1, Fq x) else (p.1, Fq p.2)) = _
   by_cases e : p.1 = b
   · simp [e]
   · simp [e]
 · simp
theorem Tv (ws : Wt) (b : D) (x : Rat) : ks (put ws b x) = if b ∈ ks ws then ks ws else ks ws ++ [b] := by
 unfold put ks
 have h : (ws.any fun p => decide (p.1 = b)) = decide (b ∈ ws.map (·.1)) := by
  rw [Bool.eq_iff_iff]
  simp only [List.any_eq_true, decide_eq_true_eq, List.mem_map]
 rw [h]
 by_cases e : b ∈ ws.map (·.1)
 · rw [decide_eq_true e, if_pos rfl, if_pos e, List.map_map]
   apply List.map_congr_left
   intro p _
   show (if p.1 = b then (p.1, x) else p).1 = p.1
   split <;> rfl
 · rw [decide_eq_false e, if_neg Bool.false_ne_true, if_neg e, List.map_append]; rfl
theorem jd {ws : Wt} {b : D} {x : Rat} (h : (ks ws).Nodup) : (ks (put ws b x)).Nodup := by
 rw [Tv]
 split
 · exact h
 · rename_i e
   rw [List.nodup_append]
   exact ⟨h, by simp, fun a ha c hc z => by simp at hc; subst hc; exact e (z ▸ ha)⟩
theorem agh (ws : Wt) (b : D) (x : Rat) : (put ws b x).length ≤ ws.length + 1 := by unfold put; split <;> simp
theorem tw {ws : Wt} {b : D} {x : Rat} {p : D × Rat} (h : p ∈ put ws b x) : p = (b, x) ∨ (p ∈ ws ∧ p.1 ≠ b) ∨ (p ∈ ws ∧ b ∉ ks ws) := by
 unfold put at h
 split at h
 · obtain ⟨r, hr, e⟩ := List.mem_map.mp h
   by_cases z : r.1 = b
   · rw [if_pos z] at e; exact .inl (by rw [← e, z])
   · rw [if_neg z] at e; subst e; exact .inr (.inl ⟨hr, z⟩)
 · rename_i z
   rcases List.mem_append.mp h with h | h
   · refine .inr (.inl ⟨h, fun e => z ?_⟩)
     exact List.any_eq_true.mpr ⟨p, h, by simpa using e⟩
   · exact .inl (by simpa using h)
theorem Lo {b : D} {x : Rat} : ∀ {ws : Wt}, look ws b = some x → (b, x) ∈ ws
 | [], h => by simp [look] at h
 | p :: r, h => by
  unfold look at h
  by_cases e : p.1 = b
  · rw [List.find?_cons_of_pos (by simpa using e)] at h
    simp only [Option.map_some, Option.some.injEq] at h
    rw [← e, ← h]; exact List.mem_cons_self
  · rw [List.find?_cons_of_neg (by simpa using e)] at h
    exact List.mem_cons_of_mem _ (Lo h)
theorem agi {b : D} {ws : Wt} (h : b ∉ ks ws) : look ws b = none := by
 unfold look
 rw [List.find?_eq_none.mpr fun p hp z => h (List.mem_map.mpr ⟨p, hp, by simpa using z⟩)]; rfl
theorem Om {b : D} {ws : Wt} (h : b ∈ ks ws) : ∃ x, look ws b = some x := by
 cases e : look ws b with
 | some x => exact ⟨x, rfl⟩
 | none =>
  exfalso
  unfold look at e
  rw [Option.map_eq_none_iff, List.find?_eq_none] at e
  obtain ⟨p, hp, z⟩ := List.mem_map.mp h
  exact e p hp (by simpa using z)
theorem get_none {b : D} {ws : Wt} (h : b ∉ ks ws) : get ws b = 0 := by unfold get; rw [agi h]; rfl
theorem agj {N M : Nat} {ws : Wt} (h : ∀ p ∈ ws, Bq N M p.2) (b : D) : Bq N M (get ws b) := by
 unfold get
 cases e : look ws b with
 | none => exact Bq.zero
 | some x => exact h _ (Lo e)
theorem agk {N M : Nat} {ws : Wt} {b : D} (h : ∀ p ∈ ws, p.1 = b → Bq N M p.2) : Bq N M (get ws b) := by
 unfold get
 cases e : look ws b with
 | none => exact Bq.zero
 | some x => exact h _ (Lo e) rfl
def ad1 (x : Rat) (acc : Wt) (p : D × Rat) : Wt := put acc p.1 (get acc p.1 + x * p.2)
def mrg (x : Rat) (ws w1 : Wt) : Wt := w1.foldl (ad1 x) ws
def stp (a f : Rat × Wt) (x : Rat) : Rat × Wt := (a.1 + x * f.1, mrg x a.2 f.2)
noncomputable def fin (a : Rat × Wt) : Rat × Wt := (a.1, a.2.filter fun p => decide (p.2 ≠ 0))
structure Fm (N M L : Nat) (P : D → Prop) (f : Rat × Wt) : Prop where
 c : Bq N M f.1
 nd : (ks f.2).Nodup
 p : ∀ b ∈ ks f.2, P b
 b : ∀ p ∈ f.2, Bq N M p.2
 l : f.2.length ≤ L
structure Mg (N M M' L : Nat) (P : D → Prop) (x : Rat) (ws w1 : Wt) (j : Nat) (acc : Wt) : Prop where
 e : acc = (w1.take j).foldl (ad1 x) ws
 nd : (ks acc).Nodup
 p : ∀ b ∈ ks acc, P b
 b : ∀ p ∈ acc, Bq N (M + M') p.2
 u : ∀ p ∈ acc, p.1 ∉ ks (w1.take j) → Bq N M p.2
 l : acc.length ≤ L + j
section
variable {N M M' L L' : Nat} {P : D → Prop} {x : Rat} {ws w1 acc : Wt} {j : Nat}
theorem Mg.zero (nd : (ks ws).Nodup) (hp : ∀ b ∈ ks ws, P b) (hb : ∀ p ∈ ws, Bq N M p.2) (hl : ws.length ≤ L) : Mg N M M' L P x ws w1 0 ws := ⟨rfl, nd, hp, fun p h => (hb p h).mono (Nat.dvd_refl _) (Nat.le_add_right _ _), fun p h _ => hb p h, hl⟩
theorem Mg.old (h : Mg N M M' L P x ws w1 j acc) (n1 : (ks w1).Nodup) {q : D × Rat} (hq : w1[j]? = some q) : Bq N M (get acc q.1) := by
 refine agk fun p hp e => h.u p hp fun z => ?_
 have hj := (List.getElem?_eq_some_iff.mp hq).1
 unfold ks at z n1
 rw [List.map_take, e, List.mem_take_iff_getElem] at z
 obtain ⟨i, hi, ei⟩ := z
 have e2 : (w1.map (·.1))[j]'(by simpa using hj) = q.1 := by simp [(List.getElem?_eq_some_iff.mp hq).2]
 have := (List.getElem_inj n1).mp (ei.trans e2.symm)
 omega
theorem Mg.next (h : Mg N M M' L P x ws w1 j acc) (n1 : (ks w1).Nodup) (hp : ∀ b ∈ ks w1, P b) {q : D × Rat} (hq : w1[j]? = some q) (hb : Bq N M' (x * q.2)) : Mg N M M' L P x ws w1 (j + 1) (ad1 x acc q) := by
 have hj := (List.getElem?_eq_some_iff.mp hq).1
 have eq : w1[j] = q := (List.getElem?_eq_some_iff.mp hq).2
 have et : w1.take (j + 1) = w1.take j ++ [q] := by rw [List.take_succ, hq]; rfl
 have nb := (h.old n1 hq).add hb
 refine ⟨by rw [et, List.foldl_append, ← h.e]; rfl, jd h.nd, fun b hb => ?_, fun p hp => ?_, fun p hp hn => ?_, ?_⟩
 · unfold ad1 at hb
   rw [Tv] at hb
   split at hb
   · exact h.p b hb
   · rcases List.mem_append.mp hb with z | z
     · exact h.p b z
     · rw [List.mem_singleton.mp z]
       exact hp _ (List.mem_map.mpr ⟨q, List.mem_of_getElem? hq, rfl⟩)
 · rcases tw hp with rfl | ⟨z, _⟩ | ⟨z, _⟩
   · exact nb
   · exact h.b p z
   · exact h.b p z
 · have hn2 : p.1 ∉ ks (w1.take j) ∧ p.1 ≠ q.1 := by
    rw [et] at hn
    unfold ks at hn ⊢
    rw [List.map_append, List.mem_append, not_or] at hn
    exact ⟨hn.1, by simpa using hn.2⟩
   rcases tw hp with rfl | ⟨z, _⟩ | ⟨z, _⟩
   · exact absurd rfl hn2.2
   · exact h.u p z hn2.1
   · exact h.u p z hn2.1
 · have := agh acc q.1 (get acc q.1 + x * q.2)
   have := h.l
   unfold ad1
   omega
theorem Mg.done (h : Mg N M M' L P x ws w1 w1.length acc) : acc = mrg x ws w1 := by rw [h.e, List.take_length]; rfl
theorem Tw (n1 : (ks w1).Nodup) (hp : ∀ b ∈ ks w1, P b) (hb : ∀ p ∈ w1, Bq N M' (x * p.2)) (h0 : Mg N M M' L P x ws w1 0 ws) : ∀ j, j ≤ w1.length → ∃ acc, Mg N M M' L P x ws w1 j acc
 | 0, _ => ⟨ws, h0⟩
 | j + 1, hj => by
  obtain ⟨acc, h⟩ := Tw n1 hp hb h0 j (by omega)
  exact ⟨_, h.next n1 hp (List.getElem?_eq_getElem (by omega)) (hb _ (List.getElem_mem _))⟩
theorem Fm.stp {a f : Rat × Wt} (ha : Fm N M L P a) (hf : (ks f.2).Nodup) (hp : ∀ b ∈ ks f.2, P b) (hc : Bq N M' (x * f.1)) (hb : ∀ p ∈ f.2, Bq N M' (x * p.2)) (hl : f.2.length ≤ L') : Fm N (M + M') (L + L') P (stp a f x) := by
 obtain ⟨acc, h⟩ := Tw (M' := M') (x := x) hf hp hb (.zero ha.nd ha.p ha.b ha.l) f.2.length (Nat.le_refl _)
 have e := h.done
 subst e
 exact ⟨ha.c.add hc, h.nd, h.p, h.b, Nat.le_trans h.l (by omega)⟩
theorem Fm.fin {a : Rat × Wt} (ha : Fm N M L P a) : Fm N M L P (fin a) :=
 ⟨ha.c, (List.filter_sublist.map _).nodup ha.nd, fun b hb => ha.p b ((List.filter_sublist.map _).subset hb), fun p hp => ha.b p ((List.mem_filter.mp hp).1), Nat.le_trans (List.length_filter_le _ _) ha.l⟩
theorem Fm.mono {N' : Nat} {P' : D → Prop} {a : Rat × Wt} (ha : Fm N M L P a) (hN : N ∣ N') (hM : M ≤ M') (hL : L ≤ L') (hP : ∀ b, P b → P' b) : Fm N' M' L' P' a :=
 ⟨ha.c.mono hN hM, ha.nd, fun b hb => hP b (ha.p b hb), fun p hp => (ha.b p hp).mono hN hM, Nat.le_trans ha.l hL⟩
end
theorem Tx {a : Rat × Wt} : ∀ p ∈ (fin a).2, p.2 ≠ 0 := fun p hp => by
 have := (List.mem_filter.mp hp).2
 simpa using this
mutual
inductive Tm where
 | num (q : Rat) | base (d : D) | wgh (q : Rat) (t : Tm) | pls (ts : Ts)
inductive Ts where
 | nil | cons (t : Tm) (r : Ts)
end
mutual
def toD : Tm → D
 | .num q => .tup [W "number", Fq q]
 | .base d => d
 | .wgh q t => .tup [W "weigh", Fq q, toD t]
 | .pls ts => .tup [W "plus", .tup (Cn ts)]
def Cn : Ts → List D
 | .nil => []
 | .cons t r => toD t :: Cn r
end
mutual
def Ak : Tm → Rat × Wt
 | .num q => (q, [])
 | .base d => (0, [(d, 1)])
 | .wgh q t => fin (stp (0, []) (Ak t) q)
 | .pls ts => fin (sumF ts (0, []))
def sumF : Ts → Rat × Wt → Rat × Wt
 | .nil, a => a
 | .cons t r, a => sumF r (stp a (Ak t) 1)
end
mutual
def val (v : D → Rat) : Tm → Rat
 | .num q => q
 | .base d => v d
 | .wgh q t => q * val v t
 | .pls ts => vals v ts 0
def vals (v : D → Rat) : Ts → Rat → Rat
 | .nil, a => a
 | .cons t r, a => vals v r (a + val v t)
end
def X : Nat := 10 ^ 12
mutual
def Nn : Tm → Nat
 | .num q => q.den
 | .base _ => 1
 | .wgh q t => q.den * Nn t
 | .pls ts => Ns ts
def Ns : Ts → Nat
 | .nil => 1
 | .cons t r => Nn t * Ns r
end
mutual
def Mm : Tm → Nat
 | .num _ => X
 | .base _ => X
 | .wgh _ t => X * Mm t
 | .pls ts => 1 + Ms ts
def Ms : Ts → Nat
 | .nil => 0
 | .cons t r => Mm t + Ms r
end
mutual
def sz : Tm → Nat
 | .num _ => 2
 | .base _ => 1
 | .wgh _ t => 2 + sz t
 | .pls ts => 2 + szs ts
def szs : Ts → Nat
 | .nil => 0
 | .cons t r => sz t + szs r
end
mutual
def dp : Tm → Nat
 | .num _ => 0
 | .base _ => 0
 | .wgh _ t => 1 + dp t
 | .pls ts => 1 + dps ts
def dps : Ts → Nat
 | .nil => 0
 | .cons t r => max (dp t) (dps r)
end
mutual
def bas : Tm → List D → List D
 | .num _, l => l
 | .base d, l => if d ∈ l then l else l ++ [d]
 | .wgh _ t, l => bas t l
 | .pls ts, l => Ci ts l
def Ci : Ts → List D → List D
 | .nil, l => l
 | .cons t r, l => Ci r (bas t l)
end
def Sq (q : Rat) : Prop := q.den ≤ X ∧ q.num.natAbs ≤ X
def isB (d : D) : Prop := ba d = true ∧ ∃ w rest, d = .tup (w :: rest) ∧ w ≠ W "number" ∧ w ≠ W "weigh" ∧ w ≠ W "plus"
mutual
def Wf : Tm → Prop
 | .num q => Sq q
 | .base d => isB d
 | .wgh q t => Sq q ∧ Wf t
 | .pls ts => Wfs ts
def Wfs : Ts → Prop
 | .nil => True
 | .cons t r => Wf t ∧ Wfs r
end
theorem Sq.bq {q : Rat} (h : Sq q) : Bq q.den X q := ⟨Nat.dvd_refl _, Nat.le_trans h.2 (Nat.le_mul_of_pos_right _ (Nat.pos_of_ne_zero q.den_nz))⟩
mutual
theorem ir : ∀ t, 0 < Nn t
 | .num q => Nat.pos_of_ne_zero q.den_nz
 | .base _ => Nat.one_pos
 | .wgh q t => Nat.mul_pos (Nat.pos_of_ne_zero q.den_nz) (ir t)
 | .pls ts => lp ts
theorem lp : ∀ t, 0 < Ns t
 | .nil => Nat.one_pos
 | .cons t r => Nat.mul_pos (ir t) (lp r)
end
theorem Ej : 0 < X := by decide
mutual
theorem oo : ∀ t, Wf t → Nn t ≤ X ^ sz t
 | .num q, h => Nat.le_trans h.1 (Nat.le_self_pow (by simp [sz]) X)
 | .base _, _ => Nat.one_le_pow _ _ Ej
 | .wgh q t, h => by
  show q.den * Nn t ≤ X ^ (2 + sz t)
  rw [Nat.pow_add]
  exact Nat.mul_le_mul (Nat.le_trans h.1.1 (Nat.le_self_pow (by decide) X)) (oo t h.2)
 | .pls ts, h => Nat.le_trans (Tz ts h) (Nat.pow_le_pow_right Ej (by show szs ts ≤ 2 + szs ts; omega))
theorem Tz : ∀ t, Wfs t → Ns t ≤ X ^ szs t
 | .nil, _ => Nat.le_refl _
 | .cons t r, h => by
  show Nn t * Ns r ≤ X ^ (sz t + szs r)
  rw [Nat.pow_add]
  exact Nat.mul_le_mul (oo t h.1) (Tz r h.2)
end
theorem Hb : ∀ t, 1 ≤ sz t
 | .num q => by simp [sz]
 | .base _ => by simp [sz]
 | .wgh q t => by simp [sz]; omega
 | .pls ts => by simp [sz]; omega
theorem ua {a b : Nat} : X ^ a + X ^ b ≤ X ^ (a + b + 1) := by
 have h1 : X ^ a ≤ X ^ (a + b) := Nat.pow_le_pow_right Ej (by omega)
 have h2 : X ^ b ≤ X ^ (a + b) := Nat.pow_le_pow_right Ej (by omega)
 have h3 : X ^ (a + b + 1) = X ^ (a + b) * X := Nat.pow_succ _ _
 have h4 : 2 ≤ X := by decide
 have := Nat.mul_le_mul_left (X ^ (a + b)) h4
 omega
mutual
theorem Oo : ∀ t, Mm t ≤ X ^ (2 * sz t - 1)
 | .num q => Nat.le_self_pow (by simp [sz]) X
 | .base _ => Nat.le_self_pow (by simp [sz]) X
 | .wgh q t => by
  show X * Mm t ≤ X ^ (2 * (2 + sz t) - 1)
  have := Hb t
  have h1 := Nat.mul_le_mul_left X (Oo t)
  rw [← Nat.pow_succ'] at h1
  exact Nat.le_trans h1 (Nat.pow_le_pow_right Ej (by omega))
 | .pls ts => by
  show 1 + Ms ts ≤ X ^ (2 * (2 + szs ts) - 1)
  have h1 := Ua ts
  have h2 : X ^ 0 + X ^ (2 * szs ts) ≤ X ^ (0 + 2 * szs ts + 1) := ua
  have h3 : X ^ (0 + 2 * szs ts + 1) ≤ X ^ (2 * (2 + szs ts) - 1) := Nat.pow_le_pow_right Ej (by omega)
  rw [Nat.pow_zero] at h2
  omega
theorem Ua : ∀ t, Ms t ≤ X ^ (2 * szs t)
 | .nil => Nat.zero_le _
 | .cons t r => by
  show Mm t + Ms r ≤ X ^ (2 * (sz t + szs r))
  have h0 := Hb t
  have h2 : X ^ (2 * sz t - 1) + X ^ (2 * szs r) ≤ X ^ (2 * sz t - 1 + 2 * szs r + 1) := ua
  rw [show 2 * sz t - 1 + 2 * szs r + 1 = 2 * (sz t + szs r) by omega] at h2
  exact Nat.le_trans (Nat.add_le_add (Oo t) (Ua r)) h2
end
mutual
theorem ub : ∀ (t : Tm) (l : List D) (d : D), d ∈ l → d ∈ bas t l
 | .num _, l, d, h => h
 | .base e, l, d, h => by simp only [bas]; split <;> simp [h]
 | .wgh _ t, l, d, h => ub t l d h
 | .pls ts, l, d, h => jt ts l d h
theorem jt : ∀ (t : Ts) (l : List D) (d : D), d ∈ l → d ∈ Ci t l
 | .nil, l, d, h => h
 | .cons t r, l, d, h => jt r _ d (ub t l d h)
end
mutual
theorem Jt : ∀ (t : Ts) (l l2 : List D) (d : D), d ∈ Ci t l2 → d ∈ l2 ∨ d ∈ Ci t l
 | .nil, l, l2, d, h => .inl h
 | .cons t r, l, l2, d, h => by
  rcases Jt r (bas t l) (bas t l2) d h with z | z
  · exact (Ub t l l2 d z).elim .inl fun z => .inr (jt r _ d z)
  · exact .inr z
theorem Ub : ∀ (t : Tm) (l l2 : List D) (d : D), d ∈ bas t l2 → d ∈ l2 ∨ d ∈ bas t l
 | .num _, l, l2, d, h => .inl h
 | .base e, l, l2, d, h => by
  simp only [bas] at h
  split at h
  · exact .inl h
  · rcases List.mem_append.mp h with z | z
    · exact .inl z
    · rw [List.mem_singleton.mp z]
      refine .inr ?_
      simp only [bas]; split <;> simp [*]
 | .wgh _ t, l, l2, d, h => Ub t l l2 d h
 | .pls ts, l, l2, d, h => Jt ts l l2 d h
end
def PB (l : List D) (b : D) : Prop := isB b ∧ b ∈ l
theorem Oq {l l' : List D} (h : ∀ d ∈ l, d ∈ l') : ∀ b, PB l b → PB l' b := fun b z => ⟨z.1, h b z.2⟩
mutual
theorem Fe : ∀ t, Wf t → Fm (Nn t) (Mm t) (sz t) (PB (bas t [])) (Ak t)
 | .num q, h => ⟨h.bq, by simp [Ak, ks], fun b hb => by simp [Ak, ks] at hb, fun p hp => by simp [Ak] at hp, by simp [Ak]⟩
 | .base d, h => ⟨Bq.zero, by simp [Ak, ks], fun b hb => by
  simp only [Ak, ks, List.map_cons, List.map_nil, List.mem_singleton] at hb
  subst hb
  exact ⟨h, by simp [bas]⟩, fun p hp => by
  simp only [Ak, List.mem_singleton] at hp
  subst hp
  exact (Bq.one (N := Nn (.base d))).mono (Nat.dvd_refl _) Ej, by simp [Ak, sz]⟩
 | .wgh q t, h => by
  have ih := Fe t h.2
  have h0 : Fm (Nn (.wgh q t)) 0 0 (PB (bas t [])) (0, []) := ⟨Bq.zero, by simp [ks], fun b hb => by simp [ks] at hb, fun p hp => by simp at hp, by simp⟩
  have h1 := (h0.stp (M' := X * Mm t) (L' := sz t) ih.nd ih.p (h.1.bq.mul ih.c) (fun p hp => h.1.bq.mul (ih.b p hp)) ih.l).fin
  exact h1.mono (Nat.dvd_refl _) (by show 0 + X * Mm t ≤ X * Mm t; omega) (by show 0 + sz t ≤ 2 + sz t; omega) fun _ z => z
 | .pls ts, h => by
  have h0 : Fm (Ns ts) 0 0 (PB (Ci ts [])) (0, []) := ⟨Bq.zero, by simp [ks], fun b hb => by simp [ks] at hb, fun p hp => by simp at hp, by simp⟩
  have h1 := uc ts h (Nat.dvd_refl _) (fun d z => (Jt ts [] [] d z).elim (fun z => by cases z) id) h0
  exact h1.fin.mono (Nat.dvd_refl _) (by show 0 + Ms ts ≤ 1 + Ms ts; omega) (by show 0 + szs ts ≤ 2 + szs ts; omega) fun _ z => z
theorem uc : ∀ {N M L : Nat} {l : List D} {a : Rat × Wt} (ts : Ts), Wfs ts → Ns ts ∣ N → (∀ d ∈ Ci ts [], d ∈ l) → Fm N M L (PB l) a → Fm N (M + Ms ts) (L + szs ts) (PB l) (sumF ts a)
 | N, M, L, l, a, .nil, _, _, _, h => h
 | N, M, L, l, a, .cons t r, hw, hN, hl, h => by
  have ih := Fe t hw.1
  have d1 : Nn t ∣ N := Nat.dvd_trans (Nat.dvd_mul_right _ _) hN
  have d2 : Ns r ∣ N := Nat.dvd_trans (Nat.dvd_mul_left _ _) hN
  have s1 : ∀ d ∈ bas t [], d ∈ l := fun d z => hl d (jt r _ d z)
  have s2 : ∀ d ∈ Ci r [], d ∈ l := fun d z => hl d ((Jt r (bas t []) [] d z).elim (fun z => by cases z) id)
  have i2 := ih.mono (N' := N) d1 (Nat.le_refl _) (Nat.le_refl _) (Oq s1)
  have h1 := h.stp (M' := Mm t) (L' := sz t) (x := 1) i2.nd i2.p (by rw [Rat.one_mul]; exact i2.c) (fun p hp => by rw [Rat.one_mul]; exact i2.b p hp) i2.l
  have h2 := uc r hw.2 d2 s2 h1
  rw [Nat.add_assoc, Nat.add_assoc] at h2
  exact h2
end
theorem agl : ∀ t, ∀ p ∈ (Ak t).2, p.2 ≠ 0
 | .num q, p, h => by simp [Ak] at h
 | .base d, p, h => by simp only [Ak, List.mem_singleton] at h; subst h; show (1 : Rat) ≠ 0; decide
 | .wgh q t, p, h => Tx p h
 | .pls ts, p, h => Tx p h
def sw (v : D → Rat) : Wt → Rat
 | [] => 0
 | p :: r => p.2 * v p.1 + sw v r
theorem Uc (v : D → Rat) : ∀ a b : Wt, sw v (a ++ b) = sw v a + sw v b
 | [], b => by simp [sw, Rat.zero_add]
 | p :: r, b => by simp only [List.cons_append, sw, Uc v r b]; grind
theorem agm (v : D → Rat) (b : D) (y : Rat) : ∀ ws : Wt, (ks ws).Nodup → b ∈ ks ws → sw v (ws.map fun p => if p.1 = b then (p.1, get ws b + y) else p) = sw v ws + y * v b := by
 have key : ∀ (z : Rat) (ws : Wt), (ks ws).Nodup → b ∉ ks ws → (ws.map fun p => if p.1 = b then (p.1, z) else p) = ws := fun z ws _ h => by
  conv => rhs; rw [← List.map_id ws]
  apply List.map_congr_left
  intro p hp
  exact if_neg fun e => h (List.mem_map.mpr ⟨p, hp, e⟩)
 intro ws
 induction ws with
 | nil => intro _ h; cases h
 | cons p r ih =>
  intro nd h
  have nd' : p.1 ∉ ks r ∧ (ks r).Nodup := List.nodup_cons.mp nd
  by_cases e : p.1 = b
  · have hb : b ∉ ks r := by rw [← e]; exact nd'.1
    rw [List.map_cons, if_pos e, key _ r nd'.2 hb]
    have hg : get (p :: r) b = p.2 := by unfold get look; rw [List.find?_cons_of_pos (by simpa using e)]; rfl
    rw [hg]
    simp only [sw, e]
    grind
  · have hb : b ∈ ks r := by
     rcases List.mem_cons.mp h with z | z
     · exact absurd z.symm e
     · exact z
    rw [List.map_cons, if_neg e]
    have hg : get (p :: r) b = get r b := by unfold get look; rw [List.find?_cons_of_neg (by simpa using e)]
    rw [hg]
    simp only [sw, ih nd'.2 hb]
    grind
theorem agn (v : D → Rat) {ws : Wt} (nd : (ks ws).Nodup) (b : D) (y : Rat) : sw v (put ws b (get ws b + y)) = sw v ws + y * v b := by
 unfold put
 have h : (ws.any fun p => decide (p.1 = b)) = decide (b ∈ ks ws) := by
  rw [Bool.eq_iff_iff]
  simp only [ks, List.any_eq_true, decide_eq_true_eq, List.mem_map]
 rw [h]
 by_cases e : b ∈ ks ws
 · rw [decide_eq_true e, if_pos rfl]; exact agm v b y ws nd e
 · rw [decide_eq_false e, if_neg Bool.false_ne_true, Uc, get_none e]
   simp only [sw]
   grind
theorem Ot (v : D → Rat) (x : Rat) : ∀ (w1 ws : Wt), (ks ws).Nodup → sw v (mrg x ws w1) = sw v ws + x * sw v w1
 | [], ws, _ => by simp only [mrg, List.foldl_nil, sw]; grind
 | p :: r, ws, nd => by
  have := Ot v x r (ad1 x ws p) (jd nd)
  unfold mrg at *
  rw [List.foldl_cons, this]
  unfold ad1
  rw [agn v nd]
  simp only [sw]
  grind
theorem ud (x : Rat) : ∀ (w1 ws : Wt), (ks ws).Nodup → (ks (mrg x ws w1)).Nodup
 | [], ws, h => h
 | p :: r, ws, h => ud x r (ad1 x ws p) (jd h)
theorem Lp (v : D → Rat) : ∀ ws : Wt, sw v (ws.filter fun p => decide (p.2 ≠ 0)) = sw v ws
 | [] => rfl
 | p :: r => by
  by_cases e : p.2 = 0
  · rw [List.filter_cons_of_neg (by simpa using e), Lp v r]
    simp only [sw, e]
    grind
  · rw [List.filter_cons_of_pos (by simpa using e)]
    simp only [sw, Lp v r]
mutual
theorem ou (v : D → Rat) : ∀ t, (Ak t).1 + sw v (Ak t).2 = val v t ∧ True
 | .num q => ⟨by simp [Ak, val, sw, Rat.add_zero], trivial⟩
 | .base d => ⟨by simp only [Ak, val, sw]; grind, trivial⟩
 | .wgh q t => ⟨by
  have ih := (ou v t).1
  simp only [Ak, val, fin, stp, Lp]
  rw [Ot v q _ [] (by simp [ks]), ← ih]
  simp only [sw]
  grind, trivial⟩
 | .pls ts => ⟨by
  have := Ud v ts (0, []) (by simp [ks])
  simp only [Ak, val, fin, Lp]
  rw [this.1]
  simp only [sw, Rat.add_zero], trivial⟩
theorem Ud (v : D → Rat) : ∀ (ts : Ts) (a : Rat × Wt), (ks a.2).Nodup → (sumF ts a).1 + sw v (sumF ts a).2 = vals v ts (a.1 + sw v a.2) ∧ True
 | .nil, a, _ => ⟨rfl, trivial⟩
 | .cons t r, a, nd => ⟨by
  have ih := (ou v t).1
  have := (Ud v r (stp a (Ak t) 1) (ud _ _ _ nd)).1
  simp only [sumF, vals]
  rw [this]
  congr 1
  simp only [stp]
  rw [Ot v 1 _ _ nd, ← ih]
  grind, trivial⟩
end
abbrev C (FF n : Nat) := cj tab fns FF n
section
variable {FF n : Nat} {st : Sto} {QQ : D → Sto → Prop}
theorem Ir {i j : Int} (h1 : i.natAbs < 2 ^ 8000) (h2 : j.natAbs < 2 ^ 8000) : Ep i j := .inr (.inr ⟨h1, h2⟩)
theorem whole (i : Int) : Wr (C FF (n + 1) 0 [.int i] st) fun d s => d = .bl true ∧ s = st := by
 refine Bd [some (.int i)] (b := ko) rfl rfl (by decide) rfl ?_
 unfold ko
 refine Ac (Ay (w_and (Rm (w_var rfl ⟨.b "int", true, rfl, rfl, true, rfl, fun _ => w_not (Rm (w_var rfl ⟨.b "int", false, rfl, rfl, false, rfl, ?_⟩)), fun z => by cases z⟩))))
 exact ⟨rfl, rfl⟩
theorem ue {a b : Nat} (hb : b ≠ 0) : (a : Int).fmod b = ((a % b : Nat) : Int) := by
 rw [Int.fmod_eq_emod_of_nonneg _ (by omega)]; rfl
theorem Ue {a : Int} {b : Nat} : a.fdiv b = a / (b : Int) := Int.fdiv_eq_ediv_of_nonneg _ (by omega)
theorem Ou (i : Int) : (if i < 0 then -i else i) = (i.natAbs : Int) := by split <;> omega
theorem cdiv {a b : Int} (hF : b.natAbs < FF) : Wr (C FF (n + 1) 1 [.int a, .int b] st) fun d s => d = .int (Nat.gcd a.natAbs b.natAbs : Nat) ∧ s = st := by
 refine Bd [some (.int a), some (.int b)] (b := Ko) rfl rfl (by decide) rfl ?_
 unfold Ko
 refine Ac (ni (dk (Ab (w_var rfl (Af (Nl (dk (Ab (w_var rfl (Af (Nl ⟨⟨odt rfl, odt rfl⟩, af ?_⟩)))))))))))
 rw [Ou, Ou]
 refine Ac (km (fun m env s => ∃ x y : Nat, env = [some (.int (x : Int)), some (.int (y : Int))] ∧ Nat.gcd x y = Nat.gcd a.natAbs b.natAbs ∧ m = y ∧ s = st) b.natAbs hF ⟨_, _, rfl, rfl, rfl, rfl⟩ ?_)
 rintro m env s ⟨x, y, rfl, hg, rfl, rfl⟩
 refine Bk (w_var rfl (Aa (ji ⟨_, rfl, fun z => ?_, fun z => ?_⟩)))
 · have hy : m ≠ 0 := by simpa using z
   refine Ac (ni (w_var rfl (aj (w_var rfl (w_var rfl (cc (by omega) ⟨⟨odt rfl, odt rfl⟩, af (ai ?_)⟩))))))
   rw [ue hy]
   refine ⟨_, x % m, rfl, Nat.mod_lt _ (Nat.pos_of_ne_zero hy), m, x % m, rfl, ?_, rfl, rfl⟩
   rw [← hg, Nat.gcd_comm x m, Nat.gcd_rec m x, Nat.gcd_comm]
 · have hy : m = 0 := by simpa using z
   subst hy
   refine af (Ac (Ay (w_var rfl ⟨?_, rfl⟩)))
   rw [← hg]; simp
theorem uf {a : Int} {b : Nat} (hb : b ≠ 0) : D.tup [.int (a.fdiv (Nat.gcd a.natAbs b : Nat)), .int ((b : Int).fdiv (Nat.gcd a.natAbs b : Nat))] = Fq (mkRat a b) := by
 unfold Fq
 rw [Rat.num_mkRat, Rat.den_mkRat, if_neg hb, if_neg hb, Ue, Ue, Nat.gcd_comm b]
 rfl
theorem ago {a : Int} {b : Nat} (hb : b ≠ 0) (hB : b < 2 ^ 8000) (hF : 2 ^ 8000 ≤ FF) : Wr (C FF (n + 3) 2 [.int a, .int b] st) fun d s => d = Fq (mkRat a b) ∧ s = st := by
 have hg0 : Nat.gcd a.natAbs b ≠ 0 := fun z => hb (Nat.eq_zero_of_gcd_eq_zero_right z)
 have hg1 : Nat.gcd a.natAbs b ≤ b := Nat.gcd_le_right _ (Nat.pos_of_ne_zero hb)
 have hd : Dp (Nat.gcd a.natAbs b : Nat) := ⟨by omega, Nat.lt_of_le_of_lt hg1 hB⟩
 refine Bd [some (.int a), some (.int b), none] (b := Kp) rfl rfl (by decide) rfl ?_
 unfold Kp
 refine Ac (ak (jg (Gv (Rn (Ab (w_var rfl (Af ((whole (n := n + 1) a).imp ?_))))))))
 rintro d s ⟨rfl, rfl⟩
 refine ⟨true, rfl, Dy (Gv (Rn (Ab (w_var rfl (Af ((whole (n := n + 1) (b : Int)).imp ?_))))))⟩
 rintro d s ⟨rfl, rfl⟩
 refine ⟨true, rfl, Dy (af ?_)⟩
 refine ai (af (Ac (ak (Bk (w_var rfl (Aa (dz ⟨_, rfl, ?_⟩)))))))
 rw [decide_eq_false (by omega)]
 refine Az (ai (af (Ac (Ar (ay (Ab (w_var rfl (Ab (w_var rfl (Af ((cdiv (n := n + 1) (a := a) (b := (b : Int)) (by rw [Int.natAbs_natCast]; omega)).imp ?_)))))))))))
 rintro d s ⟨rfl, rfl⟩
 rw [Int.natAbs_natCast]
 refine ⟨odt rfl, af (Ac (ak (Bk (w_var rfl (Aa (Ji ⟨_, rfl, ?_⟩))))))⟩
 rw [decide_eq_false (by omega)]
 refine Az (ai (af (Ac (Ay (bg (Ab (aj (w_var rfl (w_var rfl (Ds hd (Ab (aj (w_var rfl (w_var rfl (Ds hd (Af ⟨odt rfl, ?_⟩))))))))))))))))
 exact ⟨uf hb, rfl⟩
theorem ug {a : Int} {b : Nat} (hb : b ≠ 0) (hB : b < 2 ^ 8000) (hF : 2 ^ 8000 ≤ FF) : Wr (C FF (n + 1) 10 [.int a, .int b] st) fun d s => d = Fq (mkRat a b) ∧ s = st := by
 have hg0 : Nat.gcd a.natAbs b ≠ 0 := fun z => hb (Nat.eq_zero_of_gcd_eq_zero_right z)
 have hg1 : Nat.gcd a.natAbs b ≤ b := Nat.gcd_le_right _ (Nat.pos_of_ne_zero hb)
 have hd : Dp (Nat.gcd a.natAbs b : Nat) := ⟨by omega, Nat.lt_of_le_of_lt hg1 hB⟩
 refine Bd [some (.int a), some (.int b), none, none] (b := Ku) rfl rfl (by decide) rfl ?_
 unfold Ku
 refine Ac (Ar (dk (Ab (w_var rfl (Af (Nl ⟨odt rfl, af (Ac (Ar (w_var rfl ⟨odt rfl, af ?_⟩)))⟩))))))
 rw [Ou]
 refine Ac (km (fun m env s => ∃ x y : Nat, env = [some (.int a), some (.int b), some (.int (x : Int)), some (.int (y : Int))] ∧ Nat.gcd x y = Nat.gcd a.natAbs b ∧ m = y ∧ s = st) b (by omega) ⟨_, _, rfl, rfl, rfl, rfl⟩ ?_)
 rintro m env s ⟨x, y, rfl, hg, rfl, rfl⟩
 refine Bk (w_var rfl (Aa (ji ⟨_, rfl, fun z => ?_, fun z => ?_⟩)))
 · have hy : m ≠ 0 := by simpa using z
   refine Ac (ni (w_var rfl (aj (w_var rfl (w_var rfl (cc (by omega) ⟨⟨odt rfl, odt rfl⟩, af (ai ?_)⟩))))))
   rw [ue hy]
   refine ⟨_, x % m, rfl, Nat.mod_lt _ (Nat.pos_of_ne_zero hy), m, x % m, rfl, ?_, rfl, rfl⟩
   rw [← hg, Nat.gcd_comm x m, Nat.gcd_rec m x, Nat.gcd_comm]
 · have hy : m = 0 := by simpa using z
   subst hy
   have hx : x = Nat.gcd a.natAbs b := by rw [← hg]; simp
   subst hx
   refine af (Ac (Ay (bg (Ab (aj (w_var rfl (w_var rfl (Ds hd (Ab (aj (w_var rfl (w_var rfl (Ds hd (Af ⟨odt rfl, ?_⟩))))))))))))))
   exact ⟨uf hb, rfl⟩
theorem lq {a b : Rat} (ha : Ok a) (hb : Ok b) : a.den * b.den ≠ 0 ∧ a.den * b.den < 2 ^ 8000 := by
 refine ⟨Nat.mul_ne_zero a.den_nz b.den_nz, Nat.lt_of_le_of_lt (Nat.mul_le_mul ha.1 hb.1) ?_⟩
 rw [← Nat.pow_add]
 exact Nat.pow_lt_pow_right (by decide) (by decide)
theorem iu {a : Rat} (h : Ok a) : ((a.den : Nat) : Int).natAbs < 2 ^ 8000 := by
 rw [Int.natAbs_natCast]
 exact Nat.lt_of_le_of_lt h.1 (Nat.pow_lt_pow_right (by decide) (by decide))
theorem Ug {a b : Rat} (ha : a.den = 1) (hb : b.den = 1) : Fq (a + b) = .tup [.int (a.num + b.num), .int 1] ∧ Fq (a * b) = .tup [.int (a.num * b.num), .int 1] := by
 have h1 : a + b = mkRat (a.num + b.num) 1 := by rw [Rat.add_def', ha, hb]; simp
 have h2 : a * b = mkRat (a.num * b.num) 1 := by rw [Rat.mul_def', ha, hb]
 unfold Fq
 rw [h1, h2, Rat.num_mkRat, Rat.den_mkRat, Rat.num_mkRat, Rat.den_mkRat]
 simp
def ePl (f : Nat) : Ss := .cons (.ret (.call f (.cons (.op .add (.op .mul (.ix (.var 0) (.cst (.int 0))) (.ix (.var 1) (.cst (.int 1)))) (.op .mul (.ix (.var 1) (.cst (.int 0))) (.ix (.var 0) (.cst (.int 1))))) (.cons (.op .mul (.ix (.var 0) (.cst (.int 1))) (.ix (.var 1) (.cst (.int 1)))) .nil)) [])) .nil
def eTi (f : Nat) : Ss := .cons (.ret (.call f (.cons (.op .mul (.ix (.var 0) (.cst (.int 0))) (.ix (.var 1) (.cst (.int 0)))) (.cons (.op .mul (.ix (.var 0) (.cst (.int 1))) (.ix (.var 1) (.cst (.int 1)))) .nil)) [])) .nil
def Lq (call : Or) (f : Nat) : Prop := ∀ (a : Int) (b : Nat) (st : Sto), b ≠ 0 → b < 2 ^ 8000 → Wr (call f [.int a, .int b] st) fun d s => d = Fq (mkRat a b) ∧ s = st
theorem epl {call : Or} {f : Nat} {a b : Rat} (h : Lq call f) (ha : Ok a) (hb : Ok b) : Wr (ao tab call FF (ePl f) [some (Fq a), some (Fq b)] st) (Kf fun d s => d = Fq (a + b) ∧ s = st) := by
 unfold ePl
 refine Ac (Ay (ay (Ab (aj (aj (ah (w_var rfl (Aa (Ai rfl (ah (w_var rfl (Aa (Ai rfl (Ib (Ir ha.2 (iu hb)) (aj (ah (w_var rfl (Aa (Ai rfl (ah (w_var rfl (Aa (Ai rfl (Ib (Ir hb.2 (iu ha)) (Cv (Ab (aj (ah (w_var rfl (Aa (Ai rfl (ah (w_var rfl (Aa (Ai rfl (Ib (Ir (iu ha) (iu hb)) (Af ?_)))))))))))))))))))))))))))))))))))))
 show Wr (call f [.int (a.num * b.den + b.num * a.den), .int ((a.den : Int) * b.den)] st) _
 rw [show (a.den : Int) * b.den = ((a.den * b.den : Nat) : Int) by push_cast; rfl]
 refine (h _ _ st (lq ha hb).1 (lq ha hb).2).imp ?_
 rintro d s ⟨rfl, rfl⟩
 exact ⟨by rw [Rat.add_def'], rfl⟩
theorem eti {call : Or} {f : Nat} {a b : Rat} (h : Lq call f) (ha : Ok a) (hb : Ok b) : Wr (ao tab call FF (eTi f) [some (Fq a), some (Fq b)] st) (Kf fun d s => d = Fq (a * b) ∧ s = st) := by
 unfold eTi
 refine Ac (Ay (ay (Ab (aj (ah (w_var rfl (Aa (Ai rfl (ah (w_var rfl (Aa (Ai rfl (Ib (Ir ha.2 hb.2) (Ab (aj (ah (w_var rfl (Aa (Ai rfl (ah (w_var rfl (Aa (Ai rfl (Ib (Ir (iu ha) (iu hb)) (Af ?_)))))))))))))))))))))))))
 show Wr (call f [.int (a.num * b.num), .int ((a.den : Int) * b.den)] st) _
 rw [show (a.den : Int) * b.den = ((a.den * b.den : Nat) : Int) by push_cast; rfl]
 refine (h _ _ st (lq ha hb).1 (lq ha hb).2).imp ?_
 rintro d s ⟨rfl, rfl⟩
 exact ⟨by rw [Rat.mul_def'], rfl⟩
theorem fr2 (hF : 2 ^ 8000 ≤ FF) : Lq (C FF (n + 3)) 2 := fun _ _ _ h1 h2 => ago h1 h2 hF
theorem uh (hF : 2 ^ 8000 ≤ FF) : Lq (C FF (n + 1)) 10 := fun _ _ _ h1 h2 => ug h1 h2 hF
theorem Uh {a b : Rat} (hF : 2 ^ 8000 ≤ FF) (ha : Ok a) (hb : Ok b) : Wr (C FF (n + 4) 3 [Fq a, Fq b] st) fun d s => d = Fq (a + b) ∧ s = st := by
 refine Bd [some (Fq a), some (Fq b)] (b := kq) rfl rfl (by decide) rfl ?_
 unfold kq
 refine Ac (ak (Gu (Bk (ah (w_var rfl (Aa (Ai rfl (Aa (dz ⟨_, rfl, fun z => ?_, fun z => ?_⟩)))))))))
 · have e1 : a.den = 1 := by have := odt z; omega
   refine Bk (ah (w_var rfl (Aa (Ai rfl (Aa (dz ⟨_, rfl, fun z => ?_, fun z => ?_⟩))))))
   · have e2 : b.den = 1 := by have := odt z; omega
     refine Ac (Ay (bg (Ab (aj (ah (w_var rfl (Aa (Ai rfl (ah (w_var rfl (Aa (Ai rfl (Cv (Ab (Aa (Af ⟨odt rfl, ?_⟩))))))))))))))))
     exact ⟨(Ug e1 e2).1.symm, rfl⟩
   · exact ai (af (epl (fr2 hF) ha hb))
 · exact Az (ai (af (epl (fr2 hF) ha hb)))
theorem ui {a b : Rat} (hF : 2 ^ 8000 ≤ FF) (ha : Ok a) (hb : Ok b) : Wr (C FF (n + 4) 4 [Fq a, Fq b] st) fun d s => d = Fq (a * b) ∧ s = st := by
 refine Bd [some (Fq a), some (Fq b)] (b := Kq) rfl rfl (by decide) rfl ?_
 unfold Kq
 refine Ac (ak (Gu (Bk (ah (w_var rfl (Aa (Ai rfl (Aa (dz ⟨_, rfl, fun z => ?_, fun z => ?_⟩)))))))))
 · have e1 : a.den = 1 := by have := odt z; omega
   refine Bk (ah (w_var rfl (Aa (Ai rfl (Aa (dz ⟨_, rfl, fun z => ?_, fun z => ?_⟩))))))
   · have e2 : b.den = 1 := by have := odt z; omega
     refine Ac (Ay (bg (Ab (aj (ah (w_var rfl (Aa (Ai rfl (ah (w_var rfl (Aa (Ai rfl (Ib (Ir ha.2 hb.2) (Ab (Aa (Af ⟨odt rfl, ?_⟩))))))))))))))))
     exact ⟨(Ug e1 e2).2.symm, rfl⟩
   · exact ai (af (eti (fr2 hF) ha hb))
 · exact Az (ai (af (eti (fr2 hF) ha hb)))
theorem lr {a b : Rat} (hF : 2 ^ 8000 ≤ FF) (ha : Ok a) (hb : Ok b) : Wr (C FF (n + 2) 12 [Fq a, Fq b] st) fun d s => d = Fq (a + b) ∧ s = st :=
 Bd [some (Fq a), some (Fq b)] (b := ePl 10) rfl rfl (by decide) rfl (epl (uh hF) ha hb)
theorem Lr {a b : Rat} (hF : 2 ^ 8000 ≤ FF) (ha : Ok a) (hb : Ok b) : Wr (C FF (n + 2) 13 [Fq a, Fq b] st) fun d s => d = Fq (a * b) ∧ s = st :=
 Bd [some (Fq a), some (Fq b)] (b := eTi 10) rfl rfl (by decide) rfl (eti (uh hF) ha hb)
end
structure It where
 f : Rat × Wt
 x : Rat
 m : Nat
 M : Nat
 L : Nat
def Bi (g : It → Nat) : List It → Nat
 | [] => 0
 | i :: r => g i + Bi g r
theorem Ov (g : It → Nat) : ∀ a b : List It, Bi g (a ++ b) = Bi g a + Bi g b
 | [], b => by simp [Bi]
 | i :: r, b => by simp only [List.cons_append, Bi, Ov g r b]; omega
theorem Ls (g : It → Nat) (l : List It) (j : Nat) : Bi g (l.take j) ≤ Bi g l := by
 conv => rhs; rw [← List.take_append_drop j l]
 rw [Ov]; omega
def itf (a : Rat × Wt) (i : It) : Rat × Wt := stp a i.f i.x
structure ItOk (N : Nat) (P : D → Prop) (st : Sto) (i : It) : Prop where
 at_ : st[i.m]? = some (.dcn (fd i.f.2))
 x : Ok i.x
 c : Ok i.f.1
 w : ∀ p ∈ i.f.2, Ok p.2
 nd : (ks i.f.2).Nodup
 p : ∀ b ∈ ks i.f.2, P b
 bc : Bq N i.M (i.x * i.f.1)
 bw : ∀ p ∈ i.f.2, Bq N i.M (i.x * p.2)
 l : i.f.2.length ≤ i.L
theorem fq0 : Fq 0 = .tup [.int 0, .int 1] := rfl
theorem Ui (ws : Wt) (j : Nat) : (cg true (fd ws))[j]? = (ws[j]?).map fun p => .tup [p.1, Fq p.2] := by
 simp [cg, fd, List.getElem?_map, Function.comp_def]
theorem uj (ws : Wt) : (cg true (fd ws)).length = ws.length := by simp [cg, fd]
theorem Iu (ws : Wt) : (fd ws).length = ws.length := by simp [fd]
theorem Uj (ws : Wt) (b : D) : (Ba (fd ws) b).getD (.tup [.int 0, .int 1]) = Fq (get ws b) := by
 rw [gh]; unfold get
 cases look ws b <;> rfl
theorem okF {q : Rat} {k : Nat} : okN (k + 1) (Fq q) = true := by simp [Fq, okN]
section
variable {FF n : Nat} {st : Sto}
theorem bj {s : Sto} {i j : Nat} {c : Cell} (h : i ≠ j) : (s.set i c)[j]? = s[j]? := List.getElem?_set_ne h
theorem Br {s : Sto} {i : Nat} {c c' : Cell} (h : s[i]? = some c') : (s.set i c)[i]? = some c := Kh h c
theorem agp {N M M' L k m : Nat} {P : D → Prop} {x : Rat} {ws w1 : Wt} {s : Sto} {e0 e1 e2 e4 e7 e8 : Option D} (hF : 2 ^ 8000 ≤ FF) (h0 : 0 < N) (hN : N ≤ 2 ^ 3900) (hM : (M + M') * N < 2 ^ 8000) (hx : Ok x) (hw : ∀ p ∈ w1, Ok p.2) (hb : ∀ p ∈ w1, Bq N M' (x * p.2))
 (n1 : (ks w1).Nodup) (hp : ∀ b ∈ ks w1, P b) (hP : ∀ b, P b → ba b = true) (hl : L + w1.length < sizeLine) (hm : s[m]? = some (.dcn (fd w1))) (hk : s[k]? = some (.dcn (fd ws))) (hkm : k ≠ m) (mg : Mg N M M' L P x ws w1 0 ws) :
 Wr (An tab (C FF (n + 5)) FF (.forD true [7, 8] false (.var 5) (.cons (.dput (.var 3) (.var 7) (.call 3 (.cons (.mt .getN (.var 3) (.cons (.var 7) (.cons (.cst (.tup [.int 0, .int 1])) .nil))) (.cons (.call 4 (.cons (.var 6) (.cons (.var 8) .nil)) []) .nil)) [])) .nil)) [e0, e1, e2, some (.loc k), e4, some (.loc m), some (Fq x), e7, e8] s)
  fun f s' => ∃ e7 e8, f = .next [e0, e1, e2, some (.loc k), e4, some (.loc m), some (Fq x), e7, e8] ∧ s'.length = s.length ∧ s'[k]? = some (.dcn (fd (mrg x ws w1))) ∧ ∀ j, j ≠ k → s'[j]? = s[j]? := by
 refine Jk (w_var rfl ⟨m, _, rfl, hm, ?_⟩)
 refine w_walk (fun j env s' => ∃ e7 e8 acc, env = [e0, e1, e2, some (.loc k), e4, some (.loc m), some (Fq x), e7, e8] ∧ Mg N M M' L P x ws w1 j acc ∧ s'.length = s.length ∧ s'[k]? = some (.dcn (fd acc)) ∧ s'[m]? = some (.dcg (fd w1)) ∧ ∀ j, j ≠ k → j ≠ m → s'[j]? = s[j]?) (fun _ _ _ _ => rfl) _ 0 _ _ ⟨e7, e8, ws, rfl, mg, by simp, by rw [bj hkm.symm]; exact hk, Br hm, fun j _ hj => bj hj.symm⟩ ?_ ?_
 · rintro j d hd env s' ⟨e7, e8, acc, rfl, g, ln, hk', hm', fr⟩
   rw [Nat.zero_add] at g ⊢
   rw [Ui] at hd
   cases hq : w1[j]? with
   | none => rw [hq] at hd; cases hd
   | some q =>
    rw [hq] at hd; cases hd
    have hmem := List.mem_of_getElem? hq
    have hkey : ba q.1 = true := hP _ (hp _ (List.mem_map.mpr ⟨q, hmem, rfl⟩))
    have o1 : Ok (get acc q.1) := ((g.old n1 hq).mono (Nat.dvd_refl _) (Nat.le_add_right _ M')).ok h0 hN hM
    have o2 : Ok (x * q.2) := ((hb q hmem).mono (Nat.dvd_refl _) (Nat.le_add_left _ M)).ok h0 hN hM
    refine Dg (env' := [e0, e1, e2, some (.loc k), e4, some (.loc m), some (Fq x), some q.1, some (Fq q.2)]) rfl ?_
    refine Ac (jk (ay (Ab (dg (w_var rfl ⟨Ie hk', Ab (w_var rfl (Ab (Aa (Af (Sl hk' hkey ?_)))))⟩)))))
    rw [Uj]
    refine Ab (ay (Ab (w_var rfl (Ab (w_var rfl (Af ((ui (n := n + 1) hF hx (hw q hmem)).imp ?_)))))))
    rintro d s2 ⟨rfl, rfl⟩
    refine Af ((Uh (n := n + 1) hF o1 o2).imp ?_)
    rintro d s2 ⟨rfl, rfl⟩
    have gl := g.l
    have hj := (List.getElem?_eq_some_iff.mp hq).1
    refine w_var rfl (w_var rfl ⟨k, _, rfl, hk', hkey, by rw [Iu]; omega, af (ai ⟨_, rfl, _, _, ad1 x acc q, rfl, g.next n1 hp hq (hb q hmem), by simpa using ln, ?_, ?_, fun i h1 h2 => ?_⟩)⟩)
    · rw [Tu]; exact Br hk'
    · rw [bj hkm]; exact hm'
    · rw [bj h1.symm]; exact fr i h1 h2
 · rintro env s' ⟨e7, e8, acc, rfl, g, ln, hk', hm', fr⟩
   rw [Nat.zero_add, uj] at g
   have e := g.done
   subst e
   refine ⟨_, rfl, hm', e7, e8, rfl, by simpa using ln, by rw [bj hkm.symm]; exact hk', fun j hj => ?_⟩
   by_cases z : j = m
   · subst z; rw [Br hm', hm]
   · rw [bj (Ne.symm z)]; exact fr j hj z
end
section
variable {FF n : Nat} {st : Sto}
def Iv (d : D) : Option (D × D) := match d with
 | .tup [k, y] => if y = .tup [.int 0, .int 1] then none else some (k, y)
 | _ => none
theorem Uk {kvs : List (D × D)} {k y : D} (h : k ∉ kvs.map (·.1)) : Bw kvs k y = kvs ++ [(k, y)] := by
 unfold Bw
 rw [if_neg]
 intro z
 obtain ⟨p, hp, e⟩ := List.any_eq_true.mp z
 exact h (List.mem_map.mpr ⟨p, hp, by simpa using e⟩)
theorem Ul : ∀ (more kvs : List (D × D)), ((kvs ++ more).map (·.1)).Nodup → Gn kvs more = kvs ++ more
 | [], kvs, _ => by simp [Gn]
 | p :: r, kvs, h => by
  have hn : p.1 ∉ kvs.map (·.1) := by
   rw [List.map_append, List.nodup_append] at h
   intro z
   exact h.2.2 _ z _ (by simp) rfl
  have := Ul r (kvs ++ [p]) (by simpa using h)
  unfold Gn at this ⊢
  rw [List.foldl_cons, Uk hn, this]
  simp
theorem um (ws : Wt) : (fd ws).map (·.1) = ks ws := by simp [fd, ks, Function.comp_def]
theorem Um : ∀ ws : Wt, ((fd ws).map fun p => D.tup [p.1, p.2]).filterMap Iv = fd (ws.filter fun p => decide (p.2 ≠ 0))
 | [] => rfl
 | p :: r => by
  have ih := Um r
  simp only [fd, List.map_cons, List.filterMap_cons] at ih ⊢
  have e : Iv (.tup [p.1, Fq p.2]) = if p.2 = 0 then none else some (p.1, Fq p.2) := by
   show (if Fq p.2 = .tup [.int 0, .int 1] then none else some (p.1, Fq p.2)) = _
   by_cases h : p.2 = 0
   · rw [if_pos h, if_pos (by rw [h]; rfl)]
   · rw [if_neg h, if_neg (fun z => h (agg (z.trans fq0.symm)))]
  rw [e]
  by_cases h : p.2 = 0
  · rw [if_pos h, List.filter_cons_of_neg (by simpa using h)]; exact ih
  · rw [if_neg h, List.filter_cons_of_pos (by simpa using h), List.map_cons]; simp only; rw [ih]
theorem iw (its : List It) (j : Nat) {i : It} (h : its[j]? = some i) : (its.take (j + 1)).foldl itf (0, []) = stp ((its.take j).foldl itf (0, [])) i.f i.x := by
 rw [List.take_succ, h, List.foldl_append]; rfl
theorem Gh (g : It → Nat) (its : List It) (j : Nat) {i : It} (h : its[j]? = some i) : Bi g (its.take (j + 1)) = Bi g (its.take j) + g i := by
 rw [List.take_succ, h, Ov]; simp [Bi]
theorem uo {N fl wl : Nat} {P : D → Prop} {its : List It} (hF : 2 ^ 8000 ≤ FF) (h0 : 0 < N) (hN : N ≤ 2 ^ 3900) (hM : Bi (·.M) its * N < 2 ^ 8000) (hP : ∀ b, P b → ba b = true) (hL : Bi (·.L) its < sizeLine)
 (h1 : st[fl]? = some (.lst (its.map fun i => .tup [Fq i.f.1, .loc i.m]))) (h2 : st[wl]? = some (.lst (its.map fun i => Fq i.x))) (hi : ∀ i ∈ its, ItOk N P st i) :
 Wr (C FF (n + 6) 7 [.loc fl, .loc wl] st) fun d s => ∃ m, d = .tup [Fq (fin (its.foldl itf (0, []))).1, .loc m] ∧ st.length ≤ m ∧ s[m]? = some (.dcn (fd (fin (its.foldl itf (0, []))).2)) ∧ Fr st s := by
 refine Bd [some (.loc fl), some (.loc wl), none, none, none, none, none, none, none] (b := Kr) rfl rfl (by decide) rfl ?_
 unfold Kr
 have E0 : Fr st (st ++ [.dcn []]) := .app _
 refine Ac (Ar (Aa ⟨odt rfl, af (Ac (Ar (Fb ⟨odt rfl, af (Ac (adm (Ab (w_var rfl (Ab (w_var rfl (Af ⟨fl, wl, _, _, rfl, Bp (E0.at h1), Bp (E0.at h2), by simp, ?_⟩)))))))⟩)))⟩))
 refine w_walk (fun j env s => ∃ e4 e5 e6 e7 e8, env = [some (.loc fl), some (.loc wl), some (Fq ((its.take j).foldl itf (0, [])).1), some (.loc st.length), e4, e5, e6, e7, e8] ∧ Fm N (Bi (·.M) (its.take j)) (Bi (·.L) (its.take j)) P ((its.take j).foldl itf (0, [])) ∧ st.length < s.length ∧ s[st.length]? = some (.dcn (fd ((its.take j).foldl itf (0, [])).2)) ∧ Fr st s) (fun j env s h => ?_) _ 0 _ _ ⟨none, none, none, none, none, rfl, ⟨Bq.zero, by simp [ks], fun b hb => by simp [ks] at hb, fun p hp => by simp at hp, by simp⟩, by simp, by simp [fd], E0⟩ ?_ ?_
 · obtain ⟨_, _, _, _, _, _, _, _, _, fr⟩ := h
   rw [kj (Bp h1) fr, kj (Bp h2) fr]; rfl
 · rintro j d hd env s ⟨e4, e5, e6, e7, e8, rfl, fm, hl, hs, fr⟩
   rw [Nat.zero_add] at fm hs ⊢
   unfold Eu at hd
   rw [List.getElem?_zipWith, List.getElem?_map, List.getElem?_map] at hd
   cases hq : its[j]? with
   | none => rw [hq] at hd; cases hd
   | some i =>
    rw [hq] at hd; cases hd
    have I := hi i (List.mem_of_getElem? hq)
    have hM1 : (Bi (·.M) (its.take j) + i.M) * N < 2 ^ 8000 := by
     rw [← Gh _ its j hq]
     exact Nat.lt_of_le_of_lt (Nat.mul_le_mul_right _ (Ls _ _ _)) hM
    have hL1 : Bi (·.L) (its.take j) + i.L < sizeLine := by
     rw [← Gh _ its j hq]
     exact Nat.lt_of_le_of_lt (Ls _ _ _) hL
    have o1 : Ok ((its.take j).foldl itf (0, [])).1 := (fm.c.mono (Nat.dvd_refl _) (Nat.le_add_right _ i.M)).ok h0 hN hM1
    have o2 : Ok (i.x * i.f.1) := (I.bc.mono (Nat.dvd_refl _) (Nat.le_add_left _ _)).ok h0 hN hM1
    refine aaz (env' := [some (.loc fl), some (.loc wl), some (Fq ((its.take j).foldl itf (0, [])).1), some (.loc st.length), some (Fq i.f.1), some (.loc i.m), some (Fq i.x), e7, e8]) rfl ?_
    refine Ac (Ar (ay (Ab (w_var rfl (Ab (ay (Ab (w_var rfl (Ab (w_var rfl (Af ((ui (n := n + 1) hF I.x I.c).imp ?_))))))))))))
    rintro d s2 ⟨rfl, rfl⟩
    refine Af ((Uh (n := n + 1) hF o1 o2).imp ?_)
    rintro d s2 ⟨rfl, rfl⟩
    refine ⟨odt rfl, af (Ac ?_)⟩
    have hm := fr.at I.at_
    have hkm : st.length ≠ i.m := fun z => by
     have := (List.getElem?_eq_some_iff.mp I.at_).1
     omega
    have hil := I.l
    refine (agp (n := n) (m := i.m) hF h0 hN hM1 I.x I.w I.bw I.nd I.p hP (by omega) hm hs hkm (.zero fm.nd fm.p fm.b fm.l)).imp ?_
    rintro f s3 ⟨e7, e8, rfl, ln, hs3, fr3⟩
    refine af (ai ⟨_, rfl, some (Fq i.f.1), some (.loc i.m), some (Fq i.x), e7, e8, ?_, ?_, by omega, ?_, fun k hk => ?_⟩)
    · rw [iw its j hq]; rfl
    · rw [iw its j hq, Gh _ its j hq, Gh _ its j hq]
      exact fm.stp I.nd I.p I.bc I.bw I.l
    · rw [iw its j hq]; exact hs3
    · rw [fr3 k (by omega)]; exact fr k hk
 · rintro env s ⟨e4, e5, e6, e7, e8, rfl, fm, hl, hs, fr⟩
   rw [Nat.zero_add, show (Eu (its.map fun i => .tup [Fq i.f.1, .loc i.m]) (its.map fun i => Fq i.x)).length = its.length by simp [Eu], List.take_length] at fm hs ⊢
   have fml := fm.l
   refine af (Ac (Ay (bg (Ab (w_var rfl (Ab (adn (dg (w_var rfl ⟨Ie hs, Af (adj hs ⟨(fd (its.foldl itf (0, [])).2).map fun p => .tup [p.1, p.2], none, Iv, by simp only [Cq, Br hs], ?_, ?_, fun _ _ => rfl, ?_, ?_⟩)⟩)))))))))
   · rw [List.length_map, Iu]; omega
   · intro d hd k y hf
     obtain ⟨p, hp, rfl⟩ := List.mem_map.mp hd
     have e : (k, y) = (p.1, p.2) := by
      unfold Iv at hf
      simp only at hf
      split at hf
      · cases hf
      · exact (Option.some.inj hf).symm
     cases e
     obtain ⟨r, hr, rfl⟩ := List.mem_map.mp hp
     exact hP _ (fm.p _ (List.mem_map.mpr ⟨r, hr, rfl⟩))
   · intro d hd s' F'
     obtain ⟨p, hp, rfl⟩ := List.mem_map.mp hd
     obtain ⟨r, hr, rfl⟩ := List.mem_map.mp hp
     refine aat (env' := [some r.1, some (Fq r.2)]) rfl (Ro (Bk (w_var rfl (Aa (Nk okF (okF (q := 0)) ⟨_, rfl, fun z => Jg ?_, fun z => ?_⟩)))))
     · rw [fq0.symm] at z
       have hz : Fq r.2 ≠ Fq 0 := by simpa using z
       refine ⟨fun _ => w_var rfl (w_var rfl ⟨?_, Fr.refl _⟩), fun z => by cases z⟩
       unfold Iv
       simp only
       rw [fq0] at hz
       rw [if_neg hz]
     · rw [fq0.symm] at z
       have hz : Fq r.2 = Fq 0 := by simpa using z
       refine ⟨fun z => (by cases z), fun _ => ⟨?_, Fr.refl _⟩⟩
       unfold Iv
       simp only
       rw [fq0] at hz
       rw [if_pos hz]
   · intro s' F' hs'
     rw [Um, Ul _ _ (by rw [List.nil_append, um]; exact (List.filter_sublist.map _).nodup fm.nd), List.nil_append] at hs'
     refine Af ⟨odt rfl, ⟨_, rfl, by simp; omega, hs', fun j hj => ?_⟩⟩
     rw [F' j (by simp; omega), bj (by omega)]
     exact fr j hj
end
section
variable {FF n : Nat} {st : Sto}
def lu (st s : Sto) (f : Rat × Wt) (d : D) : Prop := ∃ m, d = .tup [Fq f.1, .loc m] ∧ st.length ≤ m ∧ s[m]? = some (.dcn (fd f.2)) ∧ Fr st s
theorem Wf.bnd {t : Tm} (h : Wf t) (hs : sz t ≤ 40) : Nn t ≤ 2 ^ 1600 ∧ Mm t ≤ 2 ^ 3160 := by
 have hX : X ≤ 2 ^ 40 := by decide
 constructor
 · refine Nat.le_trans (oo t h) (Nat.le_trans (Nat.pow_le_pow_right Ej hs) ?_)
   refine Nat.le_trans (Nat.pow_le_pow_left hX 40) ?_
   rw [← Nat.pow_mul]
   exact Nat.le_refl _
 · refine Nat.le_trans (Oo t) (Nat.le_trans (Nat.pow_le_pow_right Ej (show 2 * sz t - 1 ≤ 79 by omega)) ?_)
   refine Nat.le_trans (Nat.pow_le_pow_left hX 79) ?_
   rw [← Nat.pow_mul]
   exact Nat.le_refl _
theorem Hc {a b : Nat} {i j : Nat} (ha : a ≤ 2 ^ i) (hb : b ≤ 2 ^ j) (h : i + j < 8000) : a * b < 2 ^ 8000 := by
 refine Nat.lt_of_le_of_lt (Nat.mul_le_mul ha hb) ?_
 rw [← Nat.pow_add]
 exact Nat.pow_lt_pow_right (by decide) h
theorem Sq.ok {q : Rat} (h : Sq q) : Ok q := by
 have hX : X ≤ 2 ^ 40 := by decide
 exact ⟨Nat.le_trans h.1 (Nat.le_trans hX (Nat.pow_le_pow_right (by decide) (by decide))), Nat.lt_of_le_of_lt (Nat.le_trans h.2 hX) (Nat.pow_lt_pow_right (by decide) (by decide))⟩
theorem Wf.oks {t : Tm} (h : Wf t) (hs : sz t ≤ 40) : Ok (Ak t).1 ∧ ∀ p ∈ (Ak t).2, Ok p.2 := by
 have f := Fe t h
 have ⟨b1, b2⟩ := h.bnd hs
 have o : ∀ q, Bq (Nn t) (Mm t) q → Ok q := fun q z => z.ok (ir t) (Nat.le_trans b1 (Nat.pow_le_pow_right (by decide) (by decide))) (Hc b2 b1 (by decide))
 exact ⟨o _ f.c, fun p hp => o _ (f.b p hp)⟩
theorem pbk {l : List D} : ∀ b, PB l b → ba b = true := fun b h => h.1.1
def tms : Ts → List Tm
 | .nil => []
 | .cons t r => t :: tms r
theorem Dh : ∀ ts, Cn ts = (tms ts).map toD
 | .nil => rfl
 | .cons t r => by simp [Cn, tms, Dh r]
theorem Uo : ∀ ts, (tms ts).length ≤ szs ts
 | .nil => Nat.le_refl _
 | .cons t r => by
  have := Uo r
  have := Hb t
  simp [tms, szs]; omega
theorem Hd : ∀ {ts : Ts} {t : Tm}, t ∈ tms ts → (Wfs ts → Wf t) ∧ sz t ≤ szs ts ∧ dp t ≤ dps ts ∧ Nn t ∣ Ns ts ∧ ∀ d ∈ bas t [], d ∈ Ci ts []
 | .nil, t, h => by cases h
 | .cons u r, t, h => by
  rcases List.mem_cons.mp h with rfl | h
  · exact ⟨fun w => w.1, by simp [szs], by simp [dps]; omega, Nat.dvd_mul_right _ _, fun d z => jt r _ d z⟩
  · obtain ⟨h1, h2, h3, h4, h5⟩ := Hd h
    exact ⟨fun w => h1 w.2, by simp [szs]; omega, by simp [dps]; omega, Nat.dvd_trans h4 (Nat.dvd_mul_left _ _), fun d z => (Jt r (bas u []) [] d (h5 d z)).elim (fun z => by cases z) id⟩
def itT (t : Tm) (m : Nat) : It := ⟨Ak t, 1, m, Mm t, sz t⟩
theorem Up : ∀ (ts : List Tm) (ms : List Nat), ts.length = ms.length → Bi (·.M) (List.zipWith itT ts ms) = (ts.map Mm).sum ∧ Bi (·.L) (List.zipWith itT ts ms) = (ts.map sz).sum
 | [], [], _ => ⟨rfl, rfl⟩
 | t :: r, m :: l, h => by
  obtain ⟨h1, h2⟩ := Up r l (by simpa using h)
  simp only [List.zipWith_cons_cons, Bi, List.map_cons, List.sum_cons, h1, h2]
  exact ⟨rfl, rfl⟩
theorem Lu : ∀ ts, ((tms ts).map Mm).sum = Ms ts ∧ ((tms ts).map sz).sum = szs ts
 | .nil => ⟨rfl, rfl⟩
 | .cons t r => by
  obtain ⟨h1, h2⟩ := Lu r
  simp only [tms, List.map_cons, List.sum_cons, h1, h2]
  exact ⟨rfl, rfl⟩
theorem uq : ∀ (ts : Ts) (ms : List Nat) (a : Rat × Wt), (tms ts).length = ms.length → (List.zipWith itT (tms ts) ms).foldl itf a = sumF ts a
 | .nil, [], a, _ => rfl
 | .cons t r, m :: l, a, h => by
  simp only [tms, List.zipWith_cons_cons, List.foldl_cons, sumF]
  exact uq r l _ (by simpa [tms] using h)
theorem Uq : ∀ (ts : List Tm) (ms : List Nat), ts.length = ms.length → ((List.zipWith itT ts ms).map fun i => D.tup [Fq i.f.1, .loc i.m]) = List.zipWith (fun t m => D.tup [Fq (Ak t).1, .loc m]) ts ms ∧ ((List.zipWith itT ts ms).map fun i => Fq i.x) = List.replicate ts.length (Fq 1)
 | [], [], _ => ⟨rfl, rfl⟩
 | t :: r, m :: l, h => by
  obtain ⟨h1, h2⟩ := Uq r l (by simpa using h)
  simp only [List.zipWith_cons_cons, List.map_cons, h1, h2]
  exact ⟨rfl, rfl⟩
theorem ur {d : D} : ∀ k : Nat, (List.replicate k [d]).flatten = List.replicate k d
 | 0 => rfl
 | k + 1 => by rw [List.replicate_succ, List.flatten_cons, ur k]; rfl
theorem Lw {d : D} (h : isB d) : ∃ w rest, d = .tup (w :: rest) ∧ okN 40 w = true ∧ w ≠ W "number" ∧ w ≠ W "weigh" ∧ w ≠ W "plus" := by
 obtain ⟨hk, w, rest, rfl, h1, h2, h3⟩ := h
 refine ⟨w, rest, rfl, ?_, h1, h2, h3⟩
 have hk : okN 8 (.tup (w :: rest)) = true := hk
 simp only [okN, List.all_cons, Bool.and_eq_true] at hk
 exact Gs (by decide) hk.1
theorem Bb {t : Nat → Ty → Option Bool} {call : Or} {env : DD.Env} {e : E} {w : D} {x : String} {QB : Bool → Sto → Prop} (hw : okN 40 w = true) (hx : okN 40 (W x) = true) (h : Wr (aa t call e env st) fun d s => d = w ∧ s = st) (q : QB (decide (w = W x)) st) : Wr (Ap t call (.cm .eq e (.cst (W x))) env st) QB :=
 Bk (h.imp fun d s ⟨e1, e2⟩ => by subst e1 e2; exact Aa (aav hw hx ⟨_, rfl, q⟩))
theorem Iw {t : Nat → Ty → Option Bool} {call : Or} {env : DD.Env} {e : E} {w : D} {x : String} {QB : Bool → Sto → Prop} (hw : okN 40 w = true) (hx : okN 40 (W x) = true) (h : Wr (aa t call e env st) fun d s => d = w ∧ s = st) (q : QB (!decide (w = W x)) st) : Wr (Ap t call (.cm .ne e (.cst (W x))) env st) QB :=
 Bk (h.imp fun d s ⟨e1, e2⟩ => by subst e1 e2; exact Aa (Nk hw hx ⟨_, rfl, q⟩))
theorem bz : okN 40 (W "number") = true := by decide +kernel
theorem Bz : okN 40 (W "weigh") = true := by decide +kernel
theorem Cd : okN 40 (W "plus") = true := by decide +kernel
theorem ne1 : W "weigh" ≠ W "number" := by decide +kernel
theorem ne2 : W "plus" ≠ W "number" := by decide +kernel
theorem ne3 : W "plus" ≠ W "weigh" := by decide +kernel
theorem ne4 : W "number" ≠ W "weigh" := by decide +kernel
theorem ne5 : W "number" ≠ W "plus" := by decide +kernel
end
section
variable {FF : Nat}
theorem bf {s : Sto} {c : Cell} : (s ++ [c])[s.length]? = some c := by simp
theorem hd0 {x : D} {r : List D} : L2.atI (x :: r) 0 = some x := L2.Jy (xs := x :: r) (j := 0) rfl
theorem fby (hF : 2 ^ 8000 ≤ FF) : ∀ (k : Nat) (t : Tm) (m : Nat) (st : Sto) (l : Nat), sz t ≤ k → dp t + 7 ≤ m → Wf t → sz t ≤ 40 → st[l]? = some .fnl → Wr (C FF m 6 [toD t, .loc l] st) fun d s => lu st s (Ak t) d := by
 intro k
 induction k with
 | zero => intro t m st l h; have := Hb t; omega
 | succ k ih =>
  intro t m st l hk hm hw h40 hl
  obtain ⟨m, rfl⟩ : ∃ m', m = m' + 1 := ⟨m - 1, by omega⟩
  cases t with
  | num q =>
   refine Bd [some (toD (.num q)), some (.loc l), none] (b := Ee) rfl rfl (by decide) rfl ?_
   unfold Ee
   refine Ac (Ar (ah (w_var rfl (Aa (Ai hd0 ⟨odt rfl, af (Ac (ak (Bb bz bz (w_var rfl ⟨rfl, rfl⟩) ?_)))⟩)))))
   rw [decide_eq_true rfl]
   refine Cp (Ac (Ay (bg (Ab (ah (w_var rfl (Aa (Ai (d := Fq q) (by kernel_rfl) (Ab (Fb (Af ⟨odt rfl, ?_⟩)))))))))))
   exact ⟨_, rfl, Nat.le_refl _, bf, .app _⟩
  | base d =>
   obtain ⟨w, rest, rfl, hok, n1, n2, n3⟩ := Lw hw
   refine Bd [some (.tup (w :: rest)), some (.loc l), none] (b := Ee) rfl rfl (by decide) rfl ?_
   unfold Ee
   refine Ac (Ar (ah (w_var rfl (Aa (Ai hd0 ⟨odt rfl, af (Ac (ak (Bb hok bz (w_var rfl ⟨rfl, rfl⟩) ?_)))⟩)))))
   rw [decide_eq_false n1]
   refine Az (ai (af (Ac (ak (Bb hok Bz (w_var rfl ⟨rfl, rfl⟩) ?_)))))
   rw [decide_eq_false n2]
   refine Az (ai (af (Ac (ak (Bb hok Cd (w_var rfl ⟨rfl, rfl⟩) ?_)))))
   rw [decide_eq_false n3]
   have E : Fr st (st ++ [.dcn []]) := .app _
   refine Az (ai (af (Ac (Ay (bg (Ab (Aa (Ab (dg (Fb ⟨Ie bf, Ab (adh (w_var rfl ⟨l, rfl, E.at hl, w_var rfl (Ab (Aa (Af (Sk bf hw.1 (Af ⟨odt rfl, ?_⟩)))))⟩))⟩))))))))))
   exact ⟨_, rfl, Nat.le_refl _, Br bf, E.set (Nat.le_refl _) _⟩
  | wgh q t =>
   have hz : sz t + 2 ≤ k + 1 := by have : sz (.wgh q t) = 2 + sz t := rfl; omega
   have h40' : sz t ≤ 40 := by have : sz (.wgh q t) = 2 + sz t := rfl; omega
   have hd : dp (.wgh q t) = 1 + dp t := rfl
   refine Bd [some (toD (.wgh q t)), some (.loc l), none] (b := Ee) rfl rfl (by decide) rfl ?_
   unfold Ee
   refine Ac (Ar (ah (w_var rfl (Aa (Ai hd0 ⟨odt rfl, af (Ac (ak (Bb Bz bz (w_var rfl ⟨rfl, rfl⟩) ?_)))⟩)))))
   rw [decide_eq_false ne1]
   refine Az (ai (af (Ac (ak (Bb Bz Bz (w_var rfl ⟨rfl, rfl⟩) ?_)))))
   rw [decide_eq_true rfl]
   refine Cp (Ac (Ay (ay (Ab (cy (Ab (ay (Ab (ah (w_var rfl (Aa (Ai (d := toD t) (by kernel_rfl) (Ab (w_var rfl (Af ((ih t m st l (by omega) (by omega) hw.2 h40' hl).imp ?_))))))))))))))))
   rintro d s ⟨mm, rfl, hlen, hmm, fr⟩
   have E1 : Fr s (s ++ [.lst [.tup [Fq (Ak t).1, .loc mm]]]) := .app _
   refine Af ⟨odt rfl, Ab (cy (Ab (ah (w_var rfl (Aa (Ai (d := Fq q) (by kernel_rfl) (Af ⟨odt rfl, Af ?_⟩)))))))⟩
   have E2 : Fr (s ++ [.lst [.tup [Fq (Ak t).1, .loc mm]]]) (s ++ [.lst [.tup [Fq (Ak t).1, .loc mm]]] ++ [.lst [Fq q]]) := .app _
   obtain ⟨n, rfl⟩ : ∃ n, m = n + 6 := ⟨m - 6, by omega⟩
   have fo := Fe t hw.2
   have ⟨b1, b2⟩ := Wf.bnd hw.2 h40'
   have bx : X ≤ 2 ^ 40 := by decide
   have ⟨o1, o2⟩ := Wf.oks hw.2 h40'
   have hNb : q.den * Nn t ≤ 2 ^ 3900 := Nat.le_trans (Nat.mul_le_mul (Nat.le_trans hw.1.1 bx) b1) (by rw [← Nat.pow_add]; exact Nat.pow_le_pow_right (by decide) (by decide))
   have hMb : X * Mm t ≤ 2 ^ 3200 := by have := Nat.mul_le_mul bx b2; rwa [← Nat.pow_add] at this
   have hNb2 : q.den * Nn t ≤ 2 ^ 1640 := by have := Nat.mul_le_mul (Nat.le_trans hw.1.1 bx) b1; rwa [← Nat.pow_add] at this
   refine (uo (n := n) (N := q.den * Nn t) (P := PB (bas t [])) (its := [⟨Ak t, q, mm, X * Mm t, sz t⟩]) hF (Nat.mul_pos (Nat.pos_of_ne_zero q.den_nz) (ir t)) hNb ?_ pbk ?_ (E2.at bf) bf ?_).imp ?_
   · simp only [Bi, Nat.add_zero]
     exact Hc hMb hNb2 (by decide)
   · simp only [Bi]
     exact Nat.lt_of_le_of_lt (show sz t + 0 ≤ 40 by omega) (by decide)
   · intro i hi
     cases List.mem_singleton.mp hi
     exact ⟨(E1.trans E2).at hmm, hw.1.ok, o1, o2, fo.nd, fo.p, hw.1.bq.mul fo.c, fun p hp => hw.1.bq.mul (fo.b p hp), fo.l⟩
   · rintro d s3 ⟨m3, rfl, hl3, h3, fr3⟩
     have := fr.len
     exact ⟨m3, rfl, by simp at hl3; omega, h3, ((fr.trans E1).trans E2).trans fr3⟩
  | pls ts =>
   have hz : szs ts + 2 ≤ k + 1 := by have : sz (.pls ts) = 2 + szs ts := rfl; omega
   have h40' : szs ts ≤ 38 := by have : sz (.pls ts) = 2 + szs ts := rfl; omega
   have hd : dp (.pls ts) = 1 + dps ts := rfl
   have hln := Uo ts
   refine Bd [some (toD (.pls ts)), some (.loc l), none] (b := Ee) rfl rfl (by decide) rfl ?_
   unfold Ee
   refine Ac (Ar (ah (w_var rfl (Aa (Ai hd0 ⟨odt rfl, af (Ac (ak (Bb Cd bz (w_var rfl ⟨rfl, rfl⟩) ?_)))⟩)))))
   rw [decide_eq_false ne2]
   refine Az (ai (af (Ac (ak (Bb Cd Bz (w_var rfl ⟨rfl, rfl⟩) ?_)))))
   rw [decide_eq_false ne3]
   refine Az (ai (af (Ac (ak (Bb Cd Cd (w_var rfl ⟨rfl, rfl⟩) ?_)))))
   rw [decide_eq_true rfl]
   refine Cp (Ac (Ay (ay (Ab (aas (ah (w_var rfl (Aa (Ai (d := .tup (Cn ts)) (by kernel_rfl) ⟨Cn ts, none, fun i ys s => ∃ ms : List Nat, ms.length = i ∧ ys = List.zipWith (fun t m => D.tup [Fq (Ak t).1, .loc m]) ((tms ts).take i) ms ∧ (∀ (j mm : Nat) (t : Tm), ms[j]? = some mm → (tms ts)[j]? = some t → st.length < mm ∧ s[mm]? = some (.dcn (fd (Ak t).2))) ∧ st.length < s.length ∧ Fr st s, rfl, ?_, fun _ _ _ _ => rfl, ⟨[], rfl, by simp, fun j mm t h => by simp at h, by simp, .app _⟩, ?_, ?_⟩)))))))))
   · rw [Dh, List.length_map]
     exact Nat.le_trans (show (tms ts).length ≤ 38 by omega) (by decide)
   · rintro j d hd1 s1 ys ⟨ms, hml, rfl, hms, hsl, fr⟩ hy
     rw [Dh, List.getElem?_map] at hd1
     cases hq : (tms ts)[j]? with
     | none => rw [hq] at hd1; cases hd1
     | some t =>
      rw [hq] at hd1; cases hd1
      obtain ⟨w1, w2, w3, w4, w5⟩ := Hd (List.mem_of_getElem? hq)
      refine Kk (env' := [some (toD t), some (.loc l)]) rfl (Jg ⟨fun _ => ?_, fun z => by cases z⟩)
      refine ay (Ab (w_var rfl (Ab (w_var rfl (Af ((ih t m s1 l (by omega) (by omega) (w1 hw) (by omega) (fr.at hl)).imp ?_))))))
      rintro d2 s2 ⟨mm, rfl, hlen, hmm, fr2⟩
      refine ⟨fr2.at hy, .inl ⟨_, rfl, ms ++ [mm], by simp [hml], ?_, fun j2 m2 t2 e1 e2 => ?_, by have := fr2.len; simp; omega, (fr.trans fr2).set (Nat.le_refl _) _⟩⟩
      · rw [List.take_succ, hq, List.zipWith_append (by rw [List.length_take, hml]; have := (List.getElem?_eq_some_iff.mp hq).1; omega)]
        rfl
      · by_cases hj : j2 < ms.length
        · rw [List.getElem?_append_left hj] at e1
          obtain ⟨g1, g2⟩ := hms j2 m2 t2 e1 e2
          exact ⟨g1, by rw [bj (by omega)]; exact fr2.at g2⟩
        · have hj2 : j2 = ms.length := by
           have := (List.getElem?_eq_some_iff.mp e1).1
           simp at this; omega
          subst hj2
          rw [List.getElem?_append_right (Nat.le_refl _)] at e1
          simp at e1
          subst e1
          rw [hml, hq] at e2; cases e2
          exact ⟨by omega, by rw [bj (by omega)]; exact hmm⟩
   · rintro s1 ys ⟨ms, hml, rfl, hms, hsl, fr⟩ hy
     rw [Dh, List.length_map] at hml
     rw [Dh, List.length_map, List.take_length] at hy
     have E1 : Fr s1 (s1 ++ [.lst [Fq 1]]) := .app _
     refine Ab (aj (cy (Ab (Aa (Af ⟨odt rfl, dk (Ab (ah (w_var rfl (Aa (Ai (d := .tup (Cn ts)) (by kernel_rfl) (Af (Rt (adl (xs := [Fq 1]) bf ?_ (Af ?_)))))))))⟩)))))
     · rw [Dh, List.length_map]
       refine ⟨by omega, by omega, ?_⟩
       exact Nat.le_trans (show [Fq 1].length * ((tms ts).length : Int).toNat ≤ 38 by simp; omega) (by decide)
     rw [ur, Dh, List.length_map, Int.toNat_natCast]
     have E2 : Fr (s1 ++ [.lst [Fq 1]]) (s1 ++ [.lst [Fq 1]] ++ [.lst (List.replicate (tms ts).length (Fq 1))]) := .app _
     obtain ⟨n, rfl⟩ : ∃ n, m = n + 6 := ⟨m - 6, by omega⟩
     have hb : Wf (.pls ts) := hw
     have ⟨b1, b2⟩ := Wf.bnd hb h40
     have e1 := Up (tms ts) ms hml.symm
     have e2 := Lu ts
     have e3 := Uq (tms ts) ms hml.symm
     refine (uo (n := n) (N := Ns ts) (P := PB (Ci ts [])) (its := List.zipWith itT (tms ts) ms) hF (lp ts) (Nat.le_trans b1 (Nat.pow_le_pow_right (by decide) (by decide))) ?_ pbk ?_ ?_ ?_ ?_).imp ?_
     · rw [e1.1, e2.1]
       exact Hc (Nat.le_trans (Nat.le_add_left _ 1) b2) b1 (by decide)
     · rw [e1.2, e2.2]
       exact Nat.lt_of_le_of_lt h40' (by decide)
     · rw [e3.1]; exact (E1.trans E2).at hy
     · rw [e3.2]; exact bf
     · intro i hi
       obtain ⟨j, hj, rfl⟩ := List.getElem_of_mem hi
       rw [List.length_zipWith] at hj
       rw [List.getElem_zipWith]
       have ht : (tms ts)[j]? = some (tms ts)[j] := List.getElem?_eq_getElem (by omega)
       obtain ⟨w1, w2, w3, w4, w5⟩ := Hd (List.mem_of_getElem? ht)
       have fo := (Fe _ (w1 hw)).mono (N' := Ns ts) (P' := PB (Ci ts [])) w4 (Nat.le_refl _) (Nat.le_refl _) (Oq w5)
       have ⟨o1, o2⟩ := Wf.oks (w1 hw) (by omega)
       obtain ⟨g1, g2⟩ := hms j ms[j] _ (List.getElem?_eq_getElem (by omega)) ht
       exact ⟨(E1.trans E2).at g2, agf, o1, o2, fo.nd, fo.p, by show Bq _ _ (1 * _); rw [Rat.one_mul]; exact fo.c, fun p hp => by show Bq _ _ (1 * _); rw [Rat.one_mul]; exact fo.b p hp, fo.l⟩
     · rintro d s3 ⟨m3, rfl, hl3, h3, fr3⟩
       rw [uq ts ms _ hml.symm] at h3 ⊢
       exact ⟨m3, rfl, by simp at hl3; omega, h3, ((fr.trans E1).trans E2).trans fr3⟩
theorem fof (hF : 2 ^ 8000 ≤ FF) {t : Tm} {m : Nat} {st : Sto} (hm : dp t + 8 ≤ m) (hw : Wf t) (h40 : sz t ≤ 40) (hl : st[1]? = some .lamT) : Wr (C FF m 5 [toD t] st) fun d s => lu st s (Ak t) d := by
 obtain ⟨m, rfl⟩ : ∃ m', m = m' + 1 := ⟨m - 1, by omega⟩
 refine Bd [some (toD t)] (b := kr) rfl rfl (by decide) rfl ?_
 unfold kr
 refine Ac (Ay (ay (Ab (w_var rfl (Ab (adg hl (Af ((fby hF _ t m _ st.length (Nat.le_refl _) (by omega) hw h40 bf).imp ?_))))))))
 rintro d s ⟨mm, rfl, h1, h2, fr⟩
 exact ⟨mm, rfl, by simp at h1; omega, h2, (Fr.app _).trans fr⟩
end
theorem lx {ws : Wt} (nd : (ks ws).Nodup) {p : D × Rat} (h : p ∈ ws) : look ws p.1 = some p.2 := by
 obtain ⟨x, e⟩ := Om (List.mem_map.mpr ⟨p, h, rfl⟩)
 have h2 := Lo e
 obtain ⟨i, hi, ei⟩ := List.getElem_of_mem h
 obtain ⟨j, hj, ej⟩ := List.getElem_of_mem h2
 unfold ks at nd
 have e1 : (ws.map (·.1))[i]'(by simpa using hi) = p.1 := by simp [ei]
 have e2 : (ws.map (·.1))[j]'(by simpa using hj) = p.1 := by simp [ej]
 have := (List.getElem_inj nd).mp (e1.trans e2.symm)
 subst this
 rw [ei] at ej
 rw [e, ej]
theorem Ur {ws : Wt} (nd : (ks ws).Nodup) {j : Nat} {p : D × Rat} (h : ws[j]? = some p) : p.1 ∉ ks (ws.take j) := fun z => by
 have hj := (List.getElem?_eq_some_iff.mp h).1
 unfold ks at z nd
 rw [List.map_take, List.mem_take_iff_getElem] at z
 obtain ⟨i, hi, ei⟩ := z
 have e2 : (ws.map (·.1))[j]'(by simpa using hj) = p.1 := by simp [(List.getElem?_eq_some_iff.mp h).2]
 have := (List.getElem_inj nd).mp (ei.trans e2.symm)
 omega
theorem Ow {ws : Wt} {b : D} {x : Rat} (h : b ∉ ks ws) : Bw (fd ws) b (Fq x) = fd (ws ++ [(b, x)]) := by
 rw [Uk (by rw [um]; exact h)]
 simp [fd]
theorem Us (x : Rat) : ∀ (w1 acc : Wt), (ks (acc ++ w1)).Nodup → mrg x acc w1 = acc ++ w1.map fun p => (p.1, x * p.2)
 | [], acc, _ => by simp [mrg]
 | p :: r, acc, h => by
  have hn : p.1 ∉ ks acc := by
   unfold ks at h ⊢
   rw [List.map_append, List.nodup_append] at h
   intro z
   exact h.2.2 _ z _ (by simp) rfl
  have e : ad1 x acc p = acc ++ [(p.1, x * p.2)] := by
   unfold ad1
   rw [get_none hn, Rat.zero_add]
   unfold put
   rw [if_neg]
   intro z
   obtain ⟨r, hr, e⟩ := List.any_eq_true.mp z
   exact hn (List.mem_map.mpr ⟨r, hr, by simpa using e⟩)
  have := Us x r (acc ++ [(p.1, x * p.2)]) (by simpa [ks] using h)
  unfold mrg at this ⊢
  rw [List.foldl_cons, e, this]
  simp
theorem agq {q : Rat} {f : Rat × Wt} (nd : (ks f.2).Nodup) (nz : ∀ p ∈ f.2, p.2 ≠ 0) : fin (stp (0, []) f q) = (f.1 * q, if q = 0 then [] else f.2.map fun p => (p.1, p.2 * q)) := by
 unfold fin stp
 have e := Us q f.2 [] (by simpa using nd)
 simp only [e, List.nil_append]
 refine Prod.ext (by simp only; grind) ?_
 simp only
 by_cases h : q = 0
 · rw [if_pos h]
   apply List.filter_eq_nil_iff.mpr
   intro p hp
   obtain ⟨r, _, rfl⟩ := List.mem_map.mp hp
   simp [h]
 · rw [if_neg h, List.filter_eq_self.mpr]
   · apply List.map_congr_left
     intro p _
     rw [Rat.mul_comm]
   · intro p hp
     obtain ⟨r, hr, rfl⟩ := List.mem_map.mp hp
     have := nz r hr
     simp only [ne_eq, decide_eq_true_eq]
     intro z
     rcases Rat.mul_eq_zero.mp z with z | z
     · exact h z
     · exact this z
theorem Ut {q : Rat} : (!decide (q.num = 0)) = decide (q ≠ 0) := by
 by_cases h : q = 0
 · subst h; decide
 · rw [decide_eq_true h, decide_eq_false (fun z => h (Rat.num_eq_zero.mp z))]; rfl
theorem Ox (ws : Wt) (j : Nat) : (cg false (fd ws))[j]? = (ws[j]?).map (·.1) := by
 simp [cg, fd, List.getElem?_map, Function.comp_def]
theorem oy (ws : Wt) : (cg false (fd ws)).length = ws.length := by simp [cg, fd]
section
variable {FF n : Nat} {st : Sto}
theorem agr {ws : Wt} {m : Nat} (nd : (ks ws).Nodup) (hk : ∀ b ∈ ks ws, ba b = true) (hl : ws.length < sizeLine) (hm : st[m]? = some (.dcn (fd ws))) : Wr (C FF (n + 1) 11 [.loc m] st) fun d s => d = .loc st.length ∧ s[st.length]? = some (.dcn (fd (ws.filter fun p => decide (p.2 ≠ 0)))) ∧ Fr st s := by
 refine Bd [some (.loc m), none, none, none] (b := Kv) rfl rfl (by decide) rfl ?_
 unfold Kv
 have E0 : Fr st (st ++ [.dcn []]) := .app _
 have hml := (List.getElem?_eq_some_iff.mp hm).1
 refine Ac (Ar (Fb ⟨odt rfl, af (Ac (Jk (w_var rfl ⟨m, _, rfl, E0.at hm, ?_⟩)))⟩))
 refine w_walk (fun j env s => ∃ e2 e3, env = [some (.loc m), some (.loc st.length), e2, e3] ∧ s[st.length]? = some (.dcn (fd ((ws.take j).filter fun p => decide (p.2 ≠ 0)))) ∧ s[m]? = some (.dcg (fd ws)) ∧ ∀ i, i < st.length → i ≠ m → s[i]? = st[i]?) (fun _ _ _ _ => rfl) _ 0 _ _ ⟨none, none, rfl, by rw [bj (by omega)]; exact bf, Br (E0.at hm), fun i h1 h2 => by rw [bj (Ne.symm h2)]; exact E0 i h1⟩ ?_ ?_
 · rintro j d hd env s ⟨e2, e3, rfl, h1, h2, fr⟩
   rw [Nat.zero_add] at h1 ⊢
   rw [Ui] at hd
   cases hq : ws[j]? with
   | none => rw [hq] at hd; cases hd
   | some q =>
    rw [hq] at hd; cases hd
    have hj := (List.getElem?_eq_some_iff.mp hq).1
    have et : ws.take (j + 1) = ws.take j ++ [q] := by rw [List.take_succ, hq]; rfl
    have hlen : ((ws.take j).filter fun p => decide (p.2 ≠ 0)).length ≤ j := Nat.le_trans (List.length_filter_le _ _) (by rw [List.length_take]; omega)
    refine Dg (env' := [some (.loc m), some (.loc st.length), some q.1, some (Fq q.2)]) rfl (Ac (ak (Bk (ah (w_var rfl (Aa (Ai hd0 (Aa (ji ⟨_, rfl, ?_⟩)))))))))
    rw [Ut]
    by_cases h : q.2 = 0
    · rw [decide_eq_false (by simpa using h)]
      refine Az (ai (af (ai ⟨_, rfl, _, _, rfl, ?_, h2, fr⟩)))
      rw [et, List.filter_append]
      simpa [h] using h1
    · rw [decide_eq_true h]
      have hn : q.1 ∉ ks ((ws.take j).filter fun p => decide (p.2 ≠ 0)) := fun z => Ur nd hq ((List.filter_sublist.map _).subset z)
      refine Cp (Ac (jk (w_var rfl (w_var rfl (w_var rfl ⟨_, _, rfl, h1, hk _ (List.mem_map.mpr ⟨q, List.mem_of_getElem? hq, rfl⟩), by rw [Iu]; omega, af (ai (af (ai ⟨_, rfl, _, _, rfl, ?_, by rw [bj (by omega)]; exact h2, fun i g1 g2 => by rw [bj (by omega)]; exact fr i g1 g2⟩)))⟩)))))
      rw [Ow hn, et, List.filter_append]
      simp only [List.filter_cons, List.filter_nil, ne_eq, h, not_false_eq_true, decide_true, if_true]
      exact Br h1
 · rintro env s ⟨e2, e3, rfl, h1, h2, fr⟩
   rw [Nat.zero_add, uj, List.take_length] at h1
   refine ⟨_, rfl, h2, af (Ac (Ay (w_var rfl ⟨rfl, by rw [bj (by omega)]; exact h1, fun i hi => ?_⟩)))⟩
   by_cases z : i = m
   · subst z; rw [Br h2, hm]
   · rw [bj (Ne.symm z)]; exact fr i hi z
theorem ags {N M M' L k m : Nat} {P : D → Prop} {ws w1 : Wt} {s : Sto} {e0 e1 e4 e5 e6 : Option D} (hF : 2 ^ 8000 ≤ FF) (h0 : 0 < N) (hN : N ≤ 2 ^ 3900) (hM : (M + M') * N < 2 ^ 8000) (hb : ∀ p ∈ w1, Bq N M' p.2)
 (n1 : (ks w1).Nodup) (hp : ∀ b ∈ ks w1, P b) (hP : ∀ b, P b → ba b = true) (hl : L + w1.length < sizeLine) (hm : s[m]? = some (.dcn (fd w1))) (hk : s[k]? = some (.dcn (fd ws))) (hkm : k ≠ m) (mg : Mg N M M' L P 1 ws w1 0 ws) :
 Wr (An tab (C FF (n + 2)) FF (.forD false [4] true (.var 2) (.cons (.dput (.var 3) (.var 4) (.call 12 (.cons (.mt .getN (.var 3) (.cons (.var 4) (.cons (.tupE (.cons (.cst (.int 0)) (.cons (.cst (.int 1)) .nil))) .nil))) (.cons (.ix (.var 2) (.var 4)) .nil)) [])) .nil)) [e0, e1, some (.loc m), some (.loc k), e4, e5, e6] s)
  fun f s' => ∃ e4, f = .next [e0, e1, some (.loc m), some (.loc k), e4, e5, e6] ∧ s'.length = s.length ∧ s'[k]? = some (.dcn (fd (mrg 1 ws w1))) ∧ ∀ j, j ≠ k → s'[j]? = s[j]? := by
 refine Jk (w_var rfl ⟨m, _, rfl, hm, ?_⟩)
 refine w_walk (fun j env s' => ∃ e4 acc, env = [e0, e1, some (.loc m), some (.loc k), e4, e5, e6] ∧ Mg N M M' L P 1 ws w1 j acc ∧ s'.length = s.length ∧ s'[k]? = some (.dcn (fd acc)) ∧ s'[m]? = some (.dcg (fd w1)) ∧ ∀ j, j ≠ k → j ≠ m → s'[j]? = s[j]?) (fun _ _ _ _ => rfl) _ 0 _ _ ⟨e4, ws, rfl, mg, by simp, by rw [bj hkm.symm]; exact hk, Br hm, fun j _ hj => bj hj.symm⟩ ?_ ?_
 · rintro j d hd env s' ⟨e4, acc, rfl, g, ln, hk', hm', fr⟩
   rw [Nat.zero_add] at g ⊢
   rw [Ox] at hd
   cases hq : w1[j]? with
   | none => rw [hq] at hd; cases hd
   | some q =>
    rw [hq] at hd; cases hd
    have hmem := List.mem_of_getElem? hq
    have hkey : ba q.1 = true := hP _ (hp _ (List.mem_map.mpr ⟨q, hmem, rfl⟩))
    have o1 : Ok (get acc q.1) := ((g.old n1 hq).mono (Nat.dvd_refl _) (Nat.le_add_right _ M')).ok h0 hN hM
    have o2 : Ok q.2 := ((hb q hmem).mono (Nat.dvd_refl _) (Nat.le_add_left _ M)).ok h0 hN hM
    have hlk : Ba (fd w1) q.1 = some (Fq q.2) := by rw [gh, lx n1 hmem]; rfl
    refine Dg (env' := [e0, e1, some (.loc m), some (.loc k), some q.1, e5, e6]) rfl ?_
    refine Ac (jk (ay (Ab (dg (w_var rfl ⟨Ie hk', Ab (w_var rfl (Ab (bg (Ab (Aa (Ab (Aa (Af ⟨odt rfl, Af (Sl hk' hkey ?_)⟩))))))))⟩)))))
    rw [Uj]
    refine Ab (ah (w_var rfl (w_var rfl (ny hm' hkey hlk (Af ((lr (n := n) hF o1 o2).imp ?_))))))
    rintro d s2 ⟨rfl, rfl⟩
    have gl := g.l
    have hj := (List.getElem?_eq_some_iff.mp hq).1
    have e : put acc q.1 (get acc q.1 + q.2) = ad1 1 acc q := by unfold ad1; rw [Rat.one_mul]
    refine w_var rfl (w_var rfl ⟨k, _, rfl, hk', hkey, by rw [Iu]; omega, af (ai ⟨_, rfl, _, ad1 1 acc q, rfl, g.next n1 hp hq (by rw [Rat.one_mul]; exact hb q hmem), by simpa using ln, ?_, ?_, fun i h1 h2 => ?_⟩)⟩)
    · rw [Tu, e]; exact Br hk'
    · rw [bj hkm]; exact hm'
    · rw [bj h1.symm]; exact fr i h1 h2
 · rintro env s' ⟨e4, acc, rfl, g, ln, hk', hm', fr⟩
   rw [Nat.zero_add, oy] at g
   have e := g.done
   subst e
   refine ⟨_, rfl, hm', e4, rfl, by simpa using ln, by rw [bj hkm.symm]; exact hk', fun j hj => ?_⟩
   by_cases z : j = m
   · subst z; rw [Br hm', hm]
   · rw [bj (Ne.symm z)]; exact fr j hj z
end
section
variable {FF : Nat}
def Bl (ts : Ts) : List It := (tms ts).map fun t => itT t 0
theorem Uu : ∀ ts, Bi (·.M) (Bl ts) = Ms ts ∧ Bi (·.L) (Bl ts) = szs ts
 | .nil => ⟨rfl, rfl⟩
 | .cons t r => by
  obtain ⟨h1, h2⟩ := Uu r
  unfold Bl at h1 h2 ⊢
  simp only [tms, List.map_cons, Bi, h1, h2]
  exact ⟨rfl, rfl⟩
theorem Uv : ∀ (ts : Ts) (a : Rat × Wt), (Bl ts).foldl itf a = sumF ts a
 | .nil, a => rfl
 | .cons t r, a => by
  have := Uv r
  unfold Bl at this ⊢
  simp only [tms, List.map_cons, List.foldl_cons, sumF]
  exact this _
theorem agt (hF : 2 ^ 8000 ≤ FF) : ∀ (k : Nat) (t : Tm) (m : Nat) (st : Sto), sz t ≤ k → dp t + 4 ≤ m → Wf t → sz t ≤ 40 → Wr (C FF m 20 [toD t] st) fun d s => lu st s (Ak t) d := by
 intro k
 induction k with
 | zero => intro t m st h; have := Hb t; omega
 | succ k ih =>
  intro t m st hk hm hw h40
  obtain ⟨m, rfl⟩ : ∃ m', m = m' + 1 := ⟨m - 1, by omega⟩
  cases t with
  | num q =>
   refine Bd [some (toD (.num q)), none, none, none, none, none, none] (b := Ef) rfl rfl (by decide) rfl ?_
   unfold Ef
   refine Ac (ak (Bb bz bz (ah (w_var rfl (Aa (Ai hd0 ⟨rfl, rfl⟩)))) ?_))
   rw [decide_eq_true rfl]
   refine Cp (Ac (Ay (bg (Ab (ah (w_var rfl (Aa (Ai (d := Fq q) (by kernel_rfl) (Ab (Fb (Af ⟨odt rfl, ?_⟩)))))))))))
   exact ⟨_, rfl, Nat.le_refl _, bf, .app _⟩
  | base d =>
   obtain ⟨w, rest, rfl, hok, n1, n2, n3⟩ := Lw hw
   refine Bd [some (.tup (w :: rest)), none, none, none, none, none, none] (b := Ef) rfl rfl (by decide) rfl ?_
   unfold Ef
   refine Ac (ak (Bb hok bz (ah (w_var rfl (Aa (Ai hd0 ⟨rfl, rfl⟩)))) ?_))
   rw [decide_eq_false n1]
   refine Az (ai (af (Ac (ak (Bb hok Bz (ah (w_var rfl (Aa (Ai hd0 ⟨rfl, rfl⟩)))) ?_)))))
   rw [decide_eq_false n2]
   refine Az (ai (af (Ac (ak (Iw hok Cd (ah (w_var rfl (Aa (Ai hd0 ⟨rfl, rfl⟩)))) ?_)))))
   rw [decide_eq_false n3]
   have E : Fr st (st ++ [.dcn []]) := .app _
   refine ib (Ac (Ay (bg (Ab (bg (Ab (Aa (Ab (Aa (Af ⟨odt rfl, Ab (dg (Fb ⟨Ie bf, Ab (w_var rfl (Ab (bg (Ab (Aa (Ab (Aa (Af ⟨odt rfl, Af (Sk bf hw.1 (Af ⟨odt rfl, ?_⟩))⟩))))))))⟩))⟩))))))))))
   exact ⟨_, rfl, Nat.le_refl _, Br bf, E.set (Nat.le_refl _) _⟩
  | wgh q t =>
   have hz : sz t + 2 ≤ k + 1 := by have : sz (.wgh q t) = 2 + sz t := rfl; omega
   have h40' : sz t ≤ 40 := by have : sz (.wgh q t) = 2 + sz t := rfl; omega
   have hd : dp (.wgh q t) = 1 + dp t := rfl
   refine Bd [some (toD (.wgh q t)), none, none, none, none, none, none] (b := Ef) rfl rfl (by decide) rfl ?_
   unfold Ef
   refine Ac (ak (Bb Bz bz (ah (w_var rfl (Aa (Ai hd0 ⟨rfl, rfl⟩)))) ?_))
   rw [decide_eq_false ne1]
   refine Az (ai (af (Ac (ak (Bb Bz Bz (ah (w_var rfl (Aa (Ai hd0 ⟨rfl, rfl⟩)))) ?_)))))
   rw [decide_eq_true rfl]
   refine Cp (Ac (Nh (ay (Ab (ah (w_var rfl (Aa (Ai (d := toD t) (by kernel_rfl) (Af ((ih t m st (by omega) (by omega) hw.2 h40').imp ?_))))))))))
   rintro d s ⟨mm, rfl, hlen, hmm, fr⟩
   have fo := Fe t hw.2
   have ⟨o1, o2⟩ := Wf.oks hw.2 h40'
   have oq := hw.1.ok
   have hml := (List.getElem?_eq_some_iff.mp hmm).1
   obtain ⟨n, rfl⟩ : ∃ n, m = n + 2 := ⟨m - 2, by omega⟩
   have E0 : Fr s (s ++ [.dcn []]) := .app _
   refine ⟨_, rfl, af (Ac (Ar (Fb ⟨odt rfl, af (Ac (Jk (w_var rfl ⟨mm, _, rfl, E0.at hmm, ?_⟩)))⟩)))⟩
   refine w_walk (fun j env s' => ∃ e4, env = [some (toD (.wgh q t)), some (Fq (Ak t).1), some (.loc mm), some (.loc s.length), e4, none, none] ∧ s'[s.length]? = some (.dcn (fd (if q = 0 then [] else ((Ak t).2.take j).map fun p => (p.1, p.2 * q)))) ∧ s'[mm]? = some (.dcg (fd (Ak t).2)) ∧ ∀ i, i < s.length → i ≠ mm → s'[i]? = s[i]?) (fun _ _ _ _ => rfl) _ 0 _ _ ⟨none, rfl, ?_, Br (E0.at hmm), fun i h1 h2 => by rw [bj (Ne.symm h2)]; exact E0 i h1⟩ ?_ ?_
   · rw [bj (by omega)]
     split <;> exact bf
   · rintro j d hd1 env s' ⟨e4, rfl, g1, g2, fr'⟩
     rw [Nat.zero_add] at g1 ⊢
     rw [Ox] at hd1
     cases hq : (Ak t).2[j]? with
     | none => rw [hq] at hd1; cases hd1
     | some p =>
      rw [hq] at hd1; cases hd1
      have hmem := List.mem_of_getElem? hq
      have hj := (List.getElem?_eq_some_iff.mp hq).1
      have hkey : ba p.1 = true := pbk _ (fo.p _ (List.mem_map.mpr ⟨p, hmem, rfl⟩))
      have hlk : Ba (fd (Ak t).2) p.1 = some (Fq p.2) := by rw [gh, lx fo.nd hmem]; rfl
      refine Dg (env' := [some (toD (.wgh q t)), some (Fq (Ak t).1), some (.loc mm), some (.loc s.length), some p.1, none, none]) rfl (Ac (ak (Bk (ah (ah (w_var rfl (Aa (Ai (d := Fq q) (by kernel_rfl) (Aa (Ai hd0 (Aa (ji ⟨_, rfl, ?_⟩))))))))))))
      rw [Ut]
      by_cases hq0 : q = 0
      · rw [decide_eq_false (by simpa using hq0)]
        refine Az (ai (af (ai ⟨_, rfl, _, rfl, ?_, g2, fr'⟩)))
        rw [if_pos hq0] at g1 ⊢
        exact g1
      · rw [decide_eq_true hq0]
        rw [if_neg hq0] at g1
        refine Cp (Ac (jk (ay (Ab (ah (w_var rfl (w_var rfl (ny g2 hkey hlk (Ab (ah (w_var rfl (Aa (Ai (d := Fq q) (by kernel_rfl) (Af ((Lr (n := n) hF (o2 p hmem) oq).imp ?_)))))))))))))))
        rintro d s4 ⟨rfl, rfl⟩
        have hn : p.1 ∉ ks (((Ak t).2.take j).map fun p => (p.1, p.2 * q)) := by
         unfold ks
         rw [List.map_map]
         exact Ur fo.nd hq
        have fl := fo.l
        refine w_var rfl (w_var rfl ⟨_, _, rfl, g1, hkey, ?_, af (ai (af (ai ⟨_, rfl, _, rfl, ?_, by rw [bj (by omega)]; exact g2, fun i q1 q2 => by rw [bj (by omega)]; exact fr' i q1 q2⟩)))⟩)
        · rw [Iu, List.length_map, List.length_take]
          exact Nat.lt_of_le_of_lt (show min j (Ak t).2.length ≤ 40 by omega) (by decide)
        · rw [Ow hn, if_neg hq0, List.take_succ, hq, List.map_append]
          exact Br g1
   · rintro env s' ⟨e4, rfl, g1, g2, fr'⟩
     rw [Nat.zero_add, oy, List.take_length] at g1
     refine ⟨_, rfl, g2, af (Ac (Ay (bg (Ab (ay (Ab (w_var rfl (Ab (ah (w_var rfl (Aa (Ai (d := Fq q) (by kernel_rfl) (Af ((Lr (n := n) hF o1 oq).imp ?_))))))))))))))⟩
     rintro d s4 ⟨rfl, rfl⟩
     refine Ab (w_var rfl (Af ⟨odt rfl, ?_⟩))
     show lu st _ (fin (stp (0, []) (Ak t) q)) _
     rw [agq fo.nd (agl t)]
     refine ⟨s.length, rfl, fr.len, by rw [bj (by omega)]; exact g1, fr.trans fun i hi => ?_⟩
     by_cases z : i = mm
     · subst z; rw [Br g2, hmm]
     · rw [bj (Ne.symm z)]; exact fr' i hi z
  | pls ts =>
   have hz : szs ts + 2 ≤ k + 1 := by have : sz (.pls ts) = 2 + szs ts := rfl; omega
   have h40' : szs ts ≤ 38 := by have : sz (.pls ts) = 2 + szs ts := rfl; omega
   have hd : dp (.pls ts) = 1 + dps ts := rfl
   have ⟨b1, b2⟩ := Wf.bnd (t := .pls ts) hw h40
   have h0 := lp ts
   have hN : Ns ts ≤ 2 ^ 3900 := Nat.le_trans b1 (Nat.pow_le_pow_right (by decide) (by decide))
   have hM : Ms ts * Ns ts < 2 ^ 8000 := Hc (Nat.le_trans (Nat.le_add_left _ 1) b2) b1 (by decide)
   have ⟨sM, sL⟩ := Uu ts
   obtain ⟨n, rfl⟩ : ∃ n, m = n + 2 := ⟨m - 2, by omega⟩
   refine Bd [some (toD (.pls ts)), none, none, none, none, none, none] (b := Ef) rfl rfl (by decide) rfl ?_
   unfold Ef
   refine Ac (ak (Bb Cd bz (ah (w_var rfl (Aa (Ai hd0 ⟨rfl, rfl⟩)))) ?_))
   rw [decide_eq_false ne2]
   refine Az (ai (af (Ac (ak (Bb Cd Bz (ah (w_var rfl (Aa (Ai hd0 ⟨rfl, rfl⟩)))) ?_)))))
   rw [decide_eq_false ne3]
   refine Az (ai (af (Ac (ak (Iw Cd Cd (ah (w_var rfl (Aa (Ai hd0 ⟨rfl, rfl⟩)))) ?_)))))
   rw [decide_eq_true rfl]
   have E0 : Fr st (st ++ [.dcn []]) := .app _
   refine Dy (ai (af (Ac (Ar (bg (Ab (Aa (Ab (Aa (Af ⟨odt rfl, ⟨odt rfl, af (Ac (Ar (Fb ⟨odt rfl, af (Ac (jh (ah (w_var rfl (Aa (Ai (d := .tup (Cn ts)) (by kernel_rfl) ⟨Cn ts, none, rfl, ?_⟩))))))⟩)))⟩⟩))))))))))
   refine fw (fun j env s => ∃ e2 e4 e5 e6, env = [some (toD (.pls ts)), some (Fq (((Bl ts).take j).foldl itf (0, [])).1), e2, some (.loc st.length), e4, e5, e6] ∧ Fm (Ns ts) (Bi (·.M) ((Bl ts).take j)) (Bi (·.L) ((Bl ts).take j)) (PB (Ci ts [])) (((Bl ts).take j).foldl itf (0, [])) ∧ st.length < s.length ∧ s[st.length]? = some (.dcn (fd (((Bl ts).take j).foldl itf (0, [])).2)) ∧ Fr st s) (fun _ _ _ _ => rfl) ⟨none, none, none, none, rfl, ⟨Bq.zero, by simp [ks], fun b hb => by simp [ks] at hb, fun p hp => by simp at hp, by simp⟩, by simp, by simp [fd], E0⟩ ?_ ?_
   · rintro j d hd1 env s ⟨e2, e4, e5, e6, rfl, fm, hl, hs, fr⟩
     rw [Dh, List.getElem?_map] at hd1
     cases hq : (tms ts)[j]? with
     | none => rw [hq] at hd1; cases hd1
     | some t =>
      rw [hq] at hd1; cases hd1
      have hq0 : (Bl ts)[j]? = some (itT t 0) := by unfold Bl; rw [List.getElem?_map, hq]; rfl
      obtain ⟨w1, w2, w3, w4, w5⟩ := Hd (List.mem_of_getElem? hq)
      have fo := (Fe _ (w1 hw)).mono (N' := Ns ts) (P' := PB (Ci ts [])) w4 (Nat.le_refl _) (Nat.le_refl _) (Oq w5)
      have hM1 : (Bi (·.M) ((Bl ts).take j) + Mm t) * Ns ts < 2 ^ 8000 := by
       have e := Gh (·.M) (Bl ts) j hq0
       have e2 : Bi (·.M) ((Bl ts).take j) + Mm t ≤ Ms ts := by
        show Bi (·.M) ((Bl ts).take j) + (itT t 0).M ≤ Ms ts
        rw [← e, ← sM]; exact Ls _ _ _
       exact Nat.lt_of_le_of_lt (Nat.mul_le_mul_right _ e2) hM
      have hL1 : Bi (·.L) ((Bl ts).take j) + sz t < sizeLine := by
       have e := Gh (·.L) (Bl ts) j hq0
       have e2 : Bi (·.L) ((Bl ts).take j) + sz t ≤ szs ts := by
        show Bi (·.L) ((Bl ts).take j) + (itT t 0).L ≤ szs ts
        rw [← e, ← sL]; exact Ls _ _ _
       exact Nat.lt_of_le_of_lt (Nat.le_trans e2 h40') (by decide)
      have o1 : Ok (((Bl ts).take j).foldl itf (0, [])).1 := (fm.c.mono (Nat.dvd_refl _) (Nat.le_add_right _ (Mm t))).ok h0 hN hM1
      have ⟨o2, _⟩ := Wf.oks (w1 hw) (by omega)
      refine Dg (env' := [some (toD (.pls ts)), some (Fq (((Bl ts).take j).foldl itf (0, [])).1), e2, some (.loc st.length), e4, some (toD t), e6]) rfl ?_
      refine Ac (Nh (ay (Ab (w_var rfl (Af ((ih t (n + 2) s (by omega) (by omega) (w1 hw) (by omega)).imp ?_))))))
      rintro d s2 ⟨mm, rfl, hlen, hmm, fr2⟩
      refine ⟨_, rfl, af (Ac (Ar (ay (Ab (w_var rfl (Ab (w_var rfl (Af ((lr (n := n) hF o1 o2).imp ?_)))))))))⟩
      rintro d s3 ⟨rfl, rfl⟩
      refine ⟨odt rfl, af (Ac ?_)⟩
      have hfl := fo.l
      refine (ags (n := n) (m := mm) hF h0 hN hM1 fo.b fo.nd fo.p pbk (by omega) hmm (fr2.at hs) (by omega) (.zero fm.nd fm.p fm.b fm.l)).imp ?_
      rintro f s4 ⟨e4, rfl, ln, hs4, fr4⟩
      have hl2 := fr2.len
      refine af (ai ⟨_, rfl, some (.loc mm), e4, some (toD t), some (Fq (Ak t).1), ?_, ?_, by omega, ?_, fun i hi => ?_⟩)
      · rw [iw (Bl ts) j hq0]
        show _ = [_, some (Fq ((((Bl ts).take j).foldl itf (0, [])).1 + 1 * (Ak t).1)), _, _, _, _, _]
        rw [Rat.one_mul]
      · rw [iw (Bl ts) j hq0, Gh _ (Bl ts) j hq0, Gh _ (Bl ts) j hq0]
        exact fm.stp fo.nd fo.p (by show Bq _ _ (1 * _); rw [Rat.one_mul]; exact fo.c) (fun p hp => by show Bq _ _ (1 * _); rw [Rat.one_mul]; exact fo.b p hp) fo.l
      · rw [iw (Bl ts) j hq0]; exact hs4
      · rw [fr4 i (by omega)]; exact (fr.trans fr2) i hi
   · rintro env s ⟨e2, e4, e5, e6, rfl, fm, hl, hs, fr⟩
     have hlen : (Cn ts).length = (Bl ts).length := by unfold Bl; rw [Dh, List.length_map, List.length_map]
     rw [hlen, List.take_length, Uv] at fm hs ⊢
     have fl := fm.l
     rw [sL] at fl
     refine af (Ac (Ay (bg (Ab (w_var rfl (Ab (ay (Ab (w_var rfl (Af ((agr (n := n + 1) fm.nd (fun b hb => pbk b (fm.p b hb)) (Nat.lt_of_le_of_lt (show (sumF ts (0, [])).2.length ≤ 38 by omega) (by decide)) hs).imp ?_)))))))))))
     rintro d s2 ⟨rfl, h2, fr2⟩
     exact Af ⟨odt rfl, ⟨_, rfl, Nat.le_of_lt hl, h2, fr.trans fr2⟩⟩
end
theorem set_same {s : Sto} {h : Nat} {c : Cell} (e : s[h]? = some c) : s.set h c = s := by
 apply List.ext_getElem?
 intro i
 by_cases z : h = i
 · subst z
   rw [List.getElem?_set_self (List.getElem?_eq_some_iff.mp e).1, e]
 · rw [List.getElem?_set_ne z]
mutual
theorem Lx : ∀ (t : Tm) (l : List D), Wf t → (∀ d ∈ l, isB d) → ∀ d ∈ bas t l, isB d
 | .num _, l, _, h => h
 | .base e, l, w, h => fun d hd => by
  simp only [bas] at hd
  split at hd
  · exact h d hd
  · rcases List.mem_append.mp hd with z | z
    · exact h d z
    · rw [List.mem_singleton.mp z]; exact w
 | .wgh _ t, l, w, h => Lx t l w.2 h
 | .pls ts, l, w, h => uw ts l w h
theorem uw : ∀ (t : Ts) (l : List D), Wfs t → (∀ d ∈ l, isB d) → ∀ d ∈ Ci t l, isB d
 | .nil, l, _, h => h
 | .cons t r, l, w, h => uw r _ w.2 (Lx t l w.1 h)
end
mutual
theorem Ly : ∀ (t : Tm) (l : List D), (bas t l).length ≤ l.length + sz t
 | .num _, l => by simp [bas]
 | .base e, l => by simp only [bas, sz]; split <;> simp
 | .wgh _ t, l => by have := Ly t l; simp only [bas, sz]; omega
 | .pls ts, l => by have := Uw ts l; simp only [bas, sz]; omega
theorem Uw : ∀ (t : Ts) (l : List D), (Ci t l).length ≤ l.length + szs t
 | .nil, l => by simp [Ci]
 | .cons t r, l => by have := Ly t l; have := Uw r (bas t l); simp only [Ci, szs]; omega
end
mutual
theorem Oy : ∀ (t : Tm) (l : List D), l.Nodup → (bas t l).Nodup
 | .num _, l, h => h
 | .base e, l, h => by
  simp only [bas]
  split
  · exact h
  · rename_i z
    rw [List.nodup_append]
    exact ⟨h, by simp, fun a ha c hc q => by simp at hc; subst hc; exact z (q ▸ ha)⟩
 | .wgh _ t, l, h => Oy t l h
 | .pls ts, l, h => ux ts l h
theorem ux : ∀ (t : Ts) (l : List D), l.Nodup → (Ci t l).Nodup
 | .nil, l, h => h
 | .cons t r, l, h => ux r _ (Oy t l h)
end
theorem Ux : ∀ (ts : Ts) (l : List D) , Ci ts l = (tms ts).foldl (fun l t => bas t l) l
 | .nil, l => rfl
 | .cons t r, l => by simp only [Ci, tms, List.foldl_cons]; exact Ux r _
theorem uy : ∀ (l : List Tm) (j : Nat), ((l.take j).map sz).sum ≤ (l.map sz).sum
 | [], j => by simp
 | t :: r, 0 => by simp
 | t :: r, j + 1 => by have := uy r j; simp only [List.take_succ_cons, List.map_cons, List.sum_cons]; omega
theorem set_set {s : Sto} {f : Nat} {a b : Cell} : (s.set f a).set f b = s.set f b := List.set_set ..
section
variable {FF : Nat}
theorem agu : ∀ (k : Nat) (t : Tm) (m : Nat) (st : Sto) (f : Nat) (l : List D), sz t ≤ k → dp t + 1 ≤ m → Wf t → st[f]? = some (.lst l) → (∀ d ∈ l, isB d) → l.length + sz t ≤ 80 → Wr (C FF m 22 [toD t, .loc f] st) fun d s => d = .non ∧ s = st.set f (.lst (bas t l)) := by
 intro k
 induction k with
 | zero => intro t m st f l h; have := Hb t; omega
 | succ k ih =>
  intro t m st f l hk hm hw hf hb hl
  obtain ⟨m, rfl⟩ : ∃ m', m = m' + 1 := ⟨m - 1, by omega⟩
  cases t with
  | num q =>
   refine Bd [some (toD (.num q)), some (.loc f), none] (b := Eg) rfl rfl (by decide) rfl ?_
   unfold Eg
   refine Ac (ak (Bb bz Bz (ah (w_var rfl (Aa (Ai hd0 ⟨rfl, rfl⟩)))) ?_))
   rw [decide_eq_false ne4]
   refine Az (Ac (ak (Bb bz Cd (ah (w_var rfl (Aa (Ai hd0 ⟨rfl, rfl⟩)))) ?_)))
   rw [decide_eq_false ne5]
   refine Az (Ac (ak (Gu (Iw bz bz (ah (w_var rfl (Aa (Ai hd0 ⟨rfl, rfl⟩)))) ?_))))
   rw [decide_eq_true rfl]
   refine Dy (Az (ai (af (ai (af (ai (af (ai ⟨rfl, ?_⟩))))))))
   exact (set_same hf).symm
  | base d =>
   obtain ⟨w, rest, rfl, hok, n1, n2, n3⟩ := Lw hw
   have hok40 : okN 40 (.tup (w :: rest)) = true := Gs (by decide) (show okN 8 _ = true from hw.1)
   have hall : l.all (okN 40) = true := List.all_eq_true.mpr fun d hd => by
    have h := hb d hd
    obtain ⟨v, r, rfl, _⟩ := h.2
    exact Gs (by decide) (show okN 8 _ = true from h.1)
   refine Bd [some (.tup (w :: rest)), some (.loc f), none] (b := Eg) rfl rfl (by decide) rfl ?_
   unfold Eg
   refine Ac (ak (Bb hok Bz (ah (w_var rfl (Aa (Ai hd0 ⟨rfl, rfl⟩)))) ?_))
   rw [decide_eq_false n2]
   refine Az (Ac (ak (Bb hok Cd (ah (w_var rfl (Aa (Ai hd0 ⟨rfl, rfl⟩)))) ?_)))
   rw [decide_eq_false n3]
   refine Az (Ac (ak (Gu (Iw hok bz (ah (w_var rfl (Aa (Ai hd0 ⟨rfl, rfl⟩)))) ?_))))
   rw [decide_eq_false n1]
   refine ib (Bk (w_var rfl (w_var rfl (aaw (Bp hf) hok40 hall ⟨_, rfl, ?_⟩))))
   simp only [bas]
   by_cases h : D.tup (w :: rest) ∈ l
   · rw [decide_eq_true h, if_pos h]
     refine Dy (ai (af (ai (af (ai (af (ai ⟨rfl, (set_same hf).symm⟩)))))))
   · rw [decide_eq_false h, if_neg h]
     refine ib (Ac (Fv (dg (w_var rfl ⟨Ic hf, Ab (w_var rfl (Af (Kl hf (Nat.lt_of_le_of_lt (show l.length ≤ 80 by omega) (by decide)) (af (ai (af (ai (af (ai (af (ai ?_)))))))))))⟩))))
     exact ⟨rfl, rfl⟩
  | wgh q t =>
   have hd : dp (.wgh q t) = 1 + dp t := rfl
   have hs : sz (.wgh q t) = 2 + sz t := rfl
   refine Bd [some (toD (.wgh q t)), some (.loc f), none] (b := Eg) rfl rfl (by decide) rfl ?_
   unfold Eg
   refine Ac (ak (Bb Bz Bz (ah (w_var rfl (Aa (Ai hd0 ⟨rfl, rfl⟩)))) ?_))
   rw [decide_eq_true rfl]
   refine Cp (Ac (Fv (ay (Ab (ah (w_var rfl (Aa (Ai (d := toD t) (by kernel_rfl) (Ab (w_var rfl (Af ((ih t m st f l (by omega) (by omega) hw.2 hf hb (by omega)).imp ?_))))))))))))
   rintro d s ⟨rfl, rfl⟩
   exact af (ai (af (ai ⟨rfl, rfl⟩)))
  | pls ts =>
   have hd : dp (.pls ts) = 1 + dps ts := rfl
   have hs : sz (.pls ts) = 2 + szs ts := rfl
   refine Bd [some (toD (.pls ts)), some (.loc f), none] (b := Eg) rfl rfl (by decide) rfl ?_
   unfold Eg
   refine Ac (ak (Bb Cd Bz (ah (w_var rfl (Aa (Ai hd0 ⟨rfl, rfl⟩)))) ?_))
   rw [decide_eq_false ne3]
   refine Az (Ac (ak (Bb Cd Cd (ah (w_var rfl (Aa (Ai hd0 ⟨rfl, rfl⟩)))) ?_)))
   rw [decide_eq_true rfl]
   refine Cp (Ac (jh (ah (w_var rfl (Aa (Ai (d := .tup (Cn ts)) (by kernel_rfl) ⟨Cn ts, none, rfl, ?_⟩))))))
   refine fw (fun j env s => ∃ e2 l', env = [some (toD (.pls ts)), some (.loc f), e2] ∧ l' = ((tms ts).take j).foldl (fun l t => bas t l) l ∧ s = st.set f (.lst l') ∧ (∀ d ∈ l', isB d) ∧ l'.length ≤ l.length + (((tms ts).take j).map sz).sum) (fun _ _ _ _ => rfl) ⟨none, l, rfl, rfl, (set_same hf).symm, hb, by simp⟩ ?_ ?_
   · rintro j d hd1 env s ⟨e2, l', rfl, hl', rfl, hb', hlen⟩
     rw [Dh, List.getElem?_map] at hd1
     cases hq : (tms ts)[j]? with
     | none => rw [hq] at hd1; cases hd1
     | some t =>
      rw [hq] at hd1; cases hd1
      obtain ⟨w1, w2, w3, w4, w5⟩ := Hd (List.mem_of_getElem? hq)
      have et : (tms ts).take (j + 1) = (tms ts).take j ++ [t] := by rw [List.take_succ, hq]; rfl
      have hsum : (((tms ts).take j).map sz).sum + sz t ≤ szs ts := by
       have := uy (tms ts) (j + 1)
       rw [et] at this
       rw [← (Lu ts).2]
       simpa using this
      refine Dg (env' := [some (toD (.pls ts)), some (.loc f), some (toD t)]) rfl ?_
      refine Ac (Fv (ay (Ab (w_var rfl (Ab (w_var rfl (Af ((ih t m _ f l' (by omega) (by omega) (w1 hw) (Br hf) hb' (by omega)).imp ?_))))))))
      rintro d s ⟨rfl, rfl⟩
      refine af (ai ⟨_, rfl, _, bas t l', rfl, ?_, by rw [set_set], Lx t l' (w1 hw) hb', ?_⟩)
      · rw [et, List.foldl_append, ← hl']; rfl
      · have := Ly t l'
        rw [et, List.map_append, List.sum_append]
        simp only [List.map_cons, List.map_nil, List.sum_cons, List.sum_nil]
        omega
   · rintro env s ⟨e2, l', rfl, hl', rfl, hb', hlen⟩
     rw [Dh, List.length_map, List.take_length, ← Ux] at hl'
     refine af (ai (af (ai (af (ai ⟨rfl, ?_⟩)))))
     rw [hl']; rfl
end
def Du : Wt → Nat
 | [] => 1
 | p :: r => p.2.den * Du r
theorem oz : ∀ vs, 0 < Du vs
 | [] => Nat.one_pos
 | p :: r => Nat.mul_pos (Nat.pos_of_ne_zero p.2.den_nz) (oz r)
theorem Uy : ∀ {vs : Wt} {p : D × Rat}, p ∈ vs → p.2.den ∣ Du vs
 | q :: r, p, h => by
  rcases List.mem_cons.mp h with rfl | h
  · exact Nat.dvd_mul_right _ _
  · exact Nat.dvd_trans (Uy h) (Nat.dvd_mul_left _ _)
theorem uz : ∀ {vs : Wt}, (∀ p ∈ vs, Sq p.2) → Du vs ≤ X ^ vs.length
 | [], _ => Nat.le_refl _
 | p :: r, h => by
  show p.2.den * Du r ≤ X ^ (r.length + 1)
  rw [Nat.pow_succ', ]
  exact Nat.mul_le_mul (h p List.mem_cons_self).1 (uz fun q hq => h q (List.mem_cons_of_mem _ hq))
theorem Uz {vs : Wt} (h : ∀ p ∈ vs, Sq p.2) (b : D) : Bq (Du vs) X (get vs b) := by
 refine agj (fun p hp => ?_) b
 exact (h p hp).bq.mono (Uy hp) (Nat.le_refl _)
def gi (v : D → Rat) (l : List Tm) (a : Rat) : Rat := l.foldl (fun a t => a + val v t) a
theorem va (v : D → Rat) : ∀ (ts : Ts) (a : Rat), vals v ts a = gi v (tms ts) a
 | .nil, a => rfl
 | .cons t r, a => by simp only [vals, tms, gi, List.foldl_cons]; exact va v r _
mutual
theorem ju {v : D → Rat} {V : Nat} (hv : ∀ b, Bq V X (v b)) : ∀ t, Wf t → Bq (Nn t * V) (Mm t) (val v t)
 | .num q, h => h.bq.mono (Nat.dvd_mul_right _ _) (Nat.le_refl _)
 | .base d, h => (hv d).mono (Nat.dvd_mul_left _ _) (Nat.le_refl _)
 | .wgh q t, h => (h.1.bq.mul (ju hv t h.2)).mono (by show q.den * (Nn t * V) ∣ q.den * Nn t * V; rw [Nat.mul_assoc]; exact Nat.dvd_refl _) (Nat.le_refl _)
 | .pls ts, h => by
  have := Va hv ts h (Nat.dvd_refl _) (a := 0) (M := 0) Bq.zero
  exact this.mono (Nat.dvd_refl _) (by show 0 + Ms ts ≤ 1 + Ms ts; omega)
theorem Va {v : D → Rat} {V : Nat} (hv : ∀ b, Bq V X (v b)) : ∀ {N M : Nat} {a : Rat} (ts : Ts), Wfs ts → Ns ts ∣ N → Bq (N * V) M a → Bq (N * V) (M + Ms ts) (vals v ts a)
 | N, M, a, .nil, _, _, h => h
 | N, M, a, .cons t r, w, hN, h => by
  have d1 : Nn t ∣ N := Nat.dvd_trans (Nat.dvd_mul_right _ _) hN
  have d2 : Ns r ∣ N := Nat.dvd_trans (Nat.dvd_mul_left _ _) hN
  have h1 := h.add ((ju hv t w.1).mono (Nat.mul_dvd_mul_right d1 V) (Nat.le_refl _))
  have h2 := Va hv r w.2 d2 h1
  rw [Nat.add_assoc] at h2
  exact h2
end
theorem agv {v : D → Rat} {V : Nat} (hv : ∀ b, Bq V X (v b)) {ts : Ts} (hw : Wfs ts) (j : Nat) : Bq (Ns ts * V) (Ms ts) (gi v ((tms ts).take j) 0) := by
 have : ∀ (l : List Tm) (M : Nat) (a : Rat), (∀ t ∈ l, t ∈ tms ts) → Bq (Ns ts * V) M a → Bq (Ns ts * V) (M + (l.map Mm).sum) (gi v l a) := by
  intro l
  induction l with
  | nil => intro M a _ h; exact h
  | cons t r ih =>
   intro M a hl h
   obtain ⟨w1, _, _, w4, _⟩ := Hd (hl t List.mem_cons_self)
   have h1 := h.add ((ju hv t (w1 hw)).mono (Nat.mul_dvd_mul_right w4 V) (Nat.le_refl _))
   have h2 := ih _ _ (fun u hu => hl u (List.mem_cons_of_mem _ hu)) h1
   rw [Nat.add_assoc] at h2
   exact h2
 have h := this ((tms ts).take j) 0 0 (fun t ht => List.mem_of_mem_take ht) Bq.zero
 refine h.mono (Nat.dvd_refl _) ?_
 rw [Nat.zero_add, ← (Lu ts).1]
 clear h this
 generalize tms ts = l
 induction l generalizing j with
 | nil => simp
 | cons t r ih => cases j with
  | zero => simp
  | succ j => have := ih j; simp only [List.take_succ_cons, List.map_cons, List.sum_cons]; omega
section
variable {FF : Nat}
theorem Oz {v : D → Rat} {V : Nat} (hv : ∀ b, Bq V X (v b)) (hV0 : 0 < V) (hV : V ≤ 2 ^ 1600) {t : Tm} (hw : Wf t) (h40 : sz t ≤ 40) {q : Rat} (h : Bq (Nn t * V) (Mm t) q) : Ok q := by
 have ⟨b1, b2⟩ := Wf.bnd hw h40
 have hN : Nn t * V ≤ 2 ^ 3200 := by have := Nat.mul_le_mul b1 hV; rwa [← Nat.pow_add] at this
 exact h.ok (Nat.mul_pos (ir t) hV0) (Nat.le_trans hN (Nat.pow_le_pow_right (by decide) (by decide))) (Hc b2 hN (by decide))
theorem agw (hF : 2 ^ 8000 ≤ FF) {vs : Wt} {vd : Nat} (hs : ∀ p ∈ vs, Sq p.2) (hV : Du vs ≤ 2 ^ 1600) : ∀ (k : Nat) (t : Tm) (m : Nat) (st : Sto), sz t ≤ k → dp t + 3 ≤ m → Wf t → sz t ≤ 40 → st[vd]? = some (.dcn (fd vs)) → (∀ d ∈ bas t [], d ∈ ks vs) → Wr (C FF m 21 [toD t, .loc vd] st) fun d s => d = Fq (val (get vs) t) ∧ s = st := by
 have hv := Uz hs
 have hV0 := oz vs
 intro k
 induction k with
 | zero => intro t m st h; have := Hb t; omega
 | succ k ih =>
  intro t m st hk hm hw h40 hvd hb
  obtain ⟨m, rfl⟩ : ∃ m', m = m' + 1 := ⟨m - 1, by omega⟩
  cases t with
  | num q =>
   refine Bd [some (toD (.num q)), some (.loc vd), none, none] (b := eg) rfl rfl (by decide) rfl ?_
   unfold eg
   refine Ac (ak (Bb bz bz (ah (w_var rfl (Aa (Ai hd0 ⟨rfl, rfl⟩)))) ?_))
   rw [decide_eq_true rfl]
   refine Cp (Ac (Ay (ah (w_var rfl (Aa (Ai (d := Fq q) (by kernel_rfl) ?_))))))
   exact ⟨rfl, rfl⟩
  | base d =>
   obtain ⟨w, rest, rfl, hok, n1, n2, n3⟩ := Lw hw
   refine Bd [some (.tup (w :: rest)), some (.loc vd), none, none] (b := eg) rfl rfl (by decide) rfl ?_
   unfold eg
   refine Ac (ak (Bb hok bz (ah (w_var rfl (Aa (Ai hd0 ⟨rfl, rfl⟩)))) ?_))
   rw [decide_eq_false n1]
   refine Az (ai (af (Ac (ak (Bb hok Bz (ah (w_var rfl (Aa (Ai hd0 ⟨rfl, rfl⟩)))) ?_)))))
   rw [decide_eq_false n2]
   refine Az (ai (af (Ac (ak (Iw hok Cd (ah (w_var rfl (Aa (Ai hd0 ⟨rfl, rfl⟩)))) ?_)))))
   rw [decide_eq_false n3]
   obtain ⟨x, hx⟩ := Om (hb (.tup (w :: rest)) (by simp [bas]))
   refine ib (Ac (Ay (ah (w_var rfl (w_var rfl (sm hvd hw.1 (by rw [gh, hx]; rfl) ⟨?_, rfl⟩))))))
   show Fq x = Fq (get vs _)
   unfold get
   rw [hx]; rfl
  | wgh q t =>
   have hd : dp (.wgh q t) = 1 + dp t := rfl
   have hsz : sz (.wgh q t) = 2 + sz t := rfl
   obtain ⟨n, rfl⟩ : ∃ n, m = n + 2 := ⟨m - 2, by omega⟩
   refine Bd [some (toD (.wgh q t)), some (.loc vd), none, none] (b := eg) rfl rfl (by decide) rfl ?_
   unfold eg
   refine Ac (ak (Bb Bz bz (ah (w_var rfl (Aa (Ai hd0 ⟨rfl, rfl⟩)))) ?_))
   rw [decide_eq_false ne1]
   refine Az (ai (af (Ac (ak (Bb Bz Bz (ah (w_var rfl (Aa (Ai hd0 ⟨rfl, rfl⟩)))) ?_)))))
   rw [decide_eq_true rfl]
   refine Cp (Ac (Ay (ay (Ab (ah (w_var rfl (Aa (Ai (d := Fq q) (by kernel_rfl) (Ab (ay (Ab (ah (w_var rfl (Aa (Ai (d := toD t) (by kernel_rfl) (Ab (w_var rfl (Af ((ih t (n + 2) st (by omega) (by omega) hw.2 (by omega) hvd hb).imp ?_)))))))))))))))))))
   rintro d s ⟨rfl, rfl⟩
   refine Af ((Lr (n := n) hF hw.1.ok (Oz hv hV0 hV hw.2 (by omega) (ju hv t hw.2))).imp ?_)
   rintro d s ⟨rfl, rfl⟩
   exact ⟨rfl, rfl⟩
  | pls ts =>
   have hd : dp (.pls ts) = 1 + dps ts := rfl
   have hsz : sz (.pls ts) = 2 + szs ts := rfl
   obtain ⟨n, rfl⟩ : ∃ n, m = n + 2 := ⟨m - 2, by omega⟩
   refine Bd [some (toD (.pls ts)), some (.loc vd), none, none] (b := eg) rfl rfl (by decide) rfl ?_
   unfold eg
   refine Ac (ak (Bb Cd bz (ah (w_var rfl (Aa (Ai hd0 ⟨rfl, rfl⟩)))) ?_))
   rw [decide_eq_false ne2]
   refine Az (ai (af (Ac (ak (Bb Cd Bz (ah (w_var rfl (Aa (Ai hd0 ⟨rfl, rfl⟩)))) ?_)))))
   rw [decide_eq_false ne3]
   refine Az (ai (af (Ac (ak (Iw Cd Cd (ah (w_var rfl (Aa (Ai hd0 ⟨rfl, rfl⟩)))) ?_)))))
   rw [decide_eq_true rfl]
   refine Dy (ai (af (Ac (Ar (bg (Ab (Aa (Ab (Aa (Af ⟨odt rfl, ⟨odt rfl, af (Ac (jh (ah (w_var rfl (Aa (Ai (d := .tup (Cn ts)) (by kernel_rfl) ⟨Cn ts, none, rfl, ?_⟩))))))⟩⟩))))))))))
   refine fw (fun j env s => ∃ e3, env = [some (toD (.pls ts)), some (.loc vd), some (Fq (gi (get vs) ((tms ts).take j) 0)), e3] ∧ s = st) (fun _ _ _ _ => rfl) ⟨none, rfl, rfl⟩ ?_ ?_
   · rintro j d hd1 env s ⟨e3, rfl, rfl⟩
     rw [Dh, List.getElem?_map] at hd1
     cases hq : (tms ts)[j]? with
     | none => rw [hq] at hd1; cases hd1
     | some t =>
      rw [hq] at hd1; cases hd1
      obtain ⟨w1, w2, w3, w4, w5⟩ := Hd (List.mem_of_getElem? hq)
      refine Dg (env' := [some (toD (.pls ts)), some (.loc vd), some (Fq (gi (get vs) ((tms ts).take j) 0)), some (toD t)]) rfl ?_
      refine Ac (Ar (ay (Ab (w_var rfl (Ab (ay (Ab (w_var rfl (Ab (w_var rfl (Af ((ih t (n + 2) s (by omega) (by omega) (w1 hw) (by omega) hvd fun d z => hb d (w5 d z)).imp ?_))))))))))))
      rintro d s2 ⟨rfl, rfl⟩
      have o1 : Ok (gi (get vs) ((tms ts).take j) 0) := Oz (t := .pls ts) hv hV0 hV hw h40 ((agv hv hw j).mono (Nat.dvd_refl _) (Nat.le_add_left _ 1))
      have o2 := Oz hv hV0 hV (w1 hw) (by omega) (ju hv t (w1 hw))
      refine Af ((lr (n := n) hF o1 o2).imp ?_)
      rintro d s2 ⟨rfl, rfl⟩
      refine ⟨odt rfl, af (ai ⟨_, rfl, some (toD t), ?_, rfl⟩)⟩
      rw [List.take_succ, hq]
      unfold gi
      rw [List.foldl_append]
      rfl
   · rintro env s ⟨e3, rfl, rfl⟩
     rw [Dh, List.length_map, List.take_length, ← va]
     exact af (Ac (Ay (w_var rfl ⟨rfl, rfl⟩)))
end
theorem agx {a : Int} {b : Nat} (hb : b ≠ 0) (h1 : a.natAbs ≤ X) (h2 : b ≤ X) : Sq (mkRat a b) := by
 constructor
 · rw [Rat.den_mkRat, if_neg hb]
   exact Nat.le_trans (Nat.div_le_self _ _) h2
 · rw [Rat.num_mkRat, if_neg hb]
   refine Nat.le_trans ?_ h1
   have hd : ((b.gcd a.natAbs : Nat) : Int) ∣ a := Int.dvd_natAbs.mp (Int.natCast_dvd_natCast.mpr (Nat.gcd_dvd_right _ _))
   rw [Int.natAbs_ediv_of_dvd hd, Int.natAbs_natCast]
   exact Nat.div_le_self _ _
theorem dn (x : Int) {k : Int} (h : 0 < k) : 0 ≤ x.fmod k ∧ x.fmod k < k := ⟨Int.fmod_nonneg_of_pos _ h, Int.fmod_lt_of_pos _ h⟩
theorem ix4 {a b c d : D} {i : Int} (h : 0 ≤ i ∧ i < 4) : ∃ j, (j = a ∨ j = b ∨ j = c ∨ j = d) ∧ L2.atI [a, b, c, d] i = some j := by
 obtain ⟨n, rfl⟩ := Int.eq_ofNat_of_zero_le h.1
 have : n < 4 := by omega
 match n, this with
 | 0, _ => exact ⟨a, .inl rfl, rfl⟩
 | 1, _ => exact ⟨b, .inr (.inl rfl), rfl⟩
 | 2, _ => exact ⟨c, .inr (.inr (.inl rfl)), rfl⟩
 | 3, _ => exact ⟨d, .inr (.inr (.inr rfl)), rfl⟩
theorem ix2 {a b : D} {i : Int} (h : 0 ≤ i ∧ i < 2) : ∃ j, (j = a ∨ j = b) ∧ L2.atI [a, b] i = some j := by
 obtain ⟨n, rfl⟩ := Int.eq_ofNat_of_zero_le h.1
 have : n < 2 := by omega
 match n, this with
 | 0, _ => exact ⟨a, .inl rfl, rfl⟩
 | 1, _ => exact ⟨b, .inr rfl, rfl⟩
theorem He {k : Int} (h1 : k ≠ 0) (h2 : k.natAbs < 2 ^ 8000) : Dp k := ⟨h1, h2⟩
section
variable {FF n : Nat} {st : Sto}
theorem Pa (hF : 2 ^ 8000 ≤ FF) (x : Int) : Wr (C FF (n + 2) 14 [.int x] st) fun d s => ∃ q, d = Fq q ∧ Sq q ∧ Fr st s := by
 refine Bd [some (.int x), none] (b := Kw) rfl rfl (by decide) rfl ?_
 unfold Kw
 obtain ⟨j4, h4, e4⟩ := ix4 (a := .int 3) (b := .int 6) (c := .int 6) (d := .int (10 ^ 12)) (dn x (k := 4) (by decide))
 obtain ⟨k4, rfl, hk4⟩ : ∃ k : Int, j4 = .int k ∧ 0 < k ∧ k ≤ 10 ^ 12 := by
  rcases h4 with rfl | rfl | rfl | rfl
  · exact ⟨3, rfl, by decide, by decide⟩
  · exact ⟨6, rfl, by decide, by decide⟩
  · exact ⟨6, rfl, by decide, by decide⟩
  · exact ⟨10 ^ 12, rfl, by decide, by decide⟩
 refine Ac (Ar (aj (aj (w_var rfl (Aa (Ds (He (by decide) (by decide)) (ah (cy (Ab (Aa (Ab (Aa (Ab (Aa (Ab (aj (Aa (Aa (Fw (by decide) (Af ⟨odt rfl, aj (w_var rfl (Aa (cc (by decide) (ck (Bp bf) e4 (cc (by omega) ⟨odt rfl, af ?_⟩)))))⟩))))))))))))))))))))
 obtain ⟨j2, h2, e2⟩ := ix2 (a := .int 5) (b := .int (10 ^ 12)) (dn (x.fdiv 89) (k := 2) (by decide))
 obtain ⟨k2, rfl, hk2⟩ : ∃ k : Int, j2 = .int k ∧ 0 < k ∧ k ≤ 10 ^ 12 := by
  rcases h2 with rfl | rfl
  · exact ⟨5, rfl, by decide, by decide⟩
  · exact ⟨10 ^ 12, rfl, by decide, by decide⟩
 have r1 := dn (x.fdiv 16) (k := k4) hk4.1
 have r2 := dn (x.fdiv 8) (k := 2) (by decide)
 have r3 := dn (x.fdiv 4) (k := 2) (by decide)
 have r4 := dn (x.fdiv 97) (k := k2) hk2.1
 have s64 : ∀ i : Int, -(10 ^ 13) ≤ i → i ≤ 10 ^ 13 → Fh i := fun i g1 g2 => ⟨by omega, by omega⟩
 refine Ac (Ay (ay (Ab (aj (w_var rfl (aj (Aa (aj (aj (aj (w_var rfl (Aa (Ds (He (by decide) (by decide)) (Aa (cc (by decide) (Aa (rq (s64 _ (by decide) (by decide)) (Rp (kl (s64 _ (by omega) (by omega)) (Ab (aj (Aa (aj (aj (aj (w_var rfl (Aa (Ds (He (by decide) (by decide)) (Aa (cc (by decide) (aj (aj (w_var rfl (Aa (Ds (He (by decide) (by decide)) (ah (cy (Ab (Aa (Ab (aj (Aa (Aa (Fw (by decide) (Af ⟨odt rfl, aj (aj (w_var rfl (Aa (Ds (He (by decide) (by decide)) (Aa (cc (by decide) (ck (Bp bf) e2 (cc (by omega) (kl (s64 _ (by omega) (by omega)) (Cv (Af ?_)))))))))))⟩)))))))))))))))))))))))))))))))))))))))))))))
 generalize (x.fdiv 16).fmod k4 = a at *
 generalize (x.fdiv 8).fmod 2 = b at *
 generalize (x.fdiv 4).fmod 2 = c at *
 generalize (x.fdiv 97).fmod k2 = e at *
 have hm1 : 0 ≤ c * e ∧ c * e < 10 ^ 12 := by
  have : c = 0 ∨ c = 1 := by omega
  rcases this with rfl | rfl <;> constructor <;> omega
 have hm2 : (a * (1 - b * 2)).natAbs < 10 ^ 12 := by
  have : b = 0 ∨ b = 1 := by omega
  rcases this with rfl | rfl <;> omega
 obtain ⟨u, hu⟩ := Int.eq_ofNat_of_zero_le hm1.1
 have hX : X = 10 ^ 12 := rfl
 rw [hu, show (1 : Int) + (u : Int) = ((1 + u : Nat) : Int) by omega]
 refine (ug (n := n) (a := a * (1 - b * 2)) (b := 1 + u) (by omega) (Nat.lt_of_le_of_lt (show 1 + u ≤ 10 ^ 12 by omega) (by decide)) hF).imp ?_
 rintro d s ⟨rfl, rfl⟩
 refine ⟨_, rfl, agx (by omega) (by omega) (by omega), ?_⟩
 exact (Fr.app _).trans (.app _)
theorem agy {xs : List Int} {k : Nat} (h : st[0]? = some (.frz (xs.map D.int))) : Wr (C FF (n + 1) 8 [.loc 0, .int k] st) fun d s => ∃ i, d = .int i ∧ s = st := by
 refine Bd [some (.loc 0), some (.int k)] (b := Ks) rfl rfl (by decide) rfl ?_
 unfold Ks
 have hl : aq st 0 = some (xs.map D.int) := by simp only [aq, h]
 refine Ac (ak (Bk (w_var rfl (dk (Ab (w_var rfl (Af (jj hl (Ji ⟨_, rfl, fun z => ?_, fun z => ?_⟩)))))))))
 · have z := odt z
   rw [List.length_map] at z
   have hk : k < xs.length := by omega
   refine Ac (Ay (ah (w_var rfl (w_var rfl (ck hl (L2.Jy (j := k) (v := .int xs[k]) (by simp [hk])) ?_)))))
   exact ⟨_, rfl, rfl⟩
 · exact ai (af (Ac (Ay (Aa ⟨0, rfl, rfl⟩))))
theorem Pb {j i : Nat} {d : D} (h : (de 0 j)[i]? = some d) : d = .int i ∧ i < j := by
 unfold de at h
 rw [List.getElem?_map] at h
 cases e : (List.range j)[i]? with
 | none => rw [e] at h; cases h
 | some v =>
  rw [e] at h
  obtain ⟨hi, ev⟩ := List.getElem?_eq_some_iff.mp e
  rw [List.getElem_range] at ev
  subst ev
  cases h
  exact ⟨by simp, by simpa using hi⟩
theorem agz (c : Int) : Wr (C FF (n + 1) 9 [.int c, .int 5] st) fun d s => ∃ (l : Nat) (is : List Int), d = .loc l ∧ st.length ≤ l ∧ s[l]? = some (.lst (is.map D.int)) ∧ is.length = 5 ∧ Fr st s := by
 refine Bd [some (.int c), some (.int 5), none, none, none, none] (b := ku) rfl rfl (by decide) rfl ?_
 unfold ku
 have E0 : Fr st (st ++ [.lst []]) := .app _
 refine Ac (Ar (cy (Af ⟨odt rfl, odt rfl, af (Ac (ak (Bk (w_var rfl (aj (Aa (Aa (Fw (by decide) (aau ⟨_, rfl, fun z => ?_, fun z => ?_⟩)))))))))⟩)))
 · refine Ac (Ar (aj (w_var rfl (aj (Aa (Aa (Fw (by decide) (Rp ⟨odt rfl, af (Ac (Ni (Ab (w_var rfl (Af ⟨de 0 5, rfl, ?_⟩)))))⟩))))))))
   refine fw (fun j env s => ∃ (r : Int) (e4 : Option D) (is : List Int), env = [some (.int c), some (.int 5), some (.loc st.length), some (.int r), e4, none] ∧ s[st.length]? = some (.lst (is.map D.int)) ∧ is.length = j ∧ Fr st s) (fun _ _ _ _ => rfl) ⟨_, none, [], rfl, bf, rfl, E0⟩ ?_ ?_
   · rintro j d hd env s ⟨r, e4, is, rfl, hs, hi, fr⟩
     obtain ⟨rfl, hj⟩ := Pb hd
     refine Dg (env' := [some (.int c), some (.int 5), some (.loc st.length), some (.int r), some (.int j), none]) rfl ?_
     refine Ac (Fv (dg (w_var rfl ⟨Ic hs, Ab (aj (w_var rfl (aj (Aa (Aa (Fw (by decide) (cc (by decide) (Af (Kl hs ?_ (af (Ac (Ar (aj (w_var rfl (aj (Aa (Aa (Fw (by decide) (Ds (He (by decide) (by decide)) ⟨odt rfl, af (ai ⟨_, rfl, _, _, is ++ [r.fmod (10 ^ Int.toNat 45)], rfl, ?_, by simp [hi], fr.set (Nat.le_refl _) _⟩)⟩)))))))))))))))))))⟩)))
     · rw [List.length_map]
       exact Nat.lt_of_le_of_lt (show is.length ≤ 5 by omega) (by decide)
     · rw [Br hs, List.map_append]; rfl
   · rintro env s ⟨r, e4, is, rfl, hs, hi, fr⟩
     exact af (Ac (Ay (w_var rfl ⟨_, is, rfl, Nat.le_refl _, hs, hi, fr⟩)))
 · refine ai (af (Ac (Ar (aj (aj (w_var rfl (aj (aj (Aa (Aa (Fw (by decide) (Aa (Cv (cc (by decide) (Aa (Cv ⟨odt rfl, af (Ac (Ni (Ab (aj (w_var rfl (Aa (Cv (Af ⟨de 0 7, rfl, ?_⟩))))))))⟩))))))))))))))))
   have r0 := dn c (k := 10 ^ 18 + 9) (by decide)
   refine fw (fun j env s => ∃ (r : Int) (e4 : Option D) (is : List Int), env = [some (.int c), some (.int 5), some (.loc st.length), none, e4, some (.int r)] ∧ 0 ≤ r ∧ r < 2 ^ 62 ∧ s[st.length]? = some (.lst (is.map D.int)) ∧ is.length = j ∧ Fr st s) (fun _ _ _ _ => rfl) ⟨_, none, [], rfl, ?_, ?_, bf, rfl, E0⟩ ?_ ?_
   · show 0 ≤ c.fmod (10 ^ 18 + 9) + 48271; omega
   · show c.fmod (10 ^ 18 + 9) + 48271 < 2 ^ 62; omega
   · rintro j d hd env s ⟨r, e4, is, rfl, g1, g2, hs, hi, fr⟩
     obtain ⟨rfl, hj⟩ := Pb hd
     have hsm : Fh r := ⟨by omega, by omega⟩
     have r1 := dn (r * r + 48271 * r + j) (k := 10 ^ Int.toNat 18 + 9) (by decide)
     refine Dg (env' := [some (.int c), some (.int 5), some (.loc st.length), none, some (.int j), some (.int r)]) rfl ?_
     refine Ac (Ar (aj (aj (aj (aj (w_var rfl (w_var rfl (kl hsm (aj (Aa (w_var rfl (rq hsm (Cv (w_var rfl (Cv (aj (aj (Aa (Aa (Fw (by decide) (Aa (Cv (cc (by decide) ⟨odt rfl, af (Ac (Fv (dg (w_var rfl ⟨Ic hs, Ab (w_var rfl (Af (Kl hs ?_ (af (ai ⟨_, rfl, _, _, is ++ [(r * r + 48271 * r + j).fmod (10 ^ Int.toNat 18 + 9)], rfl, ?_, ?_, ?_, by simp [hi], fr.set (Nat.le_refl _) _⟩)))))⟩))))⟩)))))))))))))))))))))))
     · rw [List.length_map]
       exact Nat.lt_of_le_of_lt (show is.length ≤ 7 by omega) (by decide)
     · exact r1.1
     · exact Int.lt_trans r1.2 (by decide)
     · rw [Br hs, List.map_append]; rfl
   · rintro env s ⟨r, e4, is, rfl, g1, g2, hs, hi, fr⟩
     refine af (Ac (Ay (ia (w_var rfl (gu (Aa ⟨2, rfl, Hz (Nm (lo := some 2) (hi := none) rfl (Bp hs) ⟨_, is.drop 2, rfl, fr.len, ?_, ?_, fr.trans (.app _)⟩)⟩))))))
     · have hi : is.length = 7 := hi
       rw [bf]
       congr 2
       match is, hi with
       | [a, b, c, d, e, f, g], _ => rfl
     · have hi : is.length = 7 := hi
       simp [hi]
end
mutual
def di : D → Nat
 | .tup ds => 1 + ff ds
 | _ => 0
def ff : List D → Nat
 | [] => 0
 | d :: r => max (di d) (ff r)
end
mutual
def szD : D → Nat
 | .tup ds => 1 + szL ds
 | _ => 0
def szL : List D → Nat
 | [] => 0
 | d :: r => szD d + szL r
end
def okG : Nat → D → Bool
 | _, .int _ => true
 | _, .str x => PyData.canLay0 (.str x)
 | n + 1, .tup ds => decide (ds.length ≤ 8) && ds.all (okG n)
 | _, _ => false
theorem iy : ∀ {n : Nat} {d : D}, okG n d = true → okN n d = true
 | 0, .int _, _ => rfl
 | n + 1, .int _, _ => rfl
 | 0, .str x, h => h
 | n + 1, .str x, h => h
 | n + 1, .tup ds, h => by
  simp only [okG, Bool.and_eq_true, List.all_eq_true] at h
  simp only [okN, List.all_eq_true]
  exact fun x hx => iy (h.2 x hx)
 | 0, .tup _, h => by simp [okG] at h
 | 0, .non, h => by simp [okG] at h
 | n + 1, .non, h => by simp [okG] at h
 | 0, .bl _, h => by simp [okG] at h
 | n + 1, .bl _, h => by simp [okG] at h
 | 0, .loc _, h => by simp [okG] at h
 | n + 1, .loc _, h => by simp [okG] at h
theorem cz : ∀ {n m : Nat} {d : D}, n ≤ m → okG n d = true → okG m d = true
 | n, m, .int _, _, _ => by cases m <;> rfl
 | n, m, .str x, _, h => by cases n <;> cases m <;> exact h
 | n + 1, m + 1, .tup ds, hm, h => by
  simp only [okG, Bool.and_eq_true, List.all_eq_true] at h ⊢
  exact ⟨h.1, fun x hx => cz (by omega) (h.2 x hx)⟩
 | 0, m, .tup _, _, h => by simp [okG] at h
 | n, m, .non, _, h => by cases n <;> simp [okG] at h
 | n, m, .bl _, _, h => by cases n <;> simp [okG] at h
 | n, m, .loc _, _, h => by cases n <;> simp [okG] at h
theorem vb {d : D} : ∀ {ds : List D}, d ∈ ds → di d ≤ ff ds
 | x :: r, h => by
  simp only [ff]
  rcases List.mem_cons.mp h with rfl | h
  · omega
  · have := vb h; omega
theorem Vb : ∀ {n : Nat} {d : D}, okN n d = true → okN (di d) d = true
 | n, .int _, _ => rfl
 | n, .str x, h => by cases n <;> exact h
 | n + 1, .tup ds, h => by
  simp only [okN, List.all_eq_true] at h
  show okN (1 + ff ds) (.tup ds) = true
  rw [Nat.add_comm]
  simp only [okN, List.all_eq_true]
  exact fun x hx => Gs (vb hx) (Vb (h x hx))
 | 0, .tup _, h => by simp [okN] at h
 | n, .non, h => by cases n <;> simp [okN] at h
 | n, .bl _, h => by cases n <;> simp [okN] at h
 | n, .loc _, h => by cases n <;> simp [okN] at h
theorem ints_map (g : D → Int) : ∀ l : List D, intsOf (l.map fun d => .int (g d)) = some (l.map g)
 | [] => rfl
 | d :: r => by simp only [List.map_cons, intsOf, ints_map g r]; rfl
theorem vc : ∀ (l : List D) (a : Nat), (l.map fun d => ((di d : Nat) : Int)).foldl (fun m x => if x > m then x else m) (a : Int) = ((max a (ff l) : Nat) : Int)
 | [], a => by simp [ff]
 | d :: r, a => by
  simp only [List.map_cons, List.foldl_cons, ff]
  have : (if ((di d : Nat) : Int) > a then ((di d : Nat) : Int) else a) = ((max a (di d) : Nat) : Int) := by split <;> omega
  rw [this, vc r, Nat.max_assoc]
theorem aha (l : List D) : Fi 0 (l.map fun d => ((di d : Nat) : Int)) = (ff l : Nat) := by
 cases l with
 | nil => rfl
 | cons d r => simp only [List.map_cons, Fi]; rw [vc r]; rfl
section
variable {FF n : Nat} {st : Sto}
theorem isT {k : Nat} {d : D} {s : Sto} (h : okG k d = true) : ∃ u c, dw s d = some u ∧ eu tab u (.b "tuple") = some c ∧ (c = true ↔ ∃ ds, d = .tup ds) := by
 cases d with
 | int i => exact ⟨.b "int", false, rfl, rfl, by simp⟩
 | str x => exact ⟨.b "str", false, rfl, rfl, by simp⟩
 | tup ds => exact ⟨.b "tuple", true, rfl, rfl, by simp⟩
 | non => cases k <;> simp [okG] at h
 | bl b => cases k <;> simp [okG] at h
 | loc b => cases k <;> simp [okG] at h
theorem ahb : ∀ (k : Nat) (d : D) (m : Nat) (st : Sto), okG k d = true → k + 1 ≤ m → Wr (C FF m 18 [d] st) fun r s => r = .int (di d : Nat) ∧ Fr st s := by
 intro k
 induction k with
 | zero =>
  intro d m st h hm
  obtain ⟨m, rfl⟩ : ∃ m', m = m' + 1 := ⟨m - 1, by omega⟩
  refine Bd [some d] (b := ig) rfl rfl (by decide) rfl ?_
  unfold ig
  obtain ⟨u, c, h1, h2, h3⟩ := isT (s := st) h
  have hc : c = false := by
   cases c with
   | false => rfl
   | true => obtain ⟨ds, rfl⟩ := h3.mp rfl; simp [okG] at h
  subst hc
  refine Ac (ak (Gv (Ia (w_var rfl ⟨u, false, h1, h2, ib (Ac (Ay (Aa ⟨?_, Fr.refl _⟩)))⟩))))
  cases d <;> first | rfl | simp [okG] at h
 | succ k ih =>
  intro d m st h hm
  obtain ⟨m, rfl⟩ : ∃ m', m = m' + 1 := ⟨m - 1, by omega⟩
  refine Bd [some d] (b := ig) rfl rfl (by decide) rfl ?_
  unfold ig
  obtain ⟨u, c, h1, h2, h3⟩ := isT (s := st) h
  cases c with
  | false =>
   refine Ac (ak (Gv (Ia (w_var rfl ⟨u, false, h1, h2, ib (Ac (Ay (Aa ⟨?_, Fr.refl _⟩)))⟩))))
   cases d with
   | tup ds => exact absurd (h3.mpr ⟨ds, rfl⟩) (by simp)
   | _ => rfl
  | true =>
   obtain ⟨ds, rfl⟩ := h3.mp rfl
   simp only [okG, Bool.and_eq_true, decide_eq_true_eq, List.all_eq_true] at h
   refine Ac (ak (Gv (Ia (w_var rfl ⟨u, true, h1, h2, Dy (ai (af (Ac (Ay (aj (Aa (dg (nj (w_var rfl ⟨ds, none, fun d => some (.int (di d : Nat)), rfl, Nat.le_trans h.1 (by decide), fun _ _ => rfl, fun d hd s' F' => ?_, fun s' F' hs => ?_⟩)))))))))⟩))))
   · refine Kk (env' := [some d]) rfl (Jg ⟨fun _ => ay (Ab (w_var rfl (Af ((ih d m s' (h.2 d hd) (by omega)).imp fun r s hr => ?_)))), fun z => by cases z⟩)
     exact ⟨by rw [hr.1], hr.2⟩
   · rw [Rk] at hs
     refine ⟨by simp only [rdy, Bp hs]; rfl, Ab (Aa (Af (adk (Bp hs) (ints_map (fun d => ((di d : Nat) : Int)) ds) (Cv ?_))))⟩
     rw [aha]
     exact ⟨by simp only [di]; push_cast; rfl, F'⟩
end
theorem Ju : ∀ a b : List D, szL (a ++ b) = szL a + szL b
 | [], b => by simp [szL]
 | d :: r, b => by simp only [List.cons_append, szL, Ju r b]; omega
def Ce : D → Bool
 | .tup _ => true
 | _ => false
theorem Pc : ∀ l : List D, szL (l.filter Ce) = szL l
 | [] => rfl
 | d :: r => by
  cases d with
  | tup ds => rw [List.filter_cons_of_pos (by rfl)]; simp only [szL, Pc r]
  | _ => rw [List.filter_cons_of_neg (by simp [Ce])]; simp only [szL, szD, Pc r]; omega
theorem jv : ∀ {l : List D}, (∀ x ∈ l, Ce x = true) → l.length ≤ szL l
 | [], _ => Nat.le_refl _
 | d :: r, h => by
  have := jv fun x hx => h x (List.mem_cons_of_mem _ hx)
  have h0 := h d List.mem_cons_self
  cases d with
  | tup ds => simp only [List.length_cons, szL, szD]; omega
  | _ => cases h0
section
variable {FF n : Nat} {st : Sto}
theorem ahc (l : List D) : l.filterMap (fun d => if Ce d = true then some d else none) = l.filter Ce := by
 induction l with
 | nil => rfl
 | cons d r ih =>
  rw [List.filterMap_cons]
  by_cases h : Ce d = true
  · rw [if_pos h, List.filter_cons_of_pos h]; simp only; rw [ih]
  · rw [if_neg h, List.filter_cons_of_neg h]; simp only; rw [ih]
theorem Vc {call : Or} {env : DD.Env} {it : E} {ds : List D} {k : Nat} {Q : D → Sto → Prop} (hl : ds.length ≤ sizeLine) (hd : ∀ d ∈ ds, okG k d = true) (h : Wr (aa tab call it env st) fun d s => d = .tup ds ∧ s = st) (q : ∀ s', Fr st s' → s'[st.length]? = some (.lst (ds.filter Ce)) → Q (.loc st.length) s') :
 Wr (aa tab call (.comp 1 true 1 [0] [] it (.cons (.isi (.var 0) (.b "tuple")) .nil) (.var 0)) env st) Q := by
 refine nj (h.imp ?_)
 rintro d s ⟨rfl, rfl⟩
 refine ⟨ds, none, fun d => if Ce d = true then some d else none, rfl, hl, fun _ _ => rfl, fun d hd2 s' F' => ?_, fun s' F' hs => q s' F' (by rw [← ahc]; exact hs)⟩
 obtain ⟨u, c, h1, h2, h3⟩ := isT (s := s') (hd d hd2)
 refine Kk (env' := [some d]) rfl (Ro (Ia (w_var rfl ⟨u, c, h1, h2, fun z => Jg ⟨fun _ => w_var rfl ⟨?_, Fr.refl _⟩, fun z => by cases z⟩, fun z => ⟨fun z => (by cases z), fun _ => ⟨?_, Fr.refl _⟩⟩⟩)))
 · obtain ⟨e, rfl⟩ := h3.mp z
   rfl
 · have : ¬ Ce d = true := fun w => by
    have : c = true := h3.mpr (by cases d <;> first | exact ⟨_, rfl⟩ | cases w)
    rw [this] at z; cases z
   exact (if_neg this).symm
theorem ahd {ls : List D} {k : Nat} (hk : k ≤ 39) (h : ∀ x ∈ ls, okG k x = true) : ls.all (okN 39) = true := List.all_eq_true.mpr fun x hx => iy (cz hk (h x hx))
theorem ahe {d : D} (hF : 2 ^ 8000 ≤ FF) (hd : okG 38 d = true) (ht : Ce d = true) (hs : szD d ≤ 1000) : Wr (C FF (n + 1) 16 [d] st) fun r s => ∃ c : Int, r = .int c ∧ (c ≤ 40 → szD d ≤ 40) ∧ Fr st s := by
 refine Bd [some d, none, none, none] (b := ky) rfl rfl (by decide) rfl ?_
 unfold ky
 have h99 : 99 < FF := Nat.lt_of_lt_of_le (by decide) hF
 refine Ac (Ar (cy (Ab (w_var rfl (Af ⟨odt rfl, odt rfl, af (Ac (Ar (Aa ⟨odt rfl, af (Ac ?_)⟩)))⟩)))))
 refine km (fun m env s => ∃ (l : Nat) (ls : List D) (c : Nat) (e3 : Option D), env = [some d, some (.loc l), some (.int (c : Int)), e3] ∧ s[l]? = some (.lst ls) ∧ (∀ x ∈ ls, Ce x = true ∧ okG 38 x = true) ∧ szL ls + c = szD d ∧ m = 99 - c ∧ c ≤ 99 ∧ st.length ≤ l ∧ Fr st s) 99 h99 ⟨st.length, [d], 0, none, rfl, bf, fun x hx => by rw [List.mem_singleton.mp hx]; exact ⟨ht, hd⟩, by simp [szL], rfl, by omega, Nat.le_refl _, .app _⟩ ?_
 rintro m env s ⟨l, ls, c, e3, rfl, hl, hok, hsz, rfl, hc, hsl, fr⟩
 have hll := jv fun x hx => (hok x hx).1
 have fin : (ls = [] ∨ ¬ c < 99) → ((c : Int) ≤ 40 → szD d ≤ 40) := fun z hc2 => by
  rcases z with rfl | z
  · simp only [szL] at hsz; omega
  · omega
 have E1 : Fr s (s ++ [.lst []]) := .app _
 refine Gu (Bk (w_var rfl (cy (Af ⟨odt rfl, Rr (Bp (E1.at hl)) (Bp bf) (ahd (by decide) fun x hx => (hok x hx).2) rfl ⟨_, rfl, fun z => ?_, fun z => ?_⟩⟩))))
 · have hne : ls ≠ [] := by simpa using z
   refine Bk (w_var rfl (Aa (Ji ⟨_, rfl, fun z => ?_, fun z => ?_⟩)))
   · have hc2 : c < 99 := by have := odt z; omega
     obtain ⟨init, x, rfl⟩ : ∃ init x, ls = init ++ [x] := ⟨ls.dropLast, ls.getLast hne, (List.dropLast_concat_getLast hne).symm⟩
     have hx := hok x (by simp)
     obtain ⟨ds, rfl⟩ : ∃ ds, x = .tup ds := by cases x <;> first | exact ⟨_, rfl⟩ | cases hx.1
     have hx2 := hx.2
     simp only [okG, Bool.and_eq_true, decide_eq_true_eq, List.all_eq_true] at hx2
     have hl1 := E1.at hl
     refine Ac (Ar (dg (w_var rfl ⟨Ic hl1, Af (Sn hl1 ⟨odt rfl, af (Ac (Ar (aj (w_var rfl (Aa (Cv ⟨odt rfl, af (Ac (Ar (aj (w_var rfl (Vc (ds := ds) (k := 37) (Nat.le_trans hx2.1 (by decide)) hx2.2 (w_var rfl ⟨rfl, rfl⟩) fun s' F' hs' => ?_)))))⟩))))))⟩)⟩)))
     have hl2 : s'[l]? = some (.lst init) := F'.at (Br hl1)
     have e1 : szL (init ++ [D.tup ds]) = szL init + (1 + szL ds) := by rw [Ju]; simp [szL, szD]
     have e2 : szL (init ++ ds.filter Ce) = szL init + szL ds := by rw [Ju, Pc]
     have hok2 : ∀ x ∈ init ++ ds.filter Ce, Ce x = true ∧ okG 38 x = true := fun x hx => by
      rcases List.mem_append.mp hx with h | h
      · exact hok x (by simp [h])
      · have := List.mem_filter.mp h
        exact ⟨this.2, cz (by decide) (hx2.2 x this.1)⟩
     have hlen2 := jv fun x hx => (hok2 x hx).1
     refine Rq hl2 hs' ?_ ⟨odt rfl, af (ai ⟨_, 99 - (c + 1), rfl, by omega, _, _, c + 1, _, rfl, bf, hok2, by omega, rfl, by omega, ?_, ?_⟩)⟩
     · rw [← List.length_append]
       exact Nat.le_trans (show (init ++ ds.filter Ce).length ≤ 1000 by omega) (by decide)
     · have := fr.len; have := F'.len; simp at this; omega
     · exact ((fr.trans E1).set (by omega) _).trans (F'.trans (.app _))
   · have hc2 : ¬ c < 99 := by have := of_decide_eq_false z; omega
     exact af (Ac (Ay (w_var rfl ⟨c, rfl, fin (.inr hc2), fr.trans E1⟩)))
 · have hne : ls = [] := by simpa using z
   exact Az (af (Ac (Ay (w_var rfl ⟨c, rfl, fin (.inl hne), fr.trans E1⟩))))
end
inductive Td : D → Prop
 | num {a b : Int} : Td (.tup [W "number", .tup [.int a, .int b]])
 | unk {x : Str} : Td (.tup [W "unknown", .str x])
 | wgh {a b : Int} {t : D} : Td t → Td (.tup [W "weigh", .tup [.int a, .int b], t])
 | pls {ts : List D} : (∀ t ∈ ts, Td t) → Td (.tup [W "plus", .tup ts])
 | cal {f : Str} {ts : List D} : (∀ t ∈ ts, Td t) → Td (.tup [W "call", .str f, .tup ts])
 | rd {a t : D} : Td a → Td t → Td (.tup [W "read", a, t])
 | put {a t u : D} : Td a → Td t → Td u → Td (.tup [W "put", a, t, u])
theorem Td.tup {d : D} (h : Td d) : Ce d = true := by cases h <;> rfl
section
variable {FF n : Nat} {st : Sto}
abbrev Pd (r : Ss) : Ss := .cons (.set 5 (.comp 1 true 1 [0] [] (.sl 1 (.var 3) (.cons (.cst (.int 1)) .nil)) (.cons (.isi (.var 0) (.b "tuple")) .nil) (.var 0))) (.cons (.ifS (.orE (.cm .eq (.ix (.var 3) (.cst (.int 0))) (.cst (.str (Str.ofString "plus")))) (.cm .eq (.ix (.var 3) (.cst (.int 0))) (.cst (.str (Str.ofString "call"))))) (.cons (.set 5 (.bt .listB (.cons (.ix (.var 3) (.neg (.cst (.int 1)))) .nil))) .nil) .nil) (.cons (.ifS (.cm .eq (.ix (.var 3) (.cst (.int 0))) (.cst (.str (Str.ofString "number")))) (.cons (.set 5 (.lstE .nil)) .nil) .nil) (.cons (.ifS (.cm .eq (.ix (.var 3) (.cst (.int 0))) (.cst (.str (Str.ofString "weigh")))) (.cons (.set 5 (.lstE (.cons (.ix (.var 3) (.cst (.int 2))) .nil))) .nil) .nil) r)))
theorem ahf {x : D} {r : List D} : cutD (x :: r) (some 1) none = r := by
 have h : HT.sIx (r.length + 1) 0 (some 1) = 1 := by
  unfold HT.sIx
  simp
  try omega
 unfold cutD
 simp only [List.length_cons, h, List.drop_succ_cons, List.drop_zero]
 apply List.take_of_length_le
 unfold HT.sIx
 simp
theorem ahg {call : Or} {e0 e1 e2 e4 e5 : Option D} {w : D} {rest inner : List D} {r : Ss} {QF : Fl → Sto → Prop} {k : Nat} (hw : okN 40 w = true) (hl : rest.length ≤ 8) (hok : ∀ d ∈ rest, okG k d = true)
 (q : ∀ s' l5, Fr st s' → st.length ≤ l5 → s'[l5]? = some (.lst inner) → Wr (ao tab call FF r [e0, e1, e2, some (.tup (w :: rest)), e4, some (.loc l5)] s') QF)
 (hi : (decide (w = W "plus") || decide (w = W "call")) = true ∧ L2.atI (w :: rest) (-1) = some (.tup inner) ∧ decide (w = W "number") = false ∧ decide (w = W "weigh") = false ∨ (decide (w = W "plus") || decide (w = W "call")) = false ∧ (decide (w = W "number") = true ∧ inner = [] ∧ decide (w = W "weigh") = false ∨ decide (w = W "number") = false ∧ (decide (w = W "weigh") = true ∧ (∃ x, inner = [x] ∧ L2.atI (w :: rest) 2 = some x) ∨ decide (w = W "weigh") = false ∧ inner = rest.filter Ce))) :
 Wr (ao tab call FF (Pd r) [e0, e1, e2, some (.tup (w :: rest)), e4, e5] st) QF := by
 have okC : okN 40 (W "call") = true := by decide +kernel
 unfold Pd
 refine Ac (Ar (Vc (ds := rest) (k := k) (Nat.le_trans hl (by decide)) hok (ia (w_var rfl (gu (Aa ⟨1, rfl, Hz (Np (lo := some 1) (hi := none) rfl ?_)⟩)))) fun s F hs => ⟨odt rfl, af (Ac (ak (jg (Bb hw Cd (ah (w_var rfl (Aa (Ai hd0 ⟨rfl, rfl⟩)))) ?_))))⟩))
 · rw [ahf]; exact ⟨rfl, rfl⟩
 have two : ∀ (e5 : Option D) (s : Sto) (l5 : Nat), Fr st s → st.length ≤ l5 → e5 = some (.loc l5) → s[l5]? = some (.lst inner) → decide (w = W "number") = false → decide (w = W "weigh") = false → Wr (ao tab call FF (.cons (.ifS (.cm .eq (.ix (.var 3) (.cst (.int 0))) (.cst (.str (Str.ofString "number")))) (.cons (.set 5 (.lstE .nil)) .nil) .nil) (.cons (.ifS (.cm .eq (.ix (.var 3) (.cst (.int 0))) (.cst (.str (Str.ofString "weigh")))) (.cons (.set 5 (.lstE (.cons (.ix (.var 3) (.cst (.int 2))) .nil))) .nil) .nil) r)) [e0, e1, e2, some (.tup (w :: rest)), e4, e5] s) QF := fun e5 s l5 F hl5 h5 hs h1 h2 => by
  subst h5
  refine Ac (ak (Bb hw bz (ah (w_var rfl (Aa (Ai hd0 ⟨rfl, rfl⟩)))) ?_))
  rw [h1]
  refine Az (ai (af (Ac (ak (Bb hw Bz (ah (w_var rfl (Aa (Ai hd0 ⟨rfl, rfl⟩)))) ?_)))))
  rw [h2]
  exact Az (ai (af (q s l5 F hl5 hs)))
 rcases hi with ⟨h1, h2, h3, h4⟩ | ⟨h1, hi⟩
 · have lst : Wr (ao tab call FF (.cons (.set 5 (.bt .listB (.cons (.ix (.var 3) (.neg (.cst (.int 1)))) .nil))) .nil) [e0, e1, e2, some (.tup (w :: rest)), e4, some (.loc st.length)] s) (Kt tab call FF (.cons (.ifS (.cm .eq (.ix (.var 3) (.cst (.int 0))) (.cst (.str (Str.ofString "number")))) (.cons (.set 5 (.lstE .nil)) .nil) .nil) (.cons (.ifS (.cm .eq (.ix (.var 3) (.cst (.int 0))) (.cst (.str (Str.ofString "weigh")))) (.cons (.set 5 (.lstE (.cons (.ix (.var 3) (.cst (.int 2))) .nil))) .nil) .nil) r)) QF) := by
    refine Ac (Ar (dk (Ab (ah (w_var rfl (aaq (Aa ⟨1, rfl, Ai h2 (Af (aax (xs := inner) rfl ⟨odt rfl, af (ai (af ?_))⟩))⟩)))))))
    exact two _ _ s.length (F.trans (.app _)) F.len rfl bf h3 h4
   cases hp : decide (w = W "plus") with
   | true => exact Cp (Cp lst)
   | false =>
    rw [hp, Bool.false_or] at h1
    refine Az (Bb hw okC (ah (w_var rfl (Aa (Ai hd0 ⟨rfl, rfl⟩)))) ?_)
    rw [h1]
    exact Cp lst
 · have hp : decide (w = W "plus") = false ∧ decide (w = W "call") = false := by simpa using h1
   rw [hp.1]
   refine Az (Bb hw okC (ah (w_var rfl (Aa (Ai hd0 ⟨rfl, rfl⟩)))) ?_)
   rw [hp.2]
   refine Az (ai (af ?_))
   rcases hi with ⟨h2, rfl, h4⟩ | ⟨h2, hi⟩
   · refine Ac (ak (Bb hw bz (ah (w_var rfl (Aa (Ai hd0 ⟨rfl, rfl⟩)))) ?_))
     rw [h2]
     refine Cp (Ac (Ar (cy (Af ⟨odt rfl, odt rfl, af (ai (af (Ac (ak (Bb hw Bz (ah (w_var rfl (Aa (Ai hd0 ⟨rfl, rfl⟩)))) ?_)))))⟩))))
     rw [h4]
     exact Az (ai (af (q _ s.length (F.trans (.app _)) F.len bf)))
   · rcases hi with ⟨h3, x, rfl, hx⟩ | ⟨h3, rfl⟩
     · refine Ac (ak (Bb hw bz (ah (w_var rfl (Aa (Ai hd0 ⟨rfl, rfl⟩)))) ?_))
       rw [h2]
       refine Az (ai (af (Ac (ak (Bb hw Bz (ah (w_var rfl (Aa (Ai hd0 ⟨rfl, rfl⟩)))) ?_)))))
       rw [h3]
       refine Cp (Ac (Ar (cy (Ab (ah (w_var rfl (Aa (Ai hx (Af ⟨odt rfl, odt rfl, af (ai (af ?_))⟩)))))))))
       exact q _ s.length (F.trans (.app _)) F.len bf
     · exact two _ _ st.length F (Nat.le_refl _) rfl hs h2 h3
end
theorem Gi {k : Nat} {ds : List D} (h : okG (k + 1) (.tup ds) = true) : ds.length ≤ 8 ∧ ∀ x ∈ ds, okG k x = true := by
 simpa only [okG, Bool.and_eq_true, decide_eq_true_eq, List.all_eq_true] using h
theorem Vd {k : Nat} {ds : List D} (h : okG k (.tup ds) = true) : ∀ x ∈ ds, okG k x = true := by
 cases k with
 | zero => simp [okG] at h
 | succ k => exact fun x hx => cz (Nat.le_succ k) ((Gi h).2 x hx)
theorem ahh {a b : D} : L2.atI [a, b] (-1) = some b := rfl
theorem ahi {a b c : D} : L2.atI [a, b, c] (-1) = some c := rfl
theorem ahj {d : D} : szL [d] = szD d := by simp [szL]
theorem Td.blk {d : D} {k : Nat} (h : Td d) (hk : okG (k + 1) d = true) : ∃ w rest inner, d = .tup (w :: rest) ∧ okN 40 w = true ∧ rest.length ≤ 8 ∧ (∀ x ∈ rest, okG k x = true) ∧
 ((decide (w = W "plus") || decide (w = W "call")) = true ∧ L2.atI (w :: rest) (-1) = some (.tup inner) ∧ decide (w = W "number") = false ∧ decide (w = W "weigh") = false ∨ (decide (w = W "plus") || decide (w = W "call")) = false ∧ (decide (w = W "number") = true ∧ inner = [] ∧ decide (w = W "weigh") = false ∨ decide (w = W "number") = false ∧ (decide (w = W "weigh") = true ∧ (∃ x, inner = [x] ∧ L2.atI (w :: rest) 2 = some x) ∨ decide (w = W "weigh") = false ∧ inner = rest.filter Ce))) ∧
 (∀ t ∈ inner, Td t) ∧ (∀ t ∈ inner, okG k t = true) ∧ szL inner < szD d := by
 cases h with
 | num =>
  have g := Gi hk
  exact ⟨_, _, [], rfl, by decide +kernel, by simp, fun x hx => g.2 x (List.mem_cons_of_mem _ hx), .inr ⟨by decide +kernel, .inl ⟨by decide +kernel, rfl, by decide +kernel⟩⟩, fun _ h => by (cases h), fun _ h => by (cases h), by simp [szL, szD]⟩
 | unk =>
  have g := Gi hk
  exact ⟨_, _, [], rfl, by decide +kernel, by simp, fun x hx => g.2 x (List.mem_cons_of_mem _ hx), .inr ⟨by decide +kernel, .inr ⟨by decide +kernel, .inr ⟨by decide +kernel, rfl⟩⟩⟩, fun _ h => by (cases h), fun _ h => by (cases h), by simp [szL, szD]⟩
 | @wgh a b t ht =>
  have g := Gi hk
  exact ⟨_, _, [t], rfl, by decide +kernel, by simp, fun x hx => g.2 x (List.mem_cons_of_mem _ hx), .inr ⟨by decide +kernel, .inr ⟨by decide +kernel, .inl ⟨by decide +kernel, t, rfl, rfl⟩⟩⟩, fun x h => by rw [List.mem_singleton.mp h]; exact ht, fun x h => by rw [List.mem_singleton.mp h]; exact g.2 t (by simp), by simp [szL, szD] <;> omega⟩
 | @pls ts ht =>
  have g := Gi hk
  exact ⟨_, _, ts, rfl, by decide +kernel, by simp, fun x hx => g.2 x (List.mem_cons_of_mem _ hx), .inl ⟨by decide +kernel, ahh, by decide +kernel, by decide +kernel⟩, ht, Vd (g.2 _ (by simp)), by simp [szL, szD] <;> omega⟩
 | @cal f ts ht =>
  have g := Gi hk
  exact ⟨_, _, ts, rfl, by decide +kernel, by simp, fun x hx => g.2 x (List.mem_cons_of_mem _ hx), .inl ⟨by decide +kernel, ahi, by decide +kernel, by decide +kernel⟩, ht, Vd (g.2 _ (by simp)), by simp [szL, szD] <;> omega⟩
 | @rd a t ha ht =>
  have g := Gi hk
  have e : [a, t].filter Ce = [a, t] := by simp [ha.tup, ht.tup]
  refine ⟨_, _, [a, t], rfl, by decide +kernel, by simp, fun x hx => g.2 x (List.mem_cons_of_mem _ hx), .inr ⟨by decide +kernel, .inr ⟨by decide +kernel, .inr ⟨by decide +kernel, e.symm⟩⟩⟩, fun x h => ?_, fun x h => g.2 x (List.mem_cons_of_mem _ h), by simp [szL, szD] <;> omega⟩
  rcases List.mem_cons.mp h with rfl | h
  · exact ha
  · rw [List.mem_singleton.mp h]; exact ht
 | @put a t u ha ht hu =>
  have g := Gi hk
  have e : [a, t, u].filter Ce = [a, t, u] := by simp [ha.tup, ht.tup, hu.tup]
  refine ⟨_, _, [a, t, u], rfl, by decide +kernel, by simp, fun x hx => g.2 x (List.mem_cons_of_mem _ hx), .inr ⟨by decide +kernel, .inr ⟨by decide +kernel, .inr ⟨by decide +kernel, e.symm⟩⟩⟩, fun x h => ?_, fun x h => g.2 x (List.mem_cons_of_mem _ h), by simp [szL, szD] <;> omega⟩
  rcases List.mem_cons.mp h with rfl | h
  · exact ha
  · rcases List.mem_cons.mp h with rfl | h
    · exact ht
    · rw [List.mem_singleton.mp h]; exact hu
def prD (p : D × Int) : D := .tup [p.1, .int p.2]
theorem ve {ls : List (D × Int)} (h : ∀ p ∈ ls, Td p.1) : ls.length ≤ szL (ls.map (·.1)) := by
 have := jv (l := ls.map (·.1)) fun x hx => by
  obtain ⟨p, hp, rfl⟩ := List.mem_map.mp hx
  exact (h p hp).tup
 simpa using this
section
variable {FF n : Nat} {st : Sto}
theorem ahk {d : D} (hF : 2 ^ 8000 ≤ FF) (h : Td d) (hk : okG 36 d = true) (hs : szD d ≤ 40) : Wr (C FF (n + 1) 17 [d] st) fun r s => ∃ c : Int, r = .int c ∧ Fr st s := by
 refine Bd [some d, none, none, none, none, none] (b := Ky) rfl rfl (by decide) rfl ?_
 unfold Ky
 have h40 : szD d < FF := Nat.lt_of_lt_of_le (Nat.lt_of_le_of_lt hs (by decide)) hF
 refine Ac (Ar (cy (Ab (bg (Ab (w_var rfl (Ab (Aa (Af ⟨odt rfl, Af ⟨odt rfl, odt rfl, af (Ac (Ar (Aa ⟨odt rfl, af (Ac ?_)⟩)))⟩⟩)))))))))
 refine km (fun m env s => ∃ (l : Nat) (ls : List (D × Int)) (c : Int) (e3 e4 e5 : Option D), env = [some d, some (.loc l), some (.int c), e3, e4, e5] ∧ s[l]? = some (.lst (ls.map prD)) ∧ (∀ p ∈ ls, Td p.1 ∧ okG 36 p.1 = true) ∧ m = szL (ls.map (·.1)) ∧ m ≤ 40 ∧ st.length ≤ l ∧ Fr st s) (szD d) h40 ⟨st.length, [(d, 1)], 1, none, none, none, rfl, bf, fun x hx => by rw [List.mem_singleton.mp hx]; exact ⟨h, hk⟩, ahj.symm, hs, Nat.le_refl _, .app _⟩ ?_
 rintro m env s ⟨l, ls, c, e3, e4, e5, rfl, hl, hok, rfl, hm, hsl, fr⟩
 have hll := ve fun p hp => (hok p hp).1
 have E1 : Fr s (s ++ [.lst []]) := .app _
 have h39 : (ls.map prD).all (okN 39) = true := List.all_eq_true.mpr fun x hx => by
  obtain ⟨p, hp, rfl⟩ := List.mem_map.mp hx
  have := iy (hok p hp).2
  have := Gs (show 36 ≤ 38 by decide) this
  simp only [prD, okN, List.all_cons, List.all_nil, this]
  rfl
 refine Bk (w_var rfl (cy (Af ⟨odt rfl, Rr (Bp (E1.at hl)) (Bp bf) h39 rfl ⟨_, rfl, fun z => ?_, fun z => ?_⟩⟩)))
 · have hne : ls ≠ [] := by simpa using z
   obtain ⟨init, x, rfl⟩ : ∃ init x, ls = init ++ [x] := ⟨ls.dropLast, ls.getLast hne, (List.dropLast_concat_getLast hne).symm⟩
   have hx := hok x (by simp)
   have hl1 : (s ++ [.lst []])[l]? = some (.lst (init.map prD ++ [prD x])) := by rw [E1.at hl]; simp
   obtain ⟨w, rest, inner, e1, i1, i2, i3, i4, i5, i6, i7⟩ := hx.1.blk (k := 35) hx.2
   refine Ac (Nh (dg (w_var rfl ⟨Ic hl1, Af (Sn hl1 ⟨_, rfl, af (Ac (Ar (dk (Ab (w_var rfl (Ab (w_var rfl (Af (aay ⟨odt rfl, af ?_⟩)))))))))⟩)⟩)))
   show Wr (ao tab _ FF (Pd _) [some d, some (.loc l), some (.int (if x.2 > c then x.2 else c)), some x.1, some (.int x.2), e5] _) _
   rw [e1]
   refine ahg (inner := inner) i1 i2 i3 (fun s' l5 F' hl5 h5 => ?_) i4
   have hl2 : s'[l]? = some (.lst (init.map prD)) := F'.at (Br hl1)
   have hlen5 : inner.length ≤ szL inner := jv fun y hy => (i5 y hy).tup
   have ex : szL ((init ++ [x]).map (·.1)) = szL (init.map (·.1)) + szD x.1 := by rw [List.map_append, Ju]; simp [szL]
   refine Ac (Ar (aj (w_var rfl (nj (w_var rfl ⟨inner, some l5, fun t => some (.tup [t, .int (x.2 + 1)]), by simp only [Cq, Bp h5]; rfl, Nat.le_trans (show inner.length ≤ 40 by omega) (by decide), fun s2 F2 => kj (Bp h5) F2, fun t ht s2 F2 => ?_, fun s2 F2 hs2 => ?_⟩)))))
   · exact Kk (env' := [some t, some (.int x.2)]) rfl (Jg ⟨fun _ => bg (Ab (w_var rfl (Ab (aj (w_var rfl (Aa (Cv (Af ⟨odt rfl, rfl, Fr.refl _⟩)))))))), fun z => by cases z⟩)
   · rw [Rk] at hs2
     have hm2 : (init.map prD ++ inner.map fun t => D.tup [t, .int (x.2 + 1)]) = (init ++ inner.map fun t => (t, x.2 + 1)).map prD := by rw [List.map_append, List.map_map]; rfl
     have hm3 : szL ((init ++ inner.map fun t => (t, x.2 + 1)).map (·.1)) = szL (init.map (·.1)) + szL inner := by
      rw [List.map_append, Ju, List.map_map]
      congr 2
      exact List.map_id' inner
     have hok2 : ∀ p ∈ init ++ inner.map fun t => (t, x.2 + 1), Td p.1 ∧ okG 36 p.1 = true := fun p hp => by
      rcases List.mem_append.mp hp with h | h
      · exact hok p (by simp [h])
      · obtain ⟨t, ht, rfl⟩ := List.mem_map.mp h
        exact ⟨i5 t ht, cz (by decide) (i6 t ht)⟩
     have hlen2 := ve fun p hp => (hok2 p hp).1
     refine Rq (F2.at hl2) hs2 ?_ ⟨odt rfl, af (ai ⟨_, szL (init.map (·.1)) + szL inner, rfl, by omega, _, init ++ inner.map fun t => (t, x.2 + 1), _, _, _, _, rfl, by rw [← hm2]; exact bf, hok2, hm3.symm, by omega, ?_, ?_⟩)⟩
     · rw [← List.length_append, hm2, List.length_map]
       exact Nat.le_trans (show (init ++ inner.map fun t => (t, x.2 + 1)).length ≤ 40 by omega) (by decide)
     · have := fr.len; have := F'.len; have := F2.len; simp at *; omega
     · exact ((fr.trans E1).set (by omega) _).trans (F'.trans (F2.trans (.app _)))
 · exact af (Ac (Ay (w_var rfl ⟨_, rfl, fr.trans E1⟩)))
end
mutual
theorem pe : ∀ t, Wf t → sz t ≤ szD (toD t)
 | .num q, _ => by simp [sz, toD, szD, szL, Fq]
 | .base d, h => by
  obtain ⟨_, w, rest, rfl, _⟩ := h
  simp [sz, toD, szD]
 | .wgh q t, h => by
  have := pe t h.2
  simp [sz, toD, szD, szL, Fq]; omega
 | .pls ts, h => by
  have := Ve ts h
  simp [sz, toD, szD, szL]; omega
theorem Ve : ∀ t, Wfs t → szs t ≤ szL (Cn t)
 | .nil, _ => Nat.le_refl _
 | .cons t r, h => by
  have := pe t h.1
  have := Ve r h.2
  simp only [szs, Cn, szL]; omega
end
structure Gd (k : Nat) (d : D) : Prop where
 t : ∃ τ, toD τ = d ∧ Wf τ ∧ dp τ ≤ k
 td : Td d
 ok : okG (2 * k + 2) d = true
 s : szD d ≤ 40
theorem Gd.mono {k k' : Nat} {d : D} (h : Gd k d) (hk : k ≤ k') : Gd k' d :=
 ⟨let ⟨τ, a, b, c⟩ := h.t; ⟨τ, a, b, by omega⟩, h.td, cz (by omega) h.ok, h.s⟩
structure Nw (k : Nat) (d : D) : Prop where
 td : Td d
 ok : okG (2 * k + 4) d = true
 s : szD d ≤ 1000
 w : ∃ w rest, d = .tup (w :: rest) ∧ okN 40 w = true ∧ ((w ≠ W "call" ∧ w ≠ W "read") ∨ ba d = true → ∃ τ, toD τ = d ∧ Wf τ ∧ dp τ ≤ k + 1)
theorem vf {k : Nat} : ∀ {ds : List D}, (∀ d ∈ ds, Gd k d) → ∃ ts : Ts, Cn ts = ds ∧ Wfs ts ∧ dps ts ≤ k
 | [], _ => ⟨.nil, rfl, trivial, Nat.zero_le _⟩
 | d :: r, h => by
  obtain ⟨ts, h1, h2, h3⟩ := vf fun x hx => h x (List.mem_cons_of_mem _ hx)
  obtain ⟨τ, g1, g2, g3⟩ := (h d List.mem_cons_self).t
  exact ⟨.cons τ ts, by simp only [Cn, h1, g1], ⟨g2, h2⟩, by simp only [dps]; omega⟩
theorem Pe {k : Nat} : ∀ {ds : List D}, (∀ d ∈ ds, Gd k d) → szL ds ≤ 40 * ds.length
 | [], _ => Nat.le_refl _
 | d :: r, h => by
  have := Pe fun x hx => h x (List.mem_cons_of_mem _ hx)
  have := (h d List.mem_cons_self).s
  simp only [szL, List.length_cons]; omega
theorem Ff {k : Nat} {x : String} (h : PyData.canLay0 (.str (Str.ofString x)) = true) : okG k (W x) = true := by cases k <;> exact h
theorem okI {k : Nat} {i : Int} : okG k (.int i) = true := by cases k <;> rfl
theorem okS {k : Nat} {x : Str} (h : PyData.canLay0 (.str x) = true) : okG k (.str x) = true := by cases k <;> exact h
theorem Vf {k : Nat} {q : Rat} : okG (k + 1) (Fq q) = true := by simp [Fq, okG, okI]
theorem okT {k : Nat} {ds : List D} (hl : ds.length ≤ 8) (h : ∀ d ∈ ds, okG k d = true) : okG (k + 1) (.tup ds) = true := by
 simp only [okG, Bool.and_eq_true, decide_eq_true_eq, List.all_eq_true]
 exact ⟨hl, h⟩
theorem cl1 : PyData.canLay0 (.str (Str.ofString "number")) = true := by decide +kernel
theorem cl2 : PyData.canLay0 (.str (Str.ofString "unknown")) = true := by decide +kernel
theorem cl3 : PyData.canLay0 (.str (Str.ofString "weigh")) = true := by decide +kernel
theorem cl4 : PyData.canLay0 (.str (Str.ofString "plus")) = true := by decide +kernel
theorem cl5 : PyData.canLay0 (.str (Str.ofString "call")) = true := by decide +kernel
theorem cl6 : PyData.canLay0 (.str (Str.ofString "read")) = true := by decide +kernel
theorem cl7 : PyData.canLay0 (.str (Str.ofString "put")) = true := by decide +kernel
theorem cl8 : PyData.canLay0 (.str (Str.ofString "m")) = true := by decide +kernel
theorem ahl {k : Nat} {q : Rat} (h : Sq q) : Nw k (.tup [W "number", Fq q]) := by
 refine ⟨.num, okT (by simp) fun d hd => ?_, by simp [szD, szL, Fq], _, _, rfl, by decide +kernel, fun _ => ⟨.num q, rfl, h, Nat.zero_le _⟩⟩
 rcases List.mem_cons.mp hd with rfl | hd
 · exact Ff cl1
 · rw [List.mem_singleton.mp hd]; exact Vf
theorem ahm {k : Nat} {x : Str} (h : PyData.canLay0 (.str x) = true) : Nw k (.tup [W "unknown", .str x]) := by
 have hk : ∀ j, okG (j + 1) (.tup [W "unknown", .str x]) = true := fun j => okT (by simp) fun d hd => by
  rcases List.mem_cons.mp hd with rfl | hd
  · exact Ff cl2
  · rw [List.mem_singleton.mp hd]; exact okS h
 exact ⟨.unk, hk _, by simp [szD, szL], _, _, rfl, by decide +kernel, fun _ => ⟨.base _, rfl, ⟨iy (hk 7), _, _, rfl, by decide +kernel, by decide +kernel, by decide +kernel⟩, Nat.zero_le _⟩⟩
theorem ahn {k : Nat} {q : Rat} {t : D} (h : Sq q) (g : Gd k t) : Nw k (.tup [W "weigh", Fq q, t]) := by
 have := g.s
 obtain ⟨τ, h1, h2, h3⟩ := g.t
 refine ⟨.wgh g.td, okT (by simp) fun d hd => ?_, by simp [szD, szL, Fq]; omega, _, _, rfl, by decide +kernel, fun _ => ⟨.wgh q τ, by simp only [toD, h1], ⟨h, h2⟩, by simp only [dp]; omega⟩⟩
 rcases List.mem_cons.mp hd with rfl | hd
 · exact Ff cl3
 rcases List.mem_cons.mp hd with rfl | hd
 · exact Vf
 · rw [List.mem_singleton.mp hd]; exact cz (by omega) g.ok
theorem vg {k : Nat} {ts : List D} (hl : ts.length ≤ 6) (g : ∀ t ∈ ts, Gd k t) : Nw k (.tup [W "plus", .tup ts]) := by
 have := Pe g
 obtain ⟨τ, h1, h2, h3⟩ := vf g
 refine ⟨.pls fun t ht => (g t ht).td, okT (by simp) fun d hd => ?_, by simp [szD, szL]; omega, _, _, rfl, by decide +kernel, fun _ => ⟨.pls τ, by simp only [toD, h1], h2, by simp only [dp]; omega⟩⟩
 rcases List.mem_cons.mp hd with rfl | hd
 · exact Ff cl4
 · rw [List.mem_singleton.mp hd]
   exact okT (by omega) fun t ht => (g t ht).ok
theorem aho {k : Nat} {f : Str} {ts : List D} (hf : PyData.canLay0 (.str f) = true) (hl : ts.length ≤ 6) (g : ∀ t ∈ ts, Gd k t) : Nw k (.tup [W "call", .str f, .tup ts]) := by
 have := Pe g
 refine ⟨.cal fun t ht => (g t ht).td, okT (by simp) fun d hd => ?_, by simp [szD, szL]; omega, _, _, rfl, by decide +kernel, fun h => ?_⟩
 · rcases List.mem_cons.mp hd with rfl | hd
   · exact Ff cl5
   rcases List.mem_cons.mp hd with rfl | hd
   · exact okS hf
   · rw [List.mem_singleton.mp hd]
     exact okT (by omega) fun t ht => (g t ht).ok
 · rcases h with h | h
   · exact absurd rfl h.1
   · exact ⟨.base _, rfl, ⟨h, _, _, rfl, by decide +kernel, by decide +kernel, by decide +kernel⟩, Nat.zero_le _⟩
theorem Vg {k : Nat} {a t : D} (ha : Td a) (oa : okG (2 * k + 3) a = true) (sa : szD a ≤ 200) (g : Gd k t) : Nw k (.tup [W "read", a, t]) := by
 have := g.s
 refine ⟨.rd ha g.td, okT (by simp) fun d hd => ?_, by simp [szD, szL]; omega, _, _, rfl, by decide +kernel, fun h => ?_⟩
 · rcases List.mem_cons.mp hd with rfl | hd
   · exact Ff cl6
   rcases List.mem_cons.mp hd with rfl | hd
   · exact oa
   · rw [List.mem_singleton.mp hd]; exact cz (by omega) g.ok
 · rcases h with h | h
   · exact absurd rfl h.2
   · exact ⟨.base _, rfl, ⟨h, _, _, rfl, by decide +kernel, by decide +kernel, by decide +kernel⟩, Nat.zero_le _⟩
theorem lz {k : Nat} : Td (.tup [W "unknown", W "m"]) ∧ okG (k + 1) (.tup [W "unknown", W "m"]) = true := by
 refine ⟨.unk, okT (by simp) fun d hd => ?_⟩
 rcases List.mem_cons.mp hd with rfl | hd
 · exact Ff cl2
 · rw [List.mem_singleton.mp hd]; exact Ff cl8
section
variable {FF n : Nat} {st : Sto}
theorem pick {ts : List D} (y : Int) (h : 0 < ts.length) : ∃ d ∈ ts, L2.atI ts (y.fmod ts.length) = some d := by
 have r := dn y (k := ts.length) (by omega)
 obtain ⟨i, hi⟩ := Int.eq_ofNat_of_zero_le r.1
 have hl : i < ts.length := by omega
 exact ⟨ts[i], List.getElem_mem hl, by rw [hi]; exact L2.Jy (List.getElem?_eq_getElem hl)⟩
theorem ahp (i : Int) (h : 0 ≤ i ∧ i < 4) : ∃ x, PyData.canLay0 (.str x) = true ∧ ∀ st, ixD (W "abcd") (.int i) st = .ok (.str x) st := by
 obtain ⟨j, rfl⟩ := Int.eq_ofNat_of_zero_le h.1
 have : j < 4 := by omega
 match j, this with
 | 0, _ => exact ⟨Str.ofString "a", by decide +kernel, fun st => by kernel_rfl⟩
 | 1, _ => exact ⟨Str.ofString "b", by decide +kernel, fun st => by kernel_rfl⟩
 | 2, _ => exact ⟨Str.ofString "c", by decide +kernel, fun st => by kernel_rfl⟩
 | 3, _ => exact ⟨Str.ofString "d", by decide +kernel, fun st => by kernel_rfl⟩
theorem ahq (i : Int) (h : 0 ≤ i ∧ i < 2) : ∃ x, PyData.canLay0 (.str x) = true ∧ ∀ st, ixD (W "fg") (.int i) st = .ok (.str x) st := by
 obtain ⟨j, rfl⟩ := Int.eq_ofNat_of_zero_le h.1
 have : j < 2 := by omega
 match j, this with
 | 0, _ => exact ⟨Str.ofString "f", by decide +kernel, fun st => by kernel_rfl⟩
 | 1, _ => exact ⟨Str.ofString "g", by decide +kernel, fun st => by kernel_rfl⟩
theorem ahr {k yl tl : Nat} {ts : List D} {y0 y1 y2 y3 : Int} (hF : 2 ^ 8000 ≤ FF) (x : Int) (hy : st[yl]? = some (.lst [.int y0, .int y1, .int y2, .int y3])) (ht : st[tl]? = some (.lst ts)) (h0 : 0 < ts.length) (g : ∀ t ∈ ts, Gd k t) : Wr (C FF (n + 3) 15 [.int x, .loc yl, .loc tl] st) fun d s => Nw k d ∧ Fr st s := by
 refine Bd [some (.int x), some (.loc yl), some (.loc tl), none, none, none, none, none] (b := Kx) rfl rfl (by decide) rfl ?_
 unfold Kx
 obtain ⟨d0, m0, p0⟩ := pick (ts := ts) y0 h0
 obtain ⟨d1, m1, p1⟩ := pick (ts := ts) y1 h0
 obtain ⟨d2, m2, p2⟩ := pick (ts := ts) y2 h0
 have hz : ((ts.length : Nat) : Int) ≠ 0 := by omega
 have ly := Bp hy
 have lt := Bp ht
 refine Ac (Ar (ah (w_var rfl (aj (ah (w_var rfl (Aa (ck ly rfl (dk (Ab (w_var rfl (Af (jj lt (cc hz (ck lt p0 ⟨odt rfl, af ?_⟩)))))))))))))))
 refine Ac (Ar (ah (w_var rfl (aj (ah (w_var rfl (Aa (ck ly rfl (dk (Ab (w_var rfl (Af (jj lt (cc hz (ck lt p1 ⟨odt rfl, af ?_⟩)))))))))))))))
 refine Ac (Ar (ah (w_var rfl (aj (ah (w_var rfl (Aa (ck ly rfl (dk (Ab (w_var rfl (Af (jj lt (cc hz (ck lt p2 ⟨odt rfl, af ?_⟩)))))))))))))))
 refine Ac (Ar (aj (w_var rfl (Aa (cc (by decide) ⟨odt rfl, af ?_⟩)))))
 have rw1 := dn x (k := 10) (by decide)
 have r4 := dn y3 (k := 4) (by decide)
 have r2 := dn y3 (k := 2) (by decide)
 generalize hway : x.fmod 10 = way at *
 refine Ac (ak (Bk (w_var rfl (Aa (dz ⟨_, rfl, fun z => ?_, fun z => ?_⟩)))))
 · refine Ac (Ay (bg (Ab (Aa (Ab (ay (Ab (ah (w_var rfl (Aa (ck ly rfl (Af ((Pa (n := n) hF y3).imp ?_)))))))))))))
   rintro d s ⟨q, rfl, hq, fr⟩
   exact Af ⟨odt rfl, ahl hq, fr⟩
 refine ai (af (Ac (ak (Bk (w_var rfl (Aa (dz ⟨_, rfl, fun z => ?_, fun z => ?_⟩)))))))
 · obtain ⟨c, hc1, hc2⟩ := ahp _ r4
   refine Ac (Ay (bg (Ab (Aa (Ab (ah (Aa (aj (ah (w_var rfl (Aa (ck ly rfl (Aa (cc (by decide) (Rl (hc2 _) (Af ⟨odt rfl, ?_⟩))))))))))))))))
   exact ⟨ahm hc1, Fr.refl _⟩
 refine ai (af (Ac (ak (Bk (w_var rfl (Aa (Ji ⟨_, rfl, fun z => ?_, fun z => ?_⟩)))))))
 · refine Ac (Ay (bg (Ab (Aa (Ab (ay (Ab (ah (w_var rfl (Aa (ck ly rfl (Af ((Pa (n := n) hF y3).imp ?_)))))))))))))
   rintro d s ⟨q, rfl, hq, fr⟩
   exact Ab (w_var rfl (Af ⟨odt rfl, ahn hq (g d0 m0), fr⟩))
 refine ai (af (Ac (ak (Bk (w_var rfl (Aa (Ji ⟨_, rfl, fun z => ?_, fun z => ?_⟩)))))))
 · refine Ac (ak (Bk (aj (aj (ah (w_var rfl (Aa (ck ly rfl (Aa (Ds (He (by decide) (by decide)) (Aa (cc (by decide) (Aa (dz ⟨_, rfl, fun z => ?_, fun z => ?_⟩))))))))))))))
   · refine Ac (Ay (bg (Ab (Aa (Ab (bg (Ab (w_var rfl (Ab (w_var rfl (Ab (w_var rfl (Ab (w_var rfl (Ab (w_var rfl (Ab (w_var rfl (Af ⟨odt rfl, Af ⟨odt rfl, ?_⟩⟩)))))))))))))))))))
     refine ⟨vg (by simp) fun t ht => ?_, Fr.refl _⟩
     simp only [List.mem_cons, List.not_mem_nil, or_false] at ht
     rcases ht with rfl | rfl | rfl | rfl | rfl | rfl <;> first | exact g _ m0 | exact g _ m1 | exact g _ m2
   · obtain ⟨j, hj⟩ := Int.eq_ofNat_of_zero_le r4.1
     refine ai (af (Ac (Ay (bg (Ab (Aa (Ab (ia (bg (Ab (w_var rfl (Ab (w_var rfl (Ab (w_var rfl (Af ⟨odt rfl, gu (aj (ah (w_var rfl (Aa (ck ly rfl (Aa (cc (by decide) ⟨_, rfl, Hz (Np (lo := none) (hi := some (y3.fmod 4)) rfl (Af ⟨odt rfl, ?_⟩))⟩)))))))⟩))))))))))))))))
     rw [hj]
     refine ⟨vg ?_ fun t ht => ?_, Fr.refl _⟩
     · show (cutD [d0, d1, d2] none (some ((j : Nat) : Int))).length ≤ 6
       rw [Kj]
       exact Nat.le_trans (List.length_take_le' _ _) (by simp)
     · have ht : t ∈ cutD [d0, d1, d2] none (some ((j : Nat) : Int)) := ht
       rw [Kj] at ht
       have ht := List.mem_of_mem_take ht
       simp only [List.mem_cons, List.not_mem_nil, or_false] at ht
       rcases ht with rfl | rfl | rfl <;> first | exact g _ m0 | exact g _ m1 | exact g _ m2
 refine ai (af (Ac (ak (Bk (w_var rfl (Aa (dz ⟨_, rfl, fun z => ?_, fun z => ?_⟩)))))))
 · obtain ⟨c, hc1, hc2⟩ := ahq _ r2
   obtain ⟨j, hj⟩ := Int.eq_ofNat_of_zero_le (show 0 ≤ 1 + y3.fmod 2 by omega)
   refine Ac (Ay (bg (Ab (Aa (Ab (ah (Aa (aj (ah (w_var rfl (Aa (ck ly rfl (Aa (cc (by decide) (Rl (hc2 _) (Ab (ia (bg (Ab (w_var rfl (Ab (w_var rfl (Af ⟨odt rfl, gu (aj (Aa (aj (ah (w_var rfl (Aa (ck ly rfl (Aa (cc (by decide) (Cv ⟨_, rfl, Hz (Np (lo := none) (hi := some (1 + y3.fmod 2)) rfl (Af ⟨odt rfl, ?_⟩))⟩))))))))))⟩)))))))))))))))))))))))
   rw [hj]
   refine ⟨aho hc1 ?_ fun t ht => ?_, Fr.refl _⟩
   · show (cutD [d0, d1] none (some ((j : Nat) : Int))).length ≤ 6
     rw [Kj]
     exact Nat.le_trans (List.length_take_le' _ _) (by simp)
   · have ht : t ∈ cutD [d0, d1] none (some ((j : Nat) : Int)) := ht
     rw [Kj] at ht
     have ht := List.mem_of_mem_take ht
     simp only [List.mem_cons, List.not_mem_nil, or_false] at ht
     rcases ht with rfl | rfl <;> first | exact g _ m0 | exact g _ m1
 refine ai (af (Ac (Ar (bg (Ab (Aa (Ab (Aa (Af ⟨odt rfl, odt rfl, af (Ac (ak (Bk (aj (ah (w_var rfl (Aa (ck ly rfl (Aa (cc (by decide) (Aa (dz ⟨_, rfl, fun z => ?_, fun z => ?_⟩))))))))))))⟩)))))))))
 · refine Ac (Ar (bg (Ab (Aa (Ab (w_var rfl (Ab (w_var rfl (Ab (w_var rfl (Af ⟨odt rfl, odt rfl, af (ai (af (Ac (Ay (bg (Ab (Aa (Ab (w_var rfl (Ab (w_var rfl (Af ⟨odt rfl, ?_⟩))))))))))))⟩)))))))))))
   have s1 := (g d1 m1).s
   have s2 := (g d2 m2).s
   refine ⟨Vg (.put (lz (k := 0)).1 (g d1 m1).td (g d2 m2).td) (okT (by simp) fun d hd => ?_) (by simp [szD, szL]; omega) (g d0 m0), Fr.refl _⟩
   rcases List.mem_cons.mp hd with rfl | hd
   · exact Ff cl7
   rcases List.mem_cons.mp hd with rfl | hd
   · exact lz.2
   rcases List.mem_cons.mp hd with rfl | hd
   · exact cz (by omega) (g _ m1).ok
   · rw [List.mem_singleton.mp hd]; exact cz (by omega) (g _ m2).ok
 · refine ai (af (Ac (Ay (bg (Ab (Aa (Ab (w_var rfl (Ab (w_var rfl (Af ⟨odt rfl, ?_⟩)))))))))))
   exact ⟨Vg (lz (k := 0)).1 lz.2 (by simp [szD, szL]) (g d0 m0), Fr.refl _⟩
end
theorem ahs : Gd 0 (.tup [W "unknown", W "a"]) := by
 have h : okG 2 (.tup [W "unknown", W "a"]) = true := by decide +kernel
 exact ⟨⟨.base _, rfl, ⟨iy (cz (show 2 ≤ 8 by decide) h), _, _, rfl, by decide +kernel, by decide +kernel, by decide +kernel⟩, Nat.le_refl _⟩, .unk, h, by simp [szD, szL]⟩
theorem aht : Gd 0 (.tup [W "number", .tup [.int 2, .int 1]]) :=
 ⟨⟨.num 2, rfl, ⟨by decide, by decide⟩, Nat.le_refl _⟩, .num, by decide +kernel, by simp [szD, szL]⟩
section
variable {FF n : Nat} {st : Sto}
theorem ahu {a : D} {xs : List D} {Q : D → Sto → Prop} (ha : okN 40 a = true) (hx : xs.all (okN 40) = true) (h : Q (.bl (!decide (a ∈ xs))) st) : Wr (cmD .notIn a (.tup xs) st) Q := by
 have e := aak (st := st) ha hx
 refine ⟨_, _, ?_, h⟩
 simp only [cmD] at e ⊢
 cases z : inD st a (.tup xs) with
 | none => rw [z] at e; cases e
 | some b => rw [z] at e; cases e; rfl
theorem ahv {xs : List Int} : ∃ ys : List Int, cutD (xs.map D.int) (some 1) (some 16) = ys.map D.int ∧ ys.length ≤ 15 := by
 refine ⟨(xs.drop (HT.sIx xs.length 0 (some 1))).take (HT.sIx xs.length xs.length (some 16) - HT.sIx xs.length 0 (some 1)), ?_, ?_⟩
 · unfold cutD
   rw [List.length_map, List.map_take, List.map_drop]
 · rw [List.length_take, List.length_drop]
   have e1 := HT.Me xs.length 0 1
   have e2 := HT.Me xs.length xs.length 16
   have e1 : HT.sIx xs.length 0 (some 1) = min 1 xs.length := e1
   have e2 : HT.sIx xs.length xs.length (some 16) = min 16 xs.length := e2
   rw [e1, e2]
   refine Nat.le_trans (Nat.min_le_left _ _) ?_
   cases xs with
   | nil => decide
   | cons a r => have h : 1 ≤ (a :: r).length := Nat.succ_le_succ (Nat.zero_le _); rw [Nat.min_eq_left h]; exact Nat.sub_le_sub_right (Nat.min_le_left _ _) 1
theorem ahw {is : List Int} (h : is.length = 5) : ∃ a b c d e, is = [a, b, c, d, e] := by
 match is, h with
 | [a, b, c, d, e], _ => exact ⟨a, b, c, d, e, rfl⟩
theorem ahx {d : D} {k : Nat} (h : okG k d = true) (ht : Ce d = true) (h8 : di d ≤ 8) : ba d = true := by
 have := Gs h8 (Vb (iy h))
 cases d <;> first | exact this | cases ht
theorem ahy {xs : List Int} (hF : 2 ^ 8000 ≤ FF) (h : st[0]? = some (.frz (xs.map D.int))) : Wr (C FF (n + 40) 19 [.loc 0] st) fun d s => ∃ (l : Nat) (ts : List D), d = .loc l ∧ s[l]? = some (.lst ts) ∧ (∀ t ∈ ts, Gd 15 t) ∧ Fr st s := by
 refine Bd [some (.loc 0), none, none, none, none, none] (b := kz) rfl rfl (by decide) rfl ?_
 unfold kz
 have hl : aq st 0 = some (xs.map D.int) := by simp only [aq, h]
 obtain ⟨ys, ey, hy⟩ := ahv (xs := xs)
 have E0 : Fr st (st ++ [.lst [.tup [W "unknown", W "a"], .tup [W "number", .tup [.int 2, .int 1]]]]) := .app _
 have l0 := E0.lst hl
 refine Ac (Ar (cy (Ab (bg (Ab (Aa (Ab (Aa (Af ⟨odt rfl, Ab (bg (Ab (Aa (Ab (bg (Ab (Aa (Ab (Aa (Af ⟨odt rfl, Af ⟨odt rfl, Af ⟨odt rfl, odt rfl, af (Ac (jh (ia (w_var rfl (gu (Aa ⟨1, rfl, gu (Aa ⟨16, rfl, Hz (Nm (lo := some 1) (hi := some 16) rfl l0 ?_)⟩)⟩))))))⟩⟩⟩))))))))))⟩)))))))))
 rw [ey]
 have E1 : Fr (st ++ [.lst [.tup [W "unknown", W "a"], .tup [W "number", .tup [.int 2, .int 1]]]]) (st ++ [.lst [.tup [W "unknown", W "a"], .tup [W "number", .tup [.int 2, .int 1]]]] ++ [.lst (ys.map D.int)]) := .app _
 have hlen : (st ++ [.lst [.tup [W "unknown", W "a"], .tup [W "number", .tup [.int 2, .int 1]]]] : Sto).length = st.length + 1 := by simp
 refine ⟨ys.map D.int, some (st.length + 1), by rw [hlen]; simp only [fj, Bool.false_eq_true, if_false]; rw [Bp (by rw [← hlen]; exact bf)]; rfl, ?_⟩
 refine fw (fun j env s => ∃ (ts : List D) (e2 e3 e4 e5 : Option D), env = [some (.loc 0), some (.loc st.length), e2, e3, e4, e5] ∧ s[st.length]? = some (.lst ts) ∧ s[st.length + 1]? = some (.lst (ys.map D.int)) ∧ (∀ t ∈ ts, Gd j t) ∧ 0 < ts.length ∧ ts.length ≤ 2 + j ∧ Fr st s) (fun j env s hj => ?_) ⟨_, none, none, none, none, rfl, E1.at bf, by rw [← hlen]; exact bf, fun t ht => ?_, by simp, by simp, E0.trans E1⟩ ?_ ?_
 · obtain ⟨_, _, _, _, _, _, _, h2, _⟩ := hj
   simp only [stays, Bp h2, decide_true]
 · rcases List.mem_cons.mp ht with rfl | ht
   · exact ahs
   · rw [List.mem_singleton.mp ht]; exact aht
 · rintro j d hd env s ⟨ts, e2, e3, e4, e5, rfl, h1, h2, g, g0, g2, fr⟩
   rw [List.getElem?_map] at hd
   cases hq : ys[j]? with
   | none => rw [hq] at hd; cases hd
   | some c =>
    rw [hq] at hd; cases hd
    have hj : j < 15 := by have := (List.getElem?_eq_some_iff.mp hq).1; omega
    refine Dg (env' := [some (.loc 0), some (.loc st.length), some (.int c), e3, e4, e5]) rfl ?_
    refine Ac (Ar (ay (Ab (w_var rfl (Ab (Aa (Af ((agz (n := n + 38) c).imp ?_))))))))
    rintro d s1 ⟨l, is, rfl, hll, hl1, hlen5, fr1⟩
    obtain ⟨a, b, c1, d1, e1, rfl⟩ := ahw hlen5
    have E2 : Fr s1 (s1 ++ [.lst [.int b, .int c1, .int d1, .int e1]]) := .app _
    refine ⟨odt rfl, af (Ac (Ar (ay (Ab (ah (w_var rfl (Aa (ck (Bp hl1) rfl (Ab (ia (w_var rfl (gu (Aa ⟨1, rfl, Hz (Nm (lo := some 1) (hi := none) rfl (Bp hl1) (Ab (w_var rfl (Af ?_))))⟩)))))))))))))⟩
    show Wr (cj tab fns FF (n + 39) 15 [.int a, .loc s1.length, .loc st.length] (s1 ++ [.lst [.int b, .int c1, .int d1, .int e1]])) _
    refine (ahr (n := n + 36) (k := j) (ts := ts) hF a bf ((fr1.trans E2).at h1) g0 g).imp ?_
    rintro d s2 ⟨nw, fr2⟩
    have F2 := (fr1.trans E2).trans fr2
    obtain ⟨w, rest, rfl, hw, hτ⟩ := nw.w
    have hcr : [W "call", W "read"].all (okN 40) = true := by decide +kernel
    have key : ∀ (cb : Bool) (s3 : Sto), Fr s2 s3 → (cb = true → (w ≠ W "call" ∧ w ≠ W "read") ∨ ba (.tup (w :: rest)) = true) → Wr (ao tab (cj tab fns FF (n + 39)) FF (.cons (.ifS (.andE (.var 5) (.andE (.cm .le (.call 16 (.cons (.var 4) .nil) []) (.cst (.int 40))) (.cm .le (.call 17 (.cons (.var 4) .nil) []) (.cst (.int 12))))) (.cons (.ex (.mt .append (.var 1) (.cons (.var 4) .nil))) .nil) .nil) .nil) [some (.loc 0), some (.loc st.length), some (.int c), some (.loc l), some (.tup (w :: rest)), some (.bl cb)] s3) (fun f s => ∃ env', f = .next env' ∧ ∃ (ts : List D) (e2 e3 e4 e5 : Option D), env' = [some (.loc 0), some (.loc st.length), e2, e3, e4, e5] ∧ s[st.length]? = some (.lst ts) ∧ s[st.length + 1]? = some (.lst (ys.map D.int)) ∧ (∀ t ∈ ts, Gd (j + 1) t) ∧ 0 < ts.length ∧ ts.length ≤ 2 + (j + 1) ∧ Fr st s) := by
     intro cb s3 F3 hc
     have no : ∀ s4, Fr s3 s4 → ∃ env', Fl.next [some (.loc 0), some (.loc st.length), some (.int c), some (.loc l), some (.tup (w :: rest)), some (.bl cb)] = .next env' ∧ ∃ (ts : List D) (e2 e3 e4 e5 : Option D), env' = [some (.loc 0), some (.loc st.length), e2, e3, e4, e5] ∧ s4[st.length]? = some (.lst ts) ∧ s4[st.length + 1]? = some (.lst (ys.map D.int)) ∧ (∀ t ∈ ts, Gd (j + 1) t) ∧ 0 < ts.length ∧ ts.length ≤ 2 + (j + 1) ∧ Fr st s4 := fun s4 F4 => ⟨_, rfl, ts, _, _, _, _, rfl, ((F2.trans F3).trans F4).at h1, ((F2.trans F3).trans F4).at h2, fun t ht => (g t ht).mono (by omega), g0, by omega, ((fr.trans F2).trans F3).trans F4⟩
     refine Ac (ak (Gu (aar (b := cb) rfl rfl ⟨fun z => ?_, fun z => ?_⟩)))
     · refine Gu (Bk (ay (Ab (w_var rfl (Af ((ahe (n := n + 38) hF (cz (by omega) nw.ok) rfl nw.s).imp ?_))))))
       rintro d s4 ⟨c2, rfl, hc2, F4⟩
       refine Aa (nk ⟨_, rfl, fun z2 => ?_, fun z2 => ?_⟩)
       · have h40 := hc2 (odt z2)
         refine Bk (ay (Ab (w_var rfl (Af ((ahk (n := n + 38) hF nw.td (cz (by omega) nw.ok) h40).imp ?_)))))
         rintro d s5 ⟨c3, rfl, F5⟩
         refine Aa (nk ⟨_, rfl, fun z3 => ?_, fun z3 => ?_⟩)
         · have h1' := (((F2.trans F3).trans F4).trans F5).at h1
           have h2' := (((F2.trans F3).trans F4).trans F5).at h2
           have fr5 := (((fr.trans F2).trans F3).trans F4).trans F5
           refine Ac (Fv (dg (w_var rfl ⟨Ic h1', Ab (w_var rfl (Af (Kl h1' (Nat.lt_of_le_of_lt (show ts.length ≤ 20 by omega) (by decide)) (af (ai (af (ai ⟨_, rfl, ts ++ [.tup (w :: rest)], _, _, _, _, rfl, Br h1', by rw [bj (by omega)]; exact h2', fun t ht => ?_, by simp, by simp; omega, fr5.set (Nat.le_refl _) _⟩)))))))⟩)))
           rcases List.mem_append.mp ht with ht | ht
           · exact (g t ht).mono (by omega)
           · rw [List.mem_singleton.mp ht]
             exact ⟨hτ (hc z), nw.td, cz (by omega) nw.ok, h40⟩
         · exact ai (af (ai (no s5 (F4.trans F5))))
       · exact Az (ai (af (ai (no s4 F4))))
     · exact Az (ai (af (ai (no s3 (.refl _)))))
    refine ⟨odt rfl, af (Ac (Ar (w_or (rm (ah (w_var rfl (Aa (Ai hd0 (bg (Ab (Aa (Ab (Aa (Af ⟨odt rfl, ahu hw hcr ⟨_, rfl, fun z => ?_, fun z => ?_⟩⟩))))))))))))))⟩
    · refine ⟨odt rfl, af (key true s2 (.refl _) fun _ => .inl ?_)⟩
      simpa using z
    · refine rm (ay (Ab (w_var rfl (Af ((ahb (2 * j + 4) _ (n + 39) s2 nw.ok (by omega)).imp ?_)))))
      rintro d s3 ⟨rfl, F3⟩
      refine Aa (nk ⟨odt rfl, af (key _ s3 F3 fun z => .inr (ahx nw.ok rfl ?_))⟩)
      have := odt z
      omega
 · rintro env s ⟨ts, e2, e3, e4, e5, rfl, h1, h2, g, g0, g2, fr⟩
   rw [List.length_map] at g
   exact af (Ac (Ay (w_var rfl ⟨_, ts, rfl, h1, fun t ht => (g t ht).mono (by omega), fr⟩)))
end
theorem vh {st : Sto} {a b : D} (ha : okN 40 a = true) (hb : okN 40 b = true) : DD.eqV st a b = some (decide (a = b)) := by
 simp only [DD.eqV, Dr ha (Nat.le_refl _), Dr hb (Nat.le_refl _), Jf ha hb]
theorem Vh {st : Sto} {ws : Wt} (nd : (ks ws).Nodup) : ∀ w1 : Wt, (∀ p ∈ w1, p ∈ ws) → Et st (fd ws) (fd w1) = some true
 | [], _ => rfl
 | p :: r, h => by
  have ih := Vh (st := st) nd r fun q hq => h q (List.mem_cons_of_mem _ hq)
  have hl : Ba (fd ws) p.1 = some (Fq p.2) := by rw [gh, lx nd (h p List.mem_cons_self)]; rfl
  show Et st (fd ws) ((p.1, Fq p.2) :: fd r) = some true
  simp only [Et, hl]
  rw [vh okF okF, decide_eq_true rfl, Option.bind_some, ih]
  rfl
theorem vi {st : Sto} {c : Rat} {ws : Wt} {m1 m2 : Nat} (nd : (ks ws).Nodup) (hne : m1 ≠ m2) (h1 : st[m1]? = some (.dcn (fd ws))) (h2 : st[m2]? = some (.dcn (fd ws))) : eqF st (.tup [Fq c, .loc m1]) (.tup [Fq c, .loc m2]) = some true := by
 unfold eqF
 simp only
 rw [if_neg hne, vh okF okF, decide_eq_true rfl, Option.bind_some]
 simp only [eqN, Dz h1, Dz h2, if_true]
 rw [Vh nd ws fun _ h => h]
 rfl
def tot (v : D → Rat) (ws : Wt) (c : Rat) : Rat := ws.foldl (fun a p => a + p.2 * v p.1) c
theorem Vi (v : D → Rat) : ∀ (ws : Wt) (c : Rat), tot v ws c = c + sw v ws
 | [], c => by simp [tot, sw, Rat.add_zero]
 | p :: r, c => by
  have := Vi v r (c + p.2 * v p.1)
  unfold tot at this ⊢
  rw [List.foldl_cons, this]
  simp only [sw]
  grind
theorem vj {v : D → Rat} {N V M : Nat} (hv : ∀ b, Bq V X (v b)) : ∀ (ws : Wt) (c : Rat) (M0 : Nat), (∀ p ∈ ws, Bq N M p.2) → Bq (N * V) M0 c → Bq (N * V) (M0 + ws.length * (M * X)) (tot v ws c)
 | [], c, M0, _, h => by simpa [tot] using h
 | p :: r, c, M0, hw, h => by
  have h1 := h.add ((hw p List.mem_cons_self).mul (hv p.1))
  have h2 := vj hv r _ _ (fun q hq => hw q (List.mem_cons_of_mem _ hq)) h1
  refine h2.mono (Nat.dvd_refl _) ?_
  rw [List.length_cons, Nat.succ_mul]
  omega
section
variable {FF n : Nat}
theorem ahz {s : Sto} {bl vd : Nat} {bs : List D} {xs : List Int} {e1 e2 e3 e6 e7 e8 : Option D} (hF : 2 ^ 8000 ≤ FF) (h0 : s[0]? = some (.frz (xs.map D.int))) (hb : s[bl]? = some (.lst bs)) (hv : s[vd]? = some (.dcn [])) (nd : bs.Nodup) (hB : ∀ d ∈ bs, isB d) (hl : bs.length ≤ 80) :
 Wr (An tab (C FF (n + 2)) FF (.forR [6] (.cons (.bt .lenB (.cons (.var 4) .nil)) .nil) (.cons (.dput (.var 5) (.ix (.var 4) (.var 6)) (.call 14 (.cons (.op .add (.call 8 (.cons (.var 0) (.cons (.op .add (.cst (.int 16)) (.var 6)) .nil)) []) (.op .mul (.cst (.int 5)) (.var 6))) .nil) [])) .nil)) [some (.loc 0), e1, e2, e3, some (.loc bl), some (.loc vd), e6, e7, e8] s)
  fun f s' => ∃ e6 vs, f = .next [some (.loc 0), e1, e2, e3, some (.loc bl), some (.loc vd), e6, e7, e8] ∧ ks vs = bs ∧ (∀ p ∈ vs, Sq p.2) ∧ s'[vd]? = some (.dcn (fd vs)) ∧ s.length ≤ s'.length ∧ ∀ i, i < s.length → i ≠ vd → s'[i]? = s[i]? := by
 have hvl := (List.getElem?_eq_some_iff.mp hv).1
 have hbl := (List.getElem?_eq_some_iff.mp hb).1
 have h0l := (List.getElem?_eq_some_iff.mp h0).1
 have nbv : bl ≠ vd := fun z => by rw [z, hv] at hb; cases hb
 have n0v : 0 ≠ vd := fun z => by rw [z, hv] at h0; cases h0
 refine Ni (Ab (dk (Ab (w_var rfl (Af (jj (Bp hb) (Af ⟨de 0 bs.length, ?_, ?_⟩)))))))
 · simp only [fk]
   rw [if_pos ⟨by omega, by omega⟩, Int.toNat_natCast]
 refine fw (fun j env s' => ∃ (e6 : Option D) (vs : Wt), env = [some (.loc 0), e1, e2, e3, some (.loc bl), some (.loc vd), e6, e7, e8] ∧ ks vs = bs.take j ∧ (∀ p ∈ vs, Sq p.2) ∧ s'[vd]? = some (.dcn (fd vs)) ∧ s.length ≤ s'.length ∧ ∀ i, i < s.length → i ≠ vd → s'[i]? = s[i]?) (fun _ _ _ _ => rfl) ⟨e6, [], rfl, by simp [ks], fun p hp => by simp at hp, hv, Nat.le_refl _, fun i _ _ => rfl⟩ ?_ ?_
 · rintro j d hd env s' ⟨e6, vs, rfl, hk, hsq, hv', ln, fr⟩
   obtain ⟨rfl, hj⟩ := Pb hd
   refine Dg (env' := [some (.loc 0), e1, e2, e3, some (.loc bl), some (.loc vd), some (.int j), e7, e8]) rfl ?_
   refine Ac (jk (ay (Ab (aj (ay (Ab (w_var rfl (Ab (aj (Aa (w_var rfl (Cv (Af ?_)))))))))))))
   show Wr (cj tab fns FF (n + 2) 8 [.loc 0, .int (16 + (j : Int))] s') _
   rw [show (16 : Int) + (j : Int) = ((16 + j : Nat) : Int) by omega]
   refine (agy (n := n + 1) (k := 16 + j) (xs := xs) (by rw [fr 0 h0l n0v]; exact h0)).imp ?_
   rintro d s2 ⟨i, rfl, rfl⟩
   refine aj (Aa (w_var rfl (kl (by decide) (Cv (Af ((Pa (n := n) hF _).imp ?_))))))
   rintro d s3 ⟨q, rfl, hq, F3⟩
   have hb3 : s3[bl]? = some (.lst bs) := F3.at (by rw [fr bl hbl nbv]; exact hb)
   have hbj : bs[j] ∈ bs := List.getElem_mem hj
   have hn : bs[j] ∉ ks vs := by
    rw [hk, List.mem_take_iff_getElem]
    rintro ⟨i, hi, ei⟩
    have := (List.getElem_inj nd).mp ei
    omega
   have hlen : vs.length ≤ j := by
    have := congrArg List.length hk
    simp only [ks, List.length_map, List.length_take] at this
    omega
   refine w_var rfl (ah (w_var rfl (w_var rfl (ck (Bp hb3) (L2.Jy (List.getElem?_eq_getElem hj)) ⟨vd, fd vs, rfl, F3.at hv', (hB _ hbj).1, by rw [Iu]; exact Nat.lt_of_le_of_lt (show vs.length ≤ 80 by omega) (by decide), af (ai ⟨_, rfl, _, vs ++ [(bs[j], q)], rfl, ?_, ?_, ?_, ?_, ?_⟩)⟩))))
   · simp only [ks, List.map_append, List.map_cons, List.map_nil]
     rw [show vs.map (·.1) = ks vs from rfl, hk, List.take_succ, List.getElem?_eq_getElem hj]; rfl
   · intro p hp
     rcases List.mem_append.mp hp with hp | hp
     · exact hsq p hp
     · rw [List.mem_singleton.mp hp]; exact hq
   · rw [Ow hn]; exact Br (F3.at hv')
   · have := F3.len; simp; omega
   · intro i h1 h2
     rw [bj (Ne.symm h2), F3 i (by omega)]
     exact fr i h1 h2
 · rintro env s' ⟨e6, vs, rfl, hk, hsq, hv', ln, fr⟩
   rw [show (de 0 bs.length).length = bs.length by simp [de], List.take_length] at hk
   exact ⟨e6, vs, rfl, hk, hsq, hv', ln, fr⟩
theorem aia {s : Sto} {τ : Tm} {m1 vd : Nat} {vs : Wt} {e0 e1 e3 e4 e6 e8 : Option D} (hF : 2 ^ 8000 ≤ FF) (hw : Wf τ) (h40 : sz τ ≤ 40) (hm : s[m1]? = some (.dcn (fd (Ak τ).2))) (hv : s[vd]? = some (.dcn (fd vs))) (hne : m1 ≠ vd) (hsq : ∀ p ∈ vs, Sq p.2) (hV : Du vs ≤ 2 ^ 1600) (hk : ∀ b ∈ ks (Ak τ).2, b ∈ ks vs) :
 Wr (An tab (C FF (n + 2)) FF (.forD false [8] true (.ix (.var 2) (.cst (.int 1))) (.cons (.set 7 (.call 12 (.cons (.var 7) (.cons (.call 13 (.cons (.ix (.ix (.var 2) (.cst (.int 1))) (.var 8)) (.cons (.ix (.var 5) (.var 8)) .nil)) []) .nil)) [])) .nil)) [e0, e1, some (.tup [Fq (Ak τ).1, .loc m1]), e3, e4, some (.loc vd), e6, some (Fq (Ak τ).1), e8] s)
  fun f s' => ∃ e8, f = .next [e0, e1, some (.tup [Fq (Ak τ).1, .loc m1]), e3, e4, some (.loc vd), e6, some (Fq (val (get vs) τ)), e8] ∧ s' = s := by
 have fo := Fe τ hw
 have gv := Uz hsq
 have hV0 := oz vs
 have ⟨b1, b2⟩ := Wf.bnd hw h40
 have ⟨o1, o2⟩ := Wf.oks hw h40
 have hN : Nn τ * Du vs ≤ 2 ^ 3200 := by have := Nat.mul_le_mul b1 hV; rwa [← Nat.pow_add] at this
 have ov : ∀ b, Ok (get vs b) := fun b => (gv b).ok hV0 (Nat.le_trans hV (Nat.pow_le_pow_right (by decide) (by decide))) (Hc (i := 40) (j := 1600) (by decide) hV (by decide))
 have hMX : Mm τ * X ≤ 2 ^ 3200 := by have := Nat.mul_le_mul b2 (show X ≤ 2 ^ 40 by decide); rwa [← Nat.pow_add] at this
 have okB : ∀ (M : Nat) (q : Rat), M ≤ 2 ^ 3160 + 40 * 2 ^ 3200 → Bq (Nn τ * Du vs) M q → Ok q := fun M q hM h => h.ok (Nat.mul_pos (ir τ) hV0) (Nat.le_trans hN (Nat.pow_le_pow_right (by decide) (by decide))) (Hc (i := 3210) (j := 3200) (Nat.le_trans hM (by decide)) hN (by decide))
 have ot : ∀ j, Ok (tot (get vs) ((Ak τ).2.take j) (Ak τ).1) := fun j => by
  have h := vj (N := Nn τ) (M := Mm τ) gv ((Ak τ).2.take j) (Ak τ).1 (Mm τ) (fun p hp => fo.b p (List.mem_of_mem_take hp)) (fo.c.mono (Nat.dvd_mul_right _ _) (Nat.le_refl _))
  refine okB _ _ ?_ h
  have hl : ((Ak τ).2.take j).length ≤ 40 := by rw [List.length_take]; have := fo.l; omega
  have := Nat.mul_le_mul hl hMX
  omega
 refine Jk (ah (w_var rfl (Aa (Ai rfl ⟨m1, _, rfl, hm, ?_⟩))))
 refine w_walk (fun j env s' => ∃ e8, env = [e0, e1, some (.tup [Fq (Ak τ).1, .loc m1]), e3, e4, some (.loc vd), e6, some (Fq (tot (get vs) ((Ak τ).2.take j) (Ak τ).1)), e8] ∧ s' = s.set m1 (.dcg (fd (Ak τ).2))) (fun _ _ _ _ => rfl) _ 0 _ _ ⟨e8, rfl, rfl⟩ ?_ ?_
 · rintro j d hd env s' ⟨e8, rfl, rfl⟩
   rw [Nat.zero_add]
   rw [Ox] at hd
   cases hq : (Ak τ).2[j]? with
   | none => rw [hq] at hd; cases hd
   | some p =>
    rw [hq] at hd; cases hd
    have hmem := List.mem_of_getElem? hq
    have hb := fo.p p.1 (List.mem_map.mpr ⟨p, hmem, rfl⟩)
    have hlk : Ba (fd (Ak τ).2) p.1 = some (Fq p.2) := by rw [gh, lx fo.nd hmem]; rfl
    obtain ⟨x, hx⟩ := Om (hk p.1 (List.mem_map.mpr ⟨p, hmem, rfl⟩))
    have hgx : get vs p.1 = x := by unfold get; rw [hx]; rfl
    have ox := ov p.1
    rw [hgx] at ox
    refine Dg (env' := [e0, e1, some (.tup [Fq (Ak τ).1, .loc m1]), e3, e4, some (.loc vd), e6, some (Fq (tot (get vs) ((Ak τ).2.take j) (Ak τ).1)), some p.1]) rfl ?_
    refine Ac (Ar (ay (Ab (w_var rfl (Ab (ay (Ab (ah (ah (w_var rfl (Aa (Ai rfl (w_var rfl (ny (Br hm) (pbk _ hb) hlk (Ab (ah (w_var rfl (w_var rfl (sm (by rw [bj hne]; exact hv) (pbk _ hb) (by rw [gh, hx]; rfl) (Af ((Lr (n := n) hF (o2 p hmem) ox).imp ?_)))))))))))))))))))))
    rintro d s2 ⟨rfl, rfl⟩
    have om : Ok (p.2 * x) := by
     have h := (fo.b p hmem).mul (gv p.1)
     rw [hgx] at h
     exact okB _ _ (by omega) h
    refine Af ((lr (n := n) hF (ot j) om).imp ?_)
    rintro d s2 ⟨rfl, rfl⟩
    refine ⟨odt rfl, af (ai ⟨_, rfl, some p.1, ?_, rfl⟩)⟩
    rw [List.take_succ, hq]
    unfold tot
    rw [List.foldl_append, ← hgx]
    rfl
 · rintro env s' ⟨e8, rfl, rfl⟩
   rw [Nat.zero_add, oy, List.take_length, Vi, (ou (get vs) τ).1]
   exact ⟨_, rfl, Br hm, e8, rfl, by rw [set_set]; exact set_same hm⟩
end
section
variable {FF n : Nat}
theorem aib {xs : List Int} (hF : 2 ^ 8000 ≤ FF) : Wr (C FF (n + 42) 23 [.loc 0] [.frz (xs.map D.int), .lamT]) fun d s => d = .bl true := by
 refine Bd [some (.loc 0), none, none, none, none, none, none, none, none] (b := Kz) rfl rfl (by decide) rfl ?_
 unfold Kz
 refine Ac (jh (ay (Ab (w_var rfl (Af ((ahy (n := n + 1) (xs := xs) hF rfl).imp ?_))))))
 rintro d s0 ⟨l, ts, rfl, hl, g, fr0⟩
 have z0 : s0[0]? = some (.frz (xs.map D.int)) := fr0.at rfl
 have z1 : s0[1]? = some .lamT := fr0.at rfl
 refine ⟨ts, some l, by simp only [fj, Bool.false_eq_true, if_false, Bp hl]; rfl, ?_⟩
 refine fw (fun j env s => ∃ e1 e2 e3 e4 e5 e6 e7 e8, env = [some (.loc 0), e1, e2, e3, e4, e5, e6, e7, e8] ∧ Fr s0 s) (fun j env s hj => ?_) ⟨none, none, none, none, none, none, none, none, rfl, .refl _⟩ ?_ ?_
 · obtain ⟨_, _, _, _, _, _, _, _, _, fr⟩ := hj
   exact kj (Bp hl) fr
 · rintro j d hd env s ⟨e1, e2, e3, e4, e5, e6, e7, e8, rfl, fr⟩
   have gd := g d (List.mem_of_getElem? hd)
   obtain ⟨τ, rfl, hw, hdp⟩ := gd.t
   have h40 : sz τ ≤ 40 := Nat.le_trans (pe τ hw) gd.s
   have fo := Fe τ hw
   refine Dg (env' := [some (.loc 0), some (toD τ), e2, e3, e4, e5, e6, e7, e8]) rfl ?_
   refine Ac (Ar (ay (Ab (w_var rfl (Af ((fof (m := n + 41) hF (by omega) hw h40 (fr.at z1)).imp ?_))))))
   rintro d1 s1 ⟨m1, rfl, hm1, c1, f1⟩
   refine ⟨odt rfl, af (Ac (Ar (ay (Ab (w_var rfl (Af ((agt hF _ τ (n + 41) s1 (Nat.le_refl _) (by omega) hw h40).imp ?_)))))))⟩
   rintro d2 s2 ⟨m2, rfl, hm2, c2, f2⟩
   have k1 := (List.getElem?_eq_some_iff.mp c1).1
   have c1' := f2.at c1
   refine ⟨odt rfl, af (Ac (ak (jg (Gv (Ia (w_var rfl ⟨.b "tuple", true, rfl, rfl, Dy (jg (Bk (dk (Ab (w_var rfl (Af (Rt (Aa (ji ⟨_, rfl, ?_⟩)))))))))⟩))))))⟩
   refine Az (jg (Gv (Ia (ah (w_var rfl (Aa (Ai rfl ⟨.b "dict", true, ?_, rfl, Dy (so (w_var rfl ⟨rfl, Ab (w_var rfl (Af (Sm (vi fo.nd (by omega) c1' c2) ⟨_, rfl, Az ?_⟩)))⟩))⟩)))))))
   · simp only [dw, c1']; rfl
   have f12 := f1.trans f2
   refine ai (af (Ac (Ar (cy (Af ⟨odt rfl, odt rfl, af (Ac (Fv (ay (Ab (w_var rfl (Ab (w_var rfl (Af ((agu _ τ (n + 41) _ s2.length [] (Nat.le_refl _) (by omega) hw bf (fun d h => by cases h) (by simp; omega)).imp ?_)))))))))⟩)))))
   rintro d3 s3 ⟨rfl, rfl⟩
   have E3 : Fr s2 (List.set (s2 ++ [Cell.lst []]) s2.length (Cell.lst (bas τ []))) := (Fr.app _).set (Nat.le_refl _) _
   have hb3 : (List.set (s2 ++ [Cell.lst []]) s2.length (Cell.lst (bas τ [])))[s2.length]? = some (.lst (bas τ [])) := Br bf
   generalize hs3 : List.set (s2 ++ [Cell.lst []]) s2.length (Cell.lst (bas τ [])) = s3 at *
   have E4 : Fr s3 (s3 ++ [.dcn []]) := .app _
   have l3 : s3.length = s2.length + 1 := by rw [← hs3]; simp
   have blen := Ly τ []
   have z4 : (s3 ++ [.dcn []])[0]? = some (.frz (xs.map D.int)) := (((fr.trans f12).trans E3).trans E4).at z0
   refine af (Ac (Ar (Fb ⟨odt rfl, af (Ac ?_)⟩)))
   refine (ahz (n := n + 39) hF z4 (E4.at hb3) bf (Oy τ [] List.nodup_nil) (Lx τ [] hw (fun d h => by cases h)) (by simp at blen; omega)).imp ?_
   rintro f s5 ⟨e6, vs, rfl, hk, hsq, hv, ln, f5⟩
   have ln5 : s3.length + 1 ≤ s5.length := by simpa using ln
   have F5 : Fr s3 s5 := fun i hi => by rw [f5 i (by simp; omega) (by omega)]; exact E4 i hi
   have c15 := (E3.trans F5).at c1'
   have c25 := (E3.trans F5).at c2
   have hvl : vs.length ≤ 40 := by
    have := congrArg List.length hk
    simp only [ks, List.length_map] at this
    simp at blen
    omega
   have hV : Du vs ≤ 2 ^ 1600 := by
    refine Nat.le_trans (uz hsq) (Nat.le_trans (Nat.pow_le_pow_right Ej hvl) ?_)
    refine Nat.le_trans (Nat.pow_le_pow_left (show X ≤ 2 ^ 40 by decide) 40) ?_
    rw [← Nat.pow_mul]
    exact Nat.le_refl _
   refine af (Ac (Ar (ah (w_var rfl (Aa (Ai hd0 ⟨odt rfl, af (Ac ?_)⟩))))))
   have k2 := (List.getElem?_eq_some_iff.mp c2).1
   have k1' := (List.getElem?_eq_some_iff.mp c1').1
   refine (aia (n := n + 39) (vd := s3.length) hF hw h40 c15 hv (by omega) hsq hV fun b hb => by rw [hk]; exact (fo.p b hb).2).imp ?_
   rintro f s6 ⟨e8, rfl, rfl⟩
   refine af (Ac (ak (Bk (w_var rfl (ay (Ab (w_var rfl (Ab (w_var rfl (Af ((agw hF hsq hV _ τ (n + 41) s6 (Nat.le_refl _) (by omega) hw h40 hv fun d h => by rw [hk]; exact h).imp ?_)))))))))))
   rintro d7 s7 ⟨rfl, rfl⟩
   refine Nk okF okF ⟨_, rfl, ?_⟩
   rw [decide_eq_true rfl]
   refine Dy (ai (af (Ac (Fv (dg (ah (w_var rfl (Aa (Ai rfl ⟨Ie c15, Af (adi c15 (af (Ac (ak (so (ay (Ab (w_var rfl (Af ((fof (m := n + 41) hF (by omega) hw h40 ?_).imp ?_))))))))))⟩)))))))))
   · have hs := fr.len
     have := (List.getElem?_eq_some_iff.mp z1).1
     rw [bj (by omega)]
     exact ((((fr.trans f12).trans E3).trans F5)).at z1
   rintro d8 s8 ⟨m3, rfl, hm3, c3, f8⟩
   have c28 : s8[m2]? = some (.dcn (fd (Ak τ).2)) := f8.at (by rw [bj (by omega)]; exact c25)
   have F8 : Fr s s8 := fun i hi => by
    have h1 := f12.len
    have h2 := F5.len
    rw [f8 i (by simp; omega), bj (by omega)]
    exact ((f12.trans E3).trans F5) i hi
   refine ⟨rfl, Ab (w_var rfl (Af (Sm (vi fo.nd (by simp at hm3; omega) c3 c28) ⟨_, rfl, Az ?_⟩)))⟩
   exact ai (af (ai ⟨_, rfl, _, _, _, _, _, _, _, _, rfl, fr.trans F8⟩))
 · rintro env s ⟨e1, e2, e3, e4, e5, e6, e7, e8, rfl, fr⟩
   exact af (Ac (Ay (Aa rfl)))
end
abbrev calls : Nat := 42
theorem aic : ∀ ns : List Int, ns.length ≤ 63 → ∃ FF st, Ol FF calls [.loc 0] [.frz (ns.map D.int), .lamT] = .ok (.bl true) st := fun ns _ => by
 obtain ⟨d, s, e, rfl⟩ := aib (n := 0) (FF := 2 ^ 8000) (xs := ns) (Nat.le_refl _)
 exact ⟨2 ^ 8000, s, e⟩
end My
open PySem PySem.W PyProof.Rows
set_option maxRecDepth 100000 in
set_option maxHeartbeats 0 in
theorem PySem.Challenge.cw_partproof_k21_forms_of_terms_holds : PySem.Challenge.rw_partproof_k21_forms_of_terms.Holds := by
 w_on; o_law; k_head; (case hw => w_witness2)
 k_fill
 refine My.walk (n := My.calls) (l := PySem.Challenge.rw_partproof_k21_forms_of_terms) rfl rfl rfl ⟨rfl, by decide, by decide⟩ (fun w h Y => PySem.W.km_in_of Y) ?lawTab ?lawRec ?lawTop ?lawEnd
 case lawTab => exact fun p => by kernel_rfl
 case lawRec => kernel_rfl
 case lawTop =>
  intro w mg h KX G
  refine' My.agb w KX G ?_ ?_ ?_ ?_ ?_ ?_ ?_ ?_ ?_ ?_ ?_ ?_ ?_ ?_ ?_ ?_ ?_ ?_ ?_ ?_ ?_ ?_ ?_ ?_ ?_ ?_ ?_ ?_ ?_ ?_ ?_ ?_ ?_ ?_ ?_ ?_ ?_ ?_ ?_ ?_ ?_ ?_ ?_ ?_ ?_ ?_ ?_ ?_ ?_ ?_ ?_ ?_ ?_ ?_ ?_ ?_ ?_ ?_ ?_ ?_ ?_ ?_ ?_ ?_ ?_ ?_ ?_ ?_ ?_ ?_ ?_ ?_ ?_ ?_ ?_ ?_ ?_ ?_ ?_ ?_ ?_ ?_ ?_ ?_ ?_ ?_ ?_ ?_ ?_ ?_ ?_ ?_ ?_ ?_ ?_ ?_ ?_ ?_ ?_ ?_ ?_ ?_ ?_ ?_ ?_ ?_ ?_ ?_ ?_ ?_ ?_ ?_
  any_goals k_is
  all_goals first | k_exc | kit_is | kts_exm | rfl
 case lawEnd => exact My.aic
