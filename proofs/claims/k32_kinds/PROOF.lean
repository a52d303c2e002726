import PyProof.Rows.All
import Wide.All
import OpenK.AllK
import Wide.FinOn
import Lean
import PyProof.EqAt
import PyProof.EqKinds
import PyProof.TupleCall
import PySem.Challenge.RW_crystalwords_k32_kinds
set_option Elab.async false
set_option linter.all false
set_option maxRecDepth 100000
namespace L2
open PySem PySem.Spec PyProof.Rows

noncomputable abbrev Key := Sum Int Str
noncomputable def keyIs : Key → Value → Bool
  | .inl k, v => Value.isInt k v
  | .inr x, v => Value.isStrOf x v
noncomputable def keyH (w : World) : Key → Int
  | .inl k => hashInt k
  | .inr x => hashStr w x
theorem keyIs_shape : ∀ {k : Key} {v : Value}, keyIs k v = true → (∃ i t, k = Sum.inl i ∧ v = Value.int i t) ∨ (∃ x t, k = Sum.inr x ∧ v = Value.str x t)
  | .inl i, v, h => by
    obtain ⟨t, e⟩ := Value.isInt_shape (k := i) (v := v) h
    exact .inl ⟨i, t, rfl, e⟩
  | .inr x, v, h => by
    obtain ⟨t, e⟩ := Value.isStrOf_shape (x := x) (v := v) h
    exact .inr ⟨x, t, rfl, e⟩
theorem key_ll (a b : Int) : decide ((Sum.inl a : Key) = Sum.inl b) = (a == b) := by
  by_cases e : a = b
  · subst e; simp
  · have h : ¬ (Sum.inl a : Key) = Sum.inl b := fun q => e (Sum.inl.inj q)
    rw [decide_eq_false h]
    exact (beq_eq_false_iff_ne.mpr e).symm
theorem key_rr (a b : Str) : decide ((Sum.inr a : Key) = Sum.inr b) = decide (a = b) := by
  by_cases e : a = b
  · subst e; simp
  · have h : ¬ (Sum.inr a : Key) = Sum.inr b := fun q => e (Sum.inr.inj q)
    rw [decide_eq_false h, decide_eq_false e]
theorem key_lr (a : Int) (b : Str) : decide ((Sum.inl a : Key) = Sum.inr b) = false := decide_eq_false (fun q => nomatch q)
theorem key_rl (a : Str) (b : Int) : decide ((Sum.inr a : Key) = Sum.inl b) = false := decide_eq_false (fun q => nomatch q)

noncomputable def mixKind (prog : Program) (w : World) : PySem.KeyKind prog w Key where
  is := keyIs
  hash := keyH w
  inj := fun v a b ha hb => by
    rcases keyIs_shape ha with ⟨i, t, rfl, rfl⟩ | ⟨x, t, rfl, rfl⟩
    · rcases keyIs_shape hb with ⟨j, u, rfl, e⟩ | ⟨y, u, rfl, e⟩
      · injection e with e1 _; rw [e1]
      · exact nomatch e
    · rcases keyIs_shape hb with ⟨j, u, rfl, e⟩ | ⟨y, u, rfl, e⟩
      · exact nomatch e
      · injection e with e1 _; rw [e1]
  byValue := fun k v h => by
    rcases keyIs_shape h with ⟨i, t, rfl, rfl⟩ | ⟨x, t, rfl, rfl⟩ <;> rfl
  pyHash := fun hv h => by
    rcases keyIs_shape hv with ⟨i, t, rfl, rfl⟩ | ⟨x, t, rfl, rfl⟩
    · exact wpAny_pyHash_int h
    · exact wpAny_pyHash_str h
  eqBool := fun hu hv h => by
    rcases keyIs_shape hu with ⟨i, t, rfl, rfl⟩ | ⟨x, t, rfl, rfl⟩
    · rcases keyIs_shape hv with ⟨j, u, rfl, rfl⟩ | ⟨y, u, rfl, rfl⟩
      · rw [key_ll] at h; exact wpAny_eqBool_int h
      · rw [key_lr] at h; exact SeqAt.EqAt.int_str i t y u _ _ _ _ h
    · rcases keyIs_shape hv with ⟨j, u, rfl, rfl⟩ | ⟨y, u, rfl, rfl⟩
      · rw [key_rl] at h; exact SeqAt.EqAt.str_int x t j u _ _ _ _ h
      · rw [key_rr] at h; exact wpAny_eqBool_str h
  «strs» := fun k x t v h => by
    rcases keyIs_shape h with ⟨i, u, rfl, e⟩ | ⟨y, u, rfl, e⟩
    · exact nomatch e
    · injection e with e1 _
      subst e1
      cases v <;> rfl

end L2

namespace L2
open PySem PySem.Spec PyProof.Rows

inductive V where
  | non | bl (b : Bool) | int (i : Int) | str (x : Str) | byt (b : Array UInt8) | flt (b : UInt64) | ref (a : Addr) | ty (n : String)
  deriving DecidableEq

noncomputable def RelV : V → Value → Prop
  | .non, u => u = Value.none
  | .bl b, u => u = Value.bool b
  | .int i, u => ∃ t, u = Value.int i t
  | .str x, u => ∃ t, u = Value.str x t
  | .byt b, u => ∃ t, u = Value.bytes b t
  | .flt b, u => ∃ t, u = Value.float b t
  | .ref a, u => u = Value.ref a
  | .ty n, u => u = Value.type n

noncomputable abbrev Vals : List V → List Value → Prop := Paired RelV
theorem Vals.length {xs : List V} {us : List Value} (r : Vals xs us) : xs.length = us.length := Paired.length r
theorem Vals.get : ∀ {xs : List V} {us : List Value} {i : Nat} {x : V}, Vals xs us → xs[i]? = some x → ∃ u, us[i]? = some u ∧ RelV x u
  | _, _, _, _, .nil, e => by simp at e
  | _, _, 0, _, .cons r _, e => by simp at e; subst e; exact ⟨_, rfl, r⟩
  | _, _, i + 1, x, .cons _ t, e => by
    obtain ⟨u, h1, h2⟩ := Vals.get (i := i) (x := x) t (by simpa using e)
    exact ⟨u, by simpa using h1, h2⟩
theorem Vals.set {x : V} {u : Value} (r : RelV x u) : ∀ {xs : List V} {us : List Value} (i : Nat), Vals xs us → Vals (xs.set i x) (us.set i u)
  | _, _, _, .nil => .nil
  | _, _, 0, .cons _ t => .cons r t
  | _, _, i + 1, .cons q t => .cons q (Vals.set r i t)
theorem Vals.append : ∀ {xs ys : List V} {us ws : List Value}, Vals xs us → Vals ys ws → Vals (xs ++ ys) (us ++ ws)
  | _, _, _, _, .nil, s => s
  | _, _, _, _, .cons r t, s => .cons r (Vals.append t s)
theorem Vals.take : ∀ {xs : List V} {us : List Value} (n : Nat), Vals xs us → Vals (xs.take n) (us.take n)
  | _, _, 0, _ => .nil
  | _, _, _ + 1, .nil => .nil
  | _, _, n + 1, .cons r t => .cons r (Vals.take n t)
theorem Vals.drop : ∀ {xs : List V} {us : List Value} (n : Nat), Vals xs us → Vals (xs.drop n) (us.drop n)
  | _, _, 0, r => r
  | _, _, _ + 1, .nil => .nil
  | _, _, n + 1, .cons _ t => Vals.drop n t
theorem Vals.none_of : ∀ {xs : List V} {us : List Value} {i : Nat}, Vals xs us → xs[i]? = none → us[i]? = none := fun {xs us i} r e => by
  have h1 := r.length
  have h2 : xs.length ≤ i := List.getElem?_eq_none_iff.mp e
  exact List.getElem?_eq_none_iff.mpr (by omega)

noncomputable def RelO : Option V → Option Value → Prop
  | some v, some u => RelV v u
  | none, none => True
  | _, _ => False
noncomputable def KV {κ : Type} : List (κ × V) → List (κ × Value) → Prop := Paired fun (p : κ × V) (q : κ × Value) => p.1 = q.1 ∧ RelV p.2 q.2

noncomputable def kV : Key → V
  | .inl i => .int i
  | .inr x => .str x

inductive HO where
    | lst (xs : List V)
    | tup (xs : List V)
    | dK (kvs : List (Key × V)) | dT (kvs : List (List Key × V))
    | set (S : Int → Bool) (n : Nat)
    | ins (C dx : Addr) (fs : List (Str × V))
    | own (x : Addr)
    | xd (fs : List (Str × V))
    | met (f x : Addr)
    | rng (lo hi : Int)
    | frz (o : Obj) (u : HO)
    | tbl (ps : Array Value)
    | ext (φ : Heap → Prop)

noncomputable abbrev Hp := Addr → Option HO
noncomputable def upd (H : Hp) (a : Addr) (o : HO) : Hp := fun b => if b = a then some o else H b
theorem upd_same {H : Hp} {a : Addr} {o : HO} : upd H a o a = some o := by unfold upd; rw [if_pos rfl]
theorem upd_ne {H : Hp} {a b : Addr} {o : HO} (h : b ≠ a) : upd H a o b = H b := by unfold upd; rw [if_neg h]
theorem ne_of_none {H : Hp} {a b : Addr} {o : HO} (h : H a = some o) (h' : H b = none) : a ≠ b := by
  intro e; subst e; rw [h] at h'; cases h'

section
variable (P : Program) (w : World)
noncomputable def ObjOk (H : Hp) (h : Heap) (a : Addr) : HO → Prop
  | .lst xs => xs.length ≤ sizeLine ∧ ∃ (its : List Value) (n : Nat), Vals xs its ∧ h.get? a = some { cls := .type "list", data := .seq its.toArray n }
  | .tup xs => xs.length ≤ sizeLine ∧ ∃ its : List Value, Vals xs its ∧ IsTup h a its.toArray
  | .dK kvs => kvs.length ≤ sizeLine ∧ (a == sysModules) = false ∧ ∃ vs, KV kvs vs ∧ h.DictOf (mixKind P w) a vs
  | .dT kvs => kvs.length ≤ sizeLine ∧ (a == sysModules) = false ∧ ∃ xs : List (List Key × Addr × Value),
      Paired (fun (p : List Key × V) (q : List Key × Addr × Value) => p.1 = q.1 ∧ H q.2.1 = some (.tup (p.1.map kV)) ∧ RelV p.2 q.2.2) kvs xs ∧
      ∃ o es ep, h.get? a = some o ∧ o.ExactDict ∧ o.data = .dict es ep ∧ es.toList = xs.map (entryOfKey (tupleKind (mixKind P w))) ∧ (xs.map (·.1)).Nodup
  | .set S n => h.SetOf (intKind P w) a S n
  | .ins C dx fs => H dx = some (.own a) ∧ fs.length ≤ 1000 ∧ dx ≠ a ∧ h.get? a = some (PySem.W.instObj C dx) ∧
      ∃ mA, h.Ns1 dx mA ∧ (∀ f, RelO (fs.lookup f) (mA f)) ∧ PySem.Within mA (fs.map (·.1))
  | .own _ => ∃ o, h.get? a = some o
  | .xd fs => ∃ mA, h.Ns1 a mA ∧ ∀ f, RelO (fs.lookup f) (mA f)
  | .rng lo hi => ∃ t u v, h.get? a = some { cls := .type "range", data := .fields #[.int lo t, .int hi u, .int 1 v] }
  | .frz o u => h.get? a = some o ∧ ObjOk H h a u
  | .tbl ps => h.get? a = some { cls := .none, data := .fields ps }
  | .met f x => h.get? a = some (PySem.W.methodObj (.ref f) (.ref x))
  | .ext φ => φ h ∧ (∃ o, h.get? a = some o) ∧ ∀ h1 h2 : Heap, φ h1 → (∀ o, h1.get? a = some o → h2.get? a = some o) → φ h2
noncomputable def HOk (H : Hp) (h : Heap) : Prop := ∀ a o, H a = some o → ObjOk P w H h a o
end

section
variable {P : Program} {w : World} {H H' : Hp} {h h' : Heap} {a : Addr} {o : HO}
theorem ObjOk.lt (x : ObjOk P w H h a o) : a < h.objs.size := by
  cases o with
  | lst xs => obtain ⟨_, _, _, _, e⟩ := x; exact Heap.lt_size e
  | tup xs => obtain ⟨_, _, _, p⟩ := x; exact p.lt
  | dK kvs => obtain ⟨_, _, _, _, o, _, _, e, _⟩ := x; exact Heap.lt_size e
  | dT kvs => obtain ⟨_, _, _, _, o, _, _, e, _⟩ := x; exact Heap.lt_size e
  | set S n => obtain ⟨o, _, _, _, e, _⟩ := x; exact Heap.lt_size e
  | ins C dx fs => obtain ⟨_, _, _, e, _⟩ := x; exact Heap.lt_size e
  | own y => obtain ⟨_, e⟩ := x; exact Heap.lt_size e
  | xd fs => obtain ⟨_, ⟨_, _, _, e, _⟩, _⟩ := x; exact Heap.lt_size e
  | rng lo hi => obtain ⟨_, _, _, e⟩ := x; exact Heap.lt_size e
  | frz ob u => obtain ⟨e, _⟩ := x; exact Heap.lt_size e
  | tbl ps => exact Heap.lt_size (show h.get? a = some _ from x)
  | met f y => exact Heap.lt_size (show h.get? a = some _ from x)
  | ext φ => obtain ⟨_, ⟨_, e⟩, _⟩ := x; exact Heap.lt_size e
theorem Paired.mapP {α β : Type} {F G : α → β → Prop} : ∀ {l₁ : List α} {l₂ : List β}, Paired F l₁ l₂ → (∀ a b, F a b → G a b) → Paired G l₁ l₂
  | _, _, .nil, _ => .nil
  | _, _, .cons r t, f => .cons (f _ _ r) (Paired.mapP t f)
theorem ObjOk.stay (x : ObjOk P w H h a o) (k : ∀ b u, (b = a ∨ H b = some (.own a)) → h.get? b = some u → h'.get? b = some u)
    (ho : ∀ b, H b = some (.own a) → H' b = some (.own a)) (ht : ∀ b xs, H b = some (.tup xs) → H' b = some (.tup xs)) : ObjOk P w H' h' a o := by
  induction o with
  | lst xs => obtain ⟨z, its, n, r, e⟩ := x; exact ⟨z, its, n, r, k _ _ (.inl rfl) e⟩
  | tup xs => obtain ⟨z, its, r, ob, e, c⟩ := x; exact ⟨z, its, r, ob, k _ _ (.inl rfl) e, c⟩
  | dK kvs => obtain ⟨z, y, vs, r, ob, es, ep, e, c⟩ := x; exact ⟨z, y, vs, r, ob, es, ep, k _ _ (.inl rfl) e, c⟩
  | dT kvs =>
    obtain ⟨z, y, xs, r, ob, es, ep, e, c⟩ := x
    exact ⟨z, y, xs, Paired.mapP r fun p q z => ⟨z.1, ht _ _ z.2.1, z.2.2⟩, ob, es, ep, k _ _ (.inl rfl) e, c⟩
  | set S n => obtain ⟨ob, es, ep, t, e, c⟩ := x; exact ⟨ob, es, ep, t, k _ _ (.inl rfl) e, c⟩
  | ins C dx fs =>
    obtain ⟨d, z, ne, e, mA, ⟨od, es, ep, e2, c⟩, r⟩ := x
    exact ⟨ho _ d, z, ne, k _ _ (.inl rfl) e, mA, ⟨od, es, ep, k _ _ (.inr d) e2, c⟩, r⟩
  | own y => obtain ⟨ob, e⟩ := x; exact ⟨ob, k _ _ (.inl rfl) e⟩
  | xd fs => obtain ⟨mA, ⟨od, es, ep, e, c⟩, r⟩ := x; exact ⟨mA, ⟨od, es, ep, k _ _ (.inl rfl) e, c⟩, r⟩
  | rng lo hi => obtain ⟨t, u, v, e⟩ := x; exact ⟨t, u, v, k _ _ (.inl rfl) e⟩
  | frz ob u ih => obtain ⟨e, q⟩ := x; exact ⟨k _ _ (.inl rfl) e, ih q⟩
  | tbl ps =>
    have e : h.get? a = some { cls := .none, data := .fields ps } := x
    show h'.get? a = some { cls := .none, data := .fields ps }
    exact k a _ (.inl rfl) e
  | met f y =>
    have e : h.get? a = some (PySem.W.methodObj (.ref f) (.ref y)) := x
    show h'.get? a = some (PySem.W.methodObj (.ref f) (.ref y))
    exact k a _ (.inl rfl) e
  | ext φ => obtain ⟨p, ⟨o, e⟩, st⟩ := x; exact ⟨st _ _ p fun o q => k _ _ (.inl rfl) q, ⟨o, k _ _ (.inl rfl) e⟩, st⟩
theorem HOk.lt (x : HOk P w H h) (e : H a = some o) : a < h.objs.size := (x a o e).lt
theorem HOk.fresh (x : HOk P w H h) (e : h.objs.size ≤ a) : H a = none := by
  cases q : H a with
  | none => rfl
  | some u => exact absurd (Nat.lt_of_lt_of_le (x.lt q) e) (Nat.lt_irrefl _)
theorem HOk.kept (x : HOk P w H h) (k : ∀ b u, h.get? b = some u → h'.get? b = some u) : HOk P w H h' := fun a o e =>
  (x a o e).stay (fun b u _ q => k b u q) (fun _ q => q) fun _ _ q => q
theorem HOk.laid (x : HOk P w H h) (k : ∀ b u, h.get? b = some u → h'.get? b = some u) (hp : h.objs.size ≤ a) (new : ObjOk P w (upd H a o) h' a o) : HOk P w (upd H a o) h' := fun b u e => by
  have hn := x.fresh hp
  by_cases hb : b = a
  · subst hb; rw [upd_same] at e; cases e; exact new
  · rw [upd_ne hb] at e
    exact (x b u e).stay (fun c v _ q => k c v q) (fun c q => by rw [upd_ne (ne_of_none q hn)]; exact q) fun c xs q => by rw [upd_ne (ne_of_none q hn)]; exact q
end

noncomputable def Rd (H : Hp) (a : Addr) (u : HO) : Prop := H a = some u ∨ ∃ o, H a = some (.frz o u)
theorem Rd.of {H : Hp} {a : Addr} {u : HO} (h : H a = some u) : Rd H a u := .inl h
theorem Rd.ok {P : Program} {w : World} {H : Hp} {h : Heap} {a : Addr} {u : HO} (r : Rd H a u) (x : HOk P w H h) : ObjOk P w H h a u := by
  rcases r with r | ⟨o, r⟩
  · exact x a u r
  · obtain ⟨_, q⟩ := x a _ r
    exact q
noncomputable def Mut : Option HO → Prop
  | some (.lst _) => True
  | some (.dK _) => True
  | some (.dT _) => True
  | some (.set _ _) => True
  | some (.ins _ _ _) => True
  | some (.ext _) => True
  | _ => False
section
variable {P : Program} {w : World} {H : Hp} {h h' : Heap} {x e : Addr} {o' : HO}
theorem HOk.write (ok : HOk P w H h) (mu : Mut (H x)) (he : e = x ∨ H e = some (.own x)) (k : ∀ b u, b ≠ e → h.get? b = some u → h'.get? b = some u) (heo : ∃ u, h'.get? e = some u)
    (new : ObjOk P w (upd H x o') h' x o') : HOk P w (upd H x o') h' := fun b u q => by
  have nown : ∀ c y, H c = some (.own y) → c ≠ x := fun c y r z => by subst z; rw [r] at mu; exact mu
  have ntup : ∀ c xs, H c = some (.tup xs) → c ≠ x := fun c xs r z => by subst z; rw [r] at mu; exact mu
  by_cases hb : b = x
  · subst hb; rw [upd_same] at q; cases q; exact new
  · rw [upd_ne hb] at q
    by_cases hbe : b = e
    · have q' : H b = some (.own x) := by
        rcases he with z | z
        · exact absurd (hbe.trans z) hb
        · rw [hbe]; exact z
      rw [q] at q'; cases q'
      obtain ⟨v, hv⟩ := heo
      exact ⟨v, by rw [hbe]; exact hv⟩
    · refine (ok b u q).stay (fun c v hc r => k c v ?_ r) (fun c r => by rw [upd_ne (nown c b r)]; exact r) fun c xs r => by rw [upd_ne (ntup c xs r)]; exact r
      rcases hc with rfl | hc
      · exact hbe
      · rintro rfl
        rcases he with z | z
        · exact nown c b hc z
        · rw [hc] at z; cases z; exact hb rfl
end

structure Un (fs ex : List Addr) (H H' : Hp) (h h' : Heap) : Prop where
  keep : ∀ b o, h.get? b = some o → H b = none → b ∉ fs → b ∉ ex → h'.get? b = some o
  slot : ∀ b o, h.get? b = some o → H b = none → b ∈ fs → b ∉ ex → ∃ sl, h'.get? b = some { o with slots := sl }
  free : ∀ b o, h.get? b = some o → H b = none → b ∉ ex → H' b = none
  there : ∀ b o, h.get? b = some o → b ∉ ex → ∃ o', h'.get? b = some o'
  tups : ∀ b xs, H b = some (.tup xs) → H' b = some (.tup xs)
  frzs : ∀ b o u, H b = some (.frz o u) → H' b = some (.frz o u)
  tbls : ∀ b ps, H b = some (.tbl ps) → ∃ more, H' b = some (.tbl (ps ++ more))
section
variable {fs fs' ex ex' : List Addr} {H H1 H2 : Hp} {h h1 h2 h' : Heap} {a x e : Addr} {o : HO}
theorem Un.any (u : Un fs ex H H1 h h1) {b : Addr} {ob : Obj} (q : h.get? b = some ob) (n : H b = none) (hx : b ∉ ex) : ∃ sl, h1.get? b = some { ob with slots := sl } := by
  by_cases hb : b ∈ fs
  · exact u.slot b ob q n hb hx
  · exact ⟨ob.slots, u.keep b ob q n hb hx⟩
theorem Un.trans (a : Un fs ex H H1 h h1) (b : Un fs ex H1 H2 h1 h2) : Un fs ex H H2 h h2 where
  keep := fun c ob q n hc hx => b.keep c ob (a.keep c ob q n hc hx) (a.free c ob q n hx) hc hx
  slot := fun c ob q n hc hx => by
    obtain ⟨sl, e1⟩ := a.slot c ob q n hc hx
    obtain ⟨sl', e2⟩ := b.slot c _ e1 (a.free c ob q n hx) hc hx
    exact ⟨sl', e2⟩
  free := fun c ob q n hx => by
    obtain ⟨o', e1⟩ := a.there c ob q hx
    exact b.free c o' e1 (a.free c ob q n hx) hx
  there := fun c ob q hx => by
    obtain ⟨o', e1⟩ := a.there c ob q hx
    exact b.there c o' e1 hx
  tups := fun c xs q => b.tups c xs (a.tups c xs q)
  frzs := fun c ob xs q => b.frzs c ob xs (a.frzs c ob xs q)
  tbls := fun c ps q => by
    obtain ⟨m1, e1⟩ := a.tbls c ps q
    obtain ⟨m2, e2⟩ := b.tbls c _ e1
    exact ⟨m1 ++ m2, by rw [e2, Array.append_assoc]⟩
theorem Un.kept (k : ∀ b u, h.get? b = some u → h'.get? b = some u) : Un fs ex H H h h' :=
  ⟨fun b ob q _ _ _ => k b ob q, fun b ob q _ _ _ => ⟨ob.slots, k b ob q⟩, fun _ _ _ n _ => n, fun b ob q _ => ⟨ob, k b ob q⟩, fun _ _ q => q, fun _ _ _ q => q, fun _ ps q => ⟨#[], by rw [q]; simp⟩⟩
theorem Un.refl : Un fs ex H H h h := Un.kept fun _ _ q => q
theorem Un.laid (k : ∀ b u, h.get? b = some u → h'.get? b = some u) (hp : h.objs.size ≤ a) (hn : H a = none) : Un fs ex H (upd H a o) h h' where
  keep := fun b u q _ _ _ => k b u q
  slot := fun b u q _ _ _ => ⟨u.slots, k b u q⟩
  free := fun b u q n _ => by rw [upd_ne (Nat.ne_of_lt (Nat.lt_of_lt_of_le (Heap.lt_size q) hp))]; exact n
  there := fun b u q _ => ⟨u, k b u q⟩
  tups := fun b xs q => by rw [upd_ne (ne_of_none q hn)]; exact q
  frzs := fun b u xs q => by rw [upd_ne (ne_of_none q hn)]; exact q
  tbls := fun b ps q => ⟨#[], by rw [upd_ne (ne_of_none q hn), q]; simp⟩
theorem Un.write (mu : Mut (H x)) (he : e = x ∨ H e = some (.own x)) (k : ∀ b u, b ≠ e → h.get? b = some u → h'.get? b = some u) (heo : ∃ u, h'.get? e = some u) : Un fs ex H (upd H x o) h h' := by
  have hx : ∀ b, H b = none → b ≠ x := fun b n z => by subst z; rw [n] at mu; exact mu
  have hb : ∀ b, H b = none → b ≠ e := fun b n z => by
    subst z
    rcases he with r | r
    · exact hx b n r
    · rw [n] at r; cases r
  have hm : ∀ b u, H b = some u → ¬ Mut (some u) → b ≠ x := fun b u q nm z => by subst z; rw [q] at mu; exact nm mu
  refine ⟨fun b u q n _ _ => k b u (hb b n) q, fun b u q n _ _ => ⟨u.slots, k b u (hb b n) q⟩, fun b u q n _ => by rw [upd_ne (hx b n)]; exact n, fun b u q _ => ?_,
    fun b xs q => by rw [upd_ne (hm b _ q fun z => z)]; exact q, fun b u xs q => by rw [upd_ne (hm b _ q fun z => z)]; exact q, fun b ps q => ⟨#[], by rw [upd_ne (hm b _ q fun z => z), q]; simp⟩⟩
  by_cases hbe : b = e
  · subst hbe; exact heo
  · exact ⟨u, k b u hbe q⟩
theorem Un.mono (u : Un fs ex H H1 h h1) (hs : ∀ b ∈ fs, b ∈ fs') (hx : ∀ b ∈ ex, b ∈ ex') : Un fs' ex' H H1 h h1 :=
  ⟨fun b ob q n hb he => u.keep b ob q n (fun z => hb (hs b z)) fun z => he (hx b z), fun _ _ q n _ he => u.any q n fun z => he (hx _ z), fun b ob q n he => u.free b ob q n fun z => he (hx b z), fun b ob q he => u.there b ob q fun z => he (hx b z), u.tups, u.frzs, u.tbls⟩
end

noncomputable def trk (h : Heap) (H : Hp) : List Addr := (List.range h.objs.size).filter fun a => (H a).isSome
noncomputable def hidT (h : Heap) (H : Hp) : Heap := PySem.W.hideAll h (trk h H)
theorem hidT_size (h : Heap) (H : Hp) : (hidT h H).objs.size = h.objs.size := PySem.W.hideAll_size _ _
theorem hidT_get {h : Heap} {H : Hp} {b : Addr} {o : Obj} (e : h.get? b = some o) (n : H b = none) : (hidT h H).get? b = some o :=
  PySem.W.hideAll_get _ e fun hm => by
    have q : (H b).isSome = true := (List.mem_filter.mp hm).2
    rw [n] at q; simp at q
theorem of_hidT {h : Heap} {H : Hp} {b : Addr} {o : Obj} (e : (hidT h H).get? b = some o) : h.get? b = some o ∧ H b = none := by
  have e' : h.get? b = some o := PySem.W.of_hideAll (trk h H) e
  refine ⟨e', ?_⟩
  cases q : H b with
  | none => rfl
  | some x =>
    have hm : b ∈ trk h H := List.mem_filter.mpr ⟨List.mem_range.mpr (Heap.lt_size e'), by simp [q]⟩
    have z : (hidT h H).get? b = none := PySem.W.hideAll_none (trk h H) hm
    rw [z] at e; cases e

noncomputable def allNews (g h : Heap) (L : Addr) : List (Addr × Obj) := (List.range h.objs.size).filterMap fun a => if a = L ∨ (g.get? a).isSome = true then none else (h.get? a).map fun o => (a, o)
noncomputable def rest (g h : Heap) (L d : Addr) : List (Addr × Obj) := (allNews g h L).filter fun p => decide (p.1 ≠ d)
end L2

namespace L2
open PySem PySem.Spec PyProof.Rows

structure Mod (K : PySem.W.Frag) (mg : Str → Option Value) (base : Heap) : Prop where
  kin : K.In base
  glob : base.Ns mainGlobals mg
  blt : ∃ mb, base.Ns builtinsNs mb ∧ ∀ x : Str, x ≠ "__name__" → mb x = bootBuiltins x
  nolimit : base.NoLimit

structure Cx where
  prog : Program
  w : World
  K : PySem.W.Frag
  mg : Str → Option Value
  base : Heap
  A : Around
  N : List Str
  s₀ : Shared
  H₀ : Hp
  env : Env
  outer : List Env
  stack : List Env
  ex : List Addr
  fn : Str → Bool
  calm : Bool
  pn : List (Addr × Obj)
  xe : Value → Shared → Prop
noncomputable def frs (l : List Env) : List Addr := l.filterMap (·.frame)
noncomputable abbrev Cx.fs (X : Cx) : List Addr := frs X.outer

noncomputable def Vis (sc : Scope) (x : Str) : Prop := sc.names.lookup x = some .local ∨ sc.names.lookup x = some .cell ∨ sc.names.lookup x = some .free
noncomputable def Loc (sc : Scope) (x : Str) : Prop := sc.names.lookup x = some .local ∨ sc.names.lookup x = some .cell
noncomputable def Look (env : Env) (h : Heap) (m : Str → Option Value) (x : Str) (u : Value) : Prop :=
  (env.kindOf x = some .local ∧ m x = some u) ∨ ((env.kindOf x = some .cell ∨ env.kindOf x = some .free) ∧ ∃ c, env.cells.lookup x = some c ∧ h.IsCell c (some u))

structure Cx.Ok (X : Cx) : Prop where
  mod : Mod X.K X.mg X.base
  kind : X.env.scope.kind = .function
  glob : X.env.globals = mainGlobals
  blt : X.env.builtins = builtinsNs
  above : X.s₀.heap.objs.size ≤ X.env.locals
  inj : ∀ x y c, X.env.cells.lookup x = some c → X.env.cells.lookup y = some c → x = y
  has : ∀ x, (X.env.kindOf x = some .cell ∨ X.env.kindOf x = some .free) → ∃ c, X.env.cells.lookup x = some c
  cab : ∀ x c, X.fn x = true → X.env.cells.lookup x = some c → X.s₀.heap.objs.size ≤ c
  hd : X.calm = true → X.A.handled = none
  frames : X.A.frames = some X.stack
  stk : X.stack = X.outer ∨ (X.stack = X.env :: X.outer ∧ X.env.frame = some X.env.locals)
  exf : ∀ b ∈ X.ex, b ≠ X.env.locals ∧ ∀ x c, X.env.cells.lookup x = some c → c ≠ b
  bs : ∀ b o, X.base.get? b = some o → X.s₀.heap.get? b = some o ∧ X.H₀ b = none
  bsz : X.base.objs.size ≤ X.s₀.heap.objs.size
  noex : ∀ b o, X.base.get? b = some o → b ∉ X.ex
  exfs : ∀ b ∈ X.ex, b ∉ X.fs
  funs : X.s₀.heap.FunFrames X.base X.outer
  frf : ∀ b ∈ X.fs, X.H₀ b = none

structure Inv (X : Cx) (pins : List (Addr × Obj)) (σ : List (Option V)) (H : Hp) (s : Shared) : Prop where
  ok : X.Ok
  os : s.os = X.s₀.os
  bare : AllBare s.gens
  base : Un X.fs X.ex X.H₀ H X.s₀.heap s.heap
  loc : ∃ m, s.heap.Ns X.env.locals m ∧ ∀ (i : Nat) (x : Str) (v : V), X.N[i]? = some x → σ[i]? = some (some v) → Vis X.env.scope x → ∃ u, RelV v u ∧ Look X.env s.heap m x u
  cell : ∀ x c, X.env.cells.lookup x = some c → ∃ v, s.heap.IsCell c v
  free : H X.env.locals = none
  freeC : ∀ x c, X.env.cells.lookup x = some c → H c = none
  pin : ∀ p ∈ X.pn ++ pins, s.heap.get? p.1 = some p.2 ∧ H p.1 = none ∧ p.1 ≠ X.env.locals ∧ p.1 ∉ X.fs ∧ ∀ v, p.2.data ≠ .cell v
  hok : HOk X.prog X.w H s.heap
  len : σ.length = X.N.length

section
variable {X : Cx} {pins : List (Addr × Obj)} {σ : List (Option V)} {H H' : Hp} {s : Shared} {h' : Heap}

theorem Cx.Ok.nofr (ok : X.Ok) {b : Addr} {o : Obj} (e : X.base.get? b = some o) : b ∉ X.fs := fun hb => by
  have := (ok.funs.mem hb).1
  rw [e] at this; cases this
theorem Inv.bs (I : Inv X pins σ H s) : ∀ b o, X.base.get? b = some o → s.heap.get? b = some o ∧ H b = none := fun b o e =>
  ⟨I.base.keep b o (I.ok.bs b o e).1 (I.ok.bs b o e).2 (I.ok.nofr e) (I.ok.noex b o e), I.base.free b o (I.ok.bs b o e).1 (I.ok.bs b o e).2 (I.ok.noex b o e)⟩
theorem Inv.bk (I : Inv X pins σ H s) : ∀ b o, X.base.get? b = some o → s.heap.get? b = some o := fun b o e => (I.bs b o e).1
theorem Inv.mod (I : Inv X pins σ H s) : Mod X.K X.mg X.base := I.ok.mod
theorem Inv.kIn (I : Inv X pins σ H s) : X.K.In s.heap := I.ok.mod.kin.keeps I.bk
theorem Inv.nolimit (I : Inv X pins σ H s) : s.heap.NoLimit := I.ok.mod.nolimit.keeps I.bk
theorem Inv.fr (I : Inv X pins σ H s) : ∃ m, Fr X.base X.env.locals s.heap m :=
  let ⟨m, hn, _⟩ := I.loc
  ⟨m, hn, I.bk, Nat.le_trans I.ok.bsz I.ok.above⟩
theorem Inv.lt (I : Inv X pins σ H s) : X.env.locals < s.heap.objs.size := let ⟨_, hn, _⟩ := I.loc; hn.lt
theorem Inv.sz (I : Inv X pins σ H s) : X.s₀.heap.objs.size ≤ s.heap.objs.size := Nat.le_trans I.ok.above (Nat.le_of_lt I.lt)
theorem Inv.nofs (I : Inv X pins σ H s) {a : Addr} (h : s.heap.objs.size ≤ a) : a ∉ X.fs := fun hb => by
  obtain ⟨_, o, ho, _⟩ := I.ok.funs.mem hb
  exact absurd (Nat.lt_of_lt_of_le (Heap.lt_size ho) (Nat.le_trans I.sz h)) (Nat.lt_irrefl _)
theorem Inv.cne (I : Inv X pins σ H s) : ∀ x c, X.env.cells.lookup x = some c → c ≠ X.env.locals := fun x c e z => by
  obtain ⟨v, o, ho, hd⟩ := I.cell x c e
  obtain ⟨m, ⟨o', es, ep, ho', hd', _⟩, _⟩ := I.loc
  rw [z, ho'] at ho; cases ho; rw [hd'] at hd; cases hd
theorem Inv.funs (I : Inv X pins σ H s) : s.heap.FunFrames X.base X.outer := by
  have all : ∀ (l : List Env), (∀ b ∈ frs l, b ∈ X.fs) → X.s₀.heap.FunFrames X.base l → s.heap.FunFrames X.base l := by
    intro l
    induction l with
    | nil => intro _ _; trivial
    | cons env r ih =>
      intro hs hl
      obtain ⟨hk, ⟨L, o, hf, hn, ho, hd⟩, hr⟩ := hl
      have hL : L ∈ X.fs := hs L (by unfold frs; rw [List.filterMap_cons, hf]; exact List.mem_cons_self)
      obtain ⟨sl, e⟩ := I.base.slot L o ho (I.ok.frf L hL) hL fun z => I.ok.exfs L z hL
      exact ⟨hk, ⟨L, _, hf, hn, e, hd⟩, ih (fun b hb => hs b (by unfold frs; rw [List.filterMap_cons, hf]; exact List.mem_cons_of_mem _ hb)) hr⟩
  exact all X.outer (fun _ hb => hb) I.ok.funs

theorem Inv.stack (I : Inv X pins σ H s) : s.heap.FunFrames X.base X.stack := by
  rcases I.ok.stk with e | ⟨e, hf⟩
  · rw [e]; exact I.funs
  · rw [e]
    obtain ⟨m, hn, _⟩ := I.loc
    refine .cons (by rw [I.ok.kind]; decide) hf hn ?_ I.funs
    exact Heap.get?_none_of_le (Nat.le_trans I.ok.bsz I.ok.above)
theorem Inv.stkSub (I : Inv X pins σ H s) : ∀ b ∈ frs X.stack, b ∈ X.env.locals :: X.fs := fun b hb => by
  rcases I.ok.stk with e | ⟨e, hf⟩
  · rw [e] at hb; exact List.mem_cons_of_mem _ hb
  · rw [e] at hb
    unfold frs at hb
    rw [List.filterMap_cons, hf] at hb
    exact hb
theorem Inv.stkFree (I : Inv X pins σ H s) : ∀ b ∈ frs X.stack, H b = none := fun b hb => by
  rcases List.mem_cons.mp (I.stkSub b hb) with e | hb
  · rw [e]; exact I.free
  · obtain ⟨_, o, ho, _⟩ := I.ok.funs.mem hb
    exact I.base.free b o ho (I.ok.frf b hb) fun z => I.ok.exfs b z hb

theorem Inv.step {g' : Array GenState} {t' : Nat} {d' : Drawn} {ch : List Addr} (I : Inv X pins σ H s)
    (hch : ∀ b ∈ ch, (b ∈ X.ex ∨ X.s₀.heap.objs.size ≤ b) ∧ b ≠ X.env.locals ∧ (∀ x c, X.env.cells.lookup x = some c → c ≠ b) ∧ ∀ p ∈ X.pn ++ pins, p.1 ≠ b)
    (keep : ∀ b o, b ≠ X.env.locals → b ∉ X.fs → b ∉ ch → s.heap.get? b = some o → H b = none → h'.get? b = some o)
    (slot : ∀ b o, b ≠ X.env.locals → b ∈ X.fs → b ∉ ch → s.heap.get? b = some o → H b = none → ∃ sl, h'.get? b = some { o with slots := sl }) (free : ∀ b o, b ∉ ch → s.heap.get? b = some o → H b = none → H' b = none)
    (there : ∀ b o, b ∉ ch → s.heap.get? b = some o → ∃ o', h'.get? b = some o')
    (tups : ∀ b xs, H b = some (.tup xs) → H' b = some (.tup xs)) (frzs : ∀ b o u, H b = some (.frz o u) → H' b = some (.frz o u)) (tbls : ∀ b ps, H b = some (.tbl ps) → ∃ more, H' b = some (.tbl (ps ++ more)))
    (ns : ∀ m, s.heap.Ns X.env.locals m → h'.Ns X.env.locals m) (hok : HOk X.prog X.w H' h') (hg : AllBare g') :
    Inv X pins σ H' { s with heap := h', gens := g', drawn := d', toks := t' } := by
  have neL : ∀ b o, X.s₀.heap.get? b = some o → b ≠ X.env.locals := fun b o e => Nat.ne_of_lt (Nat.lt_of_lt_of_le (Heap.lt_size e) I.ok.above)
  have neC : ∀ b o, X.s₀.heap.get? b = some o → b ∉ X.ex → b ∉ ch := fun b o e hx hb => by
    rcases (hch b hb).1 with z | z
    · exact hx z
    · exact absurd (Nat.lt_of_lt_of_le (Heap.lt_size e) z) (Nat.lt_irrefl _)
  have cellK : ∀ x c, X.env.cells.lookup x = some c → ∀ v, s.heap.IsCell c v → h'.IsCell c v := fun x c e v ⟨o, ho, hd⟩ => by
    have nch : c ∉ ch := fun z => (hch c z).2.2.1 x c e rfl
    by_cases hc : c ∈ X.fs
    · obtain ⟨sl, q⟩ := slot c o (I.cne x c e) hc nch ho (I.freeC x c e)
      exact ⟨_, q, hd⟩
    · exact ⟨o, keep c o (I.cne x c e) hc nch ho (I.freeC x c e), hd⟩
  refine ⟨I.ok, I.os, hg, ⟨fun b o e n hb hx => ?_, fun b o e n hb hx => ?_, fun b o e n hx => ?_, fun b o e hx => ?_, fun b xs e => tups b xs (I.base.tups b xs e), fun b o xs e => frzs b o xs (I.base.frzs b o xs e), fun b ps e => ?_⟩, ?_, fun x c e => ?_, ?_, fun x c e => ?_, fun p hp => ?_, hok, I.len⟩
  · exact keep b o (neL b o e) hb (neC b o e hx) (I.base.keep b o e n hb hx) (I.base.free b o e n hx)
  · obtain ⟨sl, e1⟩ := I.base.slot b o e n hb hx
    obtain ⟨sl', e2⟩ := slot b _ (neL b o e) hb (neC b o e hx) e1 (I.base.free b o e n hx)
    exact ⟨sl', e2⟩
  · obtain ⟨o', e1⟩ := I.base.there b o e hx
    exact free b o' (neC b o e hx) e1 (I.base.free b o e n hx)
  · obtain ⟨o', e1⟩ := I.base.there b o e hx
    exact there b o' (neC b o e hx) e1
  · obtain ⟨m1, e1⟩ := I.base.tbls b ps e
    obtain ⟨m2, e2⟩ := tbls b _ e1
    exact ⟨m1 ++ m2, by rw [e2, Array.append_assoc]⟩
  · obtain ⟨m, hn, hl⟩ := I.loc
    refine ⟨m, ns m hn, fun i x v e1 e2 e3 => ?_⟩
    obtain ⟨u, r, l⟩ := hl i x v e1 e2 e3
    refine ⟨u, r, ?_⟩
    rcases l with l | ⟨k, c, e, z⟩
    · exact .inl l
    · exact .inr ⟨k, c, e, cellK x c e _ z⟩
  · obtain ⟨v, z⟩ := I.cell x c e
    exact ⟨v, cellK x c e v z⟩
  · obtain ⟨m, ⟨o, _, _, ho, _⟩, _⟩ := I.loc
    exact free _ o (fun z => (hch _ z).2.1 rfl) ho I.free
  · obtain ⟨v, o, ho, hd⟩ := I.cell x c e
    exact free c o (fun z => (hch c z).2.2.1 x c e rfl) ho (I.freeC x c e)
  · obtain ⟨e, n, ne, nf, d⟩ := I.pin p hp
    have nch : p.1 ∉ ch := fun z => (hch p.1 z).2.2.2 p hp rfl
    exact ⟨keep p.1 p.2 ne nf nch e n, free p.1 p.2 nch e n, ne, nf, d⟩
theorem Inv.un {t' : Nat} (I : Inv X pins σ H s) (u : Un X.fs [] H H' s.heap h') (hok : HOk X.prog X.w H' h') : Inv X pins σ H' { s with heap := h', toks := t' } := by
  obtain ⟨m, ⟨o, es, ep, ho, r⟩, _⟩ := id I.loc
  obtain ⟨sl, hL⟩ := u.any ho I.free (by simp)
  exact I.step (g' := s.gens) (d' := s.drawn) (ch := []) (fun _ z => nomatch z) (fun b o _ hb _ e n => u.keep b o e n hb (by simp)) (fun b o _ hb _ e n => u.slot b o e n hb (by simp)) (fun b o _ e n => u.free b o e n (by simp)) (fun b o _ e => u.there b o e (by simp)) u.tups u.frzs u.tbls (fun m' hm => by
    obtain ⟨o', es', ep', ho', r'⟩ := hm
    rw [ho] at ho'; cases ho'
    exact ⟨_, es', ep', hL, r'⟩) hok I.bare
theorem Inv.call {g' : Array GenState} {t' : Nat} {d' : Drawn} {ch : List Addr} (I : Inv X pins σ H s) (u : Un (frs X.stack) ch H H' s.heap h') (hok : HOk X.prog X.w H' h') (hg : AllBare g')
    (hch : ∀ b ∈ ch, (b ∈ X.ex ∨ X.s₀.heap.objs.size ≤ b) ∧ b ≠ X.env.locals ∧ (∀ x c, X.env.cells.lookup x = some c → c ≠ b) ∧ ∀ p ∈ X.pn ++ pins, p.1 ≠ b) :
    Inv X pins σ H' { s with heap := h', gens := g', drawn := d', toks := t' } := by
  obtain ⟨m, ⟨o, es, ep, ho, r⟩, _⟩ := id I.loc
  obtain ⟨sl, hL⟩ := u.any ho I.free fun z => (hch _ z).2.1 rfl
  exact I.step (ch := ch) hch (fun b o hL hb hc e n => u.keep b o e n (fun z => (List.mem_cons.mp (I.stkSub b z)).elim hL hb) hc) (fun b o _ _ hc e n => u.any e n hc) (fun b o hc e n => u.free b o e n hc) (fun b o hc e => u.there b o e hc) u.tups u.frzs u.tbls (fun m' hm => by
    obtain ⟨o', es', ep', ho', r'⟩ := hm
    rw [ho] at ho'; cases ho'
    exact ⟨_, es', ep', hL, r'⟩) hok hg
theorem Inv.turned {t' : Nat} {it : Addr} (I : Inv X pins σ H s) (k : ∀ b o, b ≠ it → s.heap.get? b = some o → h'.get? b = some o) (hn : H it = none) (hL : it ≠ X.env.locals)
    (h1 : it ∈ X.ex ∨ X.s₀.heap.objs.size ≤ it) (h2 : ∀ x c, X.env.cells.lookup x = some c → c ≠ it) (h3 : ∀ p ∈ X.pn ++ pins, p.1 ≠ it) : Inv X pins σ H { s with heap := h', toks := t' } := by
  have nit : ∀ b u, H b = some u → b ≠ it := fun b u e z => by rw [z, hn] at e; cases e
  refine I.step (g' := s.gens) (d' := s.drawn) (ch := [it]) (fun b hb => ?_) (fun b o _ _ hc e _ => k b o (fun z => hc (by simp [z])) e) (fun b o _ _ hc e _ => ⟨o.slots, k b o (fun z => hc (by simp [z])) e⟩) (fun _ _ _ _ n => n)
    (fun b o hc e => ⟨o, k b o (fun z => hc (by simp [z])) e⟩) (fun _ _ e => e) (fun _ _ _ e => e) (fun b ps e => ⟨#[], by rw [e]; simp⟩) (fun m hm => ?_) (fun b u e => ?_) I.bare
  · have e : b = it := by simpa using hb
    subst e
    exact ⟨h1, hL, h2, h3⟩
  · obtain ⟨o, es, ep, ho, r⟩ := hm
    exact ⟨o, es, ep, k _ o (Ne.symm hL) ho, r⟩
  · refine (I.hok b u e).stay (fun c v hc q => k c v ?_ q) (fun _ q => q) fun _ _ q => q
    rcases hc with z | z
    · rw [z]; exact nit b u e
    · exact nit c _ z
theorem Inv.tok (I : Inv X pins σ H s) (t : Nat) : Inv X pins σ H { s with toks := t } := I.un (h' := s.heap) (t' := t) Un.refl I.hok
theorem Inv.kept {t' : Nat} (I : Inv X pins σ H s) (k : ∀ b u, s.heap.get? b = some u → h'.get? b = some u) : Inv X pins σ H { s with heap := h', toks := t' } := I.un (Un.kept k) (I.hok.kept k)
theorem Inv.laid {a : Addr} {o : HO} {t' : Nat} (I : Inv X pins σ H s) (k : ∀ b u, s.heap.get? b = some u → h'.get? b = some u) (hp : s.heap.objs.size ≤ a) (new : ObjOk X.prog X.w (upd H a o) h' a o) :
    Inv X pins σ (upd H a o) { s with heap := h', toks := t' } := I.un (Un.laid k hp (I.hok.fresh hp)) (I.hok.laid k hp new)
theorem Inv.write {x e : Addr} {o : HO} {t' : Nat} (I : Inv X pins σ H s) (mu : Mut (H x)) (he : e = x ∨ H e = some (.own x)) (k : ∀ b u, b ≠ e → s.heap.get? b = some u → h'.get? b = some u) (heo : ∃ u, h'.get? e = some u)
    (new : ObjOk X.prog X.w (upd H x o) h' x o) : Inv X pins σ (upd H x o) { s with heap := h', toks := t' } := I.un (Un.write mu he k heo) (I.hok.write mu he k heo new)
theorem Inv.weak {σ' : List (Option V)} (I : Inv X pins σ H s) (hl : σ'.length = σ.length) (w : ∀ (i : Nat) v, σ'[i]? = some (some v) → σ[i]? = some (some v)) : Inv X pins σ' H s :=
  ⟨I.ok, I.os, I.bare, I.base, let ⟨m, hn, hl'⟩ := I.loc; ⟨m, hn, fun i x v e1 e2 e3 => hl' i x v e1 (w i v e2) e3⟩, I.cell, I.free, I.freeC, I.pin, I.hok, hl.trans I.len⟩
theorem Inv.pins_of {pins' : List (Addr × Obj)} (I : Inv X pins σ H s) (h : ∀ p ∈ pins', s.heap.get? p.1 = some p.2 ∧ H p.1 = none ∧ p.1 ≠ X.env.locals ∧ p.1 ∉ X.fs ∧ ∀ v, p.2.data ≠ .cell v) : Inv X pins' σ H s :=
  ⟨I.ok, I.os, I.bare, I.base, I.loc, I.cell, I.free, I.freeC, fun p hp => (List.mem_append.mp hp).elim (fun z => I.pin p (List.mem_append_left _ z)) (h p), I.hok, I.len⟩

theorem nodup_ix {N : List Str} (hN : N.Nodup) {i j : Nat} {x : Str} (a : N[i]? = some x) (b : N[j]? = some x) : i = j := by
  obtain ⟨h1, e1⟩ := List.getElem?_eq_some_iff.mp a
  obtain ⟨h2, e2⟩ := List.getElem?_eq_some_iff.mp b
  exact (List.getElem_inj hN).mp (e1.trans e2.symm)

theorem store_ok2 {M : Model} {A : Around} {E : Value → Shared → Prop} {i : Nat} {x : Str} {v : V} {u : Value} {Q : Unit → Shared → Prop} (I : Inv X pins σ H s) (hN : X.N.Nodup) (hi : X.N[i]? = some x) (hx : Loc X.env.scope x) (r : RelV v u)
    (h : ∀ s', Inv X pins (σ.set i (some v)) H s' → (∃ a, Heap.SameBut a s.heap s'.heap ∧ (a = X.env.locals ∨ X.env.cells.lookup x = some a)) → Q () s') (hf : X.fn x = true ∨ X.env.scope.names.lookup x = some .local := by first | exact .inl rfl | exact .inr rfl | assumption) : wpAny M A (storeName X.env x u) Q E s := by
  obtain ⟨m, hn, hl⟩ := id I.loc
  have hcls : (X.env.scope.kind == .class || (X.env.scope.kind == .module && X.env.locals != X.env.globals)) = false := by rw [I.ok.kind]; rfl
  have hiσ : i < σ.length := by rw [I.len]; exact (List.getElem?_eq_some_iff.mp hi).1
  have cne := I.cne
  have tracked : ∀ {a : Addr} {h' : Heap}, (∃ o, s.heap.get? a = some o ∧ H a = none) → Heap.SameBut a s.heap h' → HOk X.prog X.w H h' := fun {a h'} ha hs b ob e => by
    obtain ⟨_, _, hfree⟩ := ha
    refine (I.hok b ob e).stay (fun c w' hc q => (hs.2 c ?_).trans q) (fun _ q => q) fun _ _ q => q
    rintro rfl
    rcases hc with rfl | hc
    · rw [hfree] at e; cases e
    · rw [hfree] at hc; cases hc
  rcases hx with hk | hk
  · refine wpAny_storeName_local hk hn (fun h' hn' hs => ?_) hcls
    obtain ⟨oL, _, _, hoL, _⟩ := id hn
    refine h _ ⟨I.ok, I.os, I.bare, ⟨fun b o e n hb hx => ?_, fun b o e n hb hx => ?_, I.base.free, fun b o e hx => ?_, I.base.tups, I.base.frzs, I.base.tbls⟩, ⟨_, hn', fun j y v' e1 e2 e3 => ?_⟩, fun y c e => ?_, I.free, I.freeC, fun p hp => ?_, tracked ⟨oL, hoL, I.free⟩ hs, by simpa using I.len⟩ ⟨_, hs, .inl rfl⟩
    · exact (hs.2 b (Nat.ne_of_lt (Nat.lt_of_lt_of_le (Heap.lt_size e) I.ok.above))).trans (I.base.keep b o e n hb hx)
    · obtain ⟨sl, e1⟩ := I.base.slot b o e n hb hx
      exact ⟨sl, (hs.2 b (Nat.ne_of_lt (Nat.lt_of_lt_of_le (Heap.lt_size e) I.ok.above))).trans e1⟩
    · obtain ⟨o', e1⟩ := I.base.there b o e hx
      exact ⟨o', (hs.2 b (Nat.ne_of_lt (Nat.lt_of_lt_of_le (Heap.lt_size e) I.ok.above))).trans e1⟩
    · by_cases hj : j = i
      · subst hj
        rw [hi] at e1; cases e1
        rw [List.getElem?_set_self hiσ] at e2
        cases e2
        exact ⟨u, r, .inl ⟨hk, by simp⟩⟩
      · rw [List.getElem?_set_ne (Ne.symm hj)] at e2
        obtain ⟨u', r', q⟩ := hl j y v' e1 e2 e3
        refine ⟨u', r', ?_⟩
        rcases q with ⟨k, e⟩ | ⟨k, c, e, z⟩
        · refine .inl ⟨k, ?_⟩
          have : y ≠ x := fun e => hj (nodup_ix hN e1 (e ▸ hi))
          simp [this, e]
        · exact .inr ⟨k, c, e, z.sameBut hs (cne y c e)⟩
    · obtain ⟨w', z⟩ := I.cell y c e
      exact ⟨w', z.sameBut hs (cne y c e)⟩
    · obtain ⟨e, n, ne, nf, d⟩ := I.pin p hp
      exact ⟨(hs.2 p.1 ne).trans e, n, ne, nf, d⟩
  · have hfn : X.fn x = true := by
      rcases hf with z | z
      · exact z
      · rw [z] at hk; cases hk
    obtain ⟨c, hc⟩ := I.ok.has x (.inl hk)
    obtain ⟨w', z⟩ := I.cell x c hc
    refine wpAny_storeName_cell I.ok.kind hk hc z (fun h' hc' hs => ?_)
    obtain ⟨oc, hoc, hocd⟩ := id z
    refine h { s with heap := h' } ⟨I.ok, I.os, I.bare, ⟨fun b o e n hb hx => ?_, fun b o e n hb hx => ?_, I.base.free, fun b o e hx => ?_, I.base.tups, I.base.frzs, I.base.tbls⟩, ⟨m, hn.sameBut hs (Ne.symm (cne x c hc)), fun j y v' e1 e2 e3 => ?_⟩, fun y c' e => ?_, I.free, I.freeC, fun p hp => ?_, tracked ⟨oc, hoc, I.freeC x c hc⟩ hs, by simpa using I.len⟩ ⟨c, hs, .inr hc⟩
    · exact (hs.2 b (Nat.ne_of_lt (Nat.lt_of_lt_of_le (Heap.lt_size e) (I.ok.cab x c hfn hc)))).trans (I.base.keep b o e n hb hx)
    · obtain ⟨sl, e1⟩ := I.base.slot b o e n hb hx
      exact ⟨sl, (hs.2 b (Nat.ne_of_lt (Nat.lt_of_lt_of_le (Heap.lt_size e) (I.ok.cab x c hfn hc)))).trans e1⟩
    · obtain ⟨o', e1⟩ := I.base.there b o e hx
      exact ⟨o', (hs.2 b (Nat.ne_of_lt (Nat.lt_of_lt_of_le (Heap.lt_size e) (I.ok.cab x c hfn hc)))).trans e1⟩
    · by_cases hj : j = i
      · subst hj
        rw [hi] at e1; cases e1
        rw [List.getElem?_set_self hiσ] at e2
        cases e2
        exact ⟨u, r, .inr ⟨.inl hk, c, hc, hc'⟩⟩
      · rw [List.getElem?_set_ne (Ne.symm hj)] at e2
        obtain ⟨u', r', q⟩ := hl j y v' e1 e2 e3
        refine ⟨u', r', ?_⟩
        rcases q with q | ⟨k, c', e, z'⟩
        · exact .inl q
        · refine .inr ⟨k, c', e, z'.sameBut hs ?_⟩
          rintro rfl
          exact hj (nodup_ix hN e1 (I.ok.inj _ _ _ e hc ▸ hi))
    · by_cases hcc : c' = c
      · subst hcc; exact ⟨_, hc'⟩
      · obtain ⟨w2, z2⟩ := I.cell y c' e
        exact ⟨w2, z2.sameBut hs hcc⟩
    · obtain ⟨e, n, ne, nf, d⟩ := I.pin p hp
      refine ⟨(hs.2 p.1 ?_).trans e, n, ne, nf, d⟩
      intro q
      rw [q, hoc] at e
      have q' : oc = p.2 := Option.some.inj e
      exact d w' (by rw [← q']; exact hocd)
theorem store_ok {M : Model} {A : Around} {E : Value → Shared → Prop} {i : Nat} {x : Str} {v : V} {u : Value} {Q : Unit → Shared → Prop} (I : Inv X pins σ H s) (hN : X.N.Nodup) (hi : X.N[i]? = some x) (hx : Loc X.env.scope x) (r : RelV v u)
    (h : ∀ s', Inv X pins (σ.set i (some v)) H s' → Q () s') (hf : X.fn x = true ∨ X.env.scope.names.lookup x = some .local := by first | exact .inl rfl | exact .inr rfl | assumption) : wpAny M A (storeName X.env x u) Q E s :=
  store_ok2 I hN hi hx r (fun s' I' _ => h s' I') hf
theorem Inv.call' {s' : Shared} {ch : List Addr} (I : Inv X pins σ H s) (ho : s'.os = s.os) (u : Un (frs X.stack) ch H H' s.heap s'.heap) (hok : HOk X.prog X.w H' s'.heap) (hg : AllBare s'.gens)
    (hch : ∀ b ∈ ch, (b ∈ X.ex ∨ X.s₀.heap.objs.size ≤ b) ∧ b ≠ X.env.locals ∧ (∀ x c, X.env.cells.lookup x = some c → c ≠ b) ∧ ∀ p ∈ X.pn ++ pins, p.1 ≠ b) : Inv X pins σ H' s' := by
  obtain ⟨h', g', d', t', o'⟩ := s'
  have e : o' = s.os := ho
  subst e
  exact I.call (g' := g') (t' := t') (d' := d') u hok hg hch
end

noncomputable abbrev XK := Value → Option Addr → Hp → Prop
noncomputable abbrev St := List (Option V)
noncomputable abbrev VK := V → Hp → Prop
noncomputable abbrev TE := St → Hp → VK → Prop
noncomputable abbrev TT := St → Hp → (Bool → Hp → Prop) → Prop
noncomputable abbrev TA := St → Hp → (List V → Hp → Prop) → Prop
structure Ends where
  nx : St → Hp → Prop
  rt : VK
  bk : St → Hp → Prop := fun _ _ => False
  ct : St → Hp → Prop := fun _ _ => False
noncomputable abbrev TS := Ends → St → Hp → Prop

noncomputable def EP (X : Cx) (pins : List (Addr × Obj)) (σ : St) (Q : VK) (u : Value) (s' : Shared) : Prop := ∃ v H', Inv X pins σ H' s' ∧ RelV v u ∧ Q v H'
noncomputable def TP (X : Cx) (pins : List (Addr × Obj)) (σ : St) (Q : Bool → Hp → Prop) (b : Bool) (s' : Shared) : Prop := ∃ H', Inv X pins σ H' s' ∧ Q b H'
noncomputable def AP (X : Cx) (pins : List (Addr × Obj)) (σ : St) (Q : List V → Hp → Prop) (us : List Value) (s' : Shared) : Prop := ∃ vs H', Inv X pins σ H' s' ∧ Vals vs us ∧ Q vs H'
noncomputable def SP (X : Cx) (pins : List (Addr × Obj)) (D : Ends) (f : Flow) (s' : Shared) : Prop :=
  match f with
  | .next => ∃ σ' H', Inv X pins σ' H' s' ∧ D.nx σ' H'
  | .brk => ∃ σ' H', Inv X pins σ' H' s' ∧ D.bk σ' H'
  | .cont => ∃ σ' H', Inv X pins σ' H' s' ∧ D.ct σ' H'
  | .ret u => ∃ v σ' H', Inv X pins σ' H' s' ∧ RelV v u ∧ D.rt v H'

noncomputable def PE (X : Cx) (e : Expr) (t : TE) : Prop :=
  ∀ (pins : List (Addr × Obj)) (s : Shared) (σ : St) (H : Hp) (Q : VK), Inv X pins σ H s → t σ H Q → wpAny (model X.prog X.w) X.A (eval e X.env) (EP X pins σ Q) X.xe s
noncomputable def PT (X : Cx) (e : Expr) (t : TT) : Prop :=
  ∀ (pins : List (Addr × Obj)) (s : Shared) (σ : St) (H : Hp) (Q : Bool → Hp → Prop), Inv X pins σ H s → t σ H Q → wpAny (model X.prog X.w) X.A (isTrue e X.env (eval e X.env)) (TP X pins σ Q) X.xe s
noncomputable def PW (X : Cx) (e : Expr) (t : TT) : Prop :=
  ∀ (whole : Sem Value) (pins : List (Addr × Obj)) (s : Shared) (σ : St) (H : Hp) (Q : Bool → Hp → Prop), Inv X pins σ H s → t σ H Q → wpAny (model X.prog X.w) X.A (isTrue e X.env whole) (TP X pins σ Q) X.xe s
theorem PW.pt {X : Cx} {e : Expr} {t : TT} (h : PW X e t) : PT X e t := h _
noncomputable def PA (X : Cx) (es : List Expr) (t : TA) : Prop :=
  ∀ (pos : Pos) (pins : List (Addr × Obj)) (s : Shared) (σ : St) (H : Hp) (Q : List V → Hp → Prop), Inv X pins σ H s → t σ H Q → wpAny (model X.prog X.w) X.A (spliced (backTo pos (starEach es X.env))) (AP X pins σ Q) X.xe s
noncomputable def PS (X : Cx) (st : Stmt) (t : TS) : Prop :=
  ∀ (pins : List (Addr × Obj)) (s : Shared) (σ : St) (H : Hp) (D : Ends), Inv X pins σ H s → t D σ H → wpAny (model X.prog X.w) X.A (exec st X.env) (SP X pins D) X.xe s
noncomputable def PSs (X : Cx) (st : List Stmt) (t : TS) : Prop :=
  ∀ (pins : List (Addr × Obj)) (s : Shared) (σ : St) (H : Hp) (D : Ends), Inv X pins σ H s → t D σ H → wpAny (model X.prog X.w) X.A (execs st X.env) (SP X pins D) X.xe s
theorem thn {α : Type} {t : Sem α} {Q Q' : α → Shared → Prop} {M : Model} {A : Around} {E : Value → Shared → Prop} {s : Shared} (h : wpAny M A t Q E s) (hQ : ∀ a s, Q a s → Q' a s) : wpAny M A t Q' E s := wpAny_mono h hQ fun _ _ x => x
end L2

namespace L2
open PySem PySem.Spec PyProof.Rows
section
variable {X : Cx}

noncomputable def tVar (i : Nat) : TE := fun σ H Q => ∃ v, σ[i]? = some (some v) ∧ Q v H
noncomputable def tC (v : V) : TE := fun _ H Q => Q v H
theorem pe_var {i : Nat} {x : Str} {pos : Pos} (hN : X.N[i]? = some x) (hv : Vis X.env.scope x) (hd : (x == ("__debug__" : Str)) = false := by decide) (hcd : (x == ("__classdict__" : Str)) = false := by decide) : PE X (.Name x pos) (tVar i) := by
  intro pins s σ H Q I h
  obtain ⟨v, e, h⟩ := h
  obtain ⟨m, hn, hl⟩ := I.loc
  obtain ⟨u, r, l⟩ := hl i x v hN e hv
  have fin : EP X pins σ Q u s := ⟨v, H, I, r, h⟩
  rcases l with ⟨hk, hm⟩ | ⟨hk, c, hc, hcell⟩
  · exact wpAny_Name (wpAny_loadName_local I.ok.kind hk hn hm fin) hd
  · rcases hk with hk | hk
    · exact wpAny_Name (wpAny_loadName_cell I.ok.kind hk hc hcell fin) hd
    · exact wpAny_Name (wpAny_loadName_free I.ok.kind hk hc hcell fin hcd) hd
theorem pe_int {i j pos} : PE X (.Constant (.int i) j pos) (tC (.int i)) := fun _ _ _ H _ I h => wpAny_Constant_int ⟨.int i, H, I.tok _, ⟨_, rfl⟩, h⟩
theorem pe_bl {b j pos} : PE X (.Constant (.bool b) j pos) (tC (.bl b)) := fun _ _ _ H _ I h => Constant_bool ⟨.bl b, H, I, rfl, h⟩
theorem pe_non {j pos} : PE X (.Constant .none j pos) (tC .non) := fun _ _ _ H _ I h => Constant_none ⟨.non, H, I, rfl, h⟩
theorem pe_str {x j pos} : PE X (.Constant (.str x) j pos) (tC (.str x)) := fun _ _ _ H _ I h => Calls.Constant_str ⟨.str x, H, I.tok _, ⟨_, rfl⟩, h⟩

noncomputable def Gl (X : Cx) (x : Str) : Prop := X.env.kindOf x = some .globalImplicit
theorem ld_glob {E : Value → Shared → Prop} {pins : List (Addr × Obj)} {s : Shared} {σ : St} {H : Hp} {x : Str} {u : Value} {pos : Pos} {Q : Value → Shared → Prop} (I : Inv X pins σ H s) (hg : Gl X x) (hm : X.mg x = some u) (h : Q u s)
    (hd : (x == ("__debug__" : Str)) = false := by decide) : wpAny (model X.prog X.w) X.A (eval (.Name x pos) X.env) Q E s :=
  Calls.Name_function_global I.ok.kind hg (Calls.loadGlobal_global (by rw [I.ok.glob]; exact I.mod.glob.keeps I.bk) hm h) hd
theorem ld_blt {E : Value → Shared → Prop} {pins : List (Addr × Obj)} {s : Shared} {σ : St} {H : Hp} {x : Str} {u : Value} {pos : Pos} {Q : Value → Shared → Prop} (I : Inv X pins σ H s) (hg : Gl X x) (hm : X.mg x = none) (hv : bootBuiltins x = some u) (h : Q u s)
    (hn : x ≠ "__name__" := by decide) (hd : (x == ("__debug__" : Str)) = false := by decide) : wpAny (model X.prog X.w) X.A (eval (.Name x pos) X.env) Q E s := by
  obtain ⟨mb, h1, h2⟩ := I.mod.blt
  exact Calls.Name_function_global I.ok.kind hg (Calls.loadGlobal_builtin (by rw [I.ok.glob]; exact I.mod.glob.keeps I.bk) hm (by rw [I.ok.blt]; exact h1.keeps I.bk) ((h2 x hn).trans hv) h) hd
theorem pe_glob {x : Str} {v : V} {u : Value} {pos : Pos} (hg : Gl X x) (hm : X.mg x = some u) (r : RelV v u) (hd : (x == ("__debug__" : Str)) = false := by decide) : PE X (.Name x pos) (tC v) :=
  fun _ _ _ H _ I h => ld_glob I hg hm ⟨v, H, I, r, h⟩ hd
theorem pe_bltn {x : Str} {v : V} {u : Value} {pos : Pos} (hg : Gl X x) (hm : X.mg x = none) (hv : bootBuiltins x = some u) (r : RelV v u) (hn : x ≠ "__name__" := by decide) (hd : (x == ("__debug__" : Str)) = false := by decide) : PE X (.Name x pos) (tC v) :=
  fun _ _ _ H _ I h => ld_blt I hg hm hv ⟨v, H, I, r, h⟩ hn hd

variable {a b : Expr} {ta tb : TE} {pos : Pos}
noncomputable def tB (t : TE) : TT := fun σ H Q => t σ H fun x H1 => ∃ c, x = .bl c ∧ Q c H1
theorem pt_val {e : Expr} {t : TE} (h : PE X e t) (he : ∀ whole, isTrue e X.env whole = (do let v ← whole; standAt e.pos; holding [v] (truthy v)) := by intro _; rfl) : PT X e (tB t) := by
  intro pins s σ H Q I hw
  refine isTrue_plain (thn (h pins s σ H _ I hw) fun v s1 ⟨x, H1, I1, r1, q1⟩ => ?_) (he _)
  obtain ⟨d, rfl, q⟩ := q1
  cases r1
  exact wpAny_truthy_bool ⟨H1, I1, q⟩

variable {tA tB' : TT} {rest : List Expr}
noncomputable def tAnd (t u : TT) : TT := fun σ H Q => t σ H fun c H1 => if c = true then u σ H1 Q else Q false H1
noncomputable def tOr (t u : TT) : TT := fun σ H Q => t σ H fun c H1 => if c = true then Q true H1 else u σ H1 Q
noncomputable def tNot (t : TT) : TT := fun σ H Q => t σ H fun c H1 => Q (!c) H1
theorem pw_and1 (ha : PT X a tA) : PW X (.BoolOp .And [a] pos) tA := by
  intro wh pins s σ H Q I h
  refine isTrue_and (thn (ha pins s σ H Q I h) fun c s1 e => ?_)
  cases c with
  | true => exact isTrue_and_nil e
  | false => exact e
theorem pw_or1 (ha : PT X a tA) : PW X (.BoolOp .Or [a] pos) tA := by
  intro wh pins s σ H Q I h
  refine isTrue_or (thn (ha pins s σ H Q I h) fun c s1 e => ?_)
  cases c with
  | false => exact isTrue_or_nil e
  | true => exact e
theorem pw_and (ha : PT X a tA) (hb : PW X (.BoolOp .And (b :: rest) pos) tB') : PW X (.BoolOp .And (a :: b :: rest) pos) (tAnd tA tB') := by
  intro wh pins s σ H Q I h
  refine isTrue_and (thn (ha pins s σ H _ I h) fun c s1 ⟨H1, I1, q1⟩ => ?_)
  cases c with
  | true => exact hb wh pins s1 σ H1 Q I1 q1
  | false => exact ⟨H1, I1, q1⟩
theorem pw_or (ha : PT X a tA) (hb : PW X (.BoolOp .Or (b :: rest) pos) tB') : PW X (.BoolOp .Or (a :: b :: rest) pos) (tOr tA tB') := by
  intro wh pins s σ H Q I h
  refine isTrue_or (thn (ha pins s σ H _ I h) fun c s1 ⟨H1, I1, q1⟩ => ?_)
  cases c with
  | true => exact ⟨H1, I1, q1⟩
  | false => exact hb wh pins s1 σ H1 Q I1 q1
theorem pt_not (ha : PT X a tA) : PT X (.UnaryOp .Not a pos) (tNot tA) := by
  intro pins s σ H Q I h
  exact isTrue_not (ha pins s σ H (fun c H1 => Q (!c) H1) I h)
noncomputable def tAndV (ta tb : TE) : TE := fun σ H Q => ta σ H fun x H1 => ∃ c, x = .bl c ∧ if c = true then tb σ H1 Q else Q (.bl false) H1
noncomputable def tOrV (ta tb : TE) : TE := fun σ H Q => ta σ H fun x H1 => ∃ c, x = .bl c ∧ if c = true then Q (.bl true) H1 else tb σ H1 Q
noncomputable def tNotV (ta : TE) : TE := fun σ H Q => ta σ H fun x H1 => ∃ c, x = .bl c ∧ Q (.bl (!c)) H1
theorem pe_one {op} {t : TE} (h : PE X a t) : PE X (.BoolOp op [a] pos) t := fun pins s σ H Q I hw => BoolOp_one (h pins s σ H Q I hw)
theorem pe_and (ha : PE X a ta) (hb : PE X (.BoolOp .And (b :: rest) pos) tb) : PE X (.BoolOp .And (a :: b :: rest) pos) (tAndV ta tb) := by
  intro pins s σ H Q I h
  refine BoolOp_and (thn (ha pins s σ H _ I h) fun v s1 ⟨x, H1, I1, r1, q1⟩ => ?_)
  obtain ⟨c, rfl, q1⟩ := q1
  cases r1
  refine wpAny_truthy_bool ?_
  cases c with
  | true => exact hb pins s1 σ H1 Q I1 q1
  | false => exact ⟨.bl false, H1, I1, rfl, q1⟩
theorem pe_not (ha : PE X a ta) : PE X (.UnaryOp .Not a pos) (tNotV ta) := by
  intro pins s σ H Q I h
  refine UnaryOp_ (thn (ha pins s σ H _ I h) fun v s1 ⟨x, H1, I1, r1, q1⟩ => ?_)
  obtain ⟨c, rfl, q1⟩ := q1
  cases r1
  exact not_of (wpAny_truthy_bool ⟨.bl (!c), H1, I1, rfl, q1⟩)
noncomputable def tIf (t : TT) (ta tb : TE) : TE := fun σ H Q => t σ H fun c H1 => if c = true then ta σ H1 Q else tb σ H1 Q
theorem pe_ifExp {c : Expr} (hc : PT X c tA) (ha : PE X a ta) (hb : PE X b tb) : PE X (.IfExp c a b pos) (tIf tA ta tb) := by
  intro pins s σ H Q I h
  refine wpAny_IfExp (thn (hc pins s σ H _ I h) fun d s1 ⟨H1, I1, q1⟩ => ?_)
  cases d with
  | true => exact ha pins s1 σ H1 Q I1 q1
  | false => exact hb pins s1 σ H1 Q I1 q1
end
end L2

namespace L2
open PySem PySem.Spec PyProof.Rows

noncomputable def SqL (K : PySem.W.Frag) (H : Hp) (a : Addr) (xs : List V) : Prop :=
  Rd H a (.lst xs) ∨
    ∃ (o : Obj) (its : Array Value) (n : Nat), K.lookup a = some o ∧ o.cls = .type "list" ∧ o.dict = none ∧ o.data = .seq its n ∧ its.size ≤ sizeLine ∧ Vals xs its.toList
noncomputable def SqT (K : PySem.W.Frag) (H : Hp) (a : Addr) (xs : List V) : Prop :=
  Rd H a (.tup xs) ∨
    ∃ (o : Obj) (its : Array Value) (n : Nat), K.lookup a = some o ∧ o.cls = .type "tuple" ∧ o.data = .seq its n ∧ its.size ≤ sizeLine ∧ Vals xs its.toList
noncomputable def absV : Value → Option V
  | .none => some .non
  | .bool b => some (.bl b)
  | .int i _ => some (.int i)
  | .str x _ => some (.str x)
  | .bytes b _ => some (.byt b)
  | .float b _ => some (.flt b)
  | .ref a => some (.ref a)
  | .type n => some (.ty n)
  | _ => none
theorem RelV.abs {x : V} {u : Value} (r : RelV x u) : absV u = some x := by
  cases x with
  | non => cases r; rfl
  | bl _ => cases r; rfl
  | int _ => obtain ⟨t, rfl⟩ := r; rfl
  | str _ => obtain ⟨t, rfl⟩ := r; rfl
  | byt _ => obtain ⟨t, rfl⟩ := r; rfl
  | flt _ => obtain ⟨t, rfl⟩ := r; rfl
  | ref _ => cases r; rfl
  | ty _ => cases r; rfl
theorem RelV.inj {x y : V} {u : Value} (r : RelV x u) (q : RelV y u) : x = y := Option.some.inj (r.abs.symm.trans q.abs)
theorem Vals.inj : ∀ {xs ys : List V} {us : List Value}, Vals xs us → Vals ys us → xs = ys
  | _, _, _, .nil, .nil => rfl
  | _, _, _, .cons r t, .cons r' t' => by rw [r.inj r', Vals.inj t t']
section
variable {X : Cx} {pins : List (Addr × Obj)} {σ : St} {H : Hp} {s : Shared} {a : Addr} {xs ys : List V}
theorem SqL.of {K : PySem.W.Frag} (h : H a = some (.lst xs)) : SqL K H a xs := .inl (.inl h)
theorem SqT.of {K : PySem.W.Frag} (h : H a = some (.tup xs)) : SqT K H a xs := .inl (.inl h)
theorem Inv.list (I : Inv X pins σ H s) (h : SqL X.K H a xs) : ∃ its : List Value, Vals xs its ∧ PlainL s.heap a its.toArray ∧ xs.length ≤ sizeLine := by
  rcases h with h | ⟨o, its, n, hk, hc, hd, hs, hz, r⟩
  · obtain ⟨z, its, n, r, e⟩ := h.ok I.hok
    exact ⟨its, r, ⟨_, n, e, rfl, rfl, rfl⟩, z⟩
  · refine ⟨its.toList, r, ⟨o, n, I.kIn a o hk, hc, hd, by simpa using hs⟩, ?_⟩
    have e := r.length
    simp only [Array.length_toList] at e
    omega
theorem Inv.tuple (I : Inv X pins σ H s) (h : SqT X.K H a xs) : ∃ its : List Value, Vals xs its ∧ IsTup s.heap a its.toArray ∧ xs.length ≤ sizeLine := by
  rcases h with h | ⟨o, its, n, hk, hc, hs, hz, r⟩
  · obtain ⟨z, its, r, p⟩ := h.ok I.hok
    exact ⟨its, r, p, z⟩
  · refine ⟨its.toList, r, ⟨o, I.kIn a o hk, hc, n, by simpa using hs⟩, ?_⟩
    have e := r.length
    simp only [Array.length_toList] at e
    omega
theorem Inv.list_inj (I : Inv X pins σ H s) (h : SqL X.K H a xs) (h' : SqL X.K H a ys) : xs = ys := by
  obtain ⟨its, r, ⟨o, n, e, _, _, d⟩, _⟩ := I.list h
  obtain ⟨its', r', ⟨o', n', e', _, _, d'⟩, _⟩ := I.list h'
  rw [e] at e'; cases e'
  rw [d] at d'
  injection d' with d1 _
  have : its = its' := by simpa using congrArg Array.toList d1
  subst this
  exact r.inj r'
theorem Inv.tuple_inj (I : Inv X pins σ H s) (h : SqT X.K H a xs) (h' : SqT X.K H a ys) : xs = ys := by
  obtain ⟨its, r, ⟨o, e, _, n, d⟩, _⟩ := I.tuple h
  obtain ⟨its', r', ⟨o', e', _, n', d'⟩, _⟩ := I.tuple h'
  rw [e] at e'; cases e'
  rw [d] at d'
  injection d' with d1 _
  have : its = its' := by simpa using congrArg Array.toList d1
  subst this
  exact r.inj r'
end

noncomputable abbrev Cx.wish (X : Cx) (E : Value → Shared → Prop) : Cx := { X with xe := E }
noncomputable abbrev Cx.nox (X : Cx) : Cx := X.wish fun _ _ => False
theorem Cx.Ok.wish {X : Cx} (ok : X.Ok) (E : Value → Shared → Prop) : (X.wish E).Ok :=
  ⟨ok.mod, ok.kind, ok.glob, ok.blt, ok.above, ok.inj, ok.has, ok.cab, ok.hd, ok.frames, ok.stk, ok.exf, ok.bs, ok.bsz, ok.noex, ok.exfs, ok.funs, ok.frf⟩
theorem Cx.Ok.unwish {X : Cx} {E : Value → Shared → Prop} (ok : (X.wish E).Ok) : X.Ok :=
  ⟨ok.mod, ok.kind, ok.glob, ok.blt, ok.above, ok.inj, ok.has, ok.cab, ok.hd, ok.frames, ok.stk, ok.exf, ok.bs, ok.bsz, ok.noex, ok.exfs, ok.funs, ok.frf⟩
section
variable {X : Cx} {pins : List (Addr × Obj)} {σ : St} {H : Hp} {s : Shared} {E : Value → Shared → Prop}
theorem Inv.wish (I : Inv X pins σ H s) (E : Value → Shared → Prop) : Inv (X.wish E) pins σ H s := ⟨I.ok.wish E, I.os, I.bare, I.base, I.loc, I.cell, I.free, I.freeC, I.pin, I.hok, I.len⟩
theorem Inv.unwish (I : Inv (X.wish E) pins σ H s) : Inv X pins σ H s := ⟨I.ok.unwish, I.os, I.bare, I.base, I.loc, I.cell, I.free, I.freeC, I.pin, I.hok, I.len⟩
theorem SP.unwish {D : Ends} {f : Flow} {s' : Shared} (h : SP (X.wish E) pins D f s') : SP X pins D f s' := by
  cases f with
  | next => obtain ⟨σ', H', I, q⟩ := h; exact ⟨σ', H', I.unwish, q⟩
  | brk => obtain ⟨σ', H', I, q⟩ := h; exact ⟨σ', H', I.unwish, q⟩
  | cont => obtain ⟨σ', H', I, q⟩ := h; exact ⟨σ', H', I.unwish, q⟩
  | ret u => obtain ⟨v, σ', H', I, r, q⟩ := h; exact ⟨v, σ', H', I.unwish, r, q⟩
theorem PE.nox {e : Expr} {t : TE} (h : PE X.nox e t) : PE X e t := fun pins s σ H Q I hw =>
  wpAny_mono (h pins s σ H Q (I.wish _) hw) (fun _ _ ⟨v, H', I', r, q⟩ => ⟨v, H', I'.unwish, r, q⟩) fun _ _ z => False.elim z
theorem PT.nox {e : Expr} {t : TT} (h : PT X.nox e t) : PT X e t := fun pins s σ H Q I hw =>
  wpAny_mono (h pins s σ H Q (I.wish _) hw) (fun _ _ ⟨H', I', q⟩ => ⟨H', I'.unwish, q⟩) fun _ _ z => False.elim z
theorem PSs.nox {st : List Stmt} {t : TS} (h : PSs X.nox st t) : PSs X st t := fun pins s σ H D I hw =>
  wpAny_mono (h pins s σ H D (I.wish _) hw) (fun _ _ q => q.unwish) fun _ _ z => False.elim z
end

section
variable {X : Cx} {st : Stmt} {rest : List Stmt} {t u : TS} {e : Expr} {te : TE} {pos : Pos}
noncomputable def tNext : TS := fun D σ H => D.nx σ H
noncomputable def tSeq (t u : TS) : TS := fun D σ H => t { D with nx := u D } σ H
theorem pss_nil : PSs X [] tNext := fun _ _ σ H _ I h => wpAny_execs_nil ⟨σ, H, I, h⟩
theorem pss_cons (h1 : PS X st t) (h2 : PSs X rest u) : PSs X (st :: rest) (tSeq t u) := by
  intro pins s σ H D I h
  refine wpAny_execs_cons (thn (h1 pins s σ H { D with nx := u D } I h) fun f s1 q => ?_)
  cases f with
  | next =>
    obtain ⟨σ', H', I', q⟩ := q
    exact h2 pins s1 σ' H' D I' q
  | ret v => exact q
  | brk => exact q
  | cont => exact q
theorem pss_one (h1 : PS X st t) : PSs X [st] t := by
  intro pins s σ H D I h
  refine wpAny_execs_cons (thn (h1 pins s σ H D I h) fun f s1 q => ?_)
  cases f with
  | next => exact wpAny_execs_nil q
  | ret v => exact q
  | brk => exact q
  | cont => exact q
theorem Inv.quiet {pins : List (Addr × Obj)} {σ : St} {H : Hp} {s : Shared} (I : Inv X pins σ H s) : interactive X.env = false := by simp [interactive, I.ok.kind]
noncomputable def tDrop (te : TE) : TS := fun D σ H => te σ H fun _ H1 => D.nx σ H1
theorem ps_expr (he : PE X e te) (hs : swapsWith e none pos.line X.env = pure false := by rfl) : PS X (.Expr e pos) (tDrop te) := by
  intro pins s σ H D I h
  exact wpAny_Expr_any (thn (he pins s σ H _ I h) fun v s1 ⟨x, H1, I1, r1, q1⟩ => ⟨σ, H1, I1, q1⟩) I.quiet hs
noncomputable def tRet (te : TE) : TS := fun D σ H => te σ H D.rt
theorem ps_ret (he : PE X e te) : PS X (.Return (some e) pos) (tRet te) := by
  intro pins s σ H D I h
  exact wpAny_Return_some (thn (he pins s σ H _ I h) fun v s1 ⟨x, H1, I1, r1, q1⟩ => ⟨x, σ, H1, I1, r1, q1⟩)
noncomputable def tRetN : TS := fun D _ H => D.rt .non H
noncomputable def tIfS (c : TT) (t u : TS) : TS := fun D σ H => c σ H fun b H1 => if b = true then t D σ H1 else u D σ H1
theorem ps_if {c : Expr} {a b : List Stmt} {tc : TT} (hc : PT X c tc) (ha : PSs X a t) (hb : PSs X b u) : PS X (.If c a b pos) (tIfS tc t u) := by
  intro pins s σ H D I h
  refine wpAny_If (thn (hc pins s σ H _ I h) fun d s1 ⟨H1, I1, q1⟩ => ?_)
  cases d with
  | true => exact ha pins s1 σ H1 D I1 q1
  | false => exact hb pins s1 σ H1 D I1 q1
end

noncomputable abbrev TG := V → St → Hp → (St → Hp → Prop) → Prop
noncomputable abbrev TGs := List V → St → Hp → (St → Hp → Prop) → Prop
noncomputable def PG (X : Cx) (target : Expr) (t : TG) : Prop :=
  ∀ (pins : List (Addr × Obj)) (s : Shared) (σ : St) (H : Hp) (v : V) (u : Value) (Q : St → Hp → Prop), Inv X pins σ H s → RelV v u → t v σ H Q →
    wpAny (model X.prog X.w) X.A (assign target X.env u) (fun _ s' => ∃ σ' H', Inv X pins σ' H' s' ∧ Q σ' H') X.xe s
noncomputable def PGs (X : Cx) (ts : List Expr) (t : TGs) : Prop :=
  ∀ (pins : List (Addr × Obj)) (s : Shared) (σ : St) (H : Hp) (vs : List V) (us : List Value) (Q : St → Hp → Prop), Inv X pins σ H s → Vals vs us → t vs σ H Q →
    wpAny (model X.prog X.w) X.A (assignInOrder ((assignEach ts X.env).map (·.2)) us) (fun _ s' => ∃ σ' H', Inv X pins σ' H' s' ∧ Q σ' H') X.xe s
noncomputable abbrev TSet := V → V → V → Hp → (Hp → Prop) → Prop
noncomputable def PSet (X : Cx) (t : TSet) : Prop :=
  ∀ (pins : List (Addr × Obj)) (s : Shared) (σ : St) (H : Hp) (o i v : V) (ov iv u : Value) (Q : Hp → Prop), Inv X pins σ H s → RelV o ov → RelV i iv → RelV v u → t o i v H Q →
    wpAny (model X.prog X.w) X.A (setItem ov iv u) (fun _ s' => ∃ H', Inv X pins σ H' s' ∧ Q H') X.xe s
noncomputable abbrev TIp := V → V → Hp → VK → Prop
noncomputable def PIp (X : Cx) (op : Operator) (t : TIp) : Prop :=
  ∀ (pins : List (Addr × Obj)) (s : Shared) (σ : St) (H : Hp) (x y : V) (v u : Value) (Q : VK), Inv X pins σ H s → RelV x v → RelV y u → t x y H Q →
    wpAny (model X.prog X.w) X.A (inplaceOp op v u) (EP X pins σ Q) X.xe s
section
variable {X : Cx} {pos : Pos}
noncomputable def gName (i : Nat) : TG := fun v σ H Q => Q (σ.set i (some v)) H
theorem pg_name {i : Nat} {x : Str} (hN : X.N.Nodup) (hi : X.N[i]? = some x) (hx : Loc X.env.scope x) (hf : X.fn x = true ∨ X.env.scope.names.lookup x = some .local := by first | exact .inl rfl | exact .inr rfl | assumption) : PG X (.Name x pos) (gName i) := by
  intro pins s σ H v u Q I r h
  exact wpAny_assign_Name (store_ok I hN hi hx r (fun s' I' => ⟨_, H, I', h⟩) hf)
noncomputable def gNil : TGs := fun vs σ H Q => vs = [] ∧ Q σ H
noncomputable def gCons (t : TG) (u : TGs) : TGs := fun vs σ H Q => ∃ v r, vs = v :: r ∧ t v σ H fun σ' H' => u r σ' H' Q
theorem pgs_nil : PGs X [] gNil := by
  intro pins s σ H vs us Q I r h
  obtain ⟨e, h⟩ := h
  subst e
  cases r
  exact assignInOrder_nil ⟨σ, H, I, h⟩
theorem pgs_cons {e : Expr} {es : List Expr} {t : TG} {u : TGs} (h1 : PG X e t) (h2 : PGs X es u)
    (hs : (assignEach (e :: es) X.env).map (·.2) = assign e X.env :: (assignEach es X.env).map (·.2) := by rfl) : PGs X (e :: es) (gCons t u) := by
  intro pins s σ H vs us Q I r h
  obtain ⟨v, vr, e1, h⟩ := h
  subst e1
  cases r with
  | cons r rr =>
    rw [hs]
    refine assignInOrder_cons (thn (h1 pins s σ H _ _ _ I r h) fun _ s1 ⟨σ1, H1, I1, q1⟩ => ?_)
    exact h2 pins s1 σ1 H1 _ _ Q I1 rr q1
noncomputable def gTup (K : PySem.W.Frag) (n : Nat) (t : TGs) : TG := fun v σ H Q => ∃ a xs, v = .ref a ∧ SqT K H a xs ∧ xs.length = n ∧ t xs σ H Q
theorem pg_tup {es : List Expr} {k : Nat} {t : TGs} {n : Nat} (hc : X.calm = true) (h : PGs X es t)
    (hn : (assignEach es X.env).length = n := by rfl) (hst : (assignEach es X.env).findIdx? (·.1) = none := by rfl) : PG X (.Tuple es k pos) (gTup X.K n t) := by
  intro pins s σ H v u Q I r hw
  obtain ⟨a, xs, e1, hq, hl, hw⟩ := hw
  subst e1
  cases r
  obtain ⟨its, rv, ht, hz⟩ := I.tuple hq
  refine assign_Tuple_tuple (I.ok.hd hc) ht (by simp [hn, ← hl, rv.length]) hst fun h' hx => ?_
  have I1 : Inv X pins σ H { s with heap := h' } := I.kept (t' := s.toks) fun b o e => hx b o (Nat.ne_of_lt (Heap.lt_size e)) e
  exact h pins _ σ H xs _ Q I1 (by simpa using rv) hw
noncomputable def gSub (to ti : TE) (t : TSet) : TG := fun v σ H Q => to σ H fun o H1 => ti σ H1 fun i H2 => t o i v H2 fun H3 => Q σ H3
theorem pg_sub {o i : Expr} {to ti : TE} {t : TSet} (ho : PE X o to) (hi : PE X i ti) (hs : PSet X t)
    (ha : ∀ v, assign (.Subscript o i pos) X.env v = (do
      let ov ← holding [v] (eval o X.env)
      let iv ← holding [v, ov] (eval i X.env)
      standAt pos
      holding [v, ov, iv] (setItem ov iv v)
      release [v, ov, iv] []) := by intro _; rfl) : PG X (.Subscript o i pos) (gSub to ti t) := by
  intro pins s σ H v u Q I r h
  rw [ha]
  refine wpAny_bind (wpAny_holding (thn (ho pins s σ H _ I h) fun ov s1 ⟨x, H1, I1, r1, q1⟩ => ?_))
  refine wpAny_bind (wpAny_holding (thn (hi pins s1 σ H1 _ I1 q1) fun iv s2 ⟨y, H2, I2, r2, q2⟩ => ?_))
  refine wpAny_bind (wpAny_standAt (wpAny_bind (wpAny_holding (thn (hs pins s2 σ H2 x y v ov iv u _ I2 r1 r2 r q2) fun _ s3 ⟨H3, I3, q3⟩ => ?_))))
  exact wpAny_release ⟨σ, H3, I3, q3⟩
noncomputable def tAsg (te : TE) (g : TG) : TS := fun D σ H => te σ H fun x H1 => g x σ H1 D.nx
theorem ps_asg {tg e : Expr} {te : TE} {g : TG} (he : PE X e te) (hg : PG X tg g) (hs : swapsWithSole [tg] e pos.line X.env = pure false := by rfl) (hw : swappedStores [tg] e X.env = pure none := by rfl)
    (h1 : (assignEach [tg] X.env).map (·.2) = [assign tg X.env] := by rfl) : PS X (.Assign [tg] e pos) (tAsg te g) := by
  intro pins s σ H D I h
  refine wpAny_Assign_stores (thn (he pins s σ H _ I h) fun v s1 ⟨x, H1, I1, r1, q1⟩ => ?_) hs hw
  rw [h1]
  exact thn (hg pins s1 σ H1 x v _ I1 r1 q1) fun _ s2 q => q
theorem ps_set {i : Nat} {x : Str} {e : Expr} {te : TE} {pos' : Pos} (hN : X.N.Nodup) (hi : X.N[i]? = some x) (hx : Loc X.env.scope x) (he : PE X e te) (hs : swapsWith e (some (.Name x pos')) pos.line X.env = pure false := by rfl) (hf : X.fn x = true ∨ X.env.scope.names.lookup x = some .local := by first | exact .inl rfl | exact .inr rfl | assumption) :
    PS X (.Assign [.Name x pos'] e pos) (tAsg te (gName i)) := by
  intro pins s σ H D I h
  refine wpAny_Assign_Name (thn (he pins s σ H _ I h) fun v s1 ⟨y, H1, I1, r1, q1⟩ => ?_) hs
  exact store_ok I1 hN hi hx r1 (fun s2 I2 => ⟨_, H1, I2, q1⟩) hf
noncomputable def tPar (i j : Nat) (ta : TA) : TS := fun D σ H => ta σ H fun vs H1 => ∃ v w, vs = [v, w] ∧ D.nx ((σ.set i (some v)).set j (some w)) H1
theorem ps_par {i j : Nat} {x y : Str} {a b : Expr} {ta : TA} {px py pt : Pos} {kt k2 pt2} (hc : X.calm = true) (hN : X.N.Nodup) (hi : X.N[i]? = some x) (hj : X.N[j]? = some y) (hij : i ≠ j)
    (hx : X.env.scope.names.lookup x = some .local) (hy : X.env.scope.names.lookup y = some .local) (ha : PA X [a, b] ta)
    (hw : swappedStores [.Tuple [.Name x px, .Name y py] kt pt] (.Tuple [a, b] k2 pt2) X.env = pure (some [x, y]))
    (hs : swapsWithSole [.Tuple [.Name x px, .Name y py] kt pt] (.Tuple [a, b] k2 pt2) pos.line X.env = pure false := by rfl) :
    PS X (.Assign [.Tuple [.Name x px, .Name y py] kt pt] (.Tuple [a, b] k2 pt2) pos) (tPar i j ta) := by
  intro pins s σ H D I h
  rw [exec_Assign_arm]
  refine wpAny_bind (wpAny_standAt ?_)
  rw [hs]
  refine wpAny_bind (wpAny_pure ?_)
  rw [if_neg (by decide)]
  refine wpAny_bind (Tuple_ (thn (ha _ pins s σ H _ I h) fun us s1 ⟨vs, H1, I1, r1, q1⟩ => ?_))
  obtain ⟨v, w, e1, q1⟩ := q1
  subst e1
  obtain ⟨u1, u2, rfl, rv, rw'⟩ : ∃ u1 u2, us = [u1, u2] ∧ RelV v u1 ∧ RelV w u2 := by
    cases r1 with
    | cons p q =>
      cases q with
      | cons p' q' =>
        cases q'
        exact ⟨_, _, rfl, p, p'⟩
  refine wpAny_newObj_type ?_ (by show 2 ≤ sizeLine; decide)
  have I2 : Inv X pins σ H1 { s1 with heap := s1.heap.push { cls := .type "tuple", data := .seq [u1, u2].toArray } } := I1.kept (t' := s1.toks) fun b o e => Heap.get?_push_of_some _ e
  rw [hw]
  refine wpAny_bind (wpAny_pure ?_)
  show wpAny (model X.prog X.w) X.A (do rule "assign.swapped-stores"; let items ← unpackItems (.ref s1.heap.objs.size) 2 none; assignInOrder [fun v => bindName X.env y v, fun v => bindName X.env x v] items.reverse; pure Flow.next) _ _ _
  refine wpAny_bind (wpAny_rule (wpAny_bind (unpackItems_tuple (items := #[u1, u2]) (I.ok.hd hc) (IsTup.new s1.heap _) fun h' hx' => ?_)))
  have I3 := I2.kept (h' := h') (t' := s1.toks) fun b o e => hx' b o (Nat.ne_of_lt (Heap.lt_size e)) e
  show wpAny _ _ (assignInOrder [fun v => bindName X.env y v, fun v => bindName X.env x v] [u2, u1] >>= fun _ => pure Flow.next) _ _ _
  refine wpAny_bind (assignInOrder_cons (wpAny_bindName (store_ok I3 hN hj (.inl hy) rw' (fun s2 I4 => ?_) (.inr hy))))
  refine assignInOrder_cons (wpAny_bindName (store_ok I4 hN hi (.inl hx) rv (fun s3 I5 => assignInOrder_nil (wpAny_pure ?_)) (.inr hx)))
  rw [List.set_comm _ _ (Ne.symm hij)] at I5
  exact ⟨_, H1, I5, q1⟩
noncomputable def tAug (i : Nat) (te : TE) (ti : TIp) : TS := fun D σ H => ∃ x, σ[i]? = some (some x) ∧ te σ H fun y H1 => ti x y H1 fun z H2 => D.nx (σ.set i (some z)) H2
theorem ps_aug {i : Nat} {x : Str} {e : Expr} {te : TE} {op : Operator} {ti : TIp} {pos' : Pos} (hN : X.N.Nodup) (hi : X.N[i]? = some x) (hx : Loc X.env.scope x) (he : PE X e te) (ho : PIp X op ti) (hf : X.fn x = true ∨ X.env.scope.names.lookup x = some .local := by first | exact .inl rfl | exact .inr rfl | assumption) :
    PS X (.AugAssign (.Name x pos') op e pos) (tAug i te ti) := by
  intro pins s σ H D I h
  obtain ⟨v, e1, h⟩ := h
  obtain ⟨m, hn, hl⟩ := I.loc
  have vis : Vis X.env.scope x := by rcases hx with k | k; exact .inl k; exact .inr (.inl k)
  obtain ⟨u, r, l⟩ := hl i x v hi e1 vis
  refine wpAny_AugAssign_Name ?_
  have go : wpAny (model X.prog X.w) X.A (eval e X.env) (fun w s₂ => wpAny (model X.prog X.w) X.A (inplaceOp op u w) (fun r s₃ => wpAny (model X.prog X.w) X.A (storeName X.env x r) (fun _ => SP X pins D .next) X.xe s₃) X.xe s₂) X.xe s := by
    refine thn (he pins s σ H _ I h) fun w s1 ⟨y, H1, I1, r1, q1⟩ => ?_
    refine thn (ho pins s1 σ H1 v y u w _ I1 r r1 q1) fun z s2 ⟨zv, H2, I2, r2, q2⟩ => ?_
    exact store_ok I2 hN hi hx r2 (fun s3 I3 => ⟨_, H2, I3, q2⟩) hf
  rcases l with ⟨hk, hm⟩ | ⟨hk, c, hc, hcell⟩
  · exact wpAny_loadName_local I.ok.kind hk hn hm go
  · rcases hk with hk | hk
    · exact wpAny_loadName_cell I.ok.kind hk hc hcell go
    · rcases hx with k | k
      · have : X.env.scope.names.lookup x = some .free := hk
        rw [k] at this; cases this
      · have : X.env.scope.names.lookup x = some .free := hk
        rw [k] at this; cases this
noncomputable def ipI (f : Int → Int → Int) : TIp := fun x y H Q => ∃ i j, x = .int i ∧ y = .int j ∧ Q (.int (f i j)) H
theorem ip_add : PIp X .Add (ipI fun i j => i + j) := by
  intro pins s σ H x y v u Q I r1 r2 h
  obtain ⟨i, j, e1, e2, q⟩ := h
  subst e1; subst e2
  obtain ⟨t, rfl⟩ := r1
  obtain ⟨t', rfl⟩ := r2
  exact iadd_int ⟨.int _, H, I.tok _, ⟨_, rfl⟩, q⟩
end

section
variable {X : Cx} {pos : Pos}
noncomputable def tWhile (c : TT) (tb : TS) : TS := fun D σ H => ∃ W : Nat → St → Hp → Prop, (∃ m, W m σ H) ∧ ∀ m σ H, W m σ H →
  c σ H fun b H1 => if b = true then ∃ N : St → Hp → Prop, (∀ σ' H', N σ' H' → ∃ m', m' < m ∧ W m' σ' H') ∧ tb { D with nx := N, ct := N, bk := D.nx } σ H1 else D.nx σ H1
theorem ps_while {c : Expr} {body : List Stmt} {tc : TT} {tb : TS} (hp : PassesOwn (model X.prog X.w) X.A X.env X.xe) (hc : PT X c tc) (hb : PSs X body tb) : PS X (.While c body [] pos) (tWhile tc tb) := by
  intro pins s σ H D I h
  obtain ⟨W, ⟨m0, w0⟩, turn⟩ := h
  refine wpAny_While (codeAny_whileLoop (fun n s' => ∃ σ' H', Inv X pins σ' H' s' ∧ W n σ' H') ?_ m0 ⟨σ, H, I, w0⟩)
  rintro n s1 ⟨σ1, H1, I1, w1⟩
  refine wpAny_passesOwn hp (thn (hc pins s1 σ1 H1 _ I1 (turn n σ1 H1 w1)) fun b s2 ⟨H2, I2, q2⟩ => ?_)
  cases b with
  | true =>
    obtain ⟨N, hN, q2⟩ := q2
    rw [if_pos rfl]
    refine wpAny_passesOwn hp (thn (hb pins s2 σ1 H2 _ I2 q2) fun f s3 q3 => ?_)
    cases f with
    | next =>
      obtain ⟨σ3, H3, I3, n3⟩ := q3
      obtain ⟨m', hm, w3⟩ := hN σ3 H3 n3
      exact ⟨m', hm, σ3, H3, I3, w3⟩
    | cont =>
      obtain ⟨σ3, H3, I3, n3⟩ := q3
      obtain ⟨m', hm, w3⟩ := hN σ3 H3 n3
      exact ⟨m', hm, σ3, H3, I3, w3⟩
    | brk => exact q3
    | ret v => exact q3
  | false =>
    rw [if_neg Bool.false_ne_true]
    exact wpAny_execs_nil ⟨σ1, H2, I2, q2⟩
end

structure It where
  go : Nat → Hp → Prop
  yld : Nat → Hp → V → Hp → Prop
  stop : Nat → Hp → Prop
noncomputable def FpOk (X : Cx) (pins : List (Addr × Obj)) (H : Hp) (b : Addr) : Prop :=
  H b = none ∧ b ≠ X.env.locals ∧ b ∉ X.fs ∧ (b ∈ X.ex ∨ X.s₀.heap.objs.size ≤ b) ∧ (∀ x c, X.env.cells.lookup x = some c → c ≠ b) ∧ ∀ p ∈ X.pn ++ pins, p.1 ≠ b
theorem Inv.fpOk {X : Cx} {pins : List (Addr × Obj)} {σ : St} {H H' : Hp} {s : Shared} {b : Addr} (I : Inv X pins σ H s) (hb : s.heap.objs.size ≤ b) (hn : H' b = none) : FpOk X pins H' b := by
  refine ⟨hn, Nat.ne_of_gt (Nat.lt_of_lt_of_le I.lt hb), I.nofs hb, .inr (Nat.le_trans I.sz hb), fun x c e z => ?_, fun p hp z => ?_⟩
  · obtain ⟨v, q⟩ := I.cell x c e
    exact absurd (Nat.lt_of_lt_of_le q.lt (by rw [z]; exact hb)) (Nat.lt_irrefl _)
  · exact absurd (Nat.lt_of_lt_of_le (Heap.lt_size (I.pin p hp).1) (by rw [z]; exact hb)) (Nat.lt_irrefl _)
structure Turn (P : Program) (w : World) (K : PySem.W.Frag) (tg : Expr) (J : It) (fp : List Addr) (it : Addr) (tn : Nat → Heap → Prop) : Prop where
  mem : it ∈ fp
  obj : ∀ i h, tn i h → ∀ b ∈ fp, ∃ o, h.get? b = some o ∧ ∀ v, o.data ≠ .cell v
  keep : ∀ i h h', tn i h → (∀ b ∈ fp, ∀ o, h.get? b = some o → h'.get? b = some o) → tn i h'
  item : ∀ (X : Cx), X.prog = P → X.w = w → X.K = K → X.calm = true → ∀ (i : Nat) (pins : List (Addr × Obj)) (s : Shared) (σ : St) (H : Hp) (E : Value → Shared → Prop), Inv X pins σ H s → (∀ b ∈ fp, FpOk X pins H b) → tn i s.heap → J.go i H →
    wpAny (model P w) X.A (pyNext (.ref it)) (fun r s1 => ∃ u, r = some u ∧
      wpAny (model P w) X.A (letOwnedTupleGo tg (.ref it) u) (fun _ s2 => ∃ x H', Inv X pins σ H' s2 ∧ RelV x u ∧ J.yld i H x H' ∧ tn (i + 1) s2.heap ∧ ∀ b ∈ fp, H' b = none) E s1) E s
  done : ∀ (X : Cx), X.prog = P → X.w = w → X.K = K → X.calm = true → ∀ (i : Nat) (pins : List (Addr × Obj)) (s : Shared) (σ : St) (H : Hp) (E : Value → Shared → Prop), Inv X pins σ H s → (∀ b ∈ fp, FpOk X pins H b) → tn i s.heap → J.stop i H →
    wpAny (model P w) X.A (pyNext (.ref it)) (fun r s1 => r = none ∧ Inv X pins σ H s1) E s
  self : ∀ (A : Around) (i : Nat) (s : Shared) (Q : Value → Shared → Prop) (E : Value → Shared → Prop), tn i s.heap → Q (.ref it) s → wpAny (model P w) A (pyIter (.ref it)) Q E s
noncomputable abbrev TI := St → Hp → (It → Hp → Prop) → Prop
noncomputable def PIE (X : Cx) (pins : List (Addr × Obj)) (σ : St) (tg : Expr) (R : It → Hp → Prop) (itv : Value) (s2 : Shared) : Prop :=
  ∃ (it : Addr) (fp : List Addr) (tn : Nat → Heap → Prop) (J : It) (H' : Hp), itv = .ref it ∧ Inv X pins σ H' s2 ∧ Turn X.prog X.w X.K tg J fp it tn ∧ tn 0 s2.heap ∧ (∀ b ∈ fp, FpOk X pins H' b) ∧ R J H'
noncomputable def PI (X : Cx) (tg iter : Expr) (wi : TI) : Prop :=
  ∀ (pins : List (Addr × Obj)) (s : Shared) (σ : St) (H : Hp) (R : It → Hp → Prop), Inv X pins σ H s → wi σ H R →
    wpAny (model X.prog X.w) X.A (eval iter X.env) (fun v s1 => wpAny (model X.prog X.w) X.A (pyIter v) (PIE X pins σ tg R) X.xe s1) X.xe s

theorem go_of {M : Model} {A : Around} {E : Value → Shared → Prop} {s : Shared} {tg : Expr} {it : Addr} {u : Value} {o : Obj} {n : String} {vs : Array Value} {Q : Unit → Shared → Prop} (ho : s.heap.get? it = some o) (hc : o.cls = .type n) (hd : o.data = .fields vs)
    (hn : ["enumerate", "zip", "dict_itemiterator", "dict_reverseitemiterator", "odict_iterator", "itertools.zip_longest", "itertools.pairwise"].contains n = false) (hQ : Q () s) : wpAny M A (letOwnedTupleGo tg (.ref it) u) Q E s := by
  unfold letOwnedTupleGo
  cases tg <;> first
    | exact wpAny_pure hQ
    | (cases u <;> first
        | exact wpAny_pure hQ
        | (refine wpAny_bind (wpAny_load ho ?_)
           rw [hc, hd]
           show wpAny M A (if (["enumerate", "zip", "dict_itemiterator", "dict_reverseitemiterator", "odict_iterator", "itertools.zip_longest", "itertools.pairwise"].contains n && vs[0]? == some (rawInt _)) = true then _ else _) Q E s
           rw [if_neg (by intro h; rw [hn, Bool.false_and] at h; cases h)]
           exact wpAny_pure hQ))

noncomputable def Itl (K : PySem.W.Frag) (a : Addr) : It :=
  ⟨fun i H => ∃ xs x, SqL K H a xs ∧ xs[i]? = some x, fun i H x H' => H' = H ∧ ∀ xs, SqL K H a xs → xs[i]? = some x, fun i H => ∃ xs, SqL K H a xs ∧ xs.length ≤ i⟩
noncomputable def Itt (K : PySem.W.Frag) (a : Addr) : It :=
  ⟨fun i H => ∃ xs x, SqT K H a xs ∧ xs[i]? = some x, fun i H x H' => H' = H ∧ ∀ xs, SqT K H a xs → xs[i]? = some x, fun i H => ∃ xs, SqT K H a xs ∧ xs.length ≤ i⟩
noncomputable def Itr (lo : Int) (n : Nat) : It := ⟨fun i _ => i < n, fun i H x H' => H' = H ∧ x = .int (lo + i), fun i _ => n ≤ i⟩
theorem turn_list {P : Program} {w : World} {K : PySem.W.Frag} {tg : Expr} (a it : Addr) : Turn P w K tg (Itl K a) [it] it (fun i h => h.IsListIter it a i) where
  mem := by simp
  obj := fun i h st b hb => by
    have e : b = it := by simpa using hb
    subst e
    obtain ⟨o, e, c, d⟩ := st
    exact ⟨o, e, fun v z => by rw [d] at z; cases z⟩
  keep := fun i h h' st k => st.at fun o e => k it (by simp) o e
  item := by
    intro X hP hw hK hc i pins s σ H E I hf st hg
    subst hP hw hK
    obtain ⟨xs, x, hq, hx⟩ := hg
    obtain ⟨its, rv, p, hz⟩ := I.list hq
    obtain ⟨u, hu, ru⟩ := rv.get hx
    obtain ⟨f0, f1, f2, f3, f4, f5⟩ := hf it (by simp)
    refine wpAny_pyNext_list_item st p.isList (x := u) (by simpa using hu) fun h' st' sb => ?_
    have I1 : Inv X pins σ H { s with heap := h' } := I.turned (t' := s.toks) (fun b o hb e => (sb.2 b hb).trans e) f0 f1 f3 f4 f5
    obtain ⟨o, e, c, d⟩ := id st'
    exact ⟨u, rfl, go_of (s := { s with heap := h' }) e c d (by decide) ⟨x, H, I1, ru, ⟨rfl, fun ys hy => by rw [I.list_inj hy hq]; exact hx⟩, st', fun b hb => (hf b hb).1⟩⟩
  done := by
    intro X hP hw hK hc i pins s σ H E I hf st hg
    subst hP hw hK
    obtain ⟨xs, hq, hx⟩ := hg
    obtain ⟨its, rv, p, hz⟩ := I.list hq
    obtain ⟨f0, f1, f2, f3, f4, f5⟩ := hf it (by simp)
    have hl := rv.length
    exact wpAny_pyNext_list_end (I.ok.hd hc) st p.isList (by simp; omega) fun h' eb => ⟨rfl, I.turned (t' := s.toks) (fun b o hb e => eb b o hb e) f0 f1 f3 f4 f5⟩
  self := fun _ _ _ _ _ st h => wpAny_pyIter_listiter st h
theorem turn_tuple {P : Program} {w : World} {K : PySem.W.Frag} {tg : Expr} (a it : Addr) : Turn P w K tg (Itt K a) [it] it (fun i h => h.IsTupleIter it a i) where
  mem := by simp
  obj := fun i h st b hb => by
    have e : b = it := by simpa using hb
    subst e
    obtain ⟨o, e, c, d⟩ := st
    exact ⟨o, e, fun v z => by rw [d] at z; cases z⟩
  keep := fun i h h' st k => st.at fun o e => k it (by simp) o e
  item := by
    intro X hP hw hK hc i pins s σ H E I hf st hg
    subst hP hw hK
    obtain ⟨xs, x, hq, hx⟩ := hg
    obtain ⟨its, rv, p, hz⟩ := I.tuple hq
    obtain ⟨u, hu, ru⟩ := rv.get hx
    obtain ⟨f0, f1, f2, f3, f4, f5⟩ := hf it (by simp)
    refine wpAny_pyNext_tuple_item st (show s.heap.IsTuple a its.toArray from p) (x := u) (by simpa using hu) fun h' st' sb => ?_
    have I1 : Inv X pins σ H { s with heap := h' } := I.turned (t' := s.toks) (fun b o hb e => (sb.2 b hb).trans e) f0 f1 f3 f4 f5
    obtain ⟨o, e, c, d⟩ := id st'
    exact ⟨u, rfl, go_of (s := { s with heap := h' }) e c d (by decide) ⟨x, H, I1, ru, ⟨rfl, fun ys hy => by rw [I.tuple_inj hy hq]; exact hx⟩, st', fun b hb => (hf b hb).1⟩⟩
  done := by
    intro X hP hw hK hc i pins s σ H E I hf st hg
    subst hP hw hK
    obtain ⟨xs, hq, hx⟩ := hg
    obtain ⟨its, rv, p, hz⟩ := I.tuple hq
    obtain ⟨f0, f1, f2, f3, f4, f5⟩ := hf it (by simp)
    have hl := rv.length
    exact wpAny_pyNext_tuple_end (I.ok.hd hc) st (show s.heap.IsTuple a its.toArray from p) (by simp; omega) fun h' eb => ⟨rfl, I.turned (t' := s.toks) (fun b o hb e => eb b o hb e) f0 f1 f3 f4 f5⟩
  self := fun _ _ _ _ _ st h => wpAny_pyIter_tupleiter st h
theorem turn_range {P : Program} {w : World} {K : PySem.W.Frag} {tg : Expr} (it : Addr) (lo : Int) (n : Nat) : Turn P w K tg (Itr lo n) [it] it (fun i h => IsRangeIter h it (lo + (i : Nat) * 1) ((n : Int) - (i : Nat)) 1) where
  mem := by simp
  obj := fun i h st b hb => by
    have e : b = it := by simpa using hb
    subst e
    exact ⟨_, st, fun v z => by
      have z' : Data.fields _ = Data.cell v := z
      cases z'⟩
  keep := fun i h h' st k => k it (by simp) _ st
  item := by
    intro X hP hw hK hc i pins s σ H E I hf st hg
    subst hP hw hK
    obtain ⟨f0, f1, f2, f3, f4, f5⟩ := hf it (by simp)
    have W := Walks.range (prog := X.prog) (w := X.w) (I.ok.hd hc) it lo 1 n
    refine W.item i s _ _ hg st fun v h' tk hv st' kk => ?_
    obtain ⟨t, rfl⟩ := hv
    have I1 : Inv X pins σ H { s with heap := h', toks := tk } := I.turned (fun b o hb e => kk b o (by simpa using hb) e) f0 f1 f3 f4 f5
    refine ⟨_, rfl, go_of (s := { s with heap := h', toks := tk }) (n := "range_iterator") st' rfl rfl (by decide) ⟨.int (lo + i), H, I1, ⟨t, ?_⟩, ⟨rfl, rfl⟩, st', fun b hb => (hf b hb).1⟩⟩
    rw [Int.mul_one]
  done := by
    intro X hP hw hK hc i pins s σ H E I hf st hg
    subst hP hw hK
    obtain ⟨f0, f1, f2, f3, f4, f5⟩ := hf it (by simp)
    exact wpAny_pyNext_range_end (I.ok.hd hc) st (by have : n ≤ i := hg; omega) fun h' eb => ⟨rfl, I.turned (t' := s.toks) (fun b o hb e => eb b o hb e) f0 f1 f3 f4 f5⟩
  self := fun _ _ _ _ _ st h => wpAny_pyIter_rangeiter st h
end L2

namespace L2
open PySem PySem.Spec PyProof.Rows
section
variable {X : Cx} {tg : Expr}
theorem range_it {pins : List (Addr × Obj)} {σ : St} {H : Hp} {s : Shared} {R : It → Hp → Prop} {E : Value → Shared → Prop} {lo hi : Int} {t u v : Tok} {tk : Nat} (I : Inv X pins σ H s) (h1 : -(2 ^ 62) ≤ lo) (h2 : lo < 2 ^ 62) (h3 : -(2 ^ 62) ≤ hi) (h4 : hi < 2 ^ 62)
    (q : R (Itr lo (hi - lo).toNat) H) : wpAny (model X.prog X.w) X.A (pyIter (.ref s.heap.objs.size)) (PIE X pins σ tg R) E { s with heap := s.heap.push { cls := .type "range", data := .fields #[.int lo t, .int hi u, .int 1 v] }, toks := tk } := by
  refine wpAny_pyIter_range (IsRange.new ..) (small_one h1 h2 h3 h4) ?_
  have I1 : Inv X pins σ H { s with heap := s.heap.push { cls := .type "range", data := .fields #[.int lo t, .int hi u, .int 1 v] }, toks := tk } := I.kept fun b o e => Heap.get?_push_of_some _ e
  refine ⟨(s.heap.push { cls := .type "range", data := .fields #[.int lo t, .int hi u, .int 1 v] }).objs.size, [(s.heap.push { cls := .type "range", data := .fields #[.int lo t, .int hi u, .int 1 v] }).objs.size], _, _, H, rfl,
    I1.kept (t' := tk) fun b o e => Heap.get?_push_of_some _ e, turn_range _ lo (hi - lo).toNat, ?_, fun b hb => ?_, q⟩
  · have e1 : lo + ((0 : Nat) : Int) * 1 = lo := by simp
    have e2 : (((hi - lo).toNat : Nat) : Int) - ((0 : Nat) : Int) = Builtin.Range.rangeSize lo hi 1 := by rw [rangeSize_one]; split <;> omega
    show IsRangeIter _ _ (lo + ((0 : Nat) : Int) * 1) ((((hi - lo).toNat : Nat) : Int) - ((0 : Nat) : Int)) 1
    rw [e1, e2]
    exact Heap.get?_push_size _ rfl
  · have e : b = (s.heap.push { cls := .type "range", data := .fields #[.int lo t, .int hi u, .int 1 v] }).objs.size := by simpa using hb
    subst e
    exact I1.fpOk (Nat.le_refl _) (I1.hok.fresh (Nat.le_refl _))
noncomputable def iRng1 (ta : TA) : TI := fun σ H R => ta σ H fun vs H1 => ∃ j : Int, vs = [.int j] ∧ -(2 ^ 62) ≤ j ∧ j < 2 ^ 62 ∧ R (Itr 0 j.toNat) H1
noncomputable def iRng2 (ta : TA) : TI := fun σ H R => ta σ H fun vs H1 => ∃ i j : Int, vs = [.int i, .int j] ∧ (-(2 ^ 62) ≤ i ∧ i < 2 ^ 62 ∧ -(2 ^ 62) ≤ j ∧ j < 2 ^ 62) ∧ R (Itr i (j - i).toNat) H1
theorem pi_range1 {a : Expr} {ta : TA} {p pos : Pos} (hg : Gl X "range") (hm : X.mg "range" = none) (ha : PA X [a] ta) (hs : starEach [a] X.env = [(false, eval a X.env)] := by rfl) : PI X tg (.Call (.Name "range" p) [a] [] pos) (iRng1 ta) := by
  intro pins s σ H R I h
  refine Call_ (ld_blt I hg hm boot_range (PyProof.Rows.callWith_type1 (thn (ha pos pins s σ H _ I h) fun us s1 ⟨vs, H1, I1, r1, q1⟩ => ?_) hs rfl))
  obtain ⟨j, e, q1, q2, q⟩ := q1
  subst e
  cases r1 with
  | cons r rr =>
    cases rr
    obtain ⟨t, rfl⟩ := r
    exact call_range_1 (range_it I1 (by omega) (by omega) q1 q2 (by simpa using q))
theorem pi_range2 {a b : Expr} {ta : TA} {p pos : Pos} (hg : Gl X "range") (hm : X.mg "range" = none) (ha : PA X [a, b] ta) (hs : starEach [a, b] X.env = [(false, eval a X.env), (false, eval b X.env)] := by rfl) (hs2 : starEach [b] X.env = [(false, eval b X.env)] := by rfl) :
    PI X tg (.Call (.Name "range" p) [a, b] [] pos) (iRng2 ta) := by
  intro pins s σ H R I h
  refine Call_ (ld_blt I hg hm boot_range (PyProof.Rows.callWith_type1 (thn (ha pos pins s σ H _ I h) fun us s1 ⟨vs, H1, I1, r1, q1⟩ => ?_) (by rw [hs, hs2]) (by rw [hs2]; rfl)))
  obtain ⟨i, j, e, ⟨q1, q2, q3, q4⟩, q⟩ := q1
  subst e
  cases r1 with
  | cons r rr =>
    cases rr with
    | cons r' rr =>
      cases rr
      obtain ⟨t, rfl⟩ := r
      obtain ⟨t', rfl⟩ := r'
      exact call_range_2 (range_it I1 q1 q2 q3 q4 q)

noncomputable def tFor (wi : TI) (g : TG) (tb : TS) : TS := fun D σ H => wi σ H fun J H1 => ∃ W : Nat → Nat → St → Hp → Prop, (∃ m, W 0 m σ H1) ∧ ∀ i m σ H, W i m σ H →
  (J.stop i H ∧ D.nx σ H) ∨ (J.go i H ∧ ∃ N : St → Hp → Prop, (∀ σ' H', N σ' H' → ∃ m', m' < m ∧ W (i + 1) m' σ' H') ∧ ∀ x H', J.yld i H x H' → g x σ H' fun σ2 H2 => tb { D with nx := N, ct := N, bk := D.nx } σ2 H2)
noncomputable def pinsAt (fp : List Addr) (h : Heap) : List (Addr × Obj) := fp.filterMap fun b => (h.get? b).map fun o => (b, o)
theorem mem_pinsAt {fp : List Addr} {h : Heap} {b : Addr} {o : Obj} (hb : b ∈ fp) (e : h.get? b = some o) : (b, o) ∈ pinsAt fp h := List.mem_filterMap.mpr ⟨b, hb, by rw [e]; rfl⟩
theorem of_pinsAt {fp : List Addr} {h : Heap} {p : Addr × Obj} (hp : p ∈ pinsAt fp h) : p.1 ∈ fp ∧ h.get? p.1 = some p.2 := by
  obtain ⟨b, hb, e⟩ := List.mem_filterMap.mp hp
  cases q : h.get? b with
  | none => rw [q] at e; cases e
  | some o =>
    rw [q] at e
    have e' : (b, o) = p := Option.some.inj e
    subst e'
    exact ⟨hb, q⟩
theorem Inv.pinned {pins : List (Addr × Obj)} {σ : St} {H : Hp} {s : Shared} {fp : List Addr} (I : Inv X pins σ H s) (hf : ∀ b ∈ fp, FpOk X pins H b) (ho : ∀ b ∈ fp, ∃ o, s.heap.get? b = some o ∧ ∀ v, o.data ≠ .cell v) : Inv X (pins ++ pinsAt fp s.heap) σ H s :=
  I.pins_of fun p hp => (List.mem_append.mp hp).elim (fun z => I.pin p (List.mem_append_right _ z)) fun z => by
    obtain ⟨hb, e⟩ := of_pinsAt z
    obtain ⟨f0, f1, f2, _⟩ := hf p.1 hb
    obtain ⟨o, e', d⟩ := ho p.1 hb
    rw [e] at e'; cases e'
    exact ⟨e, f0, f1, f2, d⟩
theorem Inv.unpinned {pins pl : List (Addr × Obj)} {σ : St} {H : Hp} {s : Shared} (I : Inv X (pins ++ pl) σ H s) : Inv X pins σ H s := I.pins_of fun p hp => I.pin p (List.mem_append_right _ (List.mem_append_left _ hp))
theorem ps_for {iter : Expr} {body : List Stmt} {wi : TI} {g : TG} {tb : TS} {pos : Pos} (hp : PassesOwn (model X.prog X.w) X.A X.env X.xe) (hc : X.calm = true) (hi : PI X tg iter wi) (hg : PG X tg g) (hb : PSs X body tb)
    (hs : ∀ x, foldedSetIterable iter X.env x = pure x := by intro _; rfl) : PS X (.For tg iter body [] pos) (tFor wi g tb) := by
  intro pins s σ H D I h
  refine wpAny_For (thn (hi pins s σ H _ I h) fun v s1 h1 => thn h1 fun itv s2 h2 => ?_) hs
  obtain ⟨it, fp, tn, J, H2, e, I2, T, st2, f2, W, ⟨m0, w0⟩, turn⟩ := h2
  subst e
  -- what stays true of the iterator's objects through the loop
  have stat : ∀ {H' : Hp}, (∀ b ∈ fp, H' b = none) → ∀ b ∈ fp, FpOk X pins H' b := fun hn b hb => ⟨hn b hb, (f2 b hb).2⟩
  refine codeAny_forLoop_any (fun n s' => ∃ i σ' H', Inv X pins σ' H' s' ∧ tn i s'.heap ∧ (∀ b ∈ fp, H' b = none) ∧ W i n σ' H') ?_ m0 ⟨0, σ, H2, I2, st2, fun b hb => (f2 b hb).1, w0⟩
  rintro n s3 ⟨i, σ3, H3, I3, st3, fr3, w3⟩
  rcases turn i n σ3 H3 w3 with ⟨stop, qn⟩ | ⟨go, N, hN, step⟩
  · refine wpAny_passesOwn hp (thn (T.done X rfl rfl rfl hc i pins s3 σ3 H3 X.xe I3 (stat fr3) st3 stop) fun r s4 ⟨hr, I4⟩ => ?_)
    subst hr
    exact wpAny_execs_nil ⟨σ3, H3, I4, qn⟩
  · refine wpAny_passesOwn hp (thn (T.item X rfl rfl rfl hc i pins s3 σ3 H3 X.xe I3 (stat fr3) st3 go) fun r s4 ⟨u, hr, h4⟩ => ?_)
    subst hr
    refine wpAny_passesOwn hp (thn h4 fun _ s5 ⟨x, H5, I5, r5, y5, st5, fr5⟩ => ?_)
    have I5' := I5.pinned (stat fr5) (T.obj _ _ st5)
    refine wpAny_passesOwn hp (thn (hg _ s5 σ3 H5 x u _ I5' r5 (step x H5 y5)) fun _ s6 ⟨σ6, H6, I6, q6⟩ => ?_)
    refine wpAny_passesOwn hp (thn (hb _ s6 σ6 H6 _ I6 q6) fun f s7 q7 => ?_)
    have again : ∀ {σ7 : St} {H7 : Hp}, Inv X (pins ++ pinsAt fp s5.heap) σ7 H7 s7 → N σ7 H7 → ∃ m, m < n ∧ ∃ i σ' H', Inv X pins σ' H' s7 ∧ tn i s7.heap ∧ (∀ b ∈ fp, H' b = none) ∧ W i m σ' H' := fun {σ7 H7} I7 n7 => by
      obtain ⟨m', hm, w7⟩ := hN σ7 H7 n7
      refine ⟨m', hm, i + 1, σ7, H7, I7.unpinned, T.keep _ _ _ st5 fun b hb o e => (I7.pin (b, o) (List.mem_append_right _ (List.mem_append_right _ (mem_pinsAt hb e)))).1, fun b hb => ?_, w7⟩
      obtain ⟨o, e, d⟩ := T.obj _ _ st5 b hb
      exact (I7.pin (b, o) (List.mem_append_right _ (List.mem_append_right _ (mem_pinsAt hb e)))).2.1
    cases f with
    | next => obtain ⟨σ7, H7, I7, n7⟩ := q7; exact again I7 n7
    | cont => obtain ⟨σ7, H7, I7, n7⟩ := q7; exact again I7 n7
    | brk => obtain ⟨σ7, H7, I7, q7⟩ := q7; exact ⟨σ7, H7, I7.unpinned, q7⟩
    | ret v => obtain ⟨x7, σ7, H7, I7, r7, q7⟩ := q7; exact ⟨x7, σ7, H7, I7.unpinned, r7, q7⟩
end

theorem for_list {K : PySem.W.Frag} {a : Addr} {xs : List V} {g : TG} {tb : TS} {D : Ends} {σ : St} {H : Hp} (Pv : Nat → St → Hp → Prop) (h0 : Pv 0 σ H) (hl : ∀ i σ H, i ≤ xs.length → Pv i σ H → SqL K H a xs)
    (hs : ∀ i x σ H, xs[i]? = some x → Pv i σ H → g x σ H fun σ2 H2 => tb { D with nx := Pv (i + 1), ct := Pv (i + 1), bk := D.nx } σ2 H2) (hd : ∀ σ H, Pv xs.length σ H → D.nx σ H) :
    ∃ W : Nat → Nat → St → Hp → Prop, (∃ m, W 0 m σ H) ∧ ∀ i m σ H, W i m σ H →
      ((Itl K a).stop i H ∧ D.nx σ H) ∨ ((Itl K a).go i H ∧ ∃ N : St → Hp → Prop, (∀ σ' H', N σ' H' → ∃ m', m' < m ∧ W (i + 1) m' σ' H') ∧ ∀ x H', (Itl K a).yld i H x H' → g x σ H' fun σ2 H2 => tb { D with nx := N, ct := N, bk := D.nx } σ2 H2) := by
  refine ⟨fun i m σ H => m = xs.length - i ∧ i ≤ xs.length ∧ Pv i σ H, ⟨xs.length, by simp, Nat.zero_le _, h0⟩, ?_⟩
  rintro i m σ H ⟨rfl, hi, p⟩
  have q := hl i σ H hi p
  by_cases hlt : i < xs.length
  · refine .inr ⟨⟨xs, xs[i], q, by simp [hlt]⟩, Pv (i + 1), fun σ' H' p' => ⟨xs.length - (i + 1), by omega, rfl, hlt, p'⟩, fun x H' y => ?_⟩
    obtain ⟨e, y⟩ := y
    subst e
    exact hs i x σ _ (y xs q) p
  · have e : i = xs.length := by omega
    subst e
    exact .inl ⟨⟨xs, q, Nat.le_refl _⟩, hd σ H p⟩
theorem for_tup {K : PySem.W.Frag} {a : Addr} {xs : List V} {g : TG} {tb : TS} {D : Ends} {σ : St} {H : Hp} (Pv : Nat → St → Hp → Prop) (h0 : Pv 0 σ H) (hl : ∀ i σ H, i ≤ xs.length → Pv i σ H → SqT K H a xs)
    (hs : ∀ i x σ H, xs[i]? = some x → Pv i σ H → g x σ H fun σ2 H2 => tb { D with nx := Pv (i + 1), ct := Pv (i + 1), bk := D.nx } σ2 H2) (hd : ∀ σ H, Pv xs.length σ H → D.nx σ H) :
    ∃ W : Nat → Nat → St → Hp → Prop, (∃ m, W 0 m σ H) ∧ ∀ i m σ H, W i m σ H →
      ((Itt K a).stop i H ∧ D.nx σ H) ∨ ((Itt K a).go i H ∧ ∃ N : St → Hp → Prop, (∀ σ' H', N σ' H' → ∃ m', m' < m ∧ W (i + 1) m' σ' H') ∧ ∀ x H', (Itt K a).yld i H x H' → g x σ H' fun σ2 H2 => tb { D with nx := N, ct := N, bk := D.nx } σ2 H2) := by
  refine ⟨fun i m σ H => m = xs.length - i ∧ i ≤ xs.length ∧ Pv i σ H, ⟨xs.length, by simp, Nat.zero_le _, h0⟩, ?_⟩
  rintro i m σ H ⟨rfl, hi, p⟩
  have q := hl i σ H hi p
  by_cases hlt : i < xs.length
  · refine .inr ⟨⟨xs, xs[i], q, by simp [hlt]⟩, Pv (i + 1), fun σ' H' p' => ⟨xs.length - (i + 1), by omega, rfl, hlt, p'⟩, fun x H' y => ?_⟩
    obtain ⟨e, y⟩ := y
    subst e
    exact hs i x σ _ (y xs q) p
  · have e : i = xs.length := by omega
    subst e
    exact .inl ⟨⟨xs, q, Nat.le_refl _⟩, hd σ H p⟩
theorem for_range {lo : Int} {n : Nat} {g : TG} {tb : TS} {D : Ends} {σ : St} {H : Hp} (Pv : Nat → St → Hp → Prop) (h0 : Pv 0 σ H)
    (hs : ∀ i σ H, i < n → Pv i σ H → g (.int (lo + i)) σ H fun σ2 H2 => tb { D with nx := Pv (i + 1), ct := Pv (i + 1), bk := D.nx } σ2 H2) (hd : ∀ σ H, Pv n σ H → D.nx σ H) :
    ∃ W : Nat → Nat → St → Hp → Prop, (∃ m, W 0 m σ H) ∧ ∀ i m σ H, W i m σ H →
      ((Itr lo n).stop i H ∧ D.nx σ H) ∨ ((Itr lo n).go i H ∧ ∃ N : St → Hp → Prop, (∀ σ' H', N σ' H' → ∃ m', m' < m ∧ W (i + 1) m' σ' H') ∧ ∀ x H', (Itr lo n).yld i H x H' → g x σ H' fun σ2 H2 => tb { D with nx := N, ct := N, bk := D.nx } σ2 H2) := by
  refine ⟨fun i m σ H => m = n - i ∧ i ≤ n ∧ Pv i σ H, ⟨n, by simp, Nat.zero_le _, h0⟩, ?_⟩
  rintro i m σ H ⟨rfl, hi, p⟩
  by_cases hlt : i < n
  · refine .inr ⟨hlt, Pv (i + 1), fun σ' H' p' => ⟨n - (i + 1), by omega, rfl, hlt, p'⟩, fun x H' y => ?_⟩
    obtain ⟨e, y⟩ := y
    subst e y
    exact hs i σ _ hlt p
  · have e : i = n := by omega
    subst e
    exact .inl ⟨Nat.le_refl _, hd σ H p⟩
end L2

namespace L2
open PySem PySem.Spec PyProof.Rows

noncomputable abbrev R2 := V → V → Hp → VK → Prop
noncomputable def OpR (X : Cx) (f : Value → Value → Sem Value) (r : R2) : Prop :=
  ∀ (pins : List (Addr × Obj)) (s : Shared) (σ : St) (H : Hp) (x y : V) (v u : Value) (Q : VK), Inv X pins σ H s → RelV x v → RelV y u → r x y H Q →
    wpAny (model X.prog X.w) X.A (f v u) (EP X pins σ Q) X.xe s
noncomputable def UnR (X : Cx) (f : Value → Sem Value) (r : V → Hp → VK → Prop) : Prop :=
  ∀ (pins : List (Addr × Obj)) (s : Shared) (σ : St) (H : Hp) (x : V) (v : Value) (Q : VK), Inv X pins σ H s → RelV x v → r x H Q →
    wpAny (model X.prog X.w) X.A (f v) (EP X pins σ Q) X.xe s
noncomputable def CallR (X : Cx) (f : Value) (r : List V → Hp → VK → Prop) : Prop :=
  ∀ (pins : List (Addr × Obj)) (s : Shared) (σ : St) (H : Hp) (xs : List V) (us : List Value) (Q : VK), Inv X pins σ H s → Vals xs us → r xs H Q →
    wpAny (model X.prog X.w) X.A (call f us) (EP X pins σ Q) X.xe s
noncomputable def tOp (r : R2) (ta tb : TE) : TE := fun σ H Q => ta σ H fun x H1 => tb σ H1 fun y H2 => r x y H2 Q
noncomputable def tUn (r : V → Hp → VK → Prop) (ta : TE) : TE := fun σ H Q => ta σ H fun x H1 => r x H1 Q
noncomputable def rI (C : Int → Int → Prop) (g : Int → Int → V) : R2 := fun x y H Q => ∃ i j, x = .int i ∧ y = .int j ∧ C i j ∧ Q (g i j) H
noncomputable def rI0 (g : Int → Int → V) : R2 := fun x y H Q => ∃ i j, x = .int i ∧ y = .int j ∧ Q (g i j) H
noncomputable def rU (g : Int → V) : V → Hp → VK → Prop := fun x H Q => ∃ i, x = .int i ∧ Q (g i) H

section
variable {X : Cx} {a b c : Expr} {ta tb tc : TE} {pos : Pos}

theorem binT (ha : PE X a ta) (hb : PE X b tb) {pins : List (Addr × Obj)} {s : Shared} {σ : St} {H : Hp} {R : V → V → Hp → Prop} (I : Inv X pins σ H s)
    (h : ta σ H fun x H1 => tb σ H1 fun y H2 => R x y H2) {Q : Value → Shared → Prop} {f : Value → Value → Sem Value}
    (hf : ∀ v u s2 x y H2, Inv X pins σ H2 s2 → RelV x v → RelV y u → R x y H2 → wpAny (model X.prog X.w) X.A (f v u) Q X.xe s2) :
    wpAny (model X.prog X.w) X.A (eval a X.env) (fun v s₁ => wpAny (model X.prog X.w) X.A (eval b X.env) (fun u s₂ => wpAny (model X.prog X.w) X.A (f v u) Q X.xe s₂) X.xe s₁) X.xe s := by
  refine thn (ha pins s σ H _ I h) fun v s1 ⟨x, H1, I1, r1, q1⟩ => ?_
  refine thn (hb pins s1 σ H1 _ I1 q1) fun u s2 ⟨y, H2, I2, r2, q2⟩ => ?_
  exact hf v u s2 x y H2 I2 r1 r2 q2

theorem pe_op {op : Operator} {r : R2} (ho : OpR X (binaryOp op) r) (ha : PE X a ta) (hb : PE X b tb) : PE X (.BinOp a op b pos) (tOp r ta tb) := by
  intro pins s σ H Q I h
  exact wpAny_BinOp (binT ha hb I h fun v u s2 x y H2 I2 rx ry q => ho pins s2 σ H2 x y v u Q I2 rx ry q)
theorem pe_un {op : UnaryOp} {r : V → Hp → VK → Prop} (ho : UnR X (unaryOp op) r) (ha : PE X a ta) : PE X (.UnaryOp op a pos) (tUn r ta) := by
  intro pins s σ H Q I h
  exact UnaryOp_ (thn (ha pins s σ H _ I h) fun v s1 ⟨x, H1, I1, r1, q1⟩ => ho pins s1 σ H1 x v Q I1 r1 q1)
theorem opI {f : Value → Value → Sem Value} {C : Int → Int → Prop} {g : Int → Int → Int}
    (rule : ∀ (i j : Int) (t u : Tok) (s : Shared) (Q : Value → Shared → Prop) (E : Value → Shared → Prop), C i j → Q (.int (g i j) s.toks) { s with toks := s.toks + 1 } → wpAny (model X.prog X.w) X.A (f (.int i t) (.int j u)) Q E s) :
    OpR X f (rI C fun i j => .int (g i j)) := by
  intro pins s σ H x y v u Q I rx ry h
  obtain ⟨i, j, rfl, rfl, hc, q⟩ := h
  obtain ⟨t, rfl⟩ := rx
  obtain ⟨t', rfl⟩ := ry
  exact rule i j t t' s _ _ hc ⟨.int (g i j), H, I.tok _, ⟨_, rfl⟩, q⟩
theorem opI0 {f : Value → Value → Sem Value} {g : Int → Int → Int}
    (rule : ∀ (i j : Int) (t u : Tok) (s : Shared) (Q : Value → Shared → Prop) (E : Value → Shared → Prop), Q (.int (g i j) s.toks) { s with toks := s.toks + 1 } → wpAny (model X.prog X.w) X.A (f (.int i t) (.int j u)) Q E s) :
    OpR X f (rI0 fun i j => .int (g i j)) := by
  intro pins s σ H x y v u Q I rx ry h
  obtain ⟨i, j, rfl, rfl, q⟩ := h
  obtain ⟨t, rfl⟩ := rx
  obtain ⟨t', rfl⟩ := ry
  exact rule i j t t' s _ _ ⟨.int (g i j), H, I.tok _, ⟨_, rfl⟩, q⟩
theorem opB0 {f : Value → Value → Sem Value} {g : Int → Int → Bool}
    (rule : ∀ (i j : Int) (t u : Tok) (s : Shared) (Q : Value → Shared → Prop) (E : Value → Shared → Prop), Q (.bool (g i j)) s → wpAny (model X.prog X.w) X.A (f (.int i t) (.int j u)) Q E s) :
    OpR X f (rI0 fun i j => .bl (g i j)) := by
  intro pins s σ H x y v u Q I rx ry h
  obtain ⟨i, j, rfl, rfl, q⟩ := h
  obtain ⟨t, rfl⟩ := rx
  obtain ⟨t', rfl⟩ := ry
  exact rule i j t t' s _ _ ⟨.bl (g i j), H, I, rfl, q⟩

noncomputable def CPow (i j : Int) : Prop := 0 ≤ j ∧ j ≤ 1000000 ∧ i.natAbs < 2 ^ 64
noncomputable def CMul (i j : Int) : Prop := (-(2 ^ 64) < i ∧ i < 2 ^ 64) ∨ (-(2 ^ 64) < j ∧ j < 2 ^ 64)
theorem CMul.ok {i j : Int} (h : CMul i j) : IntMulOk i j := by
  rcases h with ⟨h1, h2⟩ | ⟨h1, h2⟩
  · exact .of_left (intBits_le_64 h1 h2)
  · exact .of_right (intBits_le_64 h1 h2)
theorem op_add : OpR X (binaryOp .Add) (rI0 fun i j => .int (i + j)) := opI0 fun _ _ _ _ _ _ _ q => add_int q
theorem op_sub : OpR X (binaryOp .Sub) (rI0 fun i j => .int (i - j)) := opI0 fun _ _ _ _ _ _ _ q => sub_int q
theorem op_modN : OpR X (binaryOp .Mod) (rI (fun _ j => j ≠ 0) fun i j => .int (i.fmod j)) := opI fun _ _ _ _ _ _ _ hc q => mod_int' hc q
theorem op_pow : OpR X (binaryOp .Pow) (rI CPow fun i j => .int (i ^ j.toNat)) := opI fun _ _ _ _ _ _ _ hc q => pow_int_small hc.1 hc.2.1 hc.2.2 q
theorem unI {f : Value → Sem Value} {g : Int → Int}
    (rule : ∀ (i : Int) (t : Tok) (s : Shared) (Q : Value → Shared → Prop) (E : Value → Shared → Prop), Q (.int (g i) s.toks) { s with toks := s.toks + 1 } → wpAny (model X.prog X.w) X.A (f (.int i t)) Q E s) :
    UnR X f (rU fun i => .int (g i)) := by
  intro pins s σ H x v Q I rx h
  obtain ⟨i, rfl, q⟩ := h
  obtain ⟨t, rfl⟩ := rx
  exact rule i t s _ _ ⟨.int (g i), H, I.tok _, ⟨_, rfl⟩, q⟩
theorem un_neg : UnR X (unaryOp .USub) (rU fun i => .int (-i)) := unI fun _ _ _ _ _ q => neg_int q
end

noncomputable def scal : V → V → Bool
  | .non, .non => true | .non, .int _ => true | .int _, .non => true | .non, .bl _ => true | .bl _, .non => true | .non, .str _ => true | .str _, .non => true
  | .int _, .int _ => true | .bl _, .bl _ => true | .str _, .str _ => true | .byt _, .byt _ => true
  | .int _, .str _ => true | .str _, .int _ => true | .bl _, .str _ => true | .str _, .bl _ => true
  | _, _ => false
noncomputable def rEq : R2 := fun x y H Q => scal x y = true ∧ Q (.bl (decide (x = y))) H
noncomputable def rNe : R2 := fun x y H Q => scal x y = true ∧ Q (.bl (!decide (x = y))) H

theorem dec_int {i j : Int} : decide (V.int i = V.int j) = (i == j) := by
  rw [Bool.eq_iff_iff]
  simp
theorem dec_bl {i j : Bool} : decide (V.bl i = V.bl j) = (i == j) := by
  rw [Bool.eq_iff_iff]
  simp
theorem dec_str {i j : Str} : decide (V.str i = V.str j) = (i == j) := by
  rw [Bool.eq_iff_iff]
  simp
theorem dec_byt {i j : Array UInt8} : decide (V.byt i = V.byt j) = (i.toList == j.toList) := by
  rw [Bool.eq_iff_iff]
  cases i
  cases j
  simp

section
variable {X : Cx} {a b c : Expr} {ta tb tc : TE} {pos : Pos}
theorem fin_bl {pins : List (Addr × Obj)} {σ : St} {H : Hp} {s : Shared} {Q : VK} {k k' : Bool} (I : Inv X pins σ H s) (q : Q (.bl k) H) (e : k = k') : EP X pins σ Q (.bool k') s := by
  subst e
  exact ⟨.bl k, H, I, rfl, q⟩
theorem op_eq : OpR X (compareOp .Eq) rEq := by
  intro pins s σ H x y v u Q I rx ry h
  obtain ⟨hs, q⟩ := h
  cases x with
  | non =>
    cases rx
    cases y with
    | non => cases ry; exact PySem.EqNone.eq_none_none (fin_bl I q (by simp))
    | bl j => cases ry; exact PySem.EqNone.eq_none_bool (fin_bl I q (by simp))
    | int j => obtain ⟨t', rfl⟩ := ry; exact PySem.EqNone.eq_none_int (fin_bl I q (by simp))
    | str j => obtain ⟨t', rfl⟩ := ry; exact PySem.EqNone.eq_none_str (fin_bl I q (by simp))
    | _ => exact absurd (show false = true from hs) Bool.false_ne_true
  | bl i =>
    cases rx
    cases y with
    | non => cases ry; exact PySem.EqNone.eq_bool_none (fin_bl I q (by simp))
    | bl j => cases ry; exact eq_bool (fin_bl I q dec_bl)
    | str j => obtain ⟨t', rfl⟩ := ry; exact PySem.EqMixed.eq_bool_str (fin_bl I q (by simp))
    | _ => exact absurd (show false = true from hs) Bool.false_ne_true
  | int i =>
    obtain ⟨t, rfl⟩ := rx
    cases y with
    | non => cases ry; exact PySem.EqNone.eq_int_none (fin_bl I q (by simp))
    | int j => obtain ⟨t', rfl⟩ := ry; exact eq_int (fin_bl I q dec_int)
    | str j => obtain ⟨t', rfl⟩ := ry; exact PySem.EqMixed.eq_int_str (fin_bl I q (by simp))
    | _ => exact absurd (show false = true from hs) Bool.false_ne_true
  | str i =>
    obtain ⟨t, rfl⟩ := rx
    cases y with
    | non => cases ry; exact PySem.EqNone.eq_str_none (fin_bl I q (by simp))
    | bl j => cases ry; exact PySem.EqMixed.eq_str_bool (fin_bl I q (by simp))
    | int j => obtain ⟨t', rfl⟩ := ry; exact PySem.EqMixed.eq_str_int (fin_bl I q (by simp))
    | str j => obtain ⟨t', rfl⟩ := ry; exact eq_str (fin_bl I q dec_str)
    | _ => exact absurd (show false = true from hs) Bool.false_ne_true
  | byt i =>
    obtain ⟨t, rfl⟩ := rx
    cases y with
    | byt j => obtain ⟨t', rfl⟩ := ry; exact PySem.W.eq_bytes (fin_bl I q dec_byt)
    | _ => exact absurd (show false = true from hs) Bool.false_ne_true
  | _ => cases y <;> exact absurd (show false = true from hs) Bool.false_ne_true
theorem op_ne : OpR X (compareOp .NotEq) rNe := by
  intro pins s σ H x y v u Q I rx ry h
  obtain ⟨hs, q⟩ := h
  cases x with
  | non =>
    cases rx
    cases y with
    | non => cases ry; exact PySem.EqNone.ne_none_none (fin_bl I q (by simp))
    | bl j => cases ry; exact PySem.EqNone.ne_none_bool (fin_bl I q (by simp))
    | int j => obtain ⟨t', rfl⟩ := ry; exact PySem.EqNone.ne_none_int (fin_bl I q (by simp))
    | str j => obtain ⟨t', rfl⟩ := ry; exact PySem.EqNone.ne_none_str (fin_bl I q (by simp))
    | _ => exact absurd (show false = true from hs) Bool.false_ne_true
  | bl i =>
    cases rx
    cases y with
    | non => cases ry; exact PySem.EqNone.ne_bool_none (fin_bl I q (by simp))
    | bl j => cases ry; exact ne_bool (fin_bl I q (congrArg not dec_bl))
    | str j => obtain ⟨t', rfl⟩ := ry; exact PySem.EqMixed.ne_bool_str (fin_bl I q (by simp))
    | _ => exact absurd (show false = true from hs) Bool.false_ne_true
  | int i =>
    obtain ⟨t, rfl⟩ := rx
    cases y with
    | non => cases ry; exact PySem.EqNone.ne_int_none (fin_bl I q (by simp))
    | int j => obtain ⟨t', rfl⟩ := ry; exact ne_int (fin_bl I q (congrArg not dec_int))
    | str j => obtain ⟨t', rfl⟩ := ry; exact PySem.EqMixed.ne_int_str (fin_bl I q (by simp))
    | _ => exact absurd (show false = true from hs) Bool.false_ne_true
  | str i =>
    obtain ⟨t, rfl⟩ := rx
    cases y with
    | non => cases ry; exact PySem.EqNone.ne_str_none (fin_bl I q (by simp))
    | bl j => cases ry; exact PySem.EqMixed.ne_str_bool (fin_bl I q (by simp))
    | int j => obtain ⟨t', rfl⟩ := ry; exact PySem.EqMixed.ne_str_int (fin_bl I q (by simp))
    | str j => obtain ⟨t', rfl⟩ := ry; exact ne_str (fin_bl I q (congrArg not dec_str))
    | _ => exact absurd (show false = true from hs) Bool.false_ne_true
  | byt i =>
    obtain ⟨t, rfl⟩ := rx
    cases y with
    | byt j => obtain ⟨t', rfl⟩ := ry; exact PySem.W.ne_bytes (fin_bl I q (congrArg not dec_byt))
    | _ => exact absurd (show false = true from hs) Bool.false_ne_true
  | _ => cases y <;> exact absurd (show false = true from hs) Bool.false_ne_true

theorem op_lt : OpR X (compareOp .Lt) (rI0 fun i j => .bl (decide (i < j))) := opB0 fun _ _ _ _ _ _ _ q => lt_int q
theorem op_gt : OpR X (compareOp .Gt) (rI0 fun i j => .bl (decide (j < i))) := opB0 fun _ _ _ _ _ _ _ q => gt_int q
theorem op_ge : OpR X (compareOp .GtE) (rI0 fun i j => .bl (decide (j ≤ i))) := opB0 fun _ _ _ _ _ _ _ q => ge_int q
theorem op_isN : OpR X (compareOp .Is) (fun x y H Q => y = .non ∧ Q (.bl (decide (x = .non))) H) := by
  intro pins s σ H x y v u Q I rx ry h
  obtain ⟨rfl, q⟩ := h
  cases ry
  refine is_none_gen (fin_bl I q ?_)
  cases x <;> first
    | (cases rx; rfl)
    | (obtain ⟨t, rfl⟩ := rx; rfl)
theorem op_notN : OpR X (compareOp .IsNot) (fun x y H Q => y = .non ∧ Q (.bl (!decide (x = .non))) H) := by
  intro pins s σ H x y v u Q I rx ry h
  obtain ⟨rfl, q⟩ := h
  cases ry
  refine isnot_none_gen (fin_bl I q ?_)
  cases x <;> first
    | (cases rx; rfl)
    | (obtain ⟨t, rfl⟩ := rx; rfl)

theorem OpR.or {f : Value → Value → Sem Value} {r r' : R2} (h : OpR X f r) (h' : OpR X f r') : OpR X f (fun x y H Q => r x y H Q ∨ r' x y H Q) := by
  intro pins s σ H x y v u Q I rx ry q
  rcases q with q | q
  · exact h pins s σ H x y v u Q I rx ry q
  · exact h' pins s σ H x y v u Q I rx ry q

theorem nomark (b : Expr) {op : CmpOp} (h : op ≠ .In := by decide) (h2 : op ≠ .NotIn := by decide) : behindInMarks op b = false := by
  have e1 : (op == CmpOp.In) = false := by cases op <;> first | rfl | exact absurd rfl h
  have e2 : (op == CmpOp.NotIn) = false := by cases op <;> first | rfl | exact absurd rfl h2
  cases b <;> simp [behindInMarks, e1, e2]
theorem pe_cmpR {op : CmpOp} {r : R2} (ho : OpR X (compareOp op) r) (ha : PE X a ta) (hb : PE X b tb) (hm : behindInMarks op b = false) : PE X (.Compare a [op] [b] pos) (tOp r ta tb) := by
  intro pins s σ H Q I h
  exact wpAny_Compare1 (binT ha hb I h fun v u s2 x y H2 I2 rx ry q => ho pins s2 σ H2 x y v u Q I2 rx ry q) hm
noncomputable def tTest (t : TE) : TT := fun σ H Q => t σ H fun x H' => ∃ k, x = .bl k ∧ Q k H'
theorem pt_cmpR {op : CmpOp} {r : R2} (ho : OpR X (compareOp op) r) (ha : PE X a ta) (hb : PE X b tb) (hm : behindInMarks op b = false) : PT X (.Compare a [op] [b] pos) (tTest (tOp r ta tb)) := by
  intro pins s σ H Q I h
  refine wpAny_isTrue_Compare1 (thn (ha pins s σ H _ I h) fun v s1 ⟨x, H1, I1, r1, q1⟩ => thn (hb pins s1 σ H1 _ I1 q1) fun u s2 ⟨y, H2, I2, r2, q2⟩ =>
    thn (ho pins s2 σ H2 x y v u _ I2 r1 r2 q2) fun c s3 ⟨z, H3, I3, r3, k, e, q3⟩ => ?_) hm
  subst e
  cases r3
  exact wpAny_truthy_bool ⟨H3, I3, q3⟩
theorem line63 : (sizeLine : Nat) < 2 ^ 63 := by rw [sizeLine_eq]; decide
theorem vals1 {x : V} {us : List Value} (r : Vals [x] us) : ∃ u, us = [u] ∧ RelV x u := by
  cases r with
  | cons r1 r2 => cases r2; exact ⟨_, rfl, r1⟩
theorem call_abs : CallR X (.builtin "abs") (fun xs H Q => ∃ i, xs = [.int i] ∧ Q (.int (if i < 0 then -i else i)) H) := by
  intro pins s σ H xs us Q I r h
  obtain ⟨i, rfl, q⟩ := h
  obtain ⟨u, rfl, t, rfl⟩ := vals1 r
  exact call_abs_int fun u tk => ⟨.int (if i < 0 then -i else i), H, I.tok _, ⟨_, rfl⟩, q⟩
theorem call_int1 : CallR X (.type "int") (fun xs H Q => (∃ i, xs = [.int i] ∧ Q (.int i) H) ∨ ∃ k, xs = [.bl k] ∧ Q (.int (if k then 1 else 0)) H) := by
  intro pins s σ H xs us Q I r h
  rcases h with ⟨i, rfl, q⟩ | ⟨k, rfl, q⟩
  · obtain ⟨u, rfl, t, rfl⟩ := vals1 r
    exact call_int_int ⟨.int i, H, I, ⟨_, rfl⟩, q⟩
  · obtain ⟨u, rfl, r1⟩ := vals1 r
    cases r1
    exact call_int_bool ⟨.int (if k then 1 else 0), H, I.tok _, ⟨_, rfl⟩, q⟩
end
end L2

namespace L2
open PySem PySem.Spec PyProof.Rows

structure ObjM (h : Heap) (x dx C : Addr) (mA : Str → Option Value) : Prop where
  obj : h.get? x = some (PySem.W.instObj C dx)
  ns : h.Ns1 dx mA
  ne : dx ≠ x

theorem lookIn_ns {h : Heap} {dx : Addr} {mA : Str → Option Value} (n : h.Ns1 dx mA) : ∃ od, h.get? dx = some od ∧ ∀ name, PySem.W.lookIn name od = some (mA name) := by
  obtain ⟨o, es, ep, ho, hd, hk, _, hm⟩ := n
  refine ⟨o, ho, fun name => ?_⟩
  have e := hm name
  unfold nsFind findBy at e
  rw [← Array.find?_toList] at e
  unfold PySem.W.lookIn
  rw [hd]
  dsimp only
  split
  · rename_i y q
    rw [q] at e
    exact congrArg some e
  · rename_i q
    rw [q] at e
    have a : es.toList.any (·.refKey) = false := by
      rw [List.any_eq_false]
      intro y hy
      obtain ⟨z, t, hkey⟩ := hk y (Array.mem_toList_iff.mp hy)
      simp [DictEntry.refKey, hkey]
    have a' : ¬ es.toList.any (·.refKey) = true := by rw [a]; exact Bool.false_ne_true
    rw [if_neg a']
    exact congrArg some e

theorem ObjM.look {h : Heap} {x dx C : Addr} {mA : Str → Option Value} (I : ObjM h x dx C mA) : ∃ od, PySem.W.InstAt h x (PySem.W.instObj C dx) C (some od) ∧ ∀ name, PySem.W.lookIn name od = some (mA name) :=
  let ⟨od, ho, hl⟩ := lookIn_ns I.ns
  ⟨od, ⟨I.obj, rfl, rfl, ho⟩, hl⟩

section
variable {prog : Program} {w : World} {A : Around} {E : Value → Shared → Prop} {s : Shared} {K : PySem.W.Frag} {x dx C f : Addr} {mA : Str → Option Value} {name : Str} {v : Value}

theorem get_map {expr : Bool} {Q : Value → Shared → Prop} (X : K.In s.heap) (I : ObjM s.heap x dx C mA) (hg : PySem.W.plainGet K C name = true) (hh : PySem.W.hasDictIn K C = true)
    (ha : PySem.W.findIn K (.ref C) name = some none) (hv : mA name = some v) (hv' : PySem.W.handedIn v = true) (h : Q v { s with toks := s.toks + 1 }) :
    wpAny (model prog w) A (getAttr (.ref x) name expr) Q E s := by
  obtain ⟨od, J, hl⟩ := I.look
  exact PySem.W.get_value X J (PySem.W.plainGet_of hg).1 (PySem.W.findObj_own hh ha rfl (by rw [hl, hv])) hv' h

theorem get_meth {pl : Sem Bool} {Q : Value × List Value → Shared → Prop} (X : K.In s.heap) (I : ObjM s.heap x dx C mA) (hg : PySem.W.plainGet K C name = true)
    (hf : PySem.W.findIn K (.ref C) name = some (some (.ref f))) (ht : PySem.W.isFn K (.ref f) = true) (hv : mA name = none) (h : Q (.ref f, [.ref x]) s) :
    wpAny (model prog w) A (getMethod (.ref x) name pl) Q E s := by
  obtain ⟨od, J, hl⟩ := I.look
  exact PySem.W.method_fn X J (PySem.W.plainGet_of hg).1 (PySem.W.plainGet_of hg).2 hf (beq_iff_eq.mp ht) (by show (PySem.W.lookIn name od).map (·.isSome) = some false; rw [hl, hv]; rfl) h

theorem set_map {ns : List Str} {Q : Unit → Shared → Prop} (X : K.In s.heap) (I : ObjM s.heap x dx C mA)
    (hs : PySem.W.findIn K (.ref C) "__setattr__" = some (some (.builtin "object.__setattr__"))) (hp : PySem.W.plainOver K C = true) (ht : PySem.W.takerIn K C name = some none) (hh : PySem.W.hasDictIn K C = true)
    (hw : PySem.Within mA ns) (hsz : ns.length ≤ sizeLine)
    (h : ∀ h', ObjM h' x dx C (fun y => if y = name then some v else mA y) → Heap.SameBut dx s.heap h' → Q () { s with heap := h', toks := s.toks + 2 }) :
    wpAny (model prog w) A (setAttr (.ref x) name v) Q E s := by
  obtain ⟨od, J, hl⟩ := I.look
  refine PySem.W.set_plain X J hs (PySem.W.osa_open (s := { s with toks := s.toks + 1 }) (r := none) X J hp ht fun b => ?_)
  obtain ⟨cd, hc, hd'⟩ := PySem.W.any_some hh
  have hx : s.heap.get? x = some ⟨.ref C, some dx, .plain, #[]⟩ := I.obj
  refine wpAny_bind (wpAny_pure (wpAny_bind (wpAny_bind (wpAny_loadPart hx (wpAny_bind (PySem.W.Looks.here (s := { s with toks := s.toks + 1 }) (PySem.W.looks_clsIn X hc) ?_))))))
  rw [hd']
  refine wpAny_pure (a := some dx) (wpAny_bind (wpAny_pure (wpAny_bind ?_)))
  refine wpAny_nsSet1 (s := { s with toks := s.toks + 1 }) I.ns fun h' hn2 hs2 => ?_
  obtain ⟨oD, esD, epD, hoD, hdD, hcD⟩ := hn2.count (PySem.Within.cons name v hw)
  refine wpAny_bind (wpAny_lookBehind hoD (by rw [hdD]; exact pastItsLine_dict (Nat.le_trans hcD (by rw [List.length_cons]; omega))) ?_)
  exact wpAny_pure (h _ ⟨(hs2.2 _ (Ne.symm I.ne)).trans I.obj, hn2, I.ne⟩ hs2)

theorem make_map {R : Result → Shared → Prop} {vs : List Value} {kw : List (Str × Value)} (X : K.In s.heap) (hm : PySem.W.makesIn K C = true)
    (hi : PySem.W.findIn K (.ref C) "__init__" = some (some (.ref f))) (hf : PySem.W.typeIn K (.ref f) = some (.type "function"))
    (h : codeAny (model prog w) (A.under (.builtin "type.__call__" ⟨.ref C :: vs, kw⟩)) (.call (.ref f) ⟨.ref (s.heap.objs.size + 1) :: vs, kw⟩) (PySem.W.InitBack (s.heap.objs.size + 1) R)
      { s with heap := (s.heap.push PySem.W.emptyDict).push (PySem.W.instObj C s.heap.objs.size) }) :
    codeAny (model prog w) A (.call (.ref C) ⟨vs, kw⟩) R s := by
  obtain ⟨hh, g, d, t, os⟩ := s
  exact PySem.W.make_core (PySem.W.makes_of X hm) (PySem.W.looks_findIn X hi) (fun self => PySem.W.bind_fn X self hf) (.inl rfl) h
end

noncomputable def putF (f : Str) (v : V) : List (Str × V) → List (Str × V)
  | [] => [(f, v)]
  | (g, x) :: r => if g = f then (g, v) :: r else (g, x) :: putF f v r
theorem lookup_putF (f g : Str) (v : V) : ∀ fs : List (Str × V), (putF f v fs).lookup g = if g = f then some v else fs.lookup g
  | [] => by
    show List.lookup g [(f, v)] = _
    by_cases h : g = f
    · have hb : (g == f) = true := beq_iff_eq.mpr h
      simp only [List.lookup, hb, if_pos h]
    · have hb : (g == f) = false := beq_eq_false_iff_ne.mpr h
      simp only [List.lookup, hb, if_neg h]
  | (k, x) :: r => by
    have ih := lookup_putF f g v r
    rw [show putF f v ((k, x) :: r) = (if k = f then (k, v) :: r else (k, x) :: putF f v r) from rfl]
    by_cases hk : k = f
    · rw [if_pos hk]
      by_cases h : g = k
      · have hb : (g == k) = true := beq_iff_eq.mpr h
        simp only [List.lookup, hb, if_pos (h.trans hk)]
      · have hb : (g == k) = false := beq_eq_false_iff_ne.mpr h
        simp only [List.lookup, hb, if_neg (fun e : g = f => h (e.trans hk.symm))]
    · rw [if_neg hk]
      by_cases h : g = k
      · have hb : (g == k) = true := beq_iff_eq.mpr h
        simp only [List.lookup, hb, if_neg (fun e : g = f => hk (h.symm.trans e))]
      · have hb : (g == k) = false := beq_eq_false_iff_ne.mpr h
        simp only [List.lookup, hb]
        exact ih
theorem keys_putF (f : Str) (v : V) : ∀ fs : List (Str × V), f ∈ (putF f v fs).map (·.1) ∧ ∀ g, g ∈ fs.map (·.1) → g ∈ (putF f v fs).map (·.1)
  | [] => ⟨by simp [putF], fun g h => by simp at h⟩
  | (k, x) :: r => by
    obtain ⟨i1, i2⟩ := keys_putF f v r
    rw [show putF f v ((k, x) :: r) = (if k = f then (k, v) :: r else (k, x) :: putF f v r) from rfl]
    by_cases hk : k = f
    · rw [if_pos hk]
      subst hk
      exact ⟨by simp, fun g h => by simpa using h⟩
    · rw [if_neg hk]
      refine ⟨?_, fun g h => ?_⟩
      · rw [List.map_cons]
        exact List.mem_cons_of_mem _ i1
      · rw [List.map_cons] at h ⊢
        rcases List.mem_cons.mp h with e | e
        · exact List.mem_cons.mpr (.inl e)
        · exact List.mem_cons_of_mem _ (i2 g e)
theorem length_putF (f : Str) (v : V) : ∀ fs : List (Str × V), (putF f v fs).length ≤ fs.length + 1
  | [] => by simp [putF]
  | (k, x) :: r => by
    have ih := length_putF f v r
    rw [show putF f v ((k, x) :: r) = (if k = f then (k, v) :: r else (k, x) :: putF f v r) from rfl]
    by_cases hk : k = f
    · rw [if_pos hk, List.length_cons, List.length_cons]; omega
    · rw [if_neg hk, List.length_cons, List.length_cons]; omega

theorem RelO.some_of {v : V} {o : Option Value} (r : RelO (some v) o) : ∃ u, o = some u ∧ RelV v u := by
  cases o with
  | none => exact (show False from r).elim
  | some u => exact ⟨u, rfl, r⟩
theorem RelO.none_of {o : Option Value} (r : RelO none o) : o = none := by
  cases o with
  | none => rfl
  | some u => exact (show False from r).elim
theorem handed_of {v : V} {u : Value} (r : RelV v u) : PySem.W.handedIn u = true := by
  cases v with
  | non => cases (show u = Value.none from r); rfl
  | bl b => cases (show u = Value.bool b from r); rfl
  | int i => obtain ⟨t, e⟩ := (show ∃ t, u = Value.int i t from r); cases e; rfl
  | str x => obtain ⟨t, e⟩ := (show ∃ t, u = Value.str x t from r); cases e; rfl
  | byt b => obtain ⟨t, e⟩ := (show ∃ t, u = Value.bytes b t from r); cases e; rfl
  | flt b => obtain ⟨t, e⟩ := (show ∃ t, u = Value.float b t from r); cases e; rfl
  | ref a => cases (show u = Value.ref a from r); rfl
  | ty n => cases (show u = Value.type n from r); rfl

section
variable {P : Program} {w : World} {H H' : Hp} {h h' : Heap} {a C dx : Addr} {fs fs' : List (Str × V)}
theorem ins_get (hok : HOk P w H h) (e : H a = some (.ins C dx fs)) : ∃ mA, ObjM h a dx C mA ∧ (∀ f, RelO (fs.lookup f) (mA f)) ∧ PySem.Within mA (fs.map (·.1)) ∧ fs.length ≤ 1000 ∧ H dx = some (.own a) := by
  obtain ⟨d, z, ne, ob, mA, n, r, q⟩ := (show ObjOk P w H h a (.ins C dx fs) from hok a _ e)
  exact ⟨mA, ⟨ob, n, ne⟩, r, q, z, d⟩
end

structure Cls (K : PySem.W.Frag) (C : Addr) : Prop where
  pg : PySem.W.plainGet K C Str.empty = true
  hd : PySem.W.hasDictIn K C = true
  po : PySem.W.plainOver K C = true
  sa : PySem.W.findIn K (.ref C) "__setattr__" = some (some (.builtin "object.__setattr__"))
theorem Cls.get {K : PySem.W.Frag} {C : Addr} (c : Cls K C) (f : Str) : PySem.W.plainGet K C f = true := c.pg
noncomputable def NoAttr (K : PySem.W.Frag) (C : Addr) (f : Str) : Prop := PySem.W.findIn K (.ref C) f = some none
theorem NoAttr.taker {K : PySem.W.Frag} {C : Addr} {f : Str} (n : NoAttr K C f) : PySem.W.takerIn K C f = some none := by
  unfold PySem.W.takerIn
  rw [show PySem.W.findIn K (.ref C) f = some none from n]
  rfl
structure Meth (K : PySem.W.Frag) (C : Addr) (m : Str) (f : Addr) : Prop where
  at_ : PySem.W.findIn K (.ref C) m = some (some (.ref f))
  fn : PySem.W.isFn K (.ref f) = true
  kp : PySem.W.keepIn K (.ref f) = true

section
variable {X : Cx} {pins : List (Addr × Obj)} {σ : St} {H : Hp} {s : Shared} {a C dx : Addr} {fs : List (Str × V)} {f : Str} {v : V} {A : Around} {E : Value → Shared → Prop}

theorem getattr_ok {b : Bool} {Q : Value → Shared → Prop} (I : Inv X pins σ H s) (e : H a = some (.ins C dx fs)) (c : Cls X.K C) (n : NoAttr X.K C f) (l : fs.lookup f = some v)
    (h : ∀ u s', Inv X pins σ H s' → RelV v u → Q u s') : wpAny (model X.prog X.w) A (getAttr (.ref a) f b) Q E s := by
  obtain ⟨mA, O, r, _, _, _⟩ := ins_get I.hok e
  obtain ⟨u, hu, ru⟩ := RelO.some_of (v := v) (o := mA f) (by rw [← l]; exact r f)
  exact get_map I.kIn O (c.get f) c.hd n hu (handed_of ru) (h u _ (I.tok _) ru)

theorem getmeth_ok {m : Str} {g : Addr} {pl : Sem Bool} {Q : Value × List Value → Shared → Prop} (I : Inv X pins σ H s) (e : H a = some (.ins C dx fs)) (c : Cls X.K C) (k : Meth X.K C m g) (l : fs.lookup m = none)
    (h : Q (.ref g, [.ref a]) s) : wpAny (model X.prog X.w) A (getMethod (.ref a) m pl) Q E s := by
  obtain ⟨mA, O, r, _, _, _⟩ := ins_get I.hok e
  have hn : mA m = none := RelO.none_of (by rw [← l]; exact r m)
  exact get_meth I.kIn O (c.get m) k.at_ k.fn hn h

theorem setattr_ok {y : V} {u : Value} {Q : Unit → Shared → Prop} (I : Inv X pins σ H s) (e : H a = some (.ins C dx fs)) (c : Cls X.K C) (n : NoAttr X.K C f) (hl : fs.length < 1000) (ry : RelV y u)
    (h : ∀ s', Inv X pins σ (upd H a (.ins C dx (putF f y fs))) s' → Q () s') : wpAny (model X.prog X.w) A (setAttr (.ref a) f u) Q E s := by
  obtain ⟨mA, O, r, wi, _, ho⟩ := ins_get I.hok e
  have hz : (fs.map (·.1)).length ≤ sizeLine := by rw [List.length_map, sizeLine_eq]; omega
  refine set_map I.kIn O c.sa c.po n.taker c.hd wi hz fun h' O' sb => h _ ?_
  have hd : ∃ o, h'.get? dx = some o := let ⟨o, _, _, e', _⟩ := O'.ns; ⟨o, e'⟩
  refine I.write (x := a) (e := dx) (by rw [e]; exact True.intro) (.inr ho) (fun b q hb z => (sb.2 b hb).trans z) hd ?_
  refine ⟨by rw [upd_ne O.ne]; exact ho, ?_, O.ne, O'.obj, _, O'.ns, fun g => ?_, fun g hg => ?_⟩
  · have := length_putF f y fs; omega
  · show RelO ((putF f y fs).lookup g) (if g = f then some u else mA g)
    rw [lookup_putF]
    by_cases q : g = f
    · rw [if_pos q, if_pos q]; exact ry
    · rw [if_neg q, if_neg q]; exact r g
  · by_cases q : g = f
    · rw [q]; exact (keys_putF f y fs).1
    · refine (keys_putF f y fs).2 g (wi g fun z => hg ?_)
      show (if g = f then some u else mA g) = none
      rw [if_neg q]; exact z

theorem Inv.made (I : Inv X pins σ H s) : Inv X pins σ (upd (upd H s.heap.objs.size (.own (s.heap.objs.size + 1))) (s.heap.objs.size + 1) (.ins C s.heap.objs.size []))
    { s with heap := (s.heap.push PySem.W.emptyDict).push (PySem.W.instObj C s.heap.objs.size) } := by
  have e1 : (s.heap.push PySem.W.emptyDict).get? s.heap.objs.size = some PySem.W.emptyDict := Heap.get?_push_size s.heap rfl
  have e2 : ((s.heap.push PySem.W.emptyDict).push (PySem.W.instObj C s.heap.objs.size)).get? (s.heap.objs.size + 1) = some (PySem.W.instObj C s.heap.objs.size) := by
    have := Heap.get?_push_size (s.heap.push PySem.W.emptyDict) (o := PySem.W.instObj C s.heap.objs.size) rfl
    rwa [Heap.size_push] at this
  have e3 : (s.heap.push PySem.W.emptyDict).Ns s.heap.objs.size (fun _ => none) := ⟨PySem.W.emptyDict, #[], _, e1, rfl, (fun e he => absurd he (by simp)), fun _ => rfl⟩
  have I1 := I.laid (a := s.heap.objs.size) (o := .own (s.heap.objs.size + 1)) (h' := s.heap.push PySem.W.emptyDict) (t' := s.toks) (fun b u q => Heap.get?_push_of_some _ q) (Nat.le_refl _) ⟨_, e1⟩
  refine I1.laid (a := s.heap.objs.size + 1) (o := .ins C s.heap.objs.size []) (t' := s.toks) (fun b u q => Heap.get?_push_of_some _ q) (Nat.le_of_eq (Heap.size_push _ _)) ?_
  have ne : s.heap.objs.size ≠ s.heap.objs.size + 1 := Nat.ne_of_lt (Nat.lt_succ_self _)
  refine ⟨by rw [upd_ne ne, upd_same], Nat.zero_le _, ne, e2, fun _ => none, (Heap.Ns1.of_empty e3).at fun o q => Heap.get?_push_of_some _ q, fun _ => True.intro, fun y hy => absurd rfl hy⟩

theorem attr_of {prog : Program} {w : World} {env : Env} {e : Expr} {f : Str} {pos : Pos} {s : Shared} {Q : Value → Shared → Prop} (hb : attributeBase e f env (eval e env) = eval e env)
    (h : wpAny (model prog w) A (eval e env) (fun o s₁ => wpAny (model prog w) A (getAttr o f true) Q E s₁) E s) : wpAny (model prog w) A (eval (.Attribute e f pos) env) Q E s :=
  Attribute_any_ h (by rw [arm_eval_Attribute, hb])
end

noncomputable def tFld (K : PySem.W.Frag) (ta : TE) (f : Str) : TE := fun σ H Q => ta σ H fun x H1 => ∃ a C dx fs v, x = .ref a ∧ H1 a = some (.ins C dx fs) ∧ Cls K C ∧ NoAttr K C f ∧ fs.lookup f = some v ∧ Q v H1
noncomputable def sFld (K : PySem.W.Frag) (ta tv : TE) (f : Str) : TS := fun D σ H => tv σ H fun y H1 => ta σ H1 fun x H2 => ∃ a C dx fs, x = .ref a ∧ H2 a = some (.ins C dx fs) ∧ Cls K C ∧ NoAttr K C f ∧ fs.length < 1000 ∧
  D.nx σ (upd H2 a (.ins C dx (putF f y fs)))
section
variable {X : Cx} {o e value : Expr} {f : Str} {pos pos' tpos : Pos} {ta tv : TE}
theorem pe_fld (he : PE X e ta) (hb : attributeBase e f X.env (eval e X.env) = eval e X.env) : PE X (.Attribute e f pos) (tFld X.K ta f) := by
  intro pins s σ H Q I h
  refine attr_of hb (thn (he pins s σ H _ I h) fun u s1 ⟨x, H1, I1, rx, a, C, dx, fs, v, ex, ea, c, n, l, q⟩ => ?_)
  subst ex
  obtain rfl : u = Value.ref a := rx
  exact getattr_ok I1 ea c n l fun u' s2 I2 ru => ⟨v, H1, I2, ru, q⟩
theorem ps_fld (ha : PE X o ta) (hv : PE X value tv) (hs : swapsWith value (some (.Attribute o f pos')) pos.line X.env = pure false) : PS X (.Assign [.Attribute o f pos'] value pos) (sFld X.K ta tv f) := by
  intro pins s σ H D I h
  refine plainObj_wpAny_Assign_Attribute (thn (hv pins s σ H _ I h) fun u s1 ⟨y, H1, I1, ry, q⟩ => thn (ha pins s1 σ H1 _ I1 q) fun ov s2 ⟨x, H2, I2, rx, a, C, dx, fs, ex, ea, c, n, l, q2⟩ => ?_) hs
  subst ex
  obtain rfl : ov = Value.ref a := rx
  exact setattr_ok I2 ea c n l ry fun s3 I3 => ⟨σ, _, I3, q2⟩
end

section
variable {X : Cx} {pins : List (Addr × Obj)} {σ : St} {H : Hp} {s : Shared} {A : Around} {E : Value → Shared → Prop} {Q : Value → Shared → Prop} {c : Value} {b : Bool}
inductive TyOf (K : PySem.W.Frag) (H : Hp) : V → Value → Prop where
  | non : TyOf K H .non (.type "NoneType")
  | bl (x : Bool) : TyOf K H (.bl x) (.type "bool")
  | int (i : Int) : TyOf K H (.int i) (.type "int")
  | str (x : Str) : TyOf K H (.str x) (.type "str")
  | flt (x : UInt64) : TyOf K H (.flt x) (.type "float")
  | lst {a : Addr} {xs : List V} (e : H a = some (.lst xs)) : TyOf K H (.ref a) (.type "list")
  | frz {a : Addr} {o : Obj} {xs : List V} (e : H a = some (.frz o (.lst xs))) : TyOf K H (.ref a) (.type "list")
  | tup {a : Addr} {xs : List V} (e : H a = some (.tup xs)) : TyOf K H (.ref a) (.type "tuple")
  | dK {a : Addr} {kvs : List (Key × V)} (e : H a = some (.dK kvs)) : TyOf K H (.ref a) (.type "dict")
  | dT {a : Addr} {kvs : List (List Key × V)} (e : H a = some (.dT kvs)) : TyOf K H (.ref a) (.type "dict")
  | ins {a C dx : Addr} {fs : List (Str × V)} (e : H a = some (.ins C dx fs)) (cl : Cls K C) (ha : PySem.W.findIn K (.ref C) "__class__" = some (some (.builtin "object.__class__")))
      (hn : PySem.W.specialIn K (.builtin "object.__class__") "__get__" = some (some (.builtin "getset_descriptor.__get__"))) (htk : PySem.W.takesIn K (.builtin "object.__class__") = some true)
      (hm : PySem.W.mroIn K C (.type "object") = some true) : TyOf K H (.ref a) (.ref C)
theorem isinst_ok {x : V} {u t : Value} (I : Inv X pins σ H s) (rx : RelV x u) (ty : TyOf X.K H x t) (e : PySem.W.kitOne X.K t c = some b) (h : ∀ tk, Q (.bool b) { s with toks := tk }) :
    wpAny (model X.prog X.w) A (call (.builtin "isinstance") [u, c]) Q E s := by
  cases ty with
  | non => cases (show u = Value.none from rx); exact PySem.W.kia_one PySem.W.kitx_none I.kIn True.intro e (fun z => nomatch z) h
  | bl y => cases (show u = Value.bool y from rx); exact PySem.W.kia_one PySem.W.kitx_bool I.kIn True.intro e (fun z => nomatch z) h
  | int i => obtain ⟨t, q⟩ := (show ∃ t, u = Value.int i t from rx); cases q; exact PySem.W.kia_one PySem.W.kitx_int I.kIn True.intro e (fun z => nomatch z) h
  | str y => obtain ⟨t, q⟩ := (show ∃ t, u = Value.str y t from rx); cases q; exact PySem.W.kia_one PySem.W.kitx_str I.kIn True.intro e (fun z => nomatch z) h
  | flt y => obtain ⟨t, q⟩ := (show ∃ t, u = Value.float y t from rx); cases q; exact PySem.W.kia_one PySem.W.kitx_float I.kIn True.intro e (fun z => nomatch z) h
  | @lst a xs ea =>
    cases (show u = Value.ref a from rx)
    obtain ⟨_, _, n, _, h1⟩ := (show ObjOk X.prog X.w H s.heap a (.lst xs) from I.hok a _ ea)
    exact PySem.W.kia_one PySem.W.kitx_list I.kIn ⟨_, h1, rfl⟩ e (fun z => nomatch z) h
  | @frz a ob xs ea =>
    cases (show u = Value.ref a from rx)
    obtain ⟨_, _, _, n, _, h1⟩ := (show ObjOk X.prog X.w H s.heap a (.frz ob (.lst xs)) from I.hok a _ ea)
    exact PySem.W.kia_one PySem.W.kitx_list I.kIn ⟨_, h1, rfl⟩ e (fun z => nomatch z) h
  | @tup a xs ea =>
    cases (show u = Value.ref a from rx)
    obtain ⟨_, _, _, p⟩ := (show ObjOk X.prog X.w H s.heap a (.tup xs) from I.hok a _ ea)
    obtain ⟨o, h1, h2, _⟩ := p
    exact PySem.W.kia_one PySem.W.kitx_tuple I.kIn ⟨o, h1, h2⟩ e (fun z => nomatch z) h
  | @dK a kvs ea =>
    cases (show u = Value.ref a from rx)
    obtain ⟨_, _, vs, _, p⟩ := (show ObjOk X.prog X.w H s.heap a (.dK kvs) from I.hok a _ ea)
    obtain ⟨o, es, ep, h1, h2, _⟩ := p
    exact PySem.W.kia_one PySem.W.kitx_dict I.kIn ⟨o, h1, h2.1⟩ e (fun z => nomatch z) h
  | @dT a kvs ea =>
    cases (show u = Value.ref a from rx)
    obtain ⟨_, _, xs, _, o, es, ep, h1, h2, _⟩ := (show ObjOk X.prog X.w H s.heap a (.dT kvs) from I.hok a _ ea)
    exact PySem.W.kia_one PySem.W.kitx_dict I.kIn ⟨o, h1, h2.1⟩ e (fun z => nomatch z) h
  | @ins a C dx fs ea cl ha hn htk hm =>
    cases (show u = Value.ref a from rx)
    obtain ⟨mA, O, _⟩ := ins_get I.hok ea
    obtain ⟨od, J, _⟩ := O.look
    exact PySem.W.kia_one (PySem.W.kitx_own (cl.get _) cl.hd ha hn htk hm) I.kIn J e (fun z => nomatch z) h
end
end L2

namespace L2
open PySem PySem.Spec PyProof.Rows

structure Room (k : Nat) (A : Around) : Prop where
  hd : A.handled = none
  dp : A.depth + 3 * k + 5 < recursionLimit
  un : A.units + 16 * k + 200 < cLine
theorem Room.mono {j k : Nat} {A : Around} (r : Room k A) (h : j ≤ k) : Room j A := ⟨r.hd, by have := r.dp; omega, by have := r.un; omega⟩
theorem Room.deeper {k : Nat} {A : Around} (r : Room (k + 1) A) (env : Env) : Room k (A.deeper env) :=
  ⟨r.hd, by have := r.dp; show A.depth + 1 + 3 * k + 5 < _; omega, by have := r.un; show A.units + 3 + 16 * k + 200 < _; omega⟩
theorem Room.in1 {k : Nat} {A : Around} (r : Room (k + 1) A) : Room k A.in1 :=
  ⟨r.hd, by have := r.dp; show A.depth + 3 * k + 5 < _; omega, by have := r.un; show A.units + 1 + 16 * k + 200 < _; omega⟩
theorem make_depth {A : Around} {C : Addr} {us : List Value} {kw : List (Str × Value)} : (A.under (.builtin "type.__call__" ⟨.ref C :: us, kw⟩)).depth = A.depth + 1 := by
  first | rfl | simp [Around.under, Code.weight, Code.isCreation, Code.isGuard, Code.isCaller, Code.frames, Code.isFrame, guardIds]
theorem make_units {A : Around} {C : Addr} {us : List Value} {kw : List (Str × Value)} : (A.under (.builtin "type.__call__" ⟨.ref C :: us, kw⟩)).units = A.units + 1 := by
  first | rfl | simp [Around.under, Code.cUnits, Code.frames, Code.isFrame]
theorem Room.make {k : Nat} {A : Around} (r : Room (k + 1) A) (C : Addr) (us : List Value) (kw : List (Str × Value)) : Room k (A.under (.builtin "type.__call__" ⟨.ref C :: us, kw⟩)) :=
  ⟨r.hd, by have := r.dp; rw [make_depth]; omega, by have := r.un; rw [make_units]; omega⟩
theorem Room.depth {k : Nat} {A : Around} (r : Room k A) : A.depth < recursionLimit := by have := r.dp; omega
theorem Room.units {k : Nat} {A : Around} (r : Room k A) : A.units + 64 < cLine := by have := r.un; omega
noncomputable def tNil : TA := fun _ H Q => Q [] H
noncomputable def tCons (ta : TE) (tr : TA) : TA := fun σ H Q => ta σ H fun x H1 => tr σ H1 fun xs H2 => Q (x :: xs) H2
section
variable {X : Cx} {e : Expr} {es : List Expr} {te : TE} {t : TA} {pos : Pos}
theorem pa_nil : PA X [] tNil := fun _ _ _ _ H Q I h => Calls.spliced_nil ⟨[], H, I, .nil, h⟩
theorem pa_cons (ha : PE X e te) (hr : PA X es t) (hs : starEach (e :: es) X.env = (false, eval e X.env) :: starEach es X.env := by rfl) : PA X (e :: es) (tCons te t) := by
  intro pos pins s σ H Q I h
  rw [hs]
  show wpAny _ _ (spliced ((false, eval e X.env) :: backTo pos (starEach es X.env))) _ _ s
  refine Calls.spliced_cons (thn (ha pins s σ H _ I h) fun u s1 ⟨x, H1, I1, r1, q1⟩ => ?_)
  exact thn (hr pos pins s1 σ H1 _ I1 q1) fun us s2 ⟨xs, H2, I2, r2, q2⟩ => ⟨x :: xs, H2, I2, .cons r1 r2, q2⟩

noncomputable def tTup (t : TA) : TE := fun σ H Q => t σ H fun xs H1 => xs.length ≤ sizeLine ∧ ∀ p, H1 p = none → Q (.ref p) (upd H1 p (.tup xs))
noncomputable def tLst (t : TA) : TE := fun σ H Q => t σ H fun xs H1 => xs.length ≤ sizeLine ∧ ∀ p, H1 p = none → Q (.ref p) (upd H1 p (.lst xs))
theorem pe_tup {x1} (h : PA X es t) : PE X (.Tuple es x1 pos) (tTup t) := by
  intro pins s σ H Q I hq
  refine wpAny_Tuple_spliced (thn (h pos pins s σ H _ I hq) fun us s1 ⟨xs, H1, I1, r, z, q⟩ => ⟨by rw [← r.length]; exact z, ?_⟩)
  have hf : H1 s1.heap.objs.size = none := I1.hok.fresh (Nat.le_refl _)
  refine ⟨.ref s1.heap.objs.size, upd H1 s1.heap.objs.size (.tup xs), I1.laid (t' := s1.toks) (fun b u e => Heap.get?_push_of_some _ e) (Nat.le_refl _) ?_, rfl, q _ hf⟩
  exact ⟨z, us, r, ⟨_, Heap.get?_push_size _ rfl, rfl, _, rfl⟩⟩
theorem pe_lst (h : PA X es t) : PE X (.List es pos) (tLst t) := by
  intro pins s σ H Q I hq
  refine wpAny_List_spliced (thn (h pos pins s σ H _ I hq) fun us s1 ⟨xs, H1, I1, r, z, q⟩ => ⟨by rw [← r.length]; exact z, ?_⟩)
  have hf : H1 s1.heap.objs.size = none := I1.hok.fresh (Nat.le_refl _)
  refine ⟨.ref s1.heap.objs.size, upd H1 s1.heap.objs.size (.lst xs), I1.laid (t' := s1.toks) (fun b u e => Heap.get?_push_of_some _ e) (Nat.le_refl _) ?_, rfl, q _ hf⟩
  exact ⟨z, us, 0, r, Heap.get?_push_size _ rfl⟩
end

noncomputable abbrev Sp := List V → Hp → VK → XK → Prop
noncomputable abbrev CXT := List Env → Hp → Shared → XK → Value → Shared → Prop

structure Env0 (P : Program) (w : World) (K : PySem.W.Frag) (mg : Str → Option Value) (base : Heap) (A : Around) (outer : List Env) (s : Shared) (H : Hp) : Prop where
  frames : A.frames = some outer
  mod : Mod K mg base
  bs : ∀ b o, base.get? b = some o → s.heap.get? b = some o ∧ H b = none
  bsz : base.objs.size ≤ s.heap.objs.size
  funs : s.heap.FunFrames base outer
  frf : ∀ b ∈ frs outer, H b = none
  hok : HOk P w H s.heap
  bare : AllBare s.gens
noncomputable def CE (outer : List Env) (P : Program) (w : World) (H : Hp) (s : Shared) (Q : VK) (u : Value) (s' : Shared) : Prop :=
  ∃ v H', s'.os = s.os ∧ AllBare s'.gens ∧ Un (frs outer) [] H H' s.heap s'.heap ∧ HOk P w H' s'.heap ∧ RelV v u ∧ Q v H'
noncomputable def CR (CX : CXT) (outer : List Env) (P : Program) (w : World) (H : Hp) (s : Shared) (Q : VK) (E : XK) (r : Result) (s' : Shared) : Prop :=
  match r with
  | .ok (.ret u) => CE outer P w H s Q u s'
  | .ok _ => False
  | .error e => CX outer H s E e s'
structure FnOk (P : Program) (w : World) (K : PySem.W.Frag) (mg : Str → Option Value) (base : Heap) (CX : CXT) (k : Nat) (f : Addr) (fd : FuncData) (ps : List Str) (sp : Sp) : Prop where
  len : ∀ vs H Q E, sp vs H Q E → vs.length = ps.length
  run : ∀ (A : Around) (outer : List Env) (s : Shared) (H : Hp) (args : Args) (us : List Value) (vs : List V) (Q : VK) (E : XK), Room k A → Env0 P w K mg base A outer s H → BindsTo s fd args (ps.zip us) → Vals vs us → sp vs H Q E →
    codeAny (model P w) A (.call (.ref f) args) (CR CX outer P w H s Q E) s
theorem FnOk.mono {P : Program} {w : World} {K : PySem.W.Frag} {mg : Str → Option Value} {base : Heap} {CX : CXT} {j k : Nat} {f : Addr} {fd : FuncData} {ps : List Str} {sp : Sp} (F : FnOk P w K mg base CX j f fd ps sp) (h : j ≤ k) :
    FnOk P w K mg base CX k f fd ps sp := ⟨F.len, fun A outer s H args us vs Q E hr => F.run A outer s H args us vs Q E (hr.mono h)⟩
theorem FnOk.imp {P : Program} {w : World} {K : PySem.W.Frag} {mg : Str → Option Value} {base : Heap} {CX : CXT} {k : Nat} {f : Addr} {fd : FuncData} {ps : List Str} {sp sp' : Sp} (F : FnOk P w K mg base CX k f fd ps sp)
    (h : ∀ vs H Q E, sp' vs H Q E → sp vs H Q E) : FnOk P w K mg base CX k f fd ps sp' :=
  ⟨fun vs H Q E q => F.len vs H Q E (h _ _ _ _ q), fun A outer s H args us vs Q E hr he hb hv hs => F.run A outer s H args us vs Q E hr he hb hv (h _ _ _ _ hs)⟩

theorem Env0.make {P : Program} {w : World} {K : PySem.W.Frag} {mg : Str → Option Value} {base : Heap} {A : Around} {outer : List Env} {s : Shared} {H : Hp} (e : Env0 P w K mg base A outer s H) (C : Addr) (us : List Value) (kw : List (Str × Value)) :
    Env0 P w K mg base (A.under (.builtin "type.__call__" ⟨.ref C :: us, kw⟩)) outer s H := ⟨by first | exact e.frames | (simpa [Around.under, Code.envs, Code.isFrame, pushEnvs] using e.frames), e.mod, e.bs, e.bsz, e.funs, e.frf, e.hok, e.bare⟩
theorem Env0.in1 {P : Program} {w : World} {K : PySem.W.Frag} {mg : Str → Option Value} {base : Heap} {A : Around} {outer : List Env} {s : Shared} {H : Hp} (e : Env0 P w K mg base A outer s H) :
    Env0 P w K mg base A.in1 outer s H := ⟨e.frames, e.mod, e.bs, e.bsz, e.funs, e.frf, e.hok, e.bare⟩

section
variable {X : Cx} {pins : List (Addr × Obj)} {σ : St} {H : Hp} {s s' : Shared}
theorem Inv.env0 (I : Inv X pins σ H s) : Env0 X.prog X.w X.K X.mg X.base X.A X.stack s H :=
  ⟨I.ok.frames, I.ok.mod, I.bs, Nat.le_trans I.ok.bsz I.sz, I.stack, I.stkFree, I.hok, I.bare⟩
theorem Inv.after {Q : VK} {u : Value} (I : Inv X pins σ H s) (h : CE X.stack X.prog X.w H s Q u s') : EP X pins σ Q u s' := by
  obtain ⟨v, H', os, bare, un, hok, r, q⟩ := h
  obtain ⟨hh, g, d, t, os'⟩ := s'
  obtain rfl : os' = s.os := os
  exact ⟨v, H', I.call (h' := hh) (g' := g) (d' := d) (t' := t) (ch := []) un hok bare (fun b z => absurd z (by simp)), r, q⟩
end

noncomputable def tCall (sp : Sp) (dvs : List V) (E : XK) (t : TA) : TE := fun σ H Q => t σ H fun vs H1 => sp (vs ++ dvs) H1 Q E
noncomputable def tMake (C : Addr) (sp : Sp) (dvs : List V) (E : XK) (t : TA) : TE := fun σ H Q => t σ H fun vs H1 => ∀ x dx, H1 x = none → H1 dx = none → dx ≠ x →
  sp (.ref x :: (vs ++ dvs)) (upd (upd H1 dx (.own x)) x (.ins C dx [])) (fun v H2 => v = .non ∧ Q (.ref x) H2) E

noncomputable def Binds (K : PySem.W.Frag) (fd : FuncData) (ps : List Str) (ds : List Value) : Prop :=
  ∀ (s : Shared) (us : List Value), K.In s.heap → (us ++ ds).length = ps.length → BindsTo s fd ⟨us, []⟩ (ps.zip (us ++ ds))
theorem Binds.all {K : PySem.W.Frag} {fd : FuncData} {ps : List Str} (h : ∀ us : List Value, us.length = ps.length → bindArgs fd ⟨us, []⟩ = pure (ps.zip us)) : Binds K fd ps [] := fun s us _ hl => by
  rw [List.append_nil] at hl ⊢
  exact .of_eq (h us hl)

noncomputable def Passes (CX : CXT) (X : Cx) (E : XK) : Prop := ∀ (pins : List (Addr × Obj)) (σ : St) (H : Hp) (s : Shared) (e : Value) (s' : Shared), Inv X pins σ H s → CX X.stack H s E e s' → X.xe e s'

section
variable {X : Cx} {CX : CXT} {k : Nat} {f C : Addr} {fd : FuncData} {ps : List Str} {sp : Sp} {dvs : List V} {ds : List Value} {E : XK} {x m : Str} {p pos apos : Pos} {e o : Expr} {es : List Expr} {ta : TE} {t : TA}

theorem run_fn {pins : List (Addr × Obj)} {σ : St} {H : Hp} {s : Shared} {Q : VK} {us : List Value} {vs : List V} (F : FnOk X.prog X.w X.K X.mg X.base CX k f fd ps sp) (hr : Room k X.A) (hb : Binds X.K fd ps ds) (hd : Vals dvs ds) (hx : Passes CX X E)
    (I : Inv X pins σ H s) (r : Vals vs us) (h : sp (vs ++ dvs) H Q E) : wpAny (model X.prog X.w) X.A (call (.ref f) us) (EP X pins σ Q) X.xe s := by
  have r2 : Vals (vs ++ dvs) (us ++ ds) := r.append hd
  have hl : (us ++ ds).length = ps.length := by rw [← r2.length]; exact F.len _ _ _ _ h
  refine wpAny_call (codeAny_mono (F.run X.A X.stack s H ⟨us, []⟩ (us ++ ds) (vs ++ dvs) Q E hr I.env0 (hb s us I.kIn hl) r2 h) fun r s' hq => ?_)
  cases r with
  | error e => exact hx pins σ H s e s' I hq
  | ok fl =>
    cases fl with
    | ret u => exact I.after hq
    | next => exact False.elim hq
    | brk => exact False.elim hq
    | cont => exact False.elim hq

theorem pe_call (F : FnOk X.prog X.w X.K X.mg X.base CX k f fd ps sp) (hr : Room k X.A) (hg : Gl X x) (hm : X.mg x = some (.ref f)) (hk : PySem.W.keepIn X.K (.ref f) = true) (hb : Binds X.K fd ps ds) (hd : Vals dvs ds) (hx : Passes CX X E)
    (ha : PA X (e :: es) t) (hdb : (x == ("__debug__" : Str)) = false := by decide) (he : starEach (e :: es) X.env = (false, eval e X.env) :: starEach es X.env := by rfl) (hpl : (backTo pos (starEach es X.env)).any (·.1) = false := by rfl) :
    PE X (.Call (.Name x p) (e :: es) [] pos) (tCall sp dvs E t) := by
  intro pins s σ H Q I h
  refine wpAny_Call_Name_kw (ld_glob I hg hm ?_ hdb)
  refine PySem.W.callWith_K (h₀ := X.base) I.ok.mod.kin hk (thn (ha pos pins s σ H _ I h) fun us s1 ⟨vs, H1, I1, r, q⟩ => ⟨I1.kIn, ?_⟩) he hpl
  exact run_fn F hr hb hd hx I1 r q
structure Mk (K : PySem.W.Frag) (C f : Addr) : Prop where
  makes : PySem.W.makesIn K C = true
  init : PySem.W.findIn K (.ref C) "__init__" = some (some (.ref f))
  fn : PySem.W.isFn K (.ref f) = true
  kp : PySem.W.keepIn K (.ref C) = true

theorem run_make {pins : List (Addr × Obj)} {σ : St} {H : Hp} {s : Shared} {Q : VK} {us : List Value} {vs : List V} (M : Mk X.K C f) (F : FnOk X.prog X.w X.K X.mg X.base CX k f fd ps sp) (hr : Room (k + 1) X.A) (hb : Binds X.K fd ps ds) (hd : Vals dvs ds)
    (hx : Passes CX X E) (I : Inv X pins σ H s) (r : Vals vs us)
    (h : ∀ x dx, H x = none → H dx = none → dx ≠ x → sp (.ref x :: (vs ++ dvs)) (upd (upd H dx (.own x)) x (.ins C dx [])) (fun v H2 => v = .non ∧ Q (.ref x) H2) E) :
    wpAny (model X.prog X.w) X.A (call (.ref C) us) (EP X pins σ Q) X.xe s := by
  have hq := h (s.heap.objs.size + 1) s.heap.objs.size (I.hok.fresh (Nat.le_succ _)) (I.hok.fresh (Nat.le_refl _)) (Nat.ne_of_lt (Nat.lt_succ_self _))
  have I2 := Inv.made (C := C) I
  have r2 : Vals (V.ref (s.heap.objs.size + 1) :: (vs ++ dvs)) (Value.ref (s.heap.objs.size + 1) :: (us ++ ds)) := .cons rfl (r.append hd)
  have hl : (Value.ref (s.heap.objs.size + 1) :: us ++ ds).length = ps.length := by
    have e := r2.length
    rw [F.len _ _ _ _ hq] at e
    exact e.symm
  refine wpAny_call (make_map (f := f) I.kIn M.makes M.init (beq_iff_eq.mp M.fn) (codeAny_mono (F.run _ X.stack _ _ ⟨Value.ref (s.heap.objs.size + 1) :: us, []⟩ (Value.ref (s.heap.objs.size + 1) :: (us ++ ds)) _ _ E (hr.make C us [])
    (I2.env0.make C us []) (hb _ (Value.ref (s.heap.objs.size + 1) :: us) I2.kIn hl) r2 hq) fun r s' hq' => ?_))
  cases r with
  | error e => exact hx pins σ _ _ e s' I2 hq'
  | ok fl =>
    cases fl with
    | ret u =>
      obtain ⟨v, H', I3, rv, ev, q3⟩ := I2.after hq'
      subst ev
      exact ⟨rv, ⟨V.ref (s.heap.objs.size + 1), H', I3, rfl, q3⟩⟩
    | next => exact False.elim hq'
    | brk => exact False.elim hq'
    | cont => exact False.elim hq'
theorem pe_make (M : Mk X.K C f) (F : FnOk X.prog X.w X.K X.mg X.base CX k f fd ps sp) (hr : Room (k + 1) X.A) (hg : Gl X x) (hm : X.mg x = some (.ref C)) (hb : Binds X.K fd ps ds) (hd : Vals dvs ds) (hx : Passes CX X E)
    (ha : PA X (e :: es) t) (hdb : (x == ("__debug__" : Str)) = false := by decide) (he : starEach (e :: es) X.env = (false, eval e X.env) :: starEach es X.env := by rfl) (hpl : (backTo pos (starEach es X.env)).any (·.1) = false := by rfl) :
    PE X (.Call (.Name x p) (e :: es) [] pos) (tMake C sp dvs E t) := by
  intro pins s σ H Q I h
  refine wpAny_Call_Name_kw (ld_glob I hg hm ?_ hdb)
  refine PySem.W.callWith_K (h₀ := X.base) I.ok.mod.kin M.kp (thn (ha pos pins s σ H _ I h) fun us s1 ⟨vs, H1, I1, r, q⟩ => ⟨I1.kIn, ?_⟩) he hpl
  exact run_make M F hr hb hd hx I1 r q
end

section
variable {X : Cx} {CX : CXT} {k : Nat} {f C : Addr} {fd : FuncData} {ps ks : List Str} {sp : Sp} {E : XK} {x m : Str} {p pos apos kpos : Pos} {e o : Expr} {es : List Expr} {kws : List Keyword} {te ta : TE} {t tk : TA} {nm : Option Str}
variable {g : List Value → List Value → List Value} {gV : List V → List V → List V}
end

structure FnScope (N P : List Str) (sc : Scope) : Prop where
  kind : sc.kind = .function
  co : sc.isCoroutine = false
  gen : sc.isGenerator = false
  nd : N.Nodup
  pre : N.take P.length = P
  par : ∀ x ∈ P, sc.names.lookup x = some .local ∨ sc.names.lookup x = some .cell
  nofree : ∀ y ∈ sc.names, y.2 ≠ .free

theorem bindL_out {kindOf : Str → Option NameKind} {x : Str} : ∀ {binds : List (Str × Value)} {m : Str → Option Value}, (∀ v, (x, v) ∉ binds) → bindL kindOf binds m x = m x
  | [], _, _ => rfl
  | (n, v) :: r, m, h => by
    unfold bindL
    rw [bindL_out fun w hw => h w (List.mem_cons_of_mem _ hw)]
    split
    · have : x ≠ n := by rintro rfl; exact h v List.mem_cons_self
      simp [this]
    · rfl
theorem bindC_out {kindOf : Str → Option NameKind} {x : Str} : ∀ {binds : List (Str × Value)} {m : Str → Option Value}, (∀ v, (x, v) ∉ binds) → bindC kindOf binds m x = m x
  | [], _, _ => rfl
  | (n, v) :: r, m, h => by
    unfold bindC
    rw [bindC_out fun w hw => h w (List.mem_cons_of_mem _ hw)]
    split
    · rfl
    · have : x ≠ n := by rintro rfl; exact h v List.mem_cons_self
      simp [this]
theorem bindL_get {kindOf : Str → Option NameKind} {x : Str} {v : Value} : ∀ {P : List Str} {vs : List Value} {i : Nat} {m : Str → Option Value}, P.Nodup → P[i]? = some x → vs[i]? = some v → kindOf x = some .local →
    bindL kindOf (P.zip vs) m x = some v
  | [], _, _, _, _, h, _, _ => by simp at h
  | _ :: _, [], _, _, _, _, h, _ => by simp at h
  | p :: P, w :: vs, 0, m, nd, h1, h2, hk => by
    simp at h1 h2; subst h1; subst h2
    show bindL kindOf ((p, w) :: P.zip vs) m p = _
    unfold bindL
    rw [bindL_out fun v hv => (List.nodup_cons.mp nd).1 (List.of_mem_zip hv).1, if_pos hk]
    simp
  | p :: P, w :: vs, i + 1, m, nd, h1, h2, hk => by
    show bindL kindOf ((p, w) :: P.zip vs) m x = _
    unfold bindL
    exact bindL_get (i := i) (List.nodup_cons.mp nd).2 (by simpa using h1) (by simpa using h2) hk
theorem bindC_get {kindOf : Str → Option NameKind} {x : Str} {v : Value} : ∀ {P : List Str} {vs : List Value} {i : Nat} {m : Str → Option Value}, P.Nodup → P[i]? = some x → vs[i]? = some v → kindOf x ≠ some .local →
    bindC kindOf (P.zip vs) m x = some v
  | [], _, _, _, _, h, _, _ => by simp at h
  | _ :: _, [], _, _, _, _, h, _ => by simp at h
  | p :: P, w :: vs, 0, m, nd, h1, h2, hk => by
    simp at h1 h2; subst h1; subst h2
    show bindC kindOf ((p, w) :: P.zip vs) m p = _
    unfold bindC
    rw [bindC_out fun v hv => (List.nodup_cons.mp nd).1 (List.of_mem_zip hv).1, if_neg hk]
    simp
  | p :: P, w :: vs, i + 1, m, nd, h1, h2, hk => by
    show bindC kindOf ((p, w) :: P.zip vs) m x = _
    unfold bindC
    exact bindC_get (i := i) (List.nodup_cons.mp nd).2 (by simpa using h1) (by simpa using h2) hk

noncomputable def start (N : List Str) (vs : List V) : St := vs.map some ++ List.replicate (N.length - vs.length) none

noncomputable def cxOf (CX : CXT) (P : Program) (w : World) (K : PySem.W.Frag) (mg : Str → Option Value) (base : Heap) (N : List Str) (qual : Str) (scope : Scope) (f : Addr) (cd : Value) (A : Around) (outer : List Env) (s : Shared) (H : Hp) (E : XK) : Cx where
  prog := P
  w := w
  K := K
  mg := mg
  base := base
  A := A.deeper (envOfC qual scope s.heap.objs.size f cd)
  N := N
  s₀ := s
  H₀ := H
  env := envOfC qual scope s.heap.objs.size f cd
  outer := outer
  stack := envOfC qual scope s.heap.objs.size f cd :: outer
  ex := []
  calm := true
  fn := fun _ => true
  pn := []
  xe := fun e s' => wpAny (model P w) (A.deeper (envOfC qual scope s.heap.objs.size f cd)) (leaving (envOfC qual scope s.heap.objs.size f cd) e) (fun _ s'' => CX outer H s E e s'') (fun e' s'' => CX outer H s E e' s'') s'

theorem cell_has {sc : Scope} {n : Nat} {x : Str} (h : sc.names.lookup x = some .cell) : ∃ c, (cellsFrom n sc.names []).lookup x = some c := by
  have q := PySem.W.cellsFrom_some sc.names n [] (.inl h)
  exact Option.isSome_iff_exists.mp q

theorem inv_start {CX : CXT} {P : Program} {w : World} {K : PySem.W.Frag} {mg : Str → Option Value} {base : Heap} {N ps : List Str} {qual : Str} {scope : Scope} {f : Addr} {cd : Value} {A : Around} {outer : List Env} {s s1 : Shared} {H : Hp} {E : XK} {us : List Value} {vs : List V}
    (S : FnScope N ps scope) (hd : A.handled = none) (e0 : Env0 P w K mg base A outer s H) (hl : vs.length = ps.length) (r : Vals vs us)
    (x : InCallC s s.heap.objs.size (bindL (envOfC qual scope s.heap.objs.size f cd).kindOf (ps.zip us) fun _ => none) (cellsFrom (s.heap.objs.size + 1) scope.names []) (bindC (envOfC qual scope s.heap.objs.size f cd).kindOf (ps.zip us) fun _ => none) s1) :
    Inv (cxOf CX P w K mg base N qual scope f cd A outer s H E) [] (start N vs) H s1 := by
  have hpl : ps.length ≤ N.length := by have := congrArg List.length S.pre; rw [List.length_take] at this; omega
  obtain ⟨h1, tk, rfl, hk⟩ := x.done
  have noA : ∀ b : Addr, b ∉ (cxOf CX P w K mg base N qual scope f cd A outer s H E).ex := fun b z => absurd (show b ∈ ([] : List Addr) from z) (by simp)
  refine ⟨⟨e0.mod, S.kind, rfl, rfl, Nat.le_refl _, fun y z c h1 h2 => ?_, fun y hy => ?_, fun y c _ h => ?_, fun _ => hd, Around.frames_deeper e0.frames, .inr ⟨rfl, rfl⟩, fun b z => absurd z (noA b), e0.bs, e0.bsz, fun b _ _ => noA b, fun b z => absurd z (noA b), e0.funs, e0.frf⟩,
    rfl, e0.bare, Un.kept hk, ⟨_, x.toInCall.ns, fun i y v h1 h2 h3 => ?_⟩, fun y c h => ⟨_, x.cell y c h⟩, e0.hok.fresh (Nat.le_refl _), fun y c h => ?_, fun p hp => absurd (show p ∈ ([] : List (Addr × Obj)) from hp) (by simp), e0.hok.kept hk, ?_⟩
  · exact name_of_addr x.apart (PySem.mem_of_lookup h1) (PySem.mem_of_lookup h2)
  · have hy : scope.names.lookup y = some .cell ∨ scope.names.lookup y = some .free := hy
    rcases hy with hy | hy
    · exact cell_has hy
    · exact absurd rfl (S.nofree _ (PySem.mem_of_lookup hy))
  · exact Nat.le_of_lt (x.above y c (PySem.mem_of_lookup h))
  · have hi : i < vs.length := by
      unfold start at h2
      by_cases hi : i < vs.length
      · exact hi
      · rw [List.getElem?_append_right (by simpa using hi)] at h2
        rw [List.getElem?_replicate] at h2
        split at h2 <;> cases h2
    have ha : vs[i]? = some v := by
      unfold start at h2
      rw [List.getElem?_append_left (by simpa using hi), List.getElem?_map] at h2
      cases e : vs[i]? with
      | none => rw [e] at h2; cases h2
      | some a => rw [e] at h2; cases h2; rfl
    obtain ⟨u, hu, rv⟩ := r.get ha
    have hp : ps[i]? = some y := by
      rw [← S.pre, List.getElem?_take_of_lt (by omega)]; exact h1
    have ndP : ps.Nodup := by rw [← S.pre]; exact S.nd.sublist (List.take_sublist _ _)
    refine ⟨u, rv, ?_⟩
    rcases S.par y (List.mem_of_getElem? hp) with k | k
    · exact .inl ⟨k, bindL_get ndP hp hu k⟩
    · obtain ⟨c, e⟩ := cell_has (n := s.heap.objs.size + 1) k
      refine .inr ⟨.inl k, c, e, ?_⟩
      have q := x.cell y c e
      rw [bindC_get ndP hp hu (by show scope.names.lookup y ≠ _; rw [k]; decide)] at q
      exact q
  · exact e0.hok.fresh (Nat.le_of_lt (x.above y c (PySem.mem_of_lookup h)))
  · unfold start
    show _ = N.length
    rw [List.length_append, List.length_map, List.length_replicate]
    omega

theorem fn_of {CX : CXT} {P : Program} {w : World} {K : PySem.W.Frag} {mg : Str → Option Value} {base : Heap} {k : Nat} {f : Addr} {name qual : Str} {params : Arguments} {body : List Stmt} {scope : Scope} {dV kV doc pm cdv ct oc : Value} {an od : Option Addr}
    {osl : Array (Option Value)} {N ps : List Str} {sp : Sp} (lk : K.lookup f = some ⟨oc, od, .func (PySem.W.fnOf name qual params body scope dV kV doc pm an cdv ct), osl⟩) (hcd : PySem.W.codeIn K cdv qual = true) (S : FnScope N ps scope)
    (len : ∀ vs H Q E, sp vs H Q E → vs.length = ps.length)
    (hbody : ∀ (A : Around) (outer : List Env) (s : Shared) (H : Hp) (vs : List V) (Q : VK) (E : XK), Room k (A.deeper (envOfC qual scope s.heap.objs.size f cdv)) → sp vs H Q E →
      ∃ t, PSs (cxOf CX P w K mg base N qual scope f cdv A outer s H E) body t ∧ t { nx := fun _ H' => Q .non H', rt := Q } (start N vs) H) :
    FnOk P w K mg base CX (k + 1) f (PySem.W.fnOf name qual params body scope dV kV doc pm an cdv ct) ps sp := by
  refine ⟨len, fun A outer s H args us vs Q E hr e0 hb r hsp => ?_⟩
  have hl := len _ _ _ _ hsp
  have KX : K.In s.heap := e0.mod.kin.keeps fun b o e => (e0.bs b o e).1
  have lim : s.heap.NoLimit := e0.mod.nolimit.keeps fun b o e => (e0.bs b o e).1
  have hkind : ∀ y ∈ ps.zip us, scope.names.lookup y.1 = some .local ∨ (scope.names.lookup y.1 = some .cell ∧ ((cellsFrom (s.heap.objs.size + 1) scope.names []).lookup y.1).isSome = true) := fun ⟨n, v⟩ hy => by
    rcases S.par n (List.of_mem_zip hy).1 with q | q
    · exact .inl q
    · exact .inr ⟨q, PySem.W.cellsFrom_some _ _ _ (.inl q)⟩
  refine codeAny_call_function hr.depth (KX _ _ lk) rfl S.co S.gen rfl (PySem.W.codeRec_of KX hcd) (hb _ _ _ _ ?_)
  refine wpAny_newFunctionEnv_cells S.kind hkind fun env he s1 x => ?_
  subst he
  refine ⟨lim.keeps x.toInCall.keep, codeAny_func ?_⟩
  obtain ⟨t, ht, hq⟩ := hbody A outer s H vs Q E (hr.deeper _) hsp
  have I : Inv (cxOf CX P w K mg base N qual scope f cdv A outer s H E) [] (start N vs) H s1 := inv_start S hr.hd e0 hl r x
  refine wpAny_mono (ht [] s1 (start N vs) H _ I hq) (fun fl s' hs => ?_) fun e s' hs => hs
  have fin : ∀ {σ' : St} {H' : Hp} {v : V} {u : Value}, Inv (cxOf CX P w K mg base N qual scope f cdv A outer s H E) [] σ' H' s' → RelV v u → Q v H' → CE outer P w H s Q u s' :=
    fun {σ' H' v u} J rv q => ⟨v, H', J.os, J.bare, J.base, J.hok, rv, q⟩
  cases fl with
  | ret u =>
    obtain ⟨v, σ', H', J, rv, q⟩ := hs
    exact fin J rv q
  | next =>
    obtain ⟨σ', H', J, q⟩ := hs
    exact fin (v := V.non) (u := Value.none) J rfl q
  | brk =>
    obtain ⟨_, _, _, q⟩ := hs
    exact False.elim q
  | cont =>
    obtain ⟨_, _, _, q⟩ := hs
    exact False.elim q
end L2

namespace L2
open PySem PySem.Spec PyProof.Rows
section
variable {X : Cx} {x : Str} {p pos : Pos} {e : Expr} {es : List Expr} {t : TA} {id T : String} {r : List V → Hp → VK → Prop}

noncomputable def tCB (r : List V → Hp → VK → Prop) (t : TA) : TE := fun σ H Q => t σ H fun vs H1 => r vs H1 Q
theorem pe_callB (hc : CallR X (.builtin id) r) (hg : Gl X x) (hm : X.mg x = none) (hv : bootBuiltins x = some (.builtin id)) (ha : PA X (e :: es) t) (hn : x ≠ "__name__" := by decide) (hdb : (x == ("__debug__" : Str)) = false := by decide)
    (he : starEach (e :: es) X.env = (false, eval e X.env) :: starEach es X.env := by rfl) (hpl : (backTo pos (starEach es X.env)).any (·.1) = false := by rfl) : PE X (.Call (.Name x p) (e :: es) [] pos) (tCB r t) := by
  intro pins s σ H Q I h
  refine wpAny_Call_Name_kw (ld_blt I hg hm hv ?_ hn hdb)
  exact PyProof.Rows.callWith_builtin1 (thn (ha pos pins s σ H _ I h) fun us s1 ⟨vs, H1, I1, r1, q1⟩ => hc pins s1 σ H1 vs us Q I1 r1 q1) he hpl
theorem pe_callTy (hc : CallR X (.type T) r) (hg : Gl X x) (hm : X.mg x = none) (hv : bootBuiltins x = some (.type T)) (ha : PA X (e :: es) t) (hn : x ≠ "__name__" := by decide) (hdb : (x == ("__debug__" : Str)) = false := by decide)
    (he : starEach (e :: es) X.env = (false, eval e X.env) :: starEach es X.env := by rfl) (hpl : (backTo pos (starEach es X.env)).any (·.1) = false := by rfl) : PE X (.Call (.Name x p) (e :: es) [] pos) (tCB r t) := by
  intro pins s σ H Q I h
  refine wpAny_Call_Name_kw (ld_blt I hg hm hv ?_ hn hdb)
  exact PyProof.Rows.callWith_type1 (thn (ha pos pins s σ H _ I h) fun us s1 ⟨vs, H1, I1, r1, q1⟩ => hc pins s1 σ H1 vs us Q I1 r1 q1) he hpl
end
end L2

namespace HT
open PySem PyProof.Rows

section
open PySem.SeqAt
open PySem.AutoSeq1 (wpAny_loadPart')
open PySem.MeetsSeq PySem.MeetsSeq2 PySem.MeetsSeq3

end

section
variable {prog : Program} {w : World} {A : Around} {E : Value → Shared → Prop} {s : Shared}

noncomputable def sIx (n d : Nat) : Option Int → Nat
  | none => d
  | some v => if v < 0 then (v + (n : Int)).toNat else min v.toNat n
theorem sIx_none (n d : Nat) : sIx n d none = d := rfl
theorem sIx_nat (n d k : Nat) : sIx n d (some (k : Int)) = min k n := by
  show (if (k : Int) < 0 then ((k : Int) + (n : Int)).toNat else min (k : Int).toNat n) = min k n
  rw [if_neg (by omega), Int.toNat_natCast]
theorem sIx_le (n d : Nat) (hd : d ≤ n) (o : Option Int) : sIx n d o ≤ n := by
  cases o with
  | none => exact hd
  | some v =>
    show (if v < 0 then (v + (n : Int)).toNat else min v.toNat n) ≤ n
    by_cases hv : v < 0
    · rw [if_pos hv]; omega
    · rw [if_neg hv]; exact Nat.min_le_right _ _
theorem clip_eq (v : Int) (n d : Nat) : (if v < 0 then max (v + (n : Int)) 0 else min v (n : Int)) = ((sIx n d (some v) : Nat) : Int) := by
  show (if v < 0 then max (v + (n : Int)) 0 else min v (n : Int)) = (((if v < 0 then (v + (n : Int)).toNat else min v.toNat n) : Nat) : Int)
  by_cases hv : v < 0
  · simp only [if_pos hv]; omega
  · simp only [if_neg hv]; omega
theorem adjust_gen (lo hi : Option Int) (n : Nat) : Builtin.Slice.sliceAdjust lo hi 1 (n : Int) = (((sIx n 0 lo : Nat) : Int), ((sIx n n hi : Nat) : Int)) := by
  have h1 : ¬ ((1 : Int) < 0) := by omega
  unfold Builtin.Slice.sliceAdjust
  simp only [h1, if_false]
  refine Prod.ext ?_ ?_
  · cases lo with
    | none => rfl
    | some v => exact clip_eq v n 0
  · cases hi with
    | none => rfl
    | some v => exact clip_eq v n n
theorem places_gen (i j : Nat) : Builtin.Slice.slicePlaces (i : Int) (j : Int) 1 = j - i := by
  unfold Builtin.Slice.slicePlaces
  have h1 : (1 : Int) > 0 := by omega
  simp only [h1, if_true, Int.ediv_one]
  split <;> omega
theorem slicePart_ {v : Value} {o : Option Int} {Q : Option Int → Shared → Prop} (p : IsPart v o) (h : Q o s) : wpAny (model prog w) A (Builtin.Slice.slicePartIndex v) Q E s := by
  cases p with
  | none => exact slicePart_none h
  | int i t => exact slicePart_int h
theorem sliceApplied_gen {sl : Addr} {vl vu : Value} {lo hi : Option Int} {n : Nat} {Q : Int × Int × Nat → Shared → Prop} (hs : s.heap.IsSliceOf sl vl vu .none) (pl : IsPart vl lo) (pu : IsPart vu hi)
    (h : Q (((sIx n 0 lo : Nat) : Int), 1, sIx n n hi - sIx n 0 lo) s) : wpAny (model prog w) A (Builtin.Slice.sliceApplied (.ref sl) (pure (n : Int))) Q E s := by
  obtain ⟨os, hos, hcs, hds⟩ := id hs
  unfold Builtin.Slice.sliceApplied Builtin.Slice.sliceFields
  refine wpAny_bind (wpAny_bind (wpAny_field hos hds (x := vl) rfl (wpAny_bind (wpAny_field hos hds (x := vu) rfl (wpAny_bind (wpAny_field hos hds (x := .none) rfl (wpAny_pure ?_)))))))
  refine wpAny_bind (slicePart_none ?_)
  show wpAny _ _ (if ((1 : Int) == 0) = true then _ else _) _ _ s
  rw [if_neg (by decide)]
  refine wpAny_bind (slicePart_ pl (wpAny_bind (slicePart_ pu (wpAny_bind (wpAny_pure ?_)))))
  show wpAny _ _ (match Builtin.Slice.sliceAdjust lo hi 1 (n : Int) with | (lo, hi) => pure (lo, (1 : Int), Builtin.Slice.slicePlaces lo hi 1)) _ _ s
  rw [adjust_gen lo hi n]
  show wpAny _ _ (pure (((sIx n 0 lo : Nat) : Int), (1 : Int), Builtin.Slice.slicePlaces ((sIx n 0 lo : Nat) : Int) ((sIx n n hi : Nat) : Int) 1)) _ _ s
  rw [places_gen]
  exact wpAny_pure h
theorem pick_gen (xs : Array Value) (i k : Nat) : ((List.range k).filterMap fun (m : Nat) => xs[((i : Int) + (m : Int) * 1).toNat]?).toArray = ((xs.toList.drop i).take k).toArray := by
  have e : (fun (m : Nat) => xs[((i : Int) + (m : Int) * 1).toNat]?) = fun m => xs[i + m]? := by
    funext m
    have : ((i : Int) + (m : Int) * 1).toNat = i + m := by omega
    rw [this]
  rw [e]
  have := pick_run xs i k
  rw [List.filterMap_map] at this
  have e2 : ((fun x => xs[x]?) ∘ fun x => i + x) = fun m => xs[i + m]? := rfl
  rw [e2] at this
  rw [this]

theorem getItem_tuple_cut {t sl : Addr} {items : Array Value} {vl vu : Value} {lo hi : Option Int} {Q : Value → Shared → Prop} (ht : IsTup s.heap t items) (hs : s.heap.IsSliceOf sl vl vu .none) (pl : IsPart vl lo) (pu : IsPart vu hi)
    (hw : ¬ (sIx items.size 0 lo = 0 ∧ sIx items.size items.size hi = items.size))
    (h : Q (.ref s.heap.objs.size) { s with heap := s.heap.push { cls := .type "tuple", data := .seq ((items.toList.drop (sIx items.size 0 lo)).take (sIx items.size items.size hi - sIx items.size 0 lo)).toArray } })
    (hsz : items.size ≤ sizeLine) : wpAny (model prog w) A (getItem (.ref t) (.ref sl)) Q E s := by
  have htake : sizeOk (.seq ((items.toList.drop (sIx items.size 0 lo)).take (sIx items.size items.size hi - sIx items.size 0 lo)).toArray) := by
    show ((items.toList.drop (sIx items.size 0 lo)).take (sIx items.size items.size hi - sIx items.size 0 lo)).toArray.size ≤ sizeLine
    rw [List.size_toArray, List.length_take, List.length_drop, Array.length_toList]
    omega
  have hj : sIx items.size items.size hi ≤ items.size := sIx_le _ _ (Nat.le_refl _) hi
  obtain ⟨os, hos, hcs, hds⟩ := id hs
  have hTs : s.TypeIs (.ref sl) "slice" := ⟨os, hos, hcs⟩
  unfold getItem
  try with_reducible refine wpAny_holding ?_
  first | refine wpAny_bind (wpAny_pure ?_) | skip
  refine wpAny_bind (wpAny_sequenceKey ht.typeIs (by decide) ?_)
  refine wpAny_bind (wpAny_callSpecial?_slot (name := Str.ofString "__getitem__") ht.typeIs PyProof.Rows.slot_tuple_getitem
    (wpAny_call_entry PyProof.Rows.slot_tuple_getitem ht.typeIs entry_tuple_getitem ?_ (args_tuple_getitem _ _)))
  show wpAny _ _ (Builtin.Tuple.tupleItemsOf (.ref t) >>= _) _ _ s
  refine wpAny_bind (tupleItemsOf_ ht ?_)
  refine wpAny_bind (wpAny_typeOf hTs ?_)
  rw [if_pos (by decide)]
  refine wpAny_bind (sliceApplied_gen hs pl pu ?_)
  have hno : ¬ ((((sIx items.size 0 lo : Nat) : Int) == 0 && (1 : Int) == 1 && (sIx items.size items.size hi - sIx items.size 0 lo) == items.size) = true) := by
    intro q
    rw [Bool.and_eq_true, Bool.and_eq_true] at q
    have q1 : ((sIx items.size 0 lo : Nat) : Int) = 0 := eq_of_beq q.1.1
    have q2 : sIx items.size items.size hi - sIx items.size 0 lo = items.size := eq_of_beq q.2
    exact hw ⟨by omega, by omega⟩
  show wpAny _ _ (if (((sIx items.size 0 lo : Nat) : Int) == 0 && (1 : Int) == 1 && (sIx items.size items.size hi - sIx items.size 0 lo) == items.size) = true then _ else _) _ _ s
  rw [if_neg hno, pick_gen]
  first
    | exact wpAny_bind (m := Builtin.Tuple.tupleExact _) (wpAny_newObj_type (wpAny_pure ⟨_, rfl, wpAny_pure h⟩) htake)
    | exact wpAny_bind (m := Builtin.Tuple.tupleExact _) (wpAny_newObj_type (wpAny_bind (wpAny_pure (wpAny_pure ⟨_, rfl, wpAny_pure h⟩))) htake)
    | exact wpAny_bind (wpAny_bind (m := Builtin.Tuple.tupleExact _) (wpAny_newObj_type (wpAny_pure (wpAny_pure ⟨_, rfl, wpAny_pure h⟩)) htake))
    | exact wpAny_bind (wpAny_bind (m := Builtin.Tuple.tupleExact _) (wpAny_newObj_type (wpAny_pure ⟨_, rfl, wpAny_pure h⟩) htake))
end
end HT

namespace L2
open PySem PySem.Spec PyProof.Rows

noncomputable abbrev TO := St → Hp → (Option Int → Hp → Prop) → Prop
noncomputable def PO (X : Cx) (e : Option Expr) (t : TO) : Prop :=
  ∀ (pins : List (Addr × Obj)) (s : Shared) (σ : St) (H : Hp) (Q : Option Int → Hp → Prop), Inv X pins σ H s → t σ H Q →
    wpAny (model X.prog X.w) X.A (evalPart e X.env) (fun u s' => ∃ o H', Inv X pins σ H' s' ∧ IsPart u o ∧ Q o H') X.xe s
noncomputable def tNoPart : TO := fun _ H Q => Q none H
noncomputable def tPart (t : TE) : TO := fun σ H Q => t σ H fun x H1 => ∃ i, x = .int i ∧ Q (some i) H1

section
variable {X : Cx} {e : Expr} {te : TE} {lo hi : Option Expr} {tl th : TO} {pos p2 : Pos}

theorem po_none : PO X none tNoPart := by
  intro pins s σ H Q I h
  rw [evalPart_none]
  exact wpAny_pure ⟨none, H, I, .none, h⟩
theorem po_some (h : PE X e te) : PO X (some e) (tPart te) := by
  intro pins s σ H Q I hw
  rw [evalPart_some]
  refine thn (h pins s σ H _ I hw) fun u s1 ⟨x, H1, I1, r1, q1⟩ => ?_
  obtain ⟨i, rfl, q⟩ := q1
  obtain ⟨t, rfl⟩ := r1
  exact ⟨some i, H1, I1, .int i t, q⟩

noncomputable def SlR (X : Cx) (r : V → Option Int → Option Int → Hp → VK → Prop) : Prop :=
  ∀ (pins : List (Addr × Obj)) (s : Shared) (σ : St) (H : Hp) (x : V) (v vl vu : Value) (lo hi : Option Int) (sl : Addr) (Q : VK), Inv X pins σ H s → RelV x v → s.heap.IsSliceOf sl vl vu .none → IsPart vl lo → IsPart vu hi → r x lo hi H Q →
    ∃ T id, typeLookup (.type T) "__getitem__" = pure (some (.builtin id)) ∧ s.TypeIs v T ∧ wpAny (model X.prog X.w) X.A (getItem v (.ref sl)) (EP X pins σ Q) X.xe s
theorem SlR.or {r r' : V → Option Int → Option Int → Hp → VK → Prop} (h : SlR X r) (h' : SlR X r') : SlR X (fun x lo hi H Q => r x lo hi H Q ∨ r' x lo hi H Q) := by
  intro pins s σ H x v vl vu lo hi sl Q I rx hs pl pu q
  rcases q with q | q
  · exact h pins s σ H x v vl vu lo hi sl Q I rx hs pl pu q
  · exact h' pins s σ H x v vl vu lo hi sl Q I rx hs pl pu q
noncomputable def tSl (r : V → Option Int → Option Int → Hp → VK → Prop) (te : TE) (tl th : TO) : TE := fun σ H Q => te σ H fun x H1 => tl σ H1 fun l H2 => th σ H2 fun u H3 => r x l u H3 Q
theorem pe_slice {r : V → Option Int → Option Int → Hp → VK → Prop} (hr : SlR X r) (he : PE X e te) (hl : PO X lo tl) (hu : PO X hi th) : PE X (.Subscript e (.Slice lo hi none p2) pos) (tSl r te tl th) := by
  intro pins s σ H Q I h
  refine Subscript_ (thn (he pins s σ H _ I h) fun v s1 ⟨x, H1, I1, r1, q1⟩ => ?_)
  refine wpAny_Slice (thn (hl pins s1 σ H1 _ I1 q1) fun vl s2 ⟨l, H2, I2, pl, q2⟩ => thn (hu pins s2 σ H2 _ I2 q2) fun vu s3 ⟨u, H3, I3, pu, q3⟩ => ?_)
  rw [evalPart_none]
  refine wpAny_pure ?_
  have I4 : Inv X pins σ H3 { s3 with heap := s3.heap.push { cls := .type "slice", data := .fields #[vl, vu, .none] } } := I3.kept (t' := s3.toks) fun b ob q => Heap.get?_push_of_some _ q
  obtain ⟨T, id, hT, ht, hg⟩ := hr pins { s3 with heap := s3.heap.push { cls := .type "slice", data := .fields #[vl, vu, .none] } } σ H3 x v vl vu l u s3.heap.objs.size Q I4 r1 (Heap.IsSliceOf.new ..) pl pu q3
  show wpAny (model X.prog X.w) X.A (subscriptTail e (.Slice lo hi none p2) v (.ref s3.heap.objs.size)) (EP X pins σ Q) X.xe { s3 with heap := s3.heap.push { cls := .type "slice", data := .fields #[vl, vu, .none] } }
  exact tail_any (ops := [.ref s3.heap.objs.size, v]) ht hT hg (by with_unfolding_all rfl)

noncomputable def cutV (xs : List V) (lo hi : Option Int) : List V := (xs.drop (HT.sIx xs.length 0 lo)).take (HT.sIx xs.length xs.length hi - HT.sIx xs.length 0 lo)
theorem cutV_length (xs : List V) (lo hi : Option Int) : (cutV xs lo hi).length ≤ xs.length := by
  unfold cutV
  rw [List.length_take, List.length_drop]
  omega
noncomputable def rSlT (K : PySem.W.Frag) : V → Option Int → Option Int → Hp → VK → Prop := fun x lo hi H Q => ∃ a xs, x = .ref a ∧ SqT K H a xs ∧
  ¬ (HT.sIx xs.length 0 lo = 0 ∧ HT.sIx xs.length xs.length hi = xs.length) ∧ ∀ p, H p = none → Q (.ref p) (upd H p (.tup (cutV xs lo hi)))
theorem sl_tup : SlR X (rSlT X.K) := by
  intro pins s σ H x v vl vu lo hi sl Q I rx hs pl pu h
  obtain ⟨a, xs, rfl, hx, hw, q⟩ := h
  cases rx
  obtain ⟨its, r, ht, hz⟩ := I.tuple hx
  have hlen : its.toArray.size = xs.length := by rw [List.size_toArray]; exact r.length.symm
  refine ⟨"tuple", _, PyProof.Rows.slot_tuple_getitem.lookup, ht.typeIs, ?_⟩
  refine HT.getItem_tuple_cut ht hs pl pu (by rw [hlen]; exact hw) ?_ (by rw [hlen]; exact hz)
  rw [hlen]
  refine ⟨.ref s.heap.objs.size, _, I.laid (t' := s.toks) (o := .tup (cutV xs lo hi)) (fun b ob q => Heap.get?_push_of_some _ q) (Nat.le_refl _) ?_, rfl, q _ (I.hok.fresh (Nat.le_refl _))⟩
  exact ⟨Nat.le_trans (cutV_length xs lo hi) hz, _, (r.drop (HT.sIx xs.length 0 lo)).take (HT.sIx xs.length xs.length hi - HT.sIx xs.length 0 lo), IsTup.new _ _⟩

end
end L2

namespace L2
open PySem PySem.Spec PyProof.Rows

noncomputable def ixN (n : Nat) (i : Int) : Option Nat := if 0 ≤ i then (if i < n then some i.toNat else none) else if -(n : Int) ≤ i then some (i + n).toNat else none
noncomputable def atI {α : Type} (xs : List α) (i : Int) : Option α := (ixN xs.length i).bind fun j => xs[j]?
theorem ixN_seq {n : Nat} {i : Int} {j : Nat} (h : ixN n i = some j) : seqIndex? i n = some j ∧ j < n ∧ -(n : Int) ≤ i ∧ i < n := by
  unfold ixN at h
  by_cases h0 : 0 ≤ i
  · rw [if_pos h0] at h
    by_cases h1 : i < n
    · rw [if_pos h1] at h
      have e : i.toNat = j := Option.some.inj h
      exact ⟨by rw [seqIndex_of h0 h1, e], by omega, by omega, h1⟩
    · rw [if_neg h1] at h; cases h
  · rw [if_neg h0] at h
    by_cases h1 : -(n : Int) ≤ i
    · rw [if_pos h1] at h
      have e : (i + n).toNat = j := Option.some.inj h
      exact ⟨by rw [seqIndex_neg (by omega) h1, e], by omega, h1, by omega⟩
    · rw [if_neg h1] at h; cases h
theorem atI_get {α : Type} {xs : List α} {i : Int} {v : α} (h : atI xs i = some v) : ∃ j, seqIndex? i xs.length = some j ∧ xs[j]? = some v ∧ j < xs.length ∧ -(xs.length : Int) ≤ i ∧ i < xs.length := by
  unfold atI at h
  cases e : ixN xs.length i with
  | none => rw [e] at h; cases h
  | some j =>
    rw [e] at h
    obtain ⟨h1, h2, h3, h4⟩ := ixN_seq e
    exact ⟨j, h1, h, h2, h3, h4⟩
theorem atI_nat {α : Type} {xs : List α} {j : Nat} {v : α} (h : xs[j]? = some v) : atI xs (j : Int) = some v := by
  have hj : j < xs.length := (List.getElem?_eq_some_iff.mp h).1
  have e : ixN xs.length (j : Int) = some j := by
    unfold ixN
    rw [if_pos (by omega), if_pos (by omega)]; simp
  unfold atI; rw [e]; exact h
noncomputable def PlainIx (b : Expr) : Prop := ∀ o i, subscripted b false o i = operate [o, i] (getItem o i)
noncomputable def IxR (X : Cx) (r : R2) : Prop :=
  ∀ (value slice : Expr) (pins : List (Addr × Obj)) (s : Shared) (σ : St) (H : Hp) (x y : V) (v u : Value) (Q : VK), Inv X pins σ H s → RelV x v → RelV y u → r x y H Q →
    subscripted slice false v u = operate [v, u] (getItem v u) → wpAny (model X.prog X.w) X.A (subscriptTail value slice v u) (EP X pins σ Q) X.xe s
noncomputable def MtR (X : Cx) (id : String) (r : V → List V → Hp → VK → Prop) : Prop :=
  ∀ (pins : List (Addr × Obj)) (s : Shared) (σ : St) (H : Hp) (x : V) (xs : List V) (v : Value) (us : List Value) (Q : VK), Inv X pins σ H s → RelV x v → Vals xs us → r x xs H Q →
    wpAny (model X.prog X.w) X.A (call (.builtin id) (v :: us)) (EP X pins σ Q) X.xe s
section
variable {X : Cx} {a b : Expr} {ta tb : TE} {pos : Pos}
theorem IxR.or {r r' : R2} (h : IxR X r) (h' : IxR X r') : IxR X (fun x y H Q => r x y H Q ∨ r' x y H Q) := by
  intro value slice pins s σ H x y v u Q I rx ry q hs
  rcases q with q | q
  · exact h value slice pins s σ H x y v u Q I rx ry q hs
  · exact h' value slice pins s σ H x y v u Q I rx ry q hs
theorem MtR.or {id : String} {r r' : V → List V → Hp → VK → Prop} (h : MtR X id r) (h' : MtR X id r') : MtR X id (fun x xs H Q => r x xs H Q ∨ r' x xs H Q) := by
  intro pins s σ H x xs v us Q I rx rs q
  rcases q with q | q
  · exact h pins s σ H x xs v us Q I rx rs q
  · exact h' pins s σ H x xs v us Q I rx rs q
theorem pe_ix {r : R2} (hr : IxR X r) (ha : PE X a ta) (hb : PE X b tb) (hs : PlainIx b) : PE X (.Subscript a b pos) (tOp r ta tb) := by
  intro pins s σ H Q I h
  exact Subscript_ (binT ha hb I h fun v u s2 x y H2 I2 rx ry q => hr a b pins s2 σ H2 x y v u Q I2 rx ry q (hs _ _))

noncomputable def rIxL (K : PySem.W.Frag) : R2 := fun x y H Q => ∃ p xs i v, x = .ref p ∧ y = .int i ∧ SqL K H p xs ∧ atI xs i = some v ∧ Q v H
noncomputable def rIxT (K : PySem.W.Frag) : R2 := fun x y H Q => ∃ p xs i v, x = .ref p ∧ y = .int i ∧ SqT K H p xs ∧ atI xs i = some v ∧ Q v H
theorem ix_list : IxR X (rIxL X.K) := by
  intro value slice pins s σ H x y v u Q I rx ry h hs
  obtain ⟨p, xs, i, z, rfl, rfl, hq, he, q⟩ := h
  cases rx
  obtain ⟨t, rfl⟩ := ry
  obtain ⟨its, r, pl, hz⟩ := I.list hq
  obtain ⟨j, h1, h2, h3, h4, h5⟩ := atI_get he
  obtain ⟨w, ew, rw'⟩ := r.get h2
  have hl := r.length
  have hn := line63
  have fin : EP X pins σ Q w s := ⟨z, H, I, rw', q⟩
  by_cases h0 : 0 ≤ i
  · have hj : i.toNat = j := by
      rw [seqIndex_of h0 h5] at h1
      exact Option.some.inj h1
    exact item_listR pl.isList h0 (by omega) (by rw [hj]; simpa using ew) fin hs
  · have hj : (i + (its.toArray.size : Int)).toNat = j := by
      rw [seqIndex_neg (by omega) h4] at h1
      rw [List.size_toArray, ← hl]
      exact Option.some.inj h1
    exact subscriptTail_builtinR (x := w) pl.isList.typeIs slot_list_getitem.lookup
      (wpAny_getItem_list_neg (Q := fun r s' => r = w ∧ EP X pins σ Q r s') pl.isList (by omega) (by rw [List.size_toArray] <;> omega) (by omega) (by rw [hj]; simpa using ew) ⟨rfl, fin⟩) hs
theorem ix_tup : IxR X (rIxT X.K) := by
  intro value slice pins s σ H x y v u Q I rx ry h hs
  obtain ⟨p, xs, i, z, rfl, rfl, hq, he, q⟩ := h
  cases rx
  obtain ⟨t, rfl⟩ := ry
  obtain ⟨its, r, pl, hz⟩ := I.tuple hq
  obtain ⟨j, h1, h2, h3, h4, h5⟩ := atI_get he
  obtain ⟨w, ew, rw'⟩ := r.get h2
  have hl := r.length
  have hn := line63
  have fin : EP X pins σ Q w s := ⟨z, H, I, rw', q⟩
  exact subscriptTail_builtinR (x := w) pl.typeIs slot_tuple_getitem.lookup
    (getItem_tuple (j := j) (Q := fun r s' => r = w ∧ EP X pins σ Q r s') pl (by omega) (by omega) (by rw [List.size_toArray, ← hl]; exact h1) (by simpa using ew) ⟨rfl, fin⟩) hs
theorem mapSeq_set (its : List Value) (n j : Nat) (u : Value) : Obj.mapSeq (·.setIfInBounds j u) { cls := .type "list", data := .seq its.toArray n } = { cls := .type "list", data := .seq (its.set j u).toArray n } := by
  simp [Obj.mapSeq]
theorem Inv.lst {pins : List (Addr × Obj)} {σ : St} {H : Hp} {s : Shared} {p : Addr} {xs : List V} (I : Inv X pins σ H s) (h : H p = some (.lst xs)) :
    ∃ (its : List Value) (n : Nat), Vals xs its ∧ s.heap.get? p = some { cls := .type "list", data := .seq its.toArray n } ∧ xs.length ≤ sizeLine := by
  obtain ⟨z, its, n, r, e⟩ := I.hok p _ h
  exact ⟨its, n, r, e, z⟩
theorem Inv.lstUpd {pins : List (Addr × Obj)} {σ : St} {H : Hp} {s : Shared} {p : Addr} {xs ys : List V} {its its' : List Value} {n n' : Nat} {f : Obj → Obj} (I : Inv X pins σ H s) (h : H p = some (.lst xs))
    (ho : s.heap.get? p = some { cls := .type "list", data := .seq its.toArray n }) (hf : f { cls := .type "list", data := .seq its.toArray n } = { cls := .type "list", data := .seq its'.toArray n' }) (r : Vals ys its') (hz : ys.length ≤ sizeLine) (t : Nat) :
    Inv X pins σ (upd H p (.lst ys)) { s with heap := s.heap.update p f, toks := t } := by
  have e : (s.heap.update p f).get? p = some { cls := .type "list", data := .seq its'.toArray n' } := by
    rw [Heap.get?_update_self f ho (by rw [hf] <;> rfl), hf]
  refine I.write (x := p) (e := p) (by rw [h]; trivial) (.inl rfl) (fun b u hb q => (Heap.get?_update_other _ _ (Ne.symm hb)).trans q) ⟨_, e⟩ ?_
  exact ⟨hz, its', n', r, e⟩
noncomputable def rSetL : V → V → V → Hp → (Hp → Prop) → Prop := fun o i v H Q => ∃ p xs k j, o = .ref p ∧ i = .int k ∧ H p = some (.lst xs) ∧ ixN xs.length k = some j ∧ Q (upd H p (.lst (xs.set j v)))
theorem set_list : PSet X rSetL := by
  intro pins s σ H o i v ov iv u Q I ro ri rv h
  obtain ⟨p, xs, k, j, rfl, rfl, hp, hj, q⟩ := h
  cases ro
  obtain ⟨t, rfl⟩ := ri
  obtain ⟨its, n, r, ho, hz⟩ := I.lst hp
  obtain ⟨h1, h2, h3, h4⟩ := ixN_seq hj
  have hl := r.length
  have hn := line63
  have I' : Inv X pins σ (upd H p (.lst (xs.set j v))) { s with heap := s.heap.update p (Obj.mapSeq (·.setIfInBounds j u)) } :=
    I.lstUpd hp ho (mapSeq_set its n j u) (r.set rv j) (by rw [List.length_set]; exact hz) s.toks
  by_cases h0 : 0 ≤ k
  · have hk : k.toNat = j := by
      rw [seqIndex_of h0 h4] at h1
      exact Option.some.inj h1
    exact PySem.W.ki_setAt ho h0 (by omega) (by rw [List.size_toArray, ← hl]; exact h4) (by rw [hk]; exact ⟨_, I', q⟩)
  · have hk : (k + (its.toArray.size : Int)).toNat = j := by
      rw [seqIndex_neg (by omega) h3] at h1
      rw [List.size_toArray, ← hl]
      exact Option.some.inj h1
    exact PySem.W.ki_setBack ho (by omega) (by rw [List.size_toArray, ← hl]; exact h3) (by omega) (by rw [hk]; exact ⟨_, I', q⟩)

theorem slice_bounds (lo hi : Option Int) (n : Nat) : (sliceBounds lo hi none n).1 = ((HT.sIx n 0 lo : Nat) : Int) ∧ (sliceBounds lo hi none n).2.1 = ((HT.sIx n n hi : Nat) : Int) ∧ (sliceBounds lo hi none n).2.2 = 1 := by
  refine ⟨?_, ?_, rfl⟩
  · cases lo with
    | none => simp [sliceBounds, HT.sIx]
    | some i =>
      simp only [sliceBounds, HT.sIx, Option.getD_none, show (1 : Int) > 0 by decide, if_true]
      by_cases h : i < 0
      · simp only [h, if_true] <;> omega
      · simp only [h, if_false] <;> omega
  · cases hi with
    | none => simp [sliceBounds, HT.sIx]
    | some i =>
      simp only [sliceBounds, HT.sIx, Option.getD_none, show (1 : Int) > 0 by decide, if_true]
      by_cases h : i < 0
      · simp only [h, if_true] <;> omega
      · simp only [h, if_false] <;> omega
theorem slicePick_cut (its : List Value) (lo hi : Option Int) : slicePick its.toArray lo hi none = ((its.drop (HT.sIx its.length 0 lo)).take (HT.sIx its.length its.length hi - HT.sIx its.length 0 lo)).toArray := by
  obtain ⟨h1, h2, h3⟩ := slice_bounds lo hi its.toArray.size
  unfold slicePick
  rw [h1, h2, h3]
  simp only [sliceRange_one, pick_run, List.size_toArray] <;> rfl
noncomputable def rSlL (K : PySem.W.Frag) : V → Option Int → Option Int → Hp → VK → Prop := fun x lo hi H Q => ∃ a xs, x = .ref a ∧ SqL K H a xs ∧ ∀ p, H p = none → Q (.ref p) (upd H p (.lst (cutV xs lo hi)))
theorem sl_list : SlR X (rSlL X.K) := by
  intro pins s σ H x v vl vu lo hi sl Q I rx hs pl pu h
  obtain ⟨a, xs, rfl, hx, q⟩ := h
  cases rx
  obtain ⟨its, r, ht, hz⟩ := I.list hx
  have hlen := r.length
  refine ⟨"list", _, slot_list_getitem.lookup, ht.isList.typeIs, ?_⟩
  refine wpAny_getItem_list_slice ht.isList hs pl pu .none (by simp) ?_ (by rw [List.size_toArray] <;> omega)
  rw [slicePick_cut, ← hlen]
  refine ⟨.ref s.heap.objs.size, _, I.laid (t' := s.toks) (o := .lst (cutV xs lo hi)) (fun b ob q => Heap.get?_push_of_some _ q) (Nat.le_refl _) ?_, rfl, q _ (I.hok.fresh (Nat.le_refl _))⟩
  exact ⟨Nat.le_trans (cutV_length xs lo hi) hz, _, 0, (r.drop (HT.sIx xs.length 0 lo)).take (HT.sIx xs.length xs.length hi - HT.sIx xs.length 0 lo), Heap.get?_push_size _ rfl⟩

noncomputable def flatV : V → Bool
  | .non => true
  | .bl _ => true
  | .int _ => true
  | .str _ => true
  | _ => false
noncomputable def eqV : V → V → Bool
  | .non, .non => true
  | .bl a, .bl b => a == b
  | .bl a, .int b => (if a then 1 else 0) == b
  | .int a, .bl b => a == (if b then 1 else 0)
  | .int a, .int b => a == b
  | .str a, .str b => a == b
  | _, _ => false
theorem eqAt_V {A : Around} {s : Shared} {y x : V} {u v : Value} (ry : RelV y u) (rx : RelV x v) (fy : flatV y = true) (fx : flatV x = true) : SeqAt.EqAt A s u v (eqV y x) := by
  cases y with
  | non =>
    cases ry
    cases x with
    | non => cases rx; exact SeqAt.EqAt.same _
    | bl b => cases rx; exact SeqAt.EqAt.none_bool b
    | int b => obtain ⟨t, rfl⟩ := rx; exact SeqAt.EqAt.none_int b t
    | str b => obtain ⟨t, rfl⟩ := rx; exact SeqAt.EqAt.none_str b t
    | _ => exact absurd (show false = true from fx) Bool.false_ne_true
  | bl a =>
    cases ry
    cases x with
    | non => cases rx; exact SeqAt.EqAt.bool_none a
    | bl b => cases rx; exact SeqAt.EqAt.bool_bool a b
    | int b => obtain ⟨t, rfl⟩ := rx; exact SeqAt.EqAt.bool_int a b t
    | str b => obtain ⟨t, rfl⟩ := rx; exact SeqAt.EqAt.bool_str a b t
    | _ => exact absurd (show false = true from fx) Bool.false_ne_true
  | int a =>
    obtain ⟨t', rfl⟩ := ry
    cases x with
    | non => cases rx; exact SeqAt.EqAt.int_none a t'
    | bl b => cases rx; exact SeqAt.EqAt.int_bool a t' b
    | int b => obtain ⟨t, rfl⟩ := rx; exact SeqAt.EqAt.int_int a t' b t
    | str b => obtain ⟨t, rfl⟩ := rx; exact SeqAt.EqAt.int_str a t' b t
    | _ => exact absurd (show false = true from fx) Bool.false_ne_true
  | str a =>
    obtain ⟨t', rfl⟩ := ry
    cases x with
    | non => cases rx; exact SeqAt.EqAt.str_none a t'
    | bl b => cases rx; exact SeqAt.EqAt.str_bool a t' b
    | int b => obtain ⟨t, rfl⟩ := rx; exact SeqAt.EqAt.str_int a t' b t
    | str b => obtain ⟨t, rfl⟩ := rx; exact SeqAt.EqAt.str_str a t' b t
    | _ => exact absurd (show false = true from fx) Bool.false_ne_true
  | _ => exact absurd (show false = true from fy) Bool.false_ne_true
noncomputable def eqU (x : V) (u : Value) : Bool := match u with
  | .none => eqV .non x
  | .bool b => eqV (.bl b) x
  | .int i _ => eqV (.int i) x
  | .str z _ => eqV (.str z) x
  | _ => false
theorem eqU_of {x y : V} {u : Value} (r : RelV y u) (f : flatV y = true) : eqU x u = eqV y x := by
  cases y with
  | non => cases r; rfl
  | bl b => cases r; rfl
  | int i => obtain ⟨t, rfl⟩ := r; rfl
  | str z => obtain ⟨t, rfl⟩ := r; rfl
  | _ => exact absurd (show false = true from f) Bool.false_ne_true
theorem any_eqU {x : V} : ∀ {xs : List V} {us : List Value}, Vals xs us → xs.all flatV = true → us.any (eqU x) = xs.any fun y => eqV y x
  | _, _, .nil, _ => rfl
  | y :: xs, u :: us, .cons r t, f => by
    rw [List.all_cons, Bool.and_eq_true] at f
    rw [List.any_cons, List.any_cons, eqU_of r f.1, any_eqU t f.2]
theorem mem_eqAt {A : Around} {s : Shared} {x : V} {v : Value} (rx : RelV x v) (fx : flatV x = true) : ∀ {xs : List V} {us : List Value}, Vals xs us → xs.all flatV = true → ∀ u ∈ us, SeqAt.EqAt A s u v (eqU x u)
  | _, _, .nil, _ => fun u hu => by cases hu
  | y :: xs, u :: us, .cons r t, f => fun u' hu => by
    rw [List.all_cons, Bool.and_eq_true] at f
    rcases List.mem_cons.mp hu with rfl | hu
    · rw [eqU_of r f.1]; exact eqAt_V r rx f.1 fx
    · exact mem_eqAt rx fx t f.2 u' hu
noncomputable def inV (x : V) (xs : List V) : Bool := xs.any fun y => eqV y x
noncomputable def rIn (K : PySem.W.Frag) (neg : Bool) : R2 := fun x y H Q => ∃ p xs, y = .ref p ∧ (SqL K H p xs ∨ SqT K H p xs) ∧ flatV x = true ∧ xs.all flatV = true ∧ Q (.bl (if neg then !inV x xs else inV x xs)) H
theorem op_notIn_seq : OpR X (compareOp .NotIn) (rIn X.K true) := by
  intro pins s σ H x y v u Q I rx ry h
  obtain ⟨p, xs, rfl, hq, fx, fs, q⟩ := h
  cases ry
  rcases hq with hq | hq
  · obtain ⟨its, r, pl, hz⟩ := I.list hq
    refine SeqAt.notIn_listAt (eqU x) pl.isList (fun w hw => mem_eqAt rx fx r fs w (by simpa using hw)) ⟨.bl _, H, I, rfl, ?_⟩
    rw [show its.toArray.any (eqU x) = its.any (eqU x) by simp, any_eqU r fs]
    exact q
  · obtain ⟨its, r, pl, hz⟩ := I.tuple hq
    refine SeqAt.notIn_tupleAt (eqU x) pl (fun w hw => mem_eqAt rx fx r fs w (by simpa using hw)) ⟨.bl _, H, I, rfl, ?_⟩
    rw [show its.toArray.any (eqU x) = its.any (eqU x) by simp, any_eqU r fs]
    exact q
theorem call_len_seq : CallR X (.builtin "len") (fun xs H Q => ∃ p ys, xs = [.ref p] ∧ (SqL X.K H p ys ∨ SqT X.K H p ys) ∧ Q (.int ys.length) H) := by
  intro pins s σ H xs us Q I r h
  obtain ⟨p, ys, rfl, hq, q⟩ := h
  obtain ⟨u, rfl, rx⟩ := vals1 r
  cases rx
  have hn := line63
  rcases hq with hq | hq
  · obtain ⟨its, r', pl, hz⟩ := I.list hq
    have hlen := r'.length
    exact Calls.call_len_list pl.isList (by simp only [List.size_toArray] <;> omega) ⟨.int ys.length, H, I.tok _, ⟨s.toks + 1, by rw [List.size_toArray, hlen]⟩, q⟩
  · obtain ⟨its, r', pl, hz⟩ := I.tuple hq
    have hlen := r'.length
    exact len_tuple pl (by simp only [List.size_toArray] <;> omega) ⟨.int ys.length, H, I.tok _, ⟨s.toks + 1, by rw [List.size_toArray, hlen]⟩, q⟩
theorem CallR.or {f : Value} {r r' : List V → Hp → VK → Prop} (h : CallR X f r) (h' : CallR X f r') : CallR X f (fun xs H Q => r xs H Q ∨ r' xs H Q) := by
  intro pins s σ H xs us Q I rs q
  rcases q with q | q
  · exact h pins s σ H xs us Q I rs q
  · exact h' pins s σ H xs us Q I rs q
theorem call_list_of : CallR X (.type "list") (fun xs H Q => ∃ p ys, xs = [.ref p] ∧ (SqL X.K H p ys ∨ SqT X.K H p ys) ∧ ∀ l, H l = none → Q (.ref l) (upd H l (.lst ys))) := by
  intro pins s σ H xs us Q I r h
  obtain ⟨p, ys, rfl, hq, q⟩ := h
  obtain ⟨u, rfl, rx⟩ := vals1 r
  cases rx
  have fin : ∀ (its : List Value), Vals ys its → ys.length ≤ sizeLine → ∀ (h' : Heap) (c' : Nat), (∀ b o', s.heap.get? b = some o' → h'.get? b = some o') →
      h'.get? s.heap.objs.size = some { cls := .type "list", dict := none, data := .seq its.toArray c', slots := #[] } → EP X pins σ Q (.ref s.heap.objs.size) { s with heap := h' } := fun its r' hz h' c' kp e =>
    ⟨.ref s.heap.objs.size, _, I.laid (t' := s.toks) kp (Nat.le_refl _) (show ObjOk X.prog X.w _ h' _ (.lst ys) from ⟨hz, its, c', r', e⟩), rfl, q _ (I.hok.fresh (Nat.le_refl _))⟩
  rcases hq with hq | hq
  · obtain ⟨its, r', pl, hz⟩ := I.list hq
    have hlen := r'.length
    obtain ⟨o, ho, hc, n, hd⟩ := pl.isList
    exact call_list_seq p (.inl rfl) ho hc hd (fun h' c' kp e => fin its r' hz h' c' kp e) (by simp only [List.size_toArray] <;> omega)
  · obtain ⟨its, r', pl, hz⟩ := I.tuple hq
    have hlen := r'.length
    obtain ⟨o, ho, hc, n, hd⟩ := pl
    exact call_list_seq p (.inr rfl) ho hc hd (fun h' c' kp e => fin its r' hz h' c' kp e) (by simp only [List.size_toArray] <;> omega)
theorem call_tuple_of : CallR X (.type "tuple") (fun xs H Q => ∃ p ys, xs = [.ref p] ∧ ((SqL X.K H p ys ∧ ∀ l, H l = none → Q (.ref l) (upd H l (.tup ys))) ∨ (SqT X.K H p ys ∧ Q (.ref p) H))) := by
  intro pins s σ H xs us Q I r h
  obtain ⟨p, ys, rfl, h⟩ := h
  obtain ⟨u, rfl, rx⟩ := vals1 r
  cases rx
  rcases h with ⟨hq, q⟩ | ⟨hq, q⟩
  · obtain ⟨its, r', pl, hz⟩ := I.list hq
    have hlen := r'.length
    refine call_tuple_list pl.isList (fun h' kp => ?_) (by simp only [List.size_toArray] <;> omega)
    have I1 : Inv X pins σ H { s with heap := h' } := I.kept (t' := s.toks) kp
    have I2 : Inv X pins σ (upd H h'.objs.size (.tup ys)) { s with heap := h'.push { cls := .type "tuple", data := .seq its.toArray } } :=
      I1.laid (t' := s.toks) (fun b o e => Heap.get?_push_of_some _ e) (Nat.le_refl _) (show ObjOk X.prog X.w _ _ _ (.tup ys) from ⟨hz, its, r', IsTup.new _ _⟩)
    exact ⟨.ref h'.objs.size, _, I2, rfl, q _ (I1.hok.fresh (Nat.le_refl _))⟩
  · obtain ⟨its, r', pl, hz⟩ := I.tuple hq
    exact call_tuple_same pl ⟨.ref p, H, I, rfl, q⟩

noncomputable def tyV (K : PySem.W.Frag) (T : String) (x : V) (H : Hp) : Prop := match x with
  | .str _ => T = "str"
  | .int _ => T = "int"
  | .ref p => (T = "list" ∧ ∃ xs, SqL K H p xs) ∨ (T = "tuple" ∧ ∃ o, K.lookup p = some o ∧ o.cls = .type "tuple" ∧ o.dict = none) ∨
      (T = "dict" ∧ ((∃ kvs, H p = some (.dK kvs)) ∨ ∃ kvs, H p = some (.dT kvs))) ∨ (T = "set" ∧ ∃ S n, H p = some (.set S n))
  | _ => False
theorem tyV_is {pins : List (Addr × Obj)} {σ : St} {H : Hp} {s : Shared} {T : String} {x : V} {v : Value} (I : Inv X pins σ H s) (r : RelV x v) (ty : tyV X.K T x H) :
    s.TypeIs v T ∧ ∀ a, v = .ref a → ∃ ob, s.heap.get? a = some ob ∧ ob.dict = none := by
  cases x with
  | str z =>
    obtain ⟨t, rfl⟩ := r
    cases (show T = "str" from ty)
    exact ⟨typeIs_str s z t, fun _ e => nomatch e⟩
  | int i =>
    obtain ⟨t, rfl⟩ := r
    cases (show T = "int" from ty)
    exact ⟨typeIs_int s i t, fun _ e => nomatch e⟩
  | ref p =>
    cases r
    rcases ty with ⟨rfl, xs, hq⟩ | ⟨rfl, o, hk, hc, hd⟩ | ⟨rfl, hk⟩ | ⟨rfl, S, n, hk⟩
    · obtain ⟨its, _, pl, _⟩ := I.list hq
      refine ⟨pl.isList.typeIs, fun a e => ?_⟩
      cases e
      obtain ⟨o, n, e, c, hd, _⟩ := pl
      exact ⟨o, e, hd⟩
    · refine ⟨⟨o, I.kIn p o hk, hc⟩, fun a e => ?_⟩
      cases e
      exact ⟨o, I.kIn _ o hk, hd⟩
    · have z : ∃ o, s.heap.get? p = some o ∧ o.ExactDict := by
        rcases hk with ⟨kvs, hk⟩ | ⟨kvs, hk⟩
        · obtain ⟨_, _, _, _, o, _, _, e, ex, _⟩ := I.hok p _ hk
          exact ⟨o, e, ex⟩
        · obtain ⟨_, _, _, _, o, _, _, e, ex, _⟩ := I.hok p _ hk
          exact ⟨o, e, ex⟩
      obtain ⟨o, e, ex⟩ := z
      refine ⟨⟨o, e, ex.1⟩, fun a e2 => ?_⟩
      cases e2
      exact ⟨o, e, ex.2.1⟩
    · obtain ⟨o, _, _, _, e, ex, _⟩ := I.hok p _ hk
      refine ⟨⟨o, e, ex.1⟩, fun a e2 => ?_⟩
      cases e2
      exact ⟨o, e, ex.2.1⟩
  | _ => exact False.elim ty
noncomputable def tBM0 (K : PySem.W.Frag) (T : String) (r : V → List V → Hp → VK → Prop) (to : TE) : TE := fun σ H Q => to σ H fun x H1 => tyV K T x H1 ∧ r x [] H1 Q
noncomputable def tBM (K : PySem.W.Frag) (T : String) (r : V → List V → Hp → VK → Prop) (to : TE) (t : TA) : TE := fun σ H Q => to σ H fun x H1 => tyV K T x H1 ∧ t σ H1 fun xs H2 => r x xs H2 Q
variable {o e : Expr} {es : List Expr} {to : TE} {t : TA} {name : Str} {apos cpos : Pos} {T id : String} {r : V → List V → Hp → VK → Prop}
theorem pe_bm (pa : PlainAttrs T) (slot : Slot T name id) (hty : typeOf (.builtin id) = pure (.type "method_descriptor")) (hm : MtR X id r) (ho : PE X o to) (ha : PA X (e :: es) t)
    (hbase : attributeBase o name X.env (eval o X.env) = eval o X.env := by rfl)
    (hfew : ((backTo cpos (starEach (e :: es) X.env)).all (fun x => !x.1) && (backToKw cpos (keywordEach [] X.env)).all (fun x => x.1.isSome)
      && decide ((e :: es).length + ([] : List Keyword).length + (if ([] : List Keyword).isEmpty then 0 else 1) < 30)) = true := by rfl)
    (hline : (apos.endLine == cpos.line) = true := by rfl) (hs : starEach (e :: es) X.env = (false, eval e X.env) :: starEach es X.env := by rfl) (hplain : (backTo cpos (starEach es X.env)).any (·.1) = false := by rfl) :
    PE X (.Call (.Attribute o name apos) (e :: es) [] cpos) (tBM X.K T r to t) := by
  intro pins s σ H Q I h
  refine wpAny_Call_method_late hbase hfew hline rfl (thn (ho pins s σ H _ I h) fun v s1 ⟨x, H1, I1, r1, ty, q1⟩ => ?_)
  obtain ⟨h1, h2⟩ := tyV_is I1 r1 ty
  refine ⟨T, id, pa, slot, hty, h1, h2, ?_⟩
  have hA := ha cpos pins s1 σ H1 _ I1 q1
  rw [hs] at hA ⊢
  refine Calls.callWith_builtin (by show (false || (backTo cpos (starEach es X.env)).any (·.1)) = false; rw [hplain] <;> rfl) (Calls.evalArgs_plain ?_)
  exact thn hA fun us s2 ⟨vs, H2, I2, r2, q2⟩ => hm pins s2 σ H2 x vs v us Q I2 r1 r2 q2
end
end L2

namespace L2
open PySem PySem.Spec PyProof.Rows

noncomputable def MtM (X : Cx) (id : String) (r : V → List V → Hp → VK → Prop) : Prop :=
  ∀ (pins : List (Addr × Obj)) (s : Shared) (σ : St) (H : Hp) (x : V) (xs : List V) (v : Value) (us : List Value) (Q : VK), Inv X pins σ H s → RelV x v → Vals xs us → r x xs H Q →
    wpAny (model X.prog X.w) X.A (call (.builtin id) (v :: us)) (EP X pins σ Q) X.xe s

theorem Vals.one : ∀ {x : V} {us : List Value}, Vals [x] us → ∃ u, us = [u] ∧ RelV x u
  | _, _, .cons r .nil => ⟨_, rfl, r⟩
theorem Vals.two : ∀ {x y : V} {us : List Value}, Vals [x, y] us → ∃ u v, us = [u, v] ∧ RelV x u ∧ RelV y v
  | _, _, _, .cons r (.cons q .nil) => ⟨_, _, rfl, r, q⟩
theorem Vals.zero : ∀ {us : List Value}, Vals [] us → us = []
  | _, .nil => rfl
theorem Vals.eraseIdx : ∀ {xs : List V} {us : List Value} (i : Nat), Vals xs us → Vals (xs.eraseIdx i) (us.eraseIdx i)
  | _, _, _, .nil => .nil
  | _, _, 0, .cons _ t => t
  | _, _, i + 1, .cons r t => .cons r (Vals.eraseIdx i t)
theorem Vals.reverse {xs : List V} {us : List Value} (h : Vals xs us) : Vals xs.reverse us.reverse := by
  induction h with
  | nil => exact .nil
  | cons r t ih => rw [List.reverse_cons, List.reverse_cons]; exact Vals.append ih (.cons r .nil)
theorem Vals.rep {xs : List V} {us : List Value} (h : Vals xs us) : ∀ k : Nat, Vals (List.replicate k xs).flatten (List.replicate k us).flatten
  | 0 => .nil
  | k + 1 => by
    rw [List.replicate_succ, List.replicate_succ, List.flatten_cons, List.flatten_cons]
    exact Vals.append h (Vals.rep h k)
theorem foldl_rep (its : List Value) : ∀ (k : Nat) (acc : List Value),
    List.foldl (fun x1 x2 => x1 ++ x2) acc.toArray (List.replicate k its.toArray) = (acc ++ (List.replicate k its).flatten).toArray
  | 0, acc => by simp
  | k + 1, acc => by
    have e : acc.toArray ++ its.toArray = (acc ++ its).toArray := by simp
    have e2 : (acc ++ its) ++ (List.replicate k its).flatten = acc ++ (List.replicate (k + 1) its).flatten := by
      rw [List.replicate_succ, List.flatten_cons, List.append_assoc]
    rw [← e2, ← foldl_rep its k (acc ++ its), ← e, List.replicate_succ, List.foldl_cons]

section
variable {X : Cx} {pins : List (Addr × Obj)} {σ : St} {H : Hp} {s : Shared} {l b : Addr} {xs ys zs : List V}

theorem Inv.lset {its its' : List Value} {n : Nat} {f : Array Value → Array Value} {t' : Nat} (I : Inv X pins σ H s) (hH : H l = some (.lst xs))
    (e : s.heap.get? l = some { cls := .type "list", data := .seq its.toArray n }) (hf : f its.toArray = its'.toArray) (hv : Vals ys its') (hz : ys.length ≤ sizeLine) :
    Inv X pins σ (upd H l (.lst ys)) { s with heap := s.heap.update l (Obj.mapSeq f), toks := t' } := by
  have q := PySem.IsL.update e f
  rw [hf] at q
  refine I.write (x := l) (e := l) (by rw [hH]; exact trivial) (.inl rfl) (fun b' u hb hu => (Heap.get?_update_other s.heap (Obj.mapSeq f) (Ne.symm hb)).trans hu) ⟨_, q⟩ ?_
  exact ⟨hz, its', _, hv, q⟩
theorem Inv.lnew {its : List Value} {t' : Nat} (I : Inv X pins σ H s) (hv : Vals ys its) (hz : ys.length ≤ sizeLine) :
    Inv X pins σ (upd H s.heap.objs.size (.lst ys)) { s with heap := s.heap.push { cls := .type "list", data := .seq its.toArray }, toks := t' } :=
  I.laid (fun _ _ q => Heap.get?_push_of_some _ q) (Nat.le_refl _) ⟨hz, its, 0, hv, Heap.get?_push_size _ rfl⟩
theorem Inv.fresh (I : Inv X pins σ H s) : H s.heap.objs.size = none := I.hok.fresh (Nat.le_refl _)
theorem Inv.lstM (I : Inv X pins σ H s) (hH : H l = some (.lst xs)) : xs.length ≤ sizeLine ∧ ∃ (its : List Value) (n : Nat), Vals xs its ∧ xs.length = its.length ∧ s.heap.get? l = some { cls := .type "list", data := .seq its.toArray n } := by
  obtain ⟨z, its, n, r, e⟩ := I.hok l _ hH
  exact ⟨z, its, n, r, r.length, e⟩

theorem notLongL {n : Nat} (h : n ≤ sizeLine) : Builtin.List.listTooLong n = false := by
  unfold Builtin.List.listTooLong
  exact decide_eq_false (by omega)
end

section
variable {X : Cx}

noncomputable def rAppend : V → List V → Hp → VK → Prop := fun x vs H Q => ∃ l xs y, x = .ref l ∧ vs = [y] ∧ H l = some (.lst xs) ∧ xs.length < sizeLine ∧ Q .non (upd H l (.lst (xs ++ [y])))
theorem mt_append : MtM X "list.append" rAppend := by
  intro pins s σ H x vs v us Q I rx rv h
  obtain ⟨l, xs, y, rfl, rfl, hH, hz, q⟩ := h
  cases rx
  obtain ⟨u, rfl, ru⟩ := rv.one
  obtain ⟨z, its, n, r, hl, e⟩ := I.lstM hH
  refine call_meets F.slot_list_append ⟨_, e, rfl⟩ F.entry_list_append (F.args_list_append_2 _ _) (PySem.list_append l its.toArray n u (by rw [List.size_toArray]; omega)) ⟨e, ?_⟩
  refine ⟨.non, _, I.lset (its' := its ++ [u]) hH e (by simp) (r.append (.cons ru .nil)) ?_, rfl, q⟩
  rw [List.length_append, List.length_singleton]
  omega

noncomputable def rCat : R2 := fun x y H Q => ∃ l b xs zs, x = .ref l ∧ y = .ref b ∧ H l = some (.lst xs) ∧ H b = some (.lst zs) ∧ xs.length + zs.length ≤ sizeLine ∧ ∀ p, H p = none → Q (.ref p) (upd H p (.lst (xs ++ zs)))
theorem op_cat : OpR X (binaryOp .Add) rCat := by
  intro pins s σ H x y v u Q I rx ry h
  obtain ⟨l, b, xs, zs, rfl, rfl, hH, hB, hz, q⟩ := h
  cases rx
  cases ry
  obtain ⟨z, its, n, r, hl, e⟩ := I.lstM hH
  obtain ⟨z2, its2, n2, r2, hl2, e2⟩ := I.lstM hB
  refine PySem.P.add_list e e2 ?_ (by rw [List.size_toArray, List.size_toArray]; omega)
  have ea : its.toArray ++ its2.toArray = (its ++ its2).toArray := by simp
  rw [ea]
  exact ⟨.ref _, _, I.lnew (t' := s.toks) (r.append r2) (by rw [List.length_append]; omega), rfl, q _ I.fresh⟩
noncomputable def rRep : R2 := fun x y H Q => ∃ l k xs, x = .ref l ∧ y = .int k ∧ H l = some (.lst xs) ∧ -(2 ^ 63) ≤ k ∧ k < 2 ^ 63 ∧ xs.length * k.toNat ≤ sizeLine ∧
  ∀ p, H p = none → Q (.ref p) (upd H p (.lst (List.replicate k.toNat xs).flatten))
theorem len_rep {α : Type} (xs : List α) (k : Nat) : (List.replicate k xs).flatten.length = k * xs.length := by
  induction k with
  | zero => simp
  | succ k ih => rw [List.replicate_succ, List.flatten_cons, List.length_append, ih, Nat.succ_mul, Nat.add_comm]
theorem op_rep : OpR X (binaryOp .Mult) rRep := by
  intro pins s σ H x y v u Q I rx ry h
  obtain ⟨l, k, xs, rfl, rfl, hH, h1, h2, hz, q⟩ := h
  cases rx
  obtain ⟨t, rfl⟩ := ry
  obtain ⟨z, its, n, r, hl, e⟩ := I.lstM hH
  have hlen : its.toArray.size * k.toNat ≤ sizeLine := by rw [List.size_toArray, ← hl]; exact hz
  have hcap : ¬ its.toArray.size * k.toNat > (2 ^ 63 - 1) / 8 := by
    have : (sizeLine : Nat) ≤ (2 ^ 63 - 1) / 8 := by decide
    omega
  have hfit : ¬ (!Builtin.List.listFitsIndex k) = true := by
    rw [fitsIndex_both h1 h2]
    exact Bool.false_ne_true
  have hlong : ¬ Builtin.List.listTooLong (its.toArray.size * k.toNat) = true := by
    rw [notLongL hlen]
    exact Bool.false_ne_true
  have hnew : List.foldl (fun x1 x2 => x1 ++ x2) #[] (List.replicate (if its.toArray.isEmpty = true then 0 else k.toNat) its.toArray) = (List.replicate k.toNat its).flatten.toArray := by
    have f0 : ∀ m : Nat, List.foldl (fun x1 x2 => x1 ++ x2) #[] (List.replicate m its.toArray) = (List.replicate m its).flatten.toArray := fun m => by
      have := foldl_rep its m []
      rw [List.nil_append] at this
      exact this
    rw [f0]
    cases its with
    | nil => simp
    | cons a r' => rw [if_neg (by simp)]
  refine wpAny_binaryOp_repeat_ref (T := "list") (U := "int") (by decide) ⟨_, e, rfl⟩ (fun s' => typeIs_int s' k t) noFill_list_mul F.fills_int_mul F.slot_int_rmul repeat_list F.slot_int_index.lookup
    (call_meets F.slot_int_rmul (typeIs_int s k t) F.entry_int_rmul (F.args_int_rmul_2 _ _) (int___rmul___int_list k t l its.toArray n)
      ⟨e, rfl, ⟨_, e, rfl⟩, call_meets F.slot_list_mul ⟨_, e, rfl⟩ F.entry_list_mul (F.args_list_mul_2 _ _) (AutoListH.list___mul___list_int_3 l its.toArray n k t hfit hcap hlong) ⟨e, ?_⟩⟩)
  rw [hnew]
  exact ⟨.ref _, _, I.lnew (t' := s.toks) (r.rep k.toNat) (by rw [len_rep, Nat.mul_comm]; exact hz), rfl, q _ I.fresh⟩

end

section
variable {prog : Program} {w : World} {A : Around} {E : Value → Shared → Prop} {s : Shared}
set_option maxRecDepth 100000 in
end

section
variable {X : Cx}
end
end L2

namespace Att
open PySem PySem.W PySem.Calls PyProof.Rows

theorem ints_of_wellAll {P : Params} {h : Heap} : ∀ (ns : List Int) (vs : List Value), WellAll P h vs (ns.map WData.int) → IntsAre vs ns := by
  intro ns
  induction ns with
  | nil =>
    intro vs w
    rw [List.map_nil] at w
    cases w
    exact .nil
  | cons n ns ih =>
    intro vs w
    rw [List.map_cons] at w
    cases w with
    | cons a b =>
      cases a
      exact .cons _ _ (ih _ b)

theorem script_of {l : OpenLaw} {n : Nat} (hn : l.most = some n) {P : Params} {h : Heap} {args : List WData} {vals : List Value}
    (hpre : l.row.toRowW.claim.pre args = true) (hwl : WellAll P h vals args) :
    ∃ a vs ns, vals = [Value.ref a] ∧ args = [WData.list (ns.map WData.int)] ∧ h.get? a = some { cls := .type "list", data := .seq vs.toArray } ∧ IntsAre vs ns ∧ ns.length ≤ n := by
  have hsh : WShape.hasAll [] args [.list .int] = true := (pre_splitW hpre).1
  have hc : l.pre.holds [] { args := args } = true := (pre_splitW hpre).2
  obtain ⟨d, r, rfl, h1, h2⟩ := hasAllW_cons hsh
  obtain rfl := hasAllW_nil h2
  obtain ⟨xs, rfl, h3⟩ := hasW_list h1
  obtain ⟨ns, rfl⟩ := items_int h3
  have hlen : ns.length ≤ n := by
    unfold OpenLaw.pre at hc
    have h4 : (WTm.not (.lt (.lit (.int (n : Int))) (.len (.arg 0)))).holds [] { args := [.list (ns.map .int)] } = true := by
      have h4 := (holds_andW hc).1
      rw [hn] at h4
      exact h4
    have h5 := condW_of h4 (w_not (w_lt w_lit (w_len_list (w_arg rfl))))
    rw [List.length_map] at h5
    refine Nat.le_of_not_lt fun q => ?_
    have q' : (n : Int) < ((ns.length : Nat) : Int) := by omega
    first
      | (rw [decide_eq_true q'] at h5; exact absurd h5 (by decide))
      | (simp at h5; omega)
  cases hwl with
  | cons w1 w2 =>
    cases w2
    cases w1 with
    | list ho hall => exact ⟨_, _, ns, rfl, rfl, ho, ints_of_wellAll ns _ hall, hlen⟩

theorem post_true (l : OpenLaw) (args : List WData) : l.row.toRowW.claim.post args (.bool true) args = true :=
  postW_of (r := l.row.toRowW) (X := (true == true))
    (show WShape.has [] (.bool true) .bool = true by first | rfl | decide | simp [WShape.has, WShape.arms, WShape.armsAll])
    (show (WTm.eq .res (.lit (.bool true))).value [] { args := args, res := some (.bool true), after := args } = some (.bool (true == true)) from w_eq_bool (w_res rfl) w_lit) rfl

theorem attach_call {l : OpenLaw} {n : Nat} {q : Program} {loose : List Str} {XP : (Str → Option Value) → Heap → Prop} {YP : World → Heap → Prop} {d : DefRec}
    (hn : l.most = some n) (hdf : d.params.defaults = [])
    (call : ∀ (w : World) (s₀ s₁ : Shared) (mg mb : Str → Option Value) (fa : Addr) (o : Obj) (pm cd doc : Value) (a : Addr) (vs : List Value) (ns : List Int),
      Ground q loose [] XP w s₀ mg mb s₁.heap → YP w s₁.heap →
      s₁.heap.get? fa = some o → o.data = .func (docDef d.name d.params d.body d.scope pm cd doc) → s₁.heap.CodeRec cd d.name → mg d.name = some (.ref fa) →
      s₁.heap.get? a = some { cls := .type "list", data := .seq vs.toArray } → IntsAre vs ns → ns.length ≤ n → s₁.gens = #[] →
      codeAny (model l.prog w) callerA (.call (.ref fa) ⟨[.ref a], []⟩) (fun r s' => r = .ok (.ret (.bool true)) ∧ OldK s₁.heap s'.heap ∧ s'.os = s₁.os ∧ AllBare s'.gens) s₁) :
    WalkO q loose XP YP l.row.toRowW d [] (fun f vs => PySem.call f vs) := by
  intro w s₀ s₁ mg mb G Y fa o pm cd doc dV kV ho hd hcd hD hmg hg args vals as hpre hlay hrd hwl hlo
  obtain rfl : dV = .none := Dflts.none hD hdf
  obtain rfl : kV = .none := Dflts.noKw hD
  obtain ⟨a, vs, ns, rfl, rfl, hobj, hints, hlen⟩ := script_of hn hpre hwl
  refine enter_call (codeAny_mono (call w s₀ s₁ mg mb fa o pm cd doc a vs ns G Y ho (fd_plain hd) hcd hmg hobj hints hlen hg) fun r s' hq => ?_)
  obtain ⟨rfl, h2, h3, h4⟩ := hq
  exact ⟨.inl ⟨.bool true, .bool true, [], rfl, fun _ => rfl, .bool true, post_true l _, fun _ => ⟨List.Pairwise.nil, fun _ hm => (nomatch hm)⟩⟩, h2, h3, h4⟩

section
variable {prog : Program} {w : World} {A : Around} {E : Value → Shared → Prop} {s : Shared} {K : Frag}

noncomputable def ledger (h : Heap) (L d : Addr) : List (Addr × Obj) := (List.range h.objs.size).filterMap fun a => if a = L ∨ a = d then none else (h.get? a).map fun o => (a, o)
end
end Att

namespace L2
open PySem PySem.Spec PyProof.Rows

theorem vals_ints : ∀ {vs : List Value} {ns : List Int}, IntsAre vs ns → Vals (ns.map V.int) vs
  | _, _, .nil => .nil
  | _, _, .cons n t h => .cons ⟨t, rfl⟩ (vals_ints h)

noncomputable def Only (H : Hp) : Prop := ∀ b, H b = none ∨ ∃ o xs, H b = some (.frz o (.lst xs))

theorem law_call {P : Program} {w : World} {K : PySem.W.Frag} {mg mb : Str → Option Value} {CX : CXT} {k : Nat} {fa a : Addr} {fd : FuncData} {x : Str} {sp : Sp} {s₁ : Shared} {vs : List Value} {ns : List Int}
    (KX : K.In s₁.heap) (hns : s₁.heap.Ns mainGlobals mg) (hb : s₁.heap.Ns builtinsNs mb) (hbb : ∀ x : Str, x ≠ "__name__" → mb x = bootBuiltins x) (hlim : s₁.heap.NoLimit) (hg : s₁.gens = #[])
    (ha : s₁.heap.get? a = some { cls := .type "list", data := .seq vs.toArray }) (hi : IntsAre vs ns) (hl : ns.length ≤ sizeLine) (hr : Room k callerA)
    (F : ∀ base : Heap, K.In base → base.Ns mainGlobals mg → FnOk P w K mg base CX k fa fd [x] sp) (hbind : ∀ (s : Shared) (u : Value), BindsTo s fd ⟨[u], []⟩ [(x, u)])
    (hsp : ∀ H : Hp, Only H → SqL K H a (ns.map V.int) → sp [.ref a] H (fun v _ => v = .bl true) fun _ _ _ => False)
    (hCX : ∀ H e s', CX [] H s₁ (fun _ _ _ => False) e s' → False) :
    codeAny (model P w) callerA (.call (.ref fa) ⟨[.ref a], []⟩) (fun r s' => r = .ok (.ret (.bool true)) ∧ OldK s₁.heap s'.heap ∧ s'.os = s₁.os ∧ AllBare s'.gens) s₁ := by
  have rv := vals_ints hi
  have lenV := hi.length
  -- from an abstract heap in which nothing but the script may be tracked
  have core : ∀ H : Hp, Only H → SqL K H a (ns.map V.int) → HOk P w H s₁.heap → (∀ b, H b ≠ none → b = a) → (H a ≠ none → K.lookup a = none) →
      codeAny (model P w) callerA (.call (.ref fa) ⟨[.ref a], []⟩) (fun r s' => r = .ok (.ret (.bool true)) ∧ OldK s₁.heap s'.heap ∧ s'.os = s₁.os ∧ AllBare s'.gens) s₁ := by
    intro H hO hS hok hA hK
    have base_of : ∀ {b : Addr} {o : Obj}, s₁.heap.get? b = some o → H b = none → (hidT s₁.heap H).get? b = some o := fun e n => hidT_get e n
    have noA : ∀ {b : Addr} {o : Obj} {es : Array DictEntry} {ep : Nat}, s₁.heap.get? b = some o → o.data = .dict es ep → H b = none := fun {b o es ep} e d => by
      cases q : H b with
      | none => rfl
      | some u =>
        have e' : b = a := hA b (by rw [q]; simp)
        subst e'
        rw [ha] at e; cases e
        have d' : Data.seq vs.toArray _ = Data.dict es ep := d
        cases d'
    have nsK : ∀ {b : Addr} {m : Str → Option Value}, s₁.heap.Ns b m → (hidT s₁.heap H).Ns b m := fun {b m} ⟨o, es, ep, e, d, r⟩ => ⟨o, es, ep, base_of e (noA e d), d, r⟩
    have hKb : K.In (hidT s₁.heap H) := fun b o e => base_of (KX b o e) (by
      cases q : H b with
      | none => rfl
      | some u =>
        have e' : b = a := hA b (by rw [q]; simp)
        subst e'
        rw [hK (by rw [q]; simp)] at e; cases e)
    have hM : Mod K mg (hidT s₁.heap H) := ⟨hKb, nsK hns, ⟨mb, nsK hb, hbb⟩, let ⟨mc, h1, h2⟩ := hlim; ⟨mc, nsK h1, h2⟩⟩
    have e0 : Env0 P w K mg (hidT s₁.heap H) callerA [] s₁ H := ⟨rfl, hM, fun b o e => of_hidT e, Nat.le_of_eq (hidT_size _ _), trivial, fun b hb => absurd (show b ∈ ([] : List Addr) from hb) (by simp), hok, .of_eq hg⟩
    refine codeAny_mono ((F _ hKb (nsK hns)).run callerA [] s₁ H ⟨[.ref a], []⟩ [.ref a] [.ref a] _ _ hr e0 (hbind s₁ (.ref a)) (.cons rfl .nil) (hsp H hO hS)) fun r s' h => ?_
    cases r with
    | error e => exact (hCX H e s' h).elim
    | ok fl =>
      cases fl with
      | next => exact False.elim h
      | brk => exact False.elim h
      | cont => exact False.elim h
      | ret u =>
        obtain ⟨v, H', os, bare, un, hok', r', q⟩ := h
        have q' : v = .bl true := q
        subst q'
        obtain rfl : u = Value.bool true := r'
        refine ⟨rfl, OldK.of_keep fun b o e => ?_, os, bare⟩
        cases q : H b with
        | none => exact un.keep b o e q (by intro z; exact absurd (show b ∈ ([] : List Addr) from z) (by simp)) (by simp)
        | some u =>
          rcases hO b with z | ⟨ob, xs, z⟩
          · rw [q] at z; cases z
          · have z2 := un.frzs b ob _ z
            obtain ⟨e1, _⟩ := hok b _ z
            obtain ⟨e2, _⟩ := hok' b _ z2
            rw [e] at e1; cases e1
            exact e2
  cases hk : K.lookup a with
  | some o =>
    -- the script is one of the module's own objects
    have e := KX a o hk
    rw [ha] at e
    cases e
    refine core (fun _ => none) (fun _ => .inl rfl) (.inr ⟨_, vs.toArray, _, hk, rfl, rfl, rfl, by rw [List.size_toArray, lenV]; exact hl, by simpa using rv⟩) (fun b u z => by have z' : (none : Option HO) = some u := z; cases z') (fun b z => absurd rfl z) fun z => absurd rfl z
  | none =>
    refine core (fun b => if b = a then some (.frz { cls := .type "list", data := .seq vs.toArray } (.lst (ns.map V.int))) else none) (fun b => ?_) (.inl (.inr ⟨{ cls := .type "list", data := .seq vs.toArray }, if_pos rfl⟩)) (fun b u z => ?_) (fun b z => ?_) fun _ => hk
    · by_cases hb : b = a
      · exact .inr ⟨_, _, if_pos hb⟩
      · exact .inl (if_neg hb)
    · by_cases hb : b = a
      · have z' := (if_pos hb).symm.trans z
        cases z'
        subst hb
        exact ⟨ha, by rw [List.length_map]; exact hl, vs, _, rv, ha⟩
      · have z' := (if_neg hb).symm.trans z
        cases z'
    · by_cases hb : b = a
      · exact hb
      · exact absurd (if_neg hb) z
end L2

namespace L2
open PySem PySem.Spec PyProof.Rows

noncomputable abbrev KOf {K : PySem.W.Frag} {h : Heap} (_ : K.In h) : PySem.W.Frag := K

theorem walk_of {l : PySem.W.OpenLaw} {n k : Nat} {q : Program} {loose : List Str} {XP : (Str → Option Value) → Heap → Prop} {YP : World → Heap → Prop} {d : DefRec} {K : Params → PySem.W.Frag} {CX : World → CXT} {sp : World → Sp} {x : Str}
    (hn : l.most = some n) (hn2 : n ≤ sizeLine) (hdf : d.params.defaults = []) (hr : Room k callerA)
    (hY : ∀ (w : World) (h : Heap), YP w h → (K w.params).In h)
    (F : ∀ (w : World) (mg : Str → Option Value) (fa : Addr) (h : Heap), (K w.params).In h → h.Ns mainGlobals mg → mg d.name = some (.ref fa) →
      ∃ fd : FuncData, (∀ (s : Shared) (u : Value), BindsTo s fd ⟨[u], []⟩ [(x, u)]) ∧
        ∀ base : Heap, (K w.params).In base → base.Ns mainGlobals mg → FnOk l.prog w (K w.params) mg base (CX w) k fa fd [x] (sp w))
    (hsp : ∀ (w : World) (H : Hp) (a : Addr) (ns : List Int), ns.length ≤ n → Only H → SqL (K w.params) H a (ns.map V.int) → sp w [.ref a] H (fun v _ => v = .bl true) fun _ _ _ => False)
    (hCX : ∀ (w : World) (H : Hp) (s : Shared) (e : Value) (s' : Shared), CX w [] H s (fun _ _ _ => False) e s' → False) :
    PySem.W.WalkO q loose XP YP l.row.toRowW d [] (fun f vs => PySem.call f vs) := by
  refine Att.attach_call hn hdf fun w s₀ s₁ mg mb fa o pm cd doc a vs ns G Y ho hd hcd hmg hobj hints hlen hg => ?_
  have KX := hY w _ Y
  obtain ⟨fd, hb, hF⟩ := F w mg fa _ KX G.T.g hmg
  exact law_call KX G.T.g G.T.b G.T.builtins G.T.nolimit hg hobj hints (Nat.le_trans hlen hn2) hr hF hb (fun H hO hS => hsp w H a ns hlen hO hS) fun H e s' => hCX w H s₁ e s'
end L2


namespace L2
open PySem PySem.Spec PyProof.Rows

noncomputable def inClass (s : Stmt) (j : Nat) : Stmt := match s with
  | .ClassDef _ _ _ body _ _ _ _ _ _ _ => body.getD j (.Pass ⟨0, 0, 0, 0⟩)
  | _ => .Pass ⟨0, 0, 0, 0⟩
noncomputable def defArgs (s : Stmt) : Arguments := match s with
  | .FunctionDef _ a _ _ _ _ _ _ _ _ => a
  | _ => { posonlyargs := [], args := [], vararg := none, kwonlyargs := [], kw_defaults := [], kwarg := none, defaults := [] }
noncomputable def defBody (s : Stmt) : List Stmt := match s with
  | .FunctionDef _ _ b _ _ _ _ _ _ _ => b
  | _ => []
noncomputable def defScope (s : Stmt) : Scope := match s with
  | .FunctionDef _ _ _ _ _ _ sc _ _ _ => sc
  | _ => { kind := .function, names := [], isGenerator := false, isCoroutine := false }

noncomputable abbrev CX0 : CXT := fun _ _ _ _ _ _ => False
noncomputable abbrev E0 : XK := fun _ _ _ => False
theorem pass0 {X : Cx} : Passes CX0 X E0 := fun _ _ _ _ _ _ _ h => h.elim

structure Fun (K : PySem.W.Frag) (x qual : Str) (st : Stmt) (f : Addr) (fd : FuncData) : Prop where
  ex : ∃ (oc : Value) (od : Option Addr) (kV doc pm : Value) (an : Option Addr) (cdv ct : Value) (osl : Array (Option Value)),
    fd = PySem.W.fnOf x qual (defArgs st) (defBody st) (defScope st) .none kV doc pm an cdv ct ∧ K.lookup f = some ⟨oc, od, .func fd, osl⟩ ∧ PySem.W.codeIn K cdv qual = true
  kp : PySem.W.keepIn K (.ref f) = true
section
variable {P : Program} {w : World} {K : PySem.W.Frag} {mg : Str → Option Value} {base : Heap}
theorem Fun.ok {x qual : Str} {st : Stmt} {f : Addr} {fd : FuncData} {N ps : List Str} {k : Nat} {sp : Sp} (F : Fun K x qual st f fd) (S : FnScope N ps (defScope st)) (len : ∀ vs H Q E, sp vs H Q E → vs.length = ps.length)
    (hbody : ∀ (cdv : Value) (A : Around) (outer : List Env) (s : Shared) (H : Hp) (vs : List V) (Q : VK) (E : XK), Room k (A.deeper (envOfC qual (defScope st) s.heap.objs.size f cdv)) → sp vs H Q E →
      ∃ t, PSs (cxOf CX0 P w K mg base N qual (defScope st) f cdv A outer s H E).nox (defBody st) t ∧ t { nx := fun _ H' => Q .non H', rt := Q } (start N vs) H) : FnOk P w K mg base CX0 (k + 1) f fd ps sp := by
  obtain ⟨oc, od, kV, doc, pm, an, cdv, ct, osl, rfl, lk, hcd⟩ := F.ex
  refine fn_of lk hcd S len fun A outer s H vs Q E hr hsp => ?_
  obtain ⟨t, h, q⟩ := hbody cdv A outer s H vs Q E hr hsp
  exact ⟨t, h.nox, q⟩
theorem Fun.binds {x qual : Str} {st : Stmt} {f : Addr} {fd : FuncData} {ps : List Str} (F : Fun K x qual st f fd)
    (h : ∀ (kV doc pm : Value) (an : Option Addr) (cdv ct : Value) (us : List Value), us.length = ps.length → bindArgs (PySem.W.fnOf x qual (defArgs st) (defBody st) (defScope st) .none kV doc pm an cdv ct) ⟨us, []⟩ = pure (ps.zip us)) : Binds K fd ps [] := by
  obtain ⟨oc, od, kV, doc, pm, an, cdv, ct, osl, rfl, lk, hcd⟩ := F.ex
  exact .all (h kV doc pm an cdv ct)
theorem fun_mk {x qual : Str} {st : Stmt} {f : Addr} {oc : Value} {od an : Option Addr} {osl : Array (Option Value)} {kV doc pm cdv ct : Value} (l : K.lookup f = some ⟨oc, od, .func (PySem.W.fnOf x qual (defArgs st) (defBody st) (defScope st) .none kV doc pm an cdv ct), osl⟩)
    (c : PySem.W.codeIn K cdv qual = true) (k : PySem.W.keepIn K (.ref f) = true) : Fun K x qual st f (PySem.W.fnOf x qual (defArgs st) (defBody st) (defScope st) .none kV doc pm an cdv ct) := ⟨⟨oc, od, kV, doc, pm, an, cdv, ct, osl, rfl, l, c⟩, k⟩
end
theorem small1000 {n : Nat} (h : n ≤ 1000) : n < sizeLine := Nat.lt_of_le_of_lt h (by decide)

section
variable {X : Cx}
theorem pv (i : Nat) {x : Str} {pos : Pos} (hN : X.N[i]? = some x := by rfl) (hv : Vis X.env.scope x := by first | exact Or.inl rfl | exact Or.inr (Or.inl rfl) | exact Or.inr (Or.inr rfl)) (hd : (x == ("__debug__" : Str)) = false := by decide)
    (hcd : (x == ("__classdict__" : Str)) = false := by decide) : PE X (.Name x pos) (tVar i) := pe_var hN hv hd hcd
end

theorem iteF {A B : Prop} (h : B) : if false = true then A else B := by
  rw [if_neg Bool.false_ne_true]
  exact h
theorem iteT {A B : Prop} (h : A) : if true = true then A else B := by
  rw [if_pos rfl]
  exact h
theorem ite2 {c A B : Prop} [Decidable c] (h1 : c → A) (h2 : ¬ c → B) : if c then A else B := by
  by_cases h : c
  · rw [if_pos h]
    exact h1 h
  · rw [if_neg h]
    exact h2 h
noncomputable def Same (H H' : Hp) : Prop := ∀ b o, H b = some o → H' b = some o
theorem Same.refl (H : Hp) : Same H H := fun _ _ h => h
theorem Same.trans {H H1 H2 : Hp} (a : Same H H1) (b : Same H1 H2) : Same H H2 := fun c o h => b c o (a c o h)
theorem Same.free {H H' : Hp} (e : Same H H') {l : Addr} (h : H' l = Option.none) : H l = Option.none := by
  cases q : H l with
  | none => rfl
  | some o =>
    rw [e l o q] at h
    cases h
theorem Same.seq {K : PySem.W.Frag} {H H' : Hp} {a : Addr} {xs : List V} (e : Same H H') (h : SqL K H a xs) : SqL K H' a xs := by
  rcases h with (h | ⟨o, h⟩) | h
  · exact .inl (.inl (e _ _ h))
  · exact .inl (.inr ⟨o, e _ _ h⟩)
  · exact .inr h

end L2

set_option maxHeartbeats 4000000
namespace L2
open PySem PySem.Spec PyProof.Rows

noncomputable def clOf (env : Env) : List (Str × NameKind) → List (Str × Addr) → List (Str × Addr)
  | [], cs => cs
  | (n, k) :: r, cs => clOf env r (if k == .free then (n, (env.cells.lookup n).getD 0) :: cs else cs)
theorem clOf_lookup {env : Env} {n : Str} {c : Addr} : ∀ {l : List (Str × NameKind)} {cs : List (Str × Addr)}, (∀ y ∈ l, y.2 = .free → ∃ c, env.cells.lookup y.1 = some c) →
    (clOf env l cs).lookup n = some c → cs.lookup n = some c ∨ env.cells.lookup n = some c
  | [], _, _, h => .inl h
  | (m, k) :: r, cs, hl, h => by
    have hr : ∀ y ∈ r, y.2 = .free → ∃ c, env.cells.lookup y.1 = some c := fun y hy => hl y (List.mem_cons_of_mem _ hy)
    rcases clOf_lookup hr h with q | q
    · by_cases hk : (k == NameKind.free) = true
      · rw [if_pos hk] at q
        obtain ⟨c', e⟩ := hl (m, k) List.mem_cons_self (by simpa using hk)
        rw [List.lookup_cons] at q
        cases hm : n == m with
        | true =>
          rw [hm] at q
          have q' : (env.cells.lookup m).getD 0 = c := Option.some.inj q
          have em : n = m := by simpa using hm
          rw [e] at q'
          have q2 : c' = c := q'
          rw [em, e, q2]
          exact .inr rfl
        | false =>
          rw [hm] at q
          exact .inl q
      · rw [if_neg hk] at q
        exact .inl q
    · exact .inr q
theorem clOf_has {env : Env} {n : Str} : ∀ {l : List (Str × NameKind)} {cs : List (Str × Addr)}, ((n, NameKind.free) ∈ l ∨ ∃ c, cs.lookup n = some c) → ∃ c, (clOf env l cs).lookup n = some c
  | [], _, h => by
    rcases h with h | h
    · simp at h
    · exact h
  | (m, k) :: r, cs, h => by
    refine clOf_has (l := r) ?_
    by_cases hn : (n, NameKind.free) ∈ r
    · exact .inl hn
    · refine .inr ?_
      rcases h with h | ⟨c, h⟩
      · rcases List.mem_cons.mp h with e | e
        · cases e
          rw [if_pos (by decide)]
          exact ⟨(env.cells.lookup n).getD 0, by rw [List.lookup_cons]; simp⟩
        · exact absurd e hn
      · by_cases hk : (k == NameKind.free) = true
        · rw [if_pos hk, List.lookup_cons]
          cases hm : n == m with
          | true => exact ⟨_, rfl⟩
          | false => exact ⟨c, h⟩
        · rw [if_neg hk]
          exact ⟨c, h⟩
theorem closure_is {scope : Scope} {env : Env} (h : ∀ y ∈ scope.names, y.2 = .free → ∃ c, env.cells.lookup y.1 = some c) : closureFor scope env = pure (clOf env scope.names []) := by
  have go : ∀ (l : List (Str × NameKind)) (cs : List (Str × Addr)), (∀ y ∈ l, y.2 = .free → ∃ c, env.cells.lookup y.1 = some c) →
      (forIn l cs (fun (x : Str × NameKind) (r : List (Str × Addr)) => if x.2 == NameKind.free then (do let a ← cellOf env x.1; pure (ForInStep.yield ((x.1, a) :: r))) else (pure (ForInStep.yield r) : Sem _)) : Sem _) = pure (clOf env l cs) := by
    intro l
    induction l with
    | nil => intro cs _; rfl
    | cons y r ih =>
      intro cs hl
      obtain ⟨n, k⟩ := y
      have hr : ∀ y ∈ r, y.2 = .free → ∃ c, env.cells.lookup y.1 = some c := fun y hy => hl y (List.mem_cons_of_mem _ hy)
      rw [List.forIn_cons]
      by_cases hk : (k == NameKind.free) = true
      · obtain ⟨c, e⟩ := hl (n, k) List.mem_cons_self (by simpa using hk)
        have e1 : cellOf env n = pure c := by unfold cellOf; rw [show env.cells.lookup n = some c from e]
        dsimp only
        rw [if_pos hk, e1]
        simp only [pure_bind]
        rw [ih _ hr]
        show _ = pure (clOf env r _)
        rw [if_pos hk, show env.cells.lookup n = some c from e]
        all_goals rfl
      · dsimp only
        rw [if_neg hk]
        simp only [pure_bind]
        rw [ih _ hr]
        show _ = pure (clOf env r _)
        rw [if_neg hk]
  have e : closureFor scope env = (forIn scope.names ([] : List (Str × Addr)) (fun (x : Str × NameKind) (r : List (Str × Addr)) => if x.2 == NameKind.free then (do let a ← cellOf env x.1; pure (ForInStep.yield ((x.1, a) :: r))) else (pure (ForInStep.yield r) : Sem _)) : Sem _) := by
    unfold closureFor
    first
      | rfl
      | (simp only [bind_pure]; rfl)
      | (simp; done)
  rw [e]
  exact go _ _ h

theorem relabel_free {env : Env} : ∀ {names : List (Str × NameKind)} {x : Str}, names.lookup x = some .free →
    (names.map fun (n, k) => if (k == NameKind.free && env.scope.kind == .function && env.kindOf n == some .cell) then (n, NameKind.cell) else (n, k)).lookup x = some .cell ∨
    (names.map fun (n, k) => if (k == NameKind.free && env.scope.kind == .function && env.kindOf n == some .cell) then (n, NameKind.cell) else (n, k)).lookup x = some .free
  | [], _, h => by simp at h
  | (n, k) :: r, x, h => by
    have ih := @relabel_free env r x
    cases hx : x == n with
    | true =>
      simp only [List.lookup_cons, hx] at h
      cases h
      by_cases hc : (NameKind.free == NameKind.free && env.scope.kind == .function && env.kindOf n == some .cell) = true
      · refine .inl ?_
        rw [List.map_cons]
        dsimp only
        rw [if_pos hc, List.lookup_cons, hx]
      · refine .inr ?_
        rw [List.map_cons]
        dsimp only
        rw [if_neg hc, List.lookup_cons, hx]
    | false =>
      simp only [List.lookup_cons, hx] at h
      rw [List.map_cons]
      dsimp only
      by_cases hc : (k == NameKind.free && env.scope.kind == .function && env.kindOf n == some .cell) = true
      · rw [if_pos hc, List.lookup_cons, hx]; exact ih h
      · rw [if_neg hc, List.lookup_cons, hx]; exact ih h
structure CompOk (X : Cx) (scope : Scope) (x : Str) (fr : List (Str × Nat)) : Prop where
  kind : scope.kind = .function
  cell : ∀ y ∈ scope.names, y.2 ≠ .cell
  free : ∀ y ∈ scope.names, y.2 = .free → X.env.kindOf y.1 = some .cell ∨ X.env.kindOf y.1 = some .free
  loc : ∀ y ∈ scope.names, y.2 = .local → scope.names.lookup y.1 = some .local
  name : scope.names.lookup x = some .local
  nd : (x :: fr.map (·.1)).Nodup
  fr : ∀ p ∈ fr, X.N[p.2]? = some p.1 ∧ scope.names.lookup p.1 = some .free

noncomputable def frees (fr : List (Str × Nat)) (σ : St) : St := fr.map fun p => σ.getD p.2 none
section
variable {X : Cx} {scope : Scope} {x : Str} {fr : List (Str × Nat)}
theorem CompOk.cells {pins : List (Addr × Obj)} {σ : St} {H : Hp} {s : Shared} (c : CompOk X scope x fr) (I : Inv X pins σ H s) : ∀ y ∈ scope.names, y.2 = .free → ∃ c, X.env.cells.lookup y.1 = some c :=
  fun y hy hf => I.ok.has y.1 (c.free y hy hf)
theorem CompOk.was {pins : List (Addr × Obj)} {σ : St} {H : Hp} {s : Shared} (c : CompOk X scope x fr) (I : Inv X pins σ H s) {y : Str} {b : Addr} (h : (clOf X.env scope.names []).lookup y = some b) : X.env.cells.lookup y = some b := by
  rcases clOf_lookup (c.cells I) h with q | q
  · simp at q
  · exact q

noncomputable def tSetC (i : Nat) (te : TE) : TS := fun D σ H => te σ H fun v H1 => D.nx (σ.set i (some v)) H1
end

section
variable {K : PySem.W.Frag} {b a : Addr} {xs : List V} {te : TE} {fr : List (Str × Nat)} {σ : St} {H : Hp} {Q : VK}
end
end L2

namespace L2
open PySem PySem.Spec PyProof.Rows

theorem ObjOk.there {P : Program} {w : World} {H : Hp} {h : Heap} {a : Addr} {o : HO} (x : ObjOk P w H h a o) : ∃ ob, h.get? a = some ob := by
  cases o with
  | lst xs => obtain ⟨_, _, _, _, e⟩ := x; exact ⟨_, e⟩
  | tup xs => obtain ⟨_, _, _, ob, e, _⟩ := x; exact ⟨ob, e⟩
  | dK kvs => obtain ⟨_, _, _, _, o, _, _, e, _⟩ := x; exact ⟨_, e⟩
  | dT kvs => obtain ⟨_, _, _, _, o, _, _, e, _⟩ := x; exact ⟨_, e⟩
  | set S n => obtain ⟨o, _, _, _, e, _⟩ := x; exact ⟨_, e⟩
  | ins C dx fs => obtain ⟨_, _, _, e, _⟩ := x; exact ⟨_, e⟩
  | own y => exact x
  | xd fs => obtain ⟨_, ⟨_, _, _, e, _⟩, _⟩ := x; exact ⟨_, e⟩
  | rng lo hi => obtain ⟨_, _, _, e⟩ := x; exact ⟨_, e⟩
  | frz ob u => exact ⟨_, x.1⟩
  | tbl ps => exact ⟨_, x⟩
  | met f y => exact ⟨_, x⟩
  | ext φ => exact x.2.1

noncomputable abbrev Cov (fs : List Addr) (h₀ : Heap) (H : Hp) (h B : Heap) : Prop := ∀ b o, h.get? b = some o → b ∉ fs → ((∃ o', h₀.get? b = some o') ∨ ∃ u, H b = some u) → B.get? b = some o
noncomputable def CX1 (P : Program) (w : World) : CXT := fun outer H s E ev s' => ∃ e C H' B a0, ev = .ref e ∧ s'.os = s.os ∧ AllBare s'.gens ∧ Un (frs outer) [] H H' s.heap s'.heap ∧ HOk P w H' s'.heap ∧
  Heap.FlyingW B outer e C a0 s'.heap ∧ Cov (frs outer) s.heap H' s'.heap B ∧ E C none H'
noncomputable abbrev XE := St → Value → Hp → Prop
noncomputable def LandsN (X : Cx) (EX : XE) : Prop := ∀ (pins : List (Addr × Obj)) (σ : St) (H : Hp) (s : Shared) (h' : Heap) (e : Addr) (C : Value) (vs : List Value), Inv X pins σ H s → Heap.MadeExcOf s.heap h' e C vs → EX σ C H → X.xe (.ref e) { s with heap := h' }

theorem fly_out {X : Cx} {pins : List (Addr × Obj)} {σ : St} {H : Hp} {s : Shared} {h'' B : Heap} (I : Inv X pins σ H s) (hst : X.stack = X.env :: X.outer) (hfr : X.env.frame = some X.env.locals) (hex : X.ex = [])
    (stay : B.StaysIn h'') (sm : s.heap.UpToSlots h'') (cov : Cov (frs X.stack) X.s₀.heap H s.heap B) :
    Un X.fs [] X.H₀ H X.s₀.heap h'' ∧ HOk X.prog X.w H h'' ∧ Cov X.fs X.s₀.heap H h'' B := by
  have u := I.base
  rw [hex] at u
  have hfs : frs X.stack = X.env.locals :: X.fs := by
    rw [hst]
    unfold frs
    rw [List.filterMap_cons, hfr]
    rfl
  have old : ∀ b o, X.s₀.heap.get? b = some o → b ∉ X.fs → b ∉ frs X.stack := fun b o e hb hm => by
    rw [hfs] at hm
    rcases List.mem_cons.mp hm with z | z
    · exact absurd (Nat.lt_of_lt_of_le (Heap.lt_size e) I.ok.above) (by rw [z]; exact Nat.lt_irrefl _)
    · exact hb z
  have trk : ∀ b v, H b = some v → b ∉ frs X.stack := fun b v e hm => by
    have := I.stkFree b hm
    rw [e] at this
    cases this
  have keepO : ∀ b o, s.heap.get? b = some o → b ∉ frs X.stack → ((∃ o', X.s₀.heap.get? b = some o') ∨ ∃ v, H b = some v) → h''.get? b = some o := fun b o e hb hc => stay b o (cov b o e hb hc)
  have frm : ∀ b, b ∈ X.fs → ∀ o, s.heap.get? b = some o → ∃ sl, h''.get? b = some { o with slots := sl } := fun b hb o e => by
    obtain ⟨_, o', e', nf⟩ := I.funs.mem hb
    rw [e] at e'
    cases e'
    exact sm b o e nf
  refine ⟨⟨fun b o e n hb hx => ?_, fun b o e n hb hx => ?_, u.free, fun b o e hx => ?_, u.tups, u.frzs, u.tbls⟩, fun a o ha => ?_, fun b o e hb hc => ?_⟩
  · exact keepO b o (u.keep b o e n hb hx) (old b o e hb) (.inl ⟨o, e⟩)
  · obtain ⟨sl, e1⟩ := u.slot b o e n hb hx
    obtain ⟨sl', e2⟩ := frm b hb _ e1
    exact ⟨sl', e2⟩
  · obtain ⟨o1, e1⟩ := u.there b o e hx
    by_cases hb : b ∈ X.fs
    · obtain ⟨sl, e2⟩ := frm b hb _ e1
      exact ⟨_, e2⟩
    · exact ⟨o1, keepO b o1 e1 (old b o e hb) (.inl ⟨o, e⟩)⟩
  · refine (I.hok a o ha).stay (fun b v hb q => ?_) (fun _ q => q) fun _ _ q => q
    rcases hb with hb | hb
    · subst hb
      exact keepO b v q (trk b o ha) (.inr ⟨o, ha⟩)
    · exact keepO b v q (trk b _ hb) (.inr ⟨_, hb⟩)
  · rcases hc with ⟨o', e'⟩ | ⟨v, e'⟩
    · obtain ⟨o1, e1⟩ := u.there b o' e' (by simp)
      have q := keepO b o1 e1 (old b o' e' hb) (.inl ⟨o', e'⟩)
      rw [e] at q
      cases q
      exact cov b o e1 (old b o' e' hb) (.inl ⟨o', e'⟩)
    · obtain ⟨o1, e1⟩ := (I.hok b v e').there
      have q := keepO b o1 e1 (trk b v e') (.inr ⟨v, e'⟩)
      rw [e] at q
      cases q
      exact cov b o e1 (trk b v e') (.inr ⟨v, e'⟩)

section
variable {P : Program} {w : World} {K : PySem.W.Frag} {mg : Str → Option Value} {base : Heap} {N : List Str} {qual : Str} {scope : Scope} {f : Addr} {cd : Value} {A : Around} {outer : List Env} {s₀ : Shared} {H₀ : Hp} {E : XK}
theorem landsN_def : LandsN (cxOf (CX1 P w) P w K mg base N qual scope f cd A outer s₀ H₀ E) (fun _ C H => E C none H) := by
  intro pins σ H s h' e C vs I M hE
  have hfu := I.stack
  have hid := PySem.W.funFrames_hide (as := frs (cxOf (CX1 P w) P w K mg base N qual scope f cd A outer s₀ H₀ E).stack) hfu (fun env he a ha => List.mem_filterMap.mpr ⟨env, he, ha⟩)
  refine wpAny_leaves_madeW (s := { s with heap := h' }) (h := s.heap) I.ok.frames rfl (fun b o q => PySem.W.of_hideAll _ q) hid M fun h'' t fl'' _ _ sm => ?_
  obtain ⟨un, ok, cv⟩ := fly_out I rfl rfl rfl fl''.1 ((Heap.UpToSlots.of_keeps M.keeps).trans sm) fun b o q hb _ => PySem.W.hideAll_get _ q hb
  exact ⟨e, C, H, _, _, rfl, I.os, I.bare, un, ok, fl'', cv, hE⟩
end

section
variable {X : Cx} {EX : XE} {k : Nat} {f : Addr} {fd : FuncData} {ps : List Str} {sp : Sp} {dvs : List V} {ds : List Value} {x : Str} {p pos : Pos} {e : Expr} {es : List Expr} {t : TA}
noncomputable def tCallX (sp : Sp) (dvs : List V) (EX : XE) (t : TA) : TE := fun σ H Q => t σ H fun vs H1 => sp (vs ++ dvs) H1 Q fun C _ H' => EX σ C H'
theorem passes1 {P : Program} {w : World} {Y : Cx} : Passes (CX1 P w) Y E0 := fun _ _ _ _ _ _ _ h => by
  obtain ⟨_, _, _, _, _, _, _, _, _, _, _, _, q⟩ := h
  exact q.elim
end

theorem excObj {K : PySem.W.Frag} {h : Heap} {C : Addr} {bmB : List Value} {newId : String} (KX : K.In h) (hq : PySem.W.excIn K C bmB newId = true) :
    ∃ bm N nm qn bs hd sn sub ab col dd k0 k1 k2 k3 k5 mN, h.get? C = some (excClassObj nm qn C N bs bm hd sn sub ab col dd k0 k1 k2 k3 k5 newId) ∧ h.Ns N mN ∧ mN "__init__" = none ∧ OwnTail h bmB bm := by
  revert hq
  unfold PySem.W.excIn
  split
  · next dd cd sl lk =>
    split
    · next C1 bm k0 k1 k2 k3 nw k5 em es =>
      intro hq
      simp only [Bool.and_eq_true, beq_iff_eq, Bool.not_eq_true'] at hq
      obtain ⟨⟨⟨⟨⟨e1, e2⟩, e3⟩, e4⟩, e5⟩, e6⟩ := hq
      subst e1 e2
      cases cd with
      | mk nm bs mro ns qn hd sn sub ab col del =>
        have em' : mro = Value.ref C1 :: bm := em
        have e3' : del = false := e3
        subst em' e3'
        have esl : sl = #[k0, k1, k2, k3, some (Value.builtin nw), k5] := by
          cases sl with
          | mk l => exact congrArg Array.mk es
        subst esl
        exact ⟨bm, ns, nm, qn, bs, hd, sn, sub, ab, col, dd, k0, k1, k2, k3, k5, _, KX _ _ lk, Heap.Ns.of_isNs (PySem.W.isNs_of_in KX e5), PySem.W.nsMap_none_of_in KX e5 e6, PySem.W.tail_of_in KX e4⟩
    · intro z; cases z
  · intro z; cases z
theorem OwnTail.up {h h' : Heap} {bmB bm : List Value} (T : OwnTail h bmB bm) (k : ∀ b o, h.get? b = some o → h'.get? b = some o) : OwnTail h' bmB bm := T.keeps k

section
variable {X : Cx} {EX : XE} {C : Addr} {x : Str} {np cpos pos : Pos} {e₀ : Expr} {rest : List Expr} {t : TA} {bmB : List Value} {B newId initId : String}
noncomputable def tRaise (C : Addr) (EX : XE) (t : TA) : TS := fun _ σ H => t σ H fun vs H1 => vs.length ≤ sizeLine ∧ EX σ (.ref C) H1
theorem ps_raise (hc : X.calm = true) (hx : LandsN X EX) (hg : Gl X x) (hm : X.mg x = some (.ref C)) (hC : PySem.W.excIn X.K C bmB newId = true) (FB : ExcBaseFacts B newId initId bmB) (ha : PA X (e₀ :: rest) t)
    (hdb : (x == ("__debug__" : Str)) = false := by decide) (he : starEach (e₀ :: rest) X.env = (false, eval e₀ X.env) :: starEach rest X.env := by rfl) (hpl : (backTo cpos (starEach rest X.env)).any (·.1) = false := by rfl) :
    PS X (.Raise (some (.Call (.Name x np) (e₀ :: rest) [] cpos)) none pos) (tRaise C EX t) := by
  intro pins s σ H D I h
  obtain ⟨bm, N, nm, q, bs, hd, sn, sub, ab, col, dd, k0, k1, k2, k3, k5, mN, hcls, hns, hni, T⟩ := excObj I.mod.kin hC
  have hpl' : (backTo cpos (starEach (e₀ :: rest) X.env)).any (·.1) = false := by
    rw [he]
    show (false || (backTo cpos (starEach rest X.env)).any (·.1)) = false
    rw [hpl]
    rfl
  refine wpAny_Raise_call_subT (C := C) (nm := nm) (q := q) (N := N) (bs := bs) (bm := bm) (hdct := hd) (sn := sn) (sub := sub) (ab := ab) (col := col) (dd := dd) (k0 := k0) (k1 := k1) (k2 := k2) (k3 := k3) (k5 := k5) FB (mN := mN) (T.hasType FB.hasBase) (I.ok.hd hc) hpl' hni
    (ld_glob I hg hm ⟨rfl, ?_⟩ hdb)
  have hw := ha cpos pins s σ H _ I h
  rw [he] at hw ⊢
  refine Calls.evalArgs_plain (thn hw fun us s2 ⟨vs, H2, I2, r, z, q2⟩ => ⟨rfl, ?_, I2.bk _ _ hcls, hns.keeps I2.bk, T.keeps I2.bk, fun h' e M => hx pins σ H2 s2 h' e _ us I2 M q2⟩)
  show us.length ≤ sizeLine
  rw [← r.length]
  exact z
end

section
variable {X : Cx} {pins : List (Addr × Obj)} {σ : St} {H : Hp} {s : Shared}
noncomputable def ExcAt (e : Addr) (C : Value) : HO := .ext fun h => ∃ o, h.get? e = some o ∧ o.cls = C
end

noncomputable abbrev Cx.body (X : Cx) (pn : List (Addr × Obj)) (E : Value → Shared → Prop) : Cx := { X with pn := pn, xe := E }
noncomputable abbrev Cx.suite (X : Cx) (e : Addr) : Cx := { X with A := X.A.mark (some (.ref e)), calm := false, xe := fun _ _ => False }
section
variable {X : Cx} {pins pins' : List (Addr × Obj)} {σ : St} {H : Hp} {s : Shared} {E : Value → Shared → Prop} {e : Addr}
end
noncomputable def Ends.gone (D : Ends) (i : Nat) : Ends := { nx := fun σ H => D.nx (σ.set i none) H, rt := D.rt, bk := fun σ H => D.bk (σ.set i none) H, ct := fun σ H => D.ct (σ.set i none) H }
section
variable {X : Cx} {C0 : Addr} {x n : Str} {np hpos pos : Pos} {i : Nat} {body suite : List Stmt} {b₀ : Stmt} {tb : XE → TS} {ts : TS}
end
end L2

namespace L2
open PySem PySem.Spec PyProof.Rows
section
variable {X : Cx}
theorem op_mulB : OpR X (binaryOp .Mult) (rI (fun i j => IntMulOk i j) fun i j => .int (i * j)) := opI fun _ _ _ _ _ _ _ hc q => mul_int q hc
noncomputable def CDivB (_ j : Int) : Prop := j ≠ 0 ∧ j.natAbs.log2 < 9000
theorem op_fdivB : OpR X (binaryOp .FloorDiv) (rI CDivB fun i j => .int (i.fdiv j)) := opI fun _ _ _ _ _ _ _ hc q => floordiv_int hc.1 q (.inl (PyProof.noPylong_of_log2 hc.2))
end

mutual
inductive Dt (K : PySem.W.Frag) (H : Hp) : V → PyData → Prop
  | non : Dt K H .non .none
  | bl (b) : Dt K H (.bl b) (.bool b)
  | int (i) : Dt K H (.int i) (.int i)
  | str (x) : Dt K H (.str x) (.str x)
  | lst {a xs ds} : SqL K H a xs → Dts K H xs ds → Dt K H (.ref a) (.list ds)
  | tup {a xs ds} : SqT K H a xs → Dts K H xs ds → Dt K H (.ref a) (.tuple ds)
inductive Dts (K : PySem.W.Frag) (H : Hp) : List V → List PyData → Prop
  | nil : Dts K H [] []
  | cons {x xs d ds} : Dt K H x d → Dts K H xs ds → Dts K H (x :: xs) (d :: ds)
end
theorem Dts.ints {K : PySem.W.Frag} {H : Hp} : ∀ (ns : List Int), Dts K H (ns.map V.int) (ns.map PyData.int)
  | [] => .nil
  | n :: r => .cons (.int n) (Dts.ints r)
section
variable {X : Cx} {pins : List (Addr × Obj)} {σ : St} {H : Hp} {s : Shared}
mutual
theorem Dt.reads (I : Inv X pins σ H s) : ∀ {x : V} {d : PyData} {u : Value}, Dt X.K H x d → RelV x u → ∃ as, Reads s.heap u d as
  | _, _, _, .non, r => by cases (show _ = Value.none from r); exact ⟨_, .none⟩
  | _, _, _, .bl b, r => by cases (show _ = Value.bool b from r); exact ⟨_, .bool b⟩
  | _, _, _, .int i, r => by obtain ⟨t, e⟩ := (show ∃ t, _ = Value.int i t from r); cases e; exact ⟨_, .int i t⟩
  | _, _, _, .str x, r => by obtain ⟨t, e⟩ := (show ∃ t, _ = Value.str x t from r); cases e; exact ⟨_, .str x t⟩
  | _, _, _, .lst (a := a) h hd, r => by
    cases (show _ = Value.ref a from r)
    obtain ⟨its, rv, ⟨o, n, e, c, _, dd⟩, _⟩ := I.list h
    obtain ⟨as, q⟩ := Dts.reads I hd rv
    exact ⟨_, .list e c dd (by simpa using q)⟩
  | _, _, _, .tup (a := a) h hd, r => by
    cases (show _ = Value.ref a from r)
    obtain ⟨its, rv, ⟨o, e, c, n, dd⟩, _⟩ := I.tuple h
    obtain ⟨as, q⟩ := Dts.reads I hd rv
    exact ⟨_, .tuple e c dd (by simpa using q)⟩
theorem Dts.reads (I : Inv X pins σ H s) : ∀ {xs : List V} {ds : List PyData} {us : List Value}, Dts X.K H xs ds → Vals xs us → ∃ as, ReadsAll s.heap us ds as
  | _, _, _, .nil, r => by cases r; exact ⟨_, .nil⟩
  | _, _, _, .cons h t, r => by
    cases r with
    | cons r1 r2 =>
      obtain ⟨as, q1⟩ := Dt.reads I h r1
      obtain ⟨bs, q2⟩ := Dts.reads I t r2
      exact ⟨_, .cons q1 q2⟩
end
end
section
variable {X : Cx}
noncomputable def rEqD (K : PySem.W.Frag) : R2 := fun x y H Q => ∃ d d', Dt K H x d ∧ Dt K H y d' ∧ SeqAt.shaped d = true ∧ SeqAt.shaped d' = true ∧ SeqAt.noMix d d' = true ∧ Q (.bl (same d d')) H
noncomputable def rNeD (K : PySem.W.Frag) : R2 := fun x y H Q => ∃ d d', Dt K H x d ∧ Dt K H y d' ∧ SeqAt.shaped d = true ∧ SeqAt.shaped d' = true ∧ SeqAt.noMix d d' = true ∧ Q (.bl (!same d d')) H
theorem op_eqD (hu : X.A.units + 64 < cLine) : OpR X (compareOp .Eq) (rEqD X.K) := by
  intro pins s σ H x y v u Q I rx ry h
  obtain ⟨d, d', h1, h2, s1, s2, mx, q⟩ := h
  obtain ⟨as, r1⟩ := h1.reads I rx
  obtain ⟨bs, r2⟩ := h2.reads I ry
  exact eq_dataH_same r1 r2 s1 s2 hu mx ⟨.bl (same d d'), H, I, rfl, q⟩
theorem op_neD (hu : X.A.units + 64 < cLine) : OpR X (compareOp .NotEq) (rNeD X.K) := by
  intro pins s σ H x y v u Q I rx ry h
  obtain ⟨d, d', h1, h2, s1, s2, mx, q⟩ := h
  obtain ⟨as, r1⟩ := h1.reads I rx
  obtain ⟨bs, r2⟩ := h2.reads I ry
  exact ne_dataH_same r1 r2 s1 s2 hu mx ⟨.bl (!same d d'), H, I, rfl, q⟩
end

theorem PI.or {X : Cx} {tg l : Expr} {wi wi' : TI} (h : PI X tg l wi) (h' : PI X tg l wi') : PI X tg l (fun σ H R => wi σ H R ∨ wi' σ H R) := by
  intro pins s σ H R I q
  rcases q with q | q
  · exact h pins s σ H R I q
  · exact h' pins s σ H R I q

structure ExcCls (K : PySem.W.Frag) (C : Addr) : Prop where
  ga : PySem.W.findIn K (.ref C) "__getattribute__" = some (some (.builtin "BaseException.__getattribute__"))
  gt : PySem.W.findIn K (.ref C) "__getattr__" = some none
  ca : PySem.W.findIn K (.ref C) "__class__" = some (some (.builtin "object.__class__"))
  cg : PySem.W.specialIn K (.builtin "object.__class__") "__get__" = some (some (.builtin "getset_descriptor.__get__"))
  tk : PySem.W.takesIn K (.builtin "object.__class__") = some true
  ob : PySem.W.mroIn K C (.type "object") = some true
  bx : PySem.W.mroIn K C (.type "BaseException") = some true
  cl : (PySem.W.clsIn K C).isSome = true
theorem exc_class {prog : Program} {w : World} {A : Around} {E : Value → Shared → Prop} {s : Shared} {K : PySem.W.Frag} {x C : Addr} {Q : Option Value → Shared → Prop} (F : ExcCls K C) (KX : K.In s.heap) (ho : ∃ o, s.heap.get? x = some o ∧ o.cls = .ref C)
    (h : Q (some (.ref C)) { s with toks := s.toks + 1 }) : wpAny (model prog w) A (getAttr? (.ref x) "__class__") Q E s := by
  obtain ⟨hh, g, d, t, os⟩ := s
  obtain ⟨o, ho, hc⟩ := ho
  have L0 : PySem.W.Looks (model prog w) hh (typeOf (.ref x)) (.ref C) := hc ▸ (PySem.W.Looks.ld ho).andThen .now
  have L1 := PySem.W.looks_findIn (M := model prog w) KX F.ga
  have L2 := PySem.W.looks_findIn (M := model prog w) KX F.gt
  have L3 := PySem.W.looks_findIn (M := model prog w) KX F.ca
  have L4 := PySem.W.looks_specialIn (M := model prog w) KX F.cg
  have L5 := PySem.W.looks_takesIn (M := model prog w) KX F.tk
  have L6 := PySem.W.looks_mroIn (M := model prog w) KX F.ob
  have L7 := PySem.W.looks_mroIn (M := model prog w) KX F.bx
  unfold getAttr? getAttrBy? getAttrBy
  refine wpAny_bind (wpAny_mkText (wpAny_bind (wpAny_attempt (wpAny_holding (wpAny_bind (L0.at (wpAny_bind (L1.at ?_))))))))
  show wpAny _ _ (getAttrByItsOwn _ _ _ _ _ _) _ _ _
  unfold getAttrByItsOwn
  refine wpAny_bind (show wpAny _ _ (hookBefore (.ref C)) _ _ _ from L2.at ?_)
  refine wpAny_bind (wpAny_attempt (wpAny_holding ?_))
  show wpAny _ _ (boundAndCalled _ _ _) _ _ _
  unfold boundAndCalled
  rw [PySem.F.attr_ValueError.ga.bind (.ref x)]
  refine wpAny_bind (wpAny_pure (wpAny_call ?_))
  refine codeAny_call_builtin PySem.F.attr_ValueError.ga.plain PySem.F.entry_bexc_ga ?_
  have hk : builtinKind "BaseException.__getattribute__" = some .slot := by decide +kernel
  have hsplit : splitId "BaseException.__getattribute__" = some ("BaseException", "__getattribute__") := by decide +kernel
  have hargs := PySem.F.args_bexc_ga (.ref x) (.str "__class__" t)
  have LI : PySem.W.Looks (model prog w) hh (isInstance (.ref x) (.type "BaseException")) true := L0.andThen L7
  show wpAny _ _ (checkBuiltinCall "BaseException.__getattribute__" ⟨[.ref x, .str "__class__" t], []⟩) _ _ _
  simp only [checkBuiltinCall, hk, hsplit]
  refine wpAny_bind (LI.at ?_)
  repeat wp_step
  rw [hc]
  refine L3.at ?_
  refine wpAny_bind (show wpAny _ _ (Builtin.ObjectAttr.getOf (some (.builtin "object.__class__"))) _ _ _ from L4.at ?_)
  have LD : PySem.W.Looks (model prog w) hh (Builtin.ObjectAttr.dataDescriptor? (some (.builtin "object.__class__")) (some (.builtin "getset_descriptor.__get__"))) (some (.builtin "getset_descriptor.__get__", .builtin "object.__class__")) := L5.andThen .now
  refine wpAny_bind (LD.at ?_)
  repeat wp_step
  have LO : PySem.W.Looks (model prog w) hh (isInstance (.ref x) (.type "object")) true := L0.andThen L6
  refine codeAny_call_builtin PySem.W.KF.slot_gs.plain PySem.W.KF.entry_gs (PySem.W.KF.slot_gs.check _ _ _ _ _ _ _ _ PySem.W.KF.type_class (PySem.W.KF.args_gs _ _ _) ?_)
  (unfold Builtin.«getset_descriptor.__get__» Builtin.Getset_descriptor.descrGet; rw [PySem.W.dga_obj]; refine wpAny_bind (wpAny_pure ?_))
  (unfold Builtin.Getset_descriptor.descrGetter Builtin.Getset_descriptor.descrCheckInstance Builtin.Getset_descriptor.descrNameAndClass; simp only [PySem.W.KF.owner_class])
  refine wpAny_bind (wpAny_bind (wpAny_pure (wpAny_bind (LO.at (wpAny_pure ?_)))))
  repeat wp_step
  refine ⟨Code.quiet_builtin _ (by decide +kernel), codeAny_builtin PySem.W.KF.entry_class ?_⟩
  (unfold Builtin.«object.__class__» shownTypeOf; repeat wp_step)
  rw [hc]
  exact wpAny_pure (wpAny_pure h)
theorem kitx_exc {K : PySem.W.Frag} {x C : Addr} (F : ExcCls K C) : PySem.W.KitX K (.ref x) (.ref C) (fun h => ∃ o, h.get? x = some o ∧ o.cls = .ref C) where
  ty := fun M h _ ⟨o, ho, hc⟩ => hc ▸ (PySem.W.Looks.ld ho).andThen .now
  it := fun M h KX _ => by
    have q := F.cl
    unfold PySem.W.clsIn at q
    split at q
    · next lk =>
      intro A' Q' E' s' k z
      (unfold isType loadHead; exact wpAny_bind (wpAny_loadPart (k _ _ (KX _ _ lk)) (wpAny_pure z)))
    · cases q
  ne := fun h tp dd its n sl KX htp => by
    have q := F.cl
    refine Bool.eq_false_iff.mpr fun z => ?_
    have e : C = tp := Value.ref.inj (beq_iff_eq.mp z)
    subst e
    unfold PySem.W.clsIn at q
    split at q
    · next lk => exact absurd ((KX _ _ lk).symm.trans htp) (by intro z2; cases z2)
    · cases q
  ca := fun KX p k => exc_class F KX p k
inductive TyX (K : PySem.W.Frag) (H : Hp) : V → Value → Prop where
  | ty {x : V} {t : Value} (h : TyOf K H x t) : TyX K H x t
  | exc {e C : Addr} (h : H e = some (ExcAt e (.ref C))) (F : ExcCls K C) : TyX K H (.ref e) (.ref C)
  | tupS {a : Addr} {xs : List V} (h : SqT K H a xs) : TyX K H (.ref a) (.type "tuple")
noncomputable def clsV : V → Value
  | .ty n => .type n
  | .ref a => .ref a
  | _ => .none
noncomputable def isCls : V → Bool
  | .ty _ => true
  | .ref _ => true
  | _ => false
noncomputable def rIsi (K : PySem.W.Frag) : List V → Hp → VK → Prop := fun vs H Q => ∃ x c t b, vs = [x, c] ∧ TyX K H x t ∧ isCls c = true ∧ PySem.W.kitOne K t (clsV c) = some b ∧ Q (.bl b) H
theorem call_isi {X : Cx} : CallR X (.builtin "isinstance") (rIsi X.K) := by
  intro pins s σ H xs us Q I rv h
  obtain ⟨x, c, t, b, rfl, ty, ic, e, q⟩ := h
  obtain ⟨u, w, rfl, r1, r2⟩ := rv.two
  have ew : w = clsV c := by
    cases c <;> first | exact r2 | cases ic
  subst ew
  have fin : ∀ tk, EP X pins σ Q (.bool b) { s with toks := tk } := fun tk => ⟨.bl b, H, I.tok tk, rfl, q⟩
  cases ty with
  | ty h => exact isinst_ok I r1 h e fin
  | exc h F =>
    obtain rfl : u = _ := r1
    obtain ⟨φ, _, _⟩ := (show ObjOk X.prog X.w H s.heap _ (ExcAt _ _) from I.hok _ _ h)
    exact PySem.W.kia_one (kitx_exc F) I.kIn φ e (fun z => nomatch z) fin
  | tupS h =>
    obtain rfl : u = _ := r1
    obtain ⟨its, _, ⟨o, h1, h2, _⟩, _⟩ := I.tuple h
    exact PySem.W.kia_one PySem.W.kitx_tuple I.kIn ⟨o, h1, h2⟩ e (fun z => nomatch z) fin

structure RoomA (k : Nat) (A : Around) : Prop where
  dp : A.depth + 3 * k + 5 < recursionLimit
  un : A.units + 16 * k + 200 < cLine
theorem Room.a {k : Nat} {A : Around} (r : Room k A) : RoomA k A := ⟨r.dp, r.un⟩
theorem RoomA.mono {j k : Nat} {A : Around} (r : RoomA k A) (h : j ≤ k) : RoomA j A := ⟨by have := r.dp; omega, by have := r.un; omega⟩
theorem RoomA.deeper {k : Nat} {A : Around} (r : RoomA (k + 1) A) (env : Env) : RoomA k (A.deeper env) :=
  ⟨by have := r.dp; show A.depth + 1 + 3 * k + 5 < _; omega, by have := r.un; show A.units + 3 + 16 * k + 200 < _; omega⟩
theorem RoomA.mark {k : Nat} {A : Around} (r : RoomA k A) (v : Option Value) : RoomA k (A.mark v) := ⟨r.dp, r.un⟩
theorem RoomA.calm {k : Nat} {A : Around} (r : RoomA k A) : Room k { A with handled := none } := ⟨rfl, r.dp, r.un⟩
structure FnOkA (P : Program) (w : World) (K : PySem.W.Frag) (mg : Str → Option Value) (base : Heap) (k : Nat) (f : Addr) (fd : FuncData) (ps : List Str) (sp : Sp) : Prop where
  len : ∀ vs H Q E, sp vs H Q E → vs.length = ps.length
  run : ∀ (A : Around) (outer : List Env) (s : Shared) (H : Hp) (args : Args) (us : List Value) (vs : List V) (Q : VK) (E : XK), RoomA k A → Env0 P w K mg base A outer s H → BindsTo s fd args (ps.zip us) → Vals vs us → sp vs H Q E →
    codeAny (model P w) A (.call (.ref f) args) (CR CX0 outer P w H s Q E) s
theorem FnOkA.ok {P : Program} {w : World} {K : PySem.W.Frag} {mg : Str → Option Value} {base : Heap} {k : Nat} {f : Addr} {fd : FuncData} {ps : List Str} {sp : Sp} (F : FnOkA P w K mg base k f fd ps sp) : FnOk P w K mg base CX0 k f fd ps sp :=
  ⟨F.len, fun A outer s H args us vs Q E hr => F.run A outer s H args us vs Q E hr.a⟩
section
variable {P : Program} {w : World} {K : PySem.W.Frag} {mg : Str → Option Value} {base : Heap}
end
section
variable {X : Cx} {k : Nat} {f : Addr} {fd : FuncData} {ps : List Str} {sp : Sp} {dvs : List V} {ds : List Value} {x : Str} {p pos : Pos} {e : Expr} {es : List Expr} {t : TA}
end
end L2

namespace L2
open PySem PySem.Spec PyProof.Rows
section
variable {X : Cx}
theorem op_eqZ : OpR X (compareOp .Eq) (rI0 fun i j => .bl (decide (i = j))) := opB0 fun i j _ _ _ _ _ q => eq_int (by rw [Bool.beq_eq_decide_eq]; exact q)
theorem op_neZ : OpR X (compareOp .NotEq) (rI0 fun i j => .bl (!decide (i = j))) := opB0 fun i j _ _ _ _ _ q => ne_int (by rw [bne, Bool.beq_eq_decide_eq]; exact q)
theorem PS.nox {st : Stmt} {t : TS} (h : PS X.nox st t) : PS X st t := fun pins s σ H D I hw =>
  wpAny_mono (h pins s σ H D (I.wish _) hw) (fun _ _ q => q.unwish) fun _ _ z => z.elim
end
section
variable {P : Program} {w : World} {K : PySem.W.Frag} {mg : Str → Option Value} {base : Heap}
theorem Fun.okX {x qual : Str} {st : Stmt} {f : Addr} {fd : FuncData} {N ps : List Str} {k : Nat} {sp : Sp} (F : Fun K x qual st f fd) (S : FnScope N ps (defScope st)) (len : ∀ vs H Q E, sp vs H Q E → vs.length = ps.length)
    (hbody : ∀ (cdv : Value) (A : Around) (outer : List Env) (s : Shared) (H : Hp) (vs : List V) (Q : VK) (E : XK), Room k (A.deeper (envOfC qual (defScope st) s.heap.objs.size f cdv)) → sp vs H Q E →
      ∃ t, PSs (cxOf (CX1 P w) P w K mg base N qual (defScope st) f cdv A outer s H E) (defBody st) t ∧ t { nx := fun _ H' => Q .non H', rt := Q } (start N vs) H) : FnOk P w K mg base (CX1 P w) (k + 1) f fd ps sp := by
  obtain ⟨oc, od, kV, doc, pm, an, cdv, ct, osl, rfl, lk, hcd⟩ := F.ex
  exact fn_of lk hcd S len fun A outer s H vs Q E hr hsp => hbody cdv A outer s H vs Q E hr hsp
end
end L2
namespace Att
open PySem PySem.W PySem.Calls PyProof.Rows
theorem ofPy_ints : ∀ ns : List Int, ofPys (ns.map PyData.int) = ns.map WData.int
  | [] => rfl
  | n :: r => by
    show ofPy (.int n) :: ofPys (r.map PyData.int) = _
    rw [ofPy_ints r]
    rfl
theorem lay_bits {ns : List Int} (h : (WData.list (ns.map WData.int)).layable = true) : ∀ n ∈ ns, Builtin.Int.intBits n ≤ 1048576 := fun n hn => by
  have e : ofPy (.list (ns.map PyData.int)) = WData.list (ns.map WData.int) := by
    show WData.list (ofPys (ns.map PyData.int)) = _
    rw [ofPy_ints]
  have sh : PySem.Spec.Shape.has (.list .int) (.list (ns.map PyData.int)) = true := by
    simp [PySem.Spec.Shape.has]
  exact intBits_le_of_item hn (layable0_of_all (lay0_ofPy (s := .list .int) rfl sh (by rw [e]; exact h)))
theorem attach_callB {l : OpenLaw} {n : Nat} {q : Program} {loose : List Str} {XP : (Str → Option Value) → Heap → Prop} {YP : World → Heap → Prop} {d : DefRec} (hn : l.most = some n) (hdf : d.params.defaults = [])
    (call : ∀ (w : World) (s₀ s₁ : Shared) (mg mb : Str → Option Value) (fa : Addr) (a : Addr) (vs : List Value) (ns : List Int), Ground q loose [] XP w s₀ mg mb s₁.heap → YP w s₁.heap → mg d.name = some (.ref fa) →
      s₁.heap.get? a = some { cls := .type "list", data := .seq vs.toArray } → IntsAre vs ns → ns.length ≤ n → (∀ m ∈ ns, Builtin.Int.intBits m ≤ 1048576) → s₁.gens = #[] →
      codeAny (model l.prog w) callerA (.call (.ref fa) ⟨[.ref a], []⟩) (fun r s' => r = .ok (.ret (.bool true)) ∧ OldK s₁.heap s'.heap ∧ s'.os = s₁.os ∧ AllBare s'.gens) s₁) :
    WalkO q loose XP YP l.row.toRowW d [] (fun f vs => PySem.call f vs) := by
  intro w s₀ s₁ mg mb G Y fa o pm cd doc dV kV ho hd hcd hD hmg hg args vals as hpre hlay hrd hwl hlo
  obtain rfl : dV = .none := Dflts.none hD hdf
  obtain rfl : kV = .none := Dflts.noKw hD
  obtain ⟨a, vs, ns, rfl, rfl, hobj, hints, hlen⟩ := script_of hn hpre hwl
  have hb := lay_bits (layableW_arg hlay _ List.mem_cons_self)
  refine enter_call (codeAny_mono (call w s₀ s₁ mg mb fa a vs ns G Y hmg hobj hints hlen hb hg) fun r s' hq => ?_)
  obtain ⟨rfl, h2, h3, h4⟩ := hq
  exact ⟨.inl ⟨.bool true, .bool true, [], rfl, fun _ => rfl, .bool true, post_true l _, fun _ => ⟨List.Pairwise.nil, fun _ hm => (nomatch hm)⟩⟩, h2, h3, h4⟩
end Att
namespace L2
open PySem PySem.Spec PyProof.Rows
noncomputable def spLaw (K : PySem.W.Frag) : Sp := fun vs H Q _ => ∃ (a : Addr) (ns : List Int), vs = [.ref a] ∧ SqL K H a (ns.map V.int) ∧ ns.length ≤ 63 ∧ (∀ m ∈ ns, Builtin.Int.intBits m ≤ 1048576) ∧ ∀ H', Q (.bl true) H'
theorem walkB {l : PySem.W.OpenLaw} {k : Nat} {q : Program} {loose : List Str} {XP : (Str → Option Value) → Heap → Prop} {YP : World → Heap → Prop} {d : DefRec} {K : Params → PySem.W.Frag} {x : Str}
    (hn : l.most = some 63) (hdf : d.params.defaults = []) (hr : Room k callerA) (hY : ∀ (w : World) (h : Heap), YP w h → (K w.params).In h)
    (F : ∀ (w : World) (mg : Str → Option Value) (fa : Addr) (h : Heap), (K w.params).In h → h.Ns mainGlobals mg → mg d.name = some (.ref fa) →
      ∃ fd : FuncData, (∀ (s : Shared) (u : Value), BindsTo s fd ⟨[u], []⟩ [(x, u)]) ∧ ∀ base : Heap, (K w.params).In base → base.Ns mainGlobals mg → FnOk l.prog w (K w.params) mg base CX0 k fa fd [x] (spLaw (K w.params))) :
    PySem.W.WalkO q loose XP YP l.row.toRowW d [] (fun f vs => PySem.call f vs) := by
  refine Att.attach_callB hn hdf fun w s₀ s₁ mg mb fa a vs ns G Y hmg hobj hints hlen hb hg => ?_
  have KX := hY w _ Y
  obtain ⟨fd, hbn, hF⟩ := F w mg fa _ KX G.T.g hmg
  exact law_call KX G.T.g G.T.b G.T.builtins G.T.nolimit hg hobj hints (Nat.le_trans hlen (by decide)) hr hF hbn (fun H _ hS => ⟨a, ns, rfl, hS, hlen, hb, fun _ => rfl⟩) fun H e s' z => z
theorem for_st {wi : TI} {g : TG} {tb : TS} {D : Ends} {σ : St} {H : Hp} (h : ∀ B : TS, B = tb → wi σ H fun J H1 => ∃ W : Nat → Nat → St → Hp → Prop, (∃ m, W 0 m σ H1) ∧ ∀ i m σ H, W i m σ H →
    (J.stop i H ∧ D.nx σ H) ∨ (J.go i H ∧ ∃ N : St → Hp → Prop, (∀ σ' H', N σ' H' → ∃ m', m' < m ∧ W (i + 1) m' σ' H') ∧ ∀ x H', J.yld i H x H' → g x σ H' fun σ2 H2 => B { D with nx := N, ct := N, bk := D.nx } σ2 H2)) : tFor wi g tb D σ H := h _ rfl
theorem while_st {c : TT} {tb : TS} {D : Ends} {σ : St} {H : Hp} (h : ∀ B : TS, B = tb → ∃ W : Nat → St → Hp → Prop, (∃ m, W m σ H) ∧ ∀ m σ H, W m σ H →
    c σ H fun b H1 => if b = true then ∃ N : St → Hp → Prop, (∀ σ' H', N σ' H' → ∃ m', m' < m ∧ W m' σ' H') ∧ B { D with nx := N, ct := N, bk := D.nx } σ H1 else D.nx σ H1) : tWhile c tb D σ H := h _ rfl
theorem st {t u : TS} {D : Ends} {σ : St} {H : Hp} (h : ∀ NX : St → Hp → Prop, NX = u D → t { D with nx := NX } σ H) : tSeq t u D σ H := h _ rfl
section
variable {g : Int → Int → V} {C : Int → Int → Prop} {f : Int → V} {i j : Int} {H : Hp} {Q : VK}
theorem rd_rI0 : rI0 g (.int i) (.int j) H Q = Q (g i j) H := propext ⟨fun ⟨_, _, e1, e2, q⟩ => by cases e1; cases e2; exact q, fun q => ⟨_, _, rfl, rfl, q⟩⟩
theorem rd_rI : rI C g (.int i) (.int j) H Q = (C i j ∧ Q (g i j) H) := propext ⟨fun ⟨_, _, e1, e2, q⟩ => by cases e1; cases e2; exact q, fun q => ⟨_, _, rfl, rfl, q⟩⟩
theorem rd_rU : rU f (.int i) H Q = Q (f i) H := propext ⟨fun ⟨_, e1, q⟩ => by cases e1; exact q, fun q => ⟨_, rfl, q⟩⟩
end
theorem Same.new {H : Hp} {a : Addr} {o : HO} (h : H a = none) : Same H (upd H a o) := fun b u e => by rw [upd_ne (ne_of_none e h)]; exact e
theorem Same.over {H H1 : Hp} {a : Addr} {o : HO} (h : H a = none) (s : Same H H1) : Same H (upd H1 a o) := fun b u e => by rw [upd_ne (ne_of_none e h)]; exact s b u e
theorem Same.tup {K : PySem.W.Frag} {H H' : Hp} {a : Addr} {xs : List V} (e : Same H H') (h : SqT K H a xs) : SqT K H' a xs := by
  rcases h with (h | ⟨o, h⟩) | h
  · exact .inl (.inl (e _ _ h))
  · exact .inl (.inr ⟨o, e _ _ h⟩)
  · exact .inr h
section
variable {K : PySem.W.Frag} {a b : Addr} {xs : List V} {te : TE} {fr : List (Str × Nat)} {σ : St} {H : Hp} {Q : VK}
noncomputable def CompP (H : Hp) (a : Addr) (R : Nat → V → Prop) (i : Nat) (H1 : Hp) : Prop := Same H H1 ∧ ∃ ys : List V, H1 a = some (.lst ys) ∧ ys.length = i ∧ ∀ j y, ys[j]? = some y → R j y
theorem CompP.start (ha : H a = none) (R : Nat → V → Prop) : CompP H a R 0 (upd H a (.lst [])) := ⟨Same.new ha, [], upd_same, rfl, fun j y e => by simp at e⟩
theorem CompP.next {R : Nat → V → Prop} {i : Nat} {H1 H2 : Hp} {y : V} (ha : H a = none) (h : CompP H a R i H1) (s : Same H1 H2) (r : R i y) (hz : i < sizeLine) :
    ∃ zs, H2 a = some (.lst zs) ∧ zs.length < sizeLine ∧ CompP H a R (i + 1) (upd H2 a (.lst (zs ++ [y]))) := by
  obtain ⟨s1, ys, e, hl, hr⟩ := h
  refine ⟨ys, s _ _ e, by omega, Same.over ha (s1.trans s), _, upd_same, by simp [hl], fun j z q => ?_⟩
  by_cases hj : j < ys.length
  · rw [List.getElem?_append_left hj] at q
    exact hr j z q
  · rw [List.getElem?_append_right (by omega)] at q
    have : j = i := by
      by_cases h0 : j - ys.length = 0
      · omega
      · rw [List.getElem?_eq_none (by simp; omega)] at q
        cases q
    subst this
    rw [show j - ys.length = 0 by omega] at q
    cases Option.some.inj q
    exact r
end
theorem list_is {α β : Type} {ys : List β} {xs : List α} {f : α → β} (hl : ys.length = xs.length) (h : ∀ (j : Nat) (y : β), ys[j]? = some y → ∃ x, xs[j]? = some x ∧ y = f x) : ys = xs.map f := by
  refine List.ext_getElem (by simpa using hl) fun i h1 h2 => ?_
  obtain ⟨x, e1, e2⟩ := h i ys[i] (by simp [h1])
  obtain ⟨hx, e3⟩ := List.getElem?_eq_some_iff.mp e1
  rw [List.getElem_map, e2, e3]
end L2

namespace L2
open PySem PySem.Spec PyProof.Rows
noncomputable def relab (sc scope : Scope) : Scope := { scope with names := scope.names.map fun (n, k) => if (k == .free && sc.kind == .function && sc.names.lookup n == some .cell) then (n, .cell) else (n, k) }
theorem relab_is {scope sc : Scope} {env : Env} (h : env.scope = sc) : relabel scope env = relab sc scope := by subst h; rfl
theorem own_app : ∀ (names : List (Str × NameKind)) (n : Nat) (acc : List (Str × Addr)), cellsFrom n names acc = cellsFrom n names [] ++ acc
  | [], _, _ => rfl
  | (x, k) :: r, n, acc => by
    unfold cellsFrom
    split
    · rw [own_app r (n + 1) ((x, n) :: acc), own_app r (n + 1) [(x, n)], List.append_assoc]
      rfl
    · exact own_app r n acc
theorem own_mem {y : Str} {b : Addr} : ∀ {names : List (Str × NameKind)} {n : Nat} {acc : List (Str × Addr)}, (y, b) ∈ cellsFrom n names acc → (y, b) ∈ acc ∨ (y, NameKind.cell) ∈ names
  | [], _, _, h => .inl h
  | (x, k) :: r, n, acc, h => by
    unfold cellsFrom at h
    split at h
    · rename_i hk
      rcases own_mem h with q | q
      · rcases List.mem_cons.mp q with e | e
        · have ek : k = .cell := by simpa using hk
          cases e
          exact .inr (by rw [ek]; exact List.mem_cons_self)
        · exact .inl e
      · exact .inr (List.mem_cons_of_mem _ q)
    · rcases own_mem h with q | q
      · exact .inl q
      · exact .inr (List.mem_cons_of_mem _ q)
theorem own_has {y : Str} : ∀ {names : List (Str × NameKind)} {n : Nat} {acc : List (Str × Addr)}, ((y, NameKind.cell) ∈ names ∨ ∃ b, acc.lookup y = some b) → ∃ b, (cellsFrom n names acc).lookup y = some b
  | [], _, _, h => by
    rcases h with h | h
    · simp at h
    · exact h
  | (x, k) :: r, n, acc, h => by
    unfold cellsFrom
    split
    · rename_i hk
      refine own_has ?_
      rcases h with h | ⟨b, h⟩
      · rcases List.mem_cons.mp h with e | e
        · cases e
          exact .inr ⟨n, by rw [List.lookup_cons]; simp⟩
        · exact .inl e
      · rw [List.lookup_cons]
        cases hx : y == x with
        | true => exact .inr ⟨n, rfl⟩
        | false => exact .inr ⟨b, h⟩
    · rename_i hk
      refine own_has ?_
      rcases h with h | h
      · rcases List.mem_cons.mp h with e | e
        · cases e
          simp at hk
        · exact .inl e
      · exact .inr h
theorem relab_was {env : Env} {q : NameKind} : ∀ {names : List (Str × NameKind)} {x : Str},
    (names.map fun (n, k) => if (k == NameKind.free && env.scope.kind == .function && env.kindOf n == some .cell) then (n, NameKind.cell) else (n, k)).lookup x = some q →
    (q = .cell ∨ q = .free) → (x, NameKind.free) ∈ names ∨ (x, NameKind.cell) ∈ names
  | [], _, h, _ => by simp at h
  | (n, k) :: r, x, h, hq => by
    have ih := @relab_was env q r x
    rw [List.map_cons] at h
    dsimp only at h
    by_cases hc : (k == NameKind.free && env.scope.kind == .function && env.kindOf n == some .cell) = true
    · rw [if_pos hc, List.lookup_cons] at h
      cases hx : x == n with
      | true =>
        have ex : x = n := by simpa using hx
        have ek : k = .free := by
          have := (Bool.and_eq_true _ _ ▸ ((Bool.and_eq_true _ _ ▸ hc).1)).1
          simpa using this
        rw [ex, ek]
        exact .inl List.mem_cons_self
      | false =>
        rw [hx] at h
        exact (ih h hq).imp (List.mem_cons_of_mem _) (List.mem_cons_of_mem _)
    · rw [if_neg hc, List.lookup_cons] at h
      cases hx : x == n with
      | true =>
        rw [hx] at h
        have ex : x = n := by simpa using hx
        have ek : k = q := Option.some.inj h
        rcases hq with e | e
        · rw [ex, ek, e]; exact .inr List.mem_cons_self
        · rw [ex, ek, e]; exact .inl List.mem_cons_self
      | false =>
        rw [hx] at h
        exact (ih h hq).imp (List.mem_cons_of_mem _) (List.mem_cons_of_mem _)
theorem key_one {α : Type} {x : Str} {k k' : α} : ∀ {l : List (Str × α)}, (l.map (·.1)).Nodup → (x, k) ∈ l → (x, k') ∈ l → k = k'
  | (n, q) :: r, nd, h, h' => by
    obtain ⟨n1, n2⟩ := List.nodup_cons.mp nd
    rcases List.mem_cons.mp h with e | e <;> rcases List.mem_cons.mp h' with e' | e'
    · cases e; cases e'; rfl
    · cases e; exact absurd (List.mem_map.mpr ⟨_, e', rfl⟩) n1
    · cases e'; exact absurd (List.mem_map.mpr ⟨_, e, rfl⟩) n1
    · exact key_one n2 e e'
theorem newEnv_own {M : Model} {A : Around} {E : Value → Shared → Prop} {s : Shared} {scope : Scope} {globals : Addr} {cl : List (Str × Addr)} {qual : Str} {func : Option Addr} {code : Value} {env : Env} {bl : Addr} {Q : Env → Shared → Prop}
    (h : Q (newEnv scope s.heap.objs.size globals (cellsFrom (s.heap.objs.size + 1) scope.names cl) qual func code (some env) bl) { s with heap := pushCells (s.heap.push { cls := .type "dict", data := .dict #[] }) scope.names }) :
    wpAny M A (newFunctionEnv scope globals cl [] qual func code (some env) bl) Q E s := by
  simp only [newFunctionEnv, Option.isSome_some, if_true]
  refine wpAny_bind (wpAny_alloc ?_)
  refine wpAny_bind (wpAny_layCells _ (fun name kind cells => by cases hkc : kind == NameKind.cell <;> simp [hkc]) _ _ _ _ ?_)
  rw [show ({ s with heap := s.heap.push { cls := .type "dict", data := .dict #[] } } : Shared).heap.objs.size = s.heap.objs.size + 1 from Heap.size_push ..]
  exact wpAny_pure h

noncomputable def cxCompG (X : Cx) (scope : Scope) (N : List Str) (s : Shared) (H : Hp) (fp : List Addr) : Cx :=
  { X with N := N, s₀ := s, H₀ := H, env := compEnvC scope (cellsFrom (s.heap.objs.size + 1) scope.names (clOf X.env scope.names [])) s.heap.objs.size X.env, outer := X.stack, ex := fp, fn := fun y => scope.names.lookup y == some .cell, pn := [], xe := fun _ _ => False }
structure CompOkG (X : Cx) (sc scope : Scope) (xs : List Str) (fr : List (Str × Nat)) : Prop where
  hsc : X.env.scope = sc
  kind : scope.kind = .function
  nn : (scope.names.map (·.1)).Nodup
  free : ∀ y ∈ scope.names, y.2 = .free → sc.names.lookup y.1 = some .cell ∨ sc.names.lookup y.1 = some .free
  loc : ∀ y ∈ scope.names, y.2 = .local → scope.names.lookup y.1 = some .local
  fr : ∀ p ∈ fr, X.N[p.2]? = some p.1 ∧ scope.names.lookup p.1 = some .free
section
variable {X : Cx} {sc scope : Scope} {xs : List Str} {fr : List (Str × Nat)}
theorem CompOkG.free' (c : CompOkG X sc scope xs fr) : ∀ y ∈ scope.names, y.2 = .free → X.env.kindOf y.1 = some .cell ∨ X.env.kindOf y.1 = some .free := fun y hy hf => by
  unfold Env.kindOf
  rw [c.hsc]
  exact c.free y hy hf
theorem CompOkG.cells {pins : List (Addr × Obj)} {σ : St} {H : Hp} {s : Shared} (c : CompOkG X sc scope xs fr) (I : Inv X pins σ H s) : ∀ y ∈ scope.names, y.2 = .free → ∃ c, X.env.cells.lookup y.1 = some c :=
  fun y hy hf => I.ok.has y.1 (c.free' y hy hf)
theorem CompOkG.was {pins : List (Addr × Obj)} {σ : St} {H : Hp} {s : Shared} (c : CompOkG X sc scope xs fr) (I : Inv X pins σ H s) {y : Str} {b : Addr} (h : (clOf X.env scope.names []).lookup y = some b) : X.env.cells.lookup y = some b := by
  rcases clOf_lookup (c.cells I) h with q | q
  · simp at q
  · exact q
theorem cells_cases {names : List (Str × NameKind)} {n : Nat} {cl : List (Str × Addr)} {y : Str} {b : Addr} (h : (cellsFrom n names cl).lookup y = some b) : (cellsFrom n names []).lookup y = some b ∨ ((cellsFrom n names []).lookup y = none ∧ cl.lookup y = some b) := by
  rw [own_app, List.lookup_append] at h
  cases q : (cellsFrom n names []).lookup y with
  | none => rw [q] at h; exact .inr ⟨rfl, h⟩
  | some c => rw [q] at h; exact .inl h
theorem comp_startG {pins : List (Addr × Obj)} {σ : St} {H : Hp} {s : Shared} {fp : List Addr} (c : CompOkG X sc scope xs fr) (I : Inv X pins σ H s)
    (hf : ∀ b ∈ fp, FpOk X pins H b ∧ ∃ o, s.heap.get? b = some o) :
    Inv (cxCompG X scope (xs ++ fr.map (·.1)) s H fp) [] (xs.map (fun _ => none) ++ frees fr σ) H { s with heap := pushCells (s.heap.push { cls := .type "dict", data := .dict #[] }) scope.names } := by
  have k : ∀ b o, s.heap.get? b = some o → (pushCells (s.heap.push { cls := .type "dict", data := .dict #[] }) scope.names).get? b = some o := fun b o e => pushCells_keeps _ _ b o (Heap.get?_push_of_some _ e)
  have hn : (pushCells (s.heap.push { cls := .type "dict", data := .dict #[] }) scope.names).Ns s.heap.objs.size (fun _ => none) := (Heap.Ns.new s.heap (.type "dict")).keeps (pushCells_keeps _ _)
  have ok := cellsFrom_ok scope.names (s.heap.push { cls := .type "dict", data := .dict #[] }) (s.heap.objs.size + 1) [] ⟨fun _ _ hm => (nomatch hm), List.Pairwise.nil⟩ (by rw [Heap.size_push]; exact Nat.le_refl _)
  rw [Heap.size_push] at ok
  have I4 : Inv X pins σ H { s with heap := pushCells (s.heap.push { cls := .type "dict", data := .dict #[] }) scope.names } := I.kept (t' := s.toks) k
  generalize hh : pushCells (s.heap.push { cls := .type "dict", data := .dict #[] }) scope.names = h₁ at k hn ok I4
  have old : ∀ {y : Str} {b : Nat}, (clOf X.env scope.names []).lookup y = some b → b < s.heap.objs.size := fun {y b} e => by
    obtain ⟨v, z⟩ := I.cell y b (c.was I e)
    exact z.lt
  have own : ∀ {y : Str} {b : Nat}, (cellsFrom (s.heap.objs.size + 1) scope.names []).lookup y = some b → h₁.IsCell b none ∧ s.heap.objs.size + 1 ≤ b := fun {y b} e => ok.empty y b (mem_of_lookup e)
  refine ⟨⟨I.ok.mod, c.kind, I.ok.glob, I.ok.blt, Nat.le_refl _, fun y z b h1 h2 => ?_, fun y hy => ?_, fun y b h0 h1 => ?_, I.ok.hd, I.ok.frames, .inl rfl, fun b hb => ?_, fun b o e => ?_, ?_, fun b o e hb => ?_, fun b hb hs => ?_, ?_, fun b hb => ?_⟩,
    rfl, I.bare, Un.kept k, ⟨_, hn, fun i y v h1 h2 h3 => ?_⟩, fun y b h => ?_, ?_, fun y b h => ?_, fun p hp => absurd (show p ∈ ([] : List (Addr × Obj)) from hp) (by simp), I4.hok, ?_⟩
  · rcases cells_cases h1 with e1 | ⟨_, e1⟩ <;> rcases cells_cases h2 with e2 | ⟨_, e2⟩
    · exact name_of_addr ok.apart (mem_of_lookup e1) (mem_of_lookup e2)
    · exact absurd (Nat.lt_of_lt_of_le (old e2) (Nat.le_of_succ_le (own e1).2)) (Nat.lt_irrefl _)
    · exact absurd (Nat.lt_of_lt_of_le (old e1) (Nat.le_of_succ_le (own e2).2)) (Nat.lt_irrefl _)
    · exact I.ok.inj y z b (c.was I e1) (c.was I e2)
  · show ∃ b, (cellsFrom (s.heap.objs.size + 1) scope.names (clOf X.env scope.names [])).lookup y = some b
    have hm : (y, NameKind.free) ∈ scope.names ∨ (y, NameKind.cell) ∈ scope.names := by
      rcases hy with hy | hy
      · exact relab_was hy (.inl rfl)
      · exact relab_was hy (.inr rfl)
    rcases hm with hm | hm
    · exact own_has (.inr (clOf_has (.inl hm)))
    · exact own_has (.inl hm)
  · have hy : scope.names.lookup y = some .cell := by
      have h0' : (scope.names.lookup y == some NameKind.cell) = true := h0
      simpa using h0'
    rcases cells_cases h1 with e1 | ⟨e1, _⟩
    · have := (own e1).2
      show s.heap.objs.size ≤ b
      omega
    · obtain ⟨b', e⟩ := own_has (n := s.heap.objs.size + 1) (acc := []) (.inl (mem_of_lookup hy))
      rw [e1] at e
      cases e
  · obtain ⟨⟨_, _, _, _, f5, _⟩, o, e⟩ := hf b hb
    refine ⟨Nat.ne_of_lt (Heap.lt_size e), fun y b' h => ?_⟩
    rcases cells_cases h with e1 | ⟨_, e1⟩
    · exact fun z => absurd (Nat.lt_of_lt_of_le (Heap.lt_size e) (Nat.le_of_succ_le (z ▸ (own e1).2))) (Nat.lt_irrefl _)
    · exact f5 y b' (c.was I e1)
  · exact I.bs b o e
  · exact Nat.le_trans I.ok.bsz I.sz
  · obtain ⟨⟨_, _, _, f4, _, _⟩, _⟩ := hf b hb
    rcases f4 with z | z
    · exact I.ok.noex b o e z
    · exact absurd (Nat.lt_of_lt_of_le (Heap.lt_size e) (Nat.le_trans I.ok.bsz z)) (Nat.lt_irrefl _)
  · obtain ⟨⟨_, f2, f3, _, _, _⟩, _⟩ := hf b hb
    rcases List.mem_cons.mp (I.stkSub b hs) with z | z
    · exact f2 z
    · exact f3 z
  · exact I.stack
  · exact I.stkFree b hb
  · have h1' : (xs ++ fr.map (·.1))[i]? = some y := h1
    by_cases hi : i < xs.length
    · rw [List.getElem?_append_left (by simpa using hi), List.getElem?_map] at h2
      cases q : xs[i]? with
      | none => rw [q] at h2; cases h2
      | some z => rw [q] at h2; cases Option.some.inj h2
    · rw [List.getElem?_append_right (by omega)] at h1'
      rw [List.getElem?_append_right (by simpa using hi), List.length_map] at h2
      generalize i - xs.length = j at h1' h2
      rw [List.getElem?_map] at h1'
      unfold frees at h2
      rw [List.getElem?_map] at h2
      cases e : fr[j]? with
      | none => rw [e] at h1'; cases h1'
      | some p =>
        rw [e] at h1' h2
        have e1 : p.1 = y := Option.some.inj h1'
        have e2 : σ.getD p.2 none = some v := Option.some.inj h2
        obtain ⟨n1, n2⟩ := c.fr p (List.mem_of_getElem? e)
        have e3 : σ[p.2]? = some (some v) := by
          rw [List.getD_eq_getElem?_getD] at e2
          cases q : σ[p.2]? with
          | none => rw [q] at e2; cases e2
          | some o => rw [q] at e2; have e2' : o = some v := e2; rw [e2']
        subst e1
        have hm : (p.1, NameKind.free) ∈ scope.names := PySem.mem_of_lookup n2
        have kd := c.free' _ hm rfl
        obtain ⟨m', _, hl⟩ := I4.loc
        obtain ⟨u, ru, lk⟩ := hl p.2 p.1 v n1 e3 (.inr kd)
        refine ⟨u, ru, .inr ⟨relabel_free n2, ?_⟩⟩
        rcases lk with ⟨k1, _⟩ | ⟨_, b, q, z⟩
        · rcases kd with kd | kd <;> (rw [kd] at k1; cases k1)
        · obtain ⟨b', q'⟩ := clOf_has (env := X.env) (l := scope.names) (cs := []) (.inl hm)
          have e4 := c.was I q'
          rw [q] at e4
          cases e4
          refine ⟨b, ?_, z⟩
          show (cellsFrom (s.heap.objs.size + 1) scope.names (clOf X.env scope.names [])).lookup p.1 = some b
          rw [own_app, List.lookup_append]
          cases w : (cellsFrom (s.heap.objs.size + 1) scope.names []).lookup p.1 with
          | none => exact q'
          | some b2 =>
            rcases own_mem (mem_of_lookup w) with w | w
            · simp at w
            · cases key_one c.nn hm w
  · rcases cells_cases h with e1 | ⟨_, e1⟩
    · exact ⟨none, (own e1).1⟩
    · exact I4.cell y b (c.was I e1)
  · exact I.hok.fresh (Nat.le_refl _)
  · rcases cells_cases h with e1 | ⟨_, e1⟩
    · exact I.hok.fresh (by have := (own e1).2; omega)
    · exact I4.freeC y b (c.was I e1)
  · show (xs.map (fun _ => none) ++ frees fr σ).length = (xs ++ fr.map (·.1)).length
    simp [frees]
end

noncomputable abbrev TOx := St → Hp → (Option V → Hp → Prop) → Prop
noncomputable def tEl (te : TE)  : TOx := fun σ H Q => te σ H fun y H' => Q (some y) H'
noncomputable def tElIf (tc : TT) (te : TE)  : TOx := fun σ H Q => tc σ H fun b H1 => if b = true then te σ H1 (fun y H' => Q (some y) H') else Q none H1
noncomputable def turnOf (elt : Expr) (ifs : List Expr) (env : Env) (M : Model) (A : Around) (Q : Option Value → Shared → Prop) (E : Value → Shared → Prop) (s : Shared) : Prop :=
  match ifs with
  | [] => wpAny M A (eval elt env) (fun x s1 => Q (some x) s1) E s
  | [c] => wpAny M A (isTrue c env (eval c env)) (fun b s1 => if b = true then wpAny M A (eval elt env) (fun x s2 => Q (some x) s2) E s1 else Q none s1) E s
  | _ => False
noncomputable def POx (X : Cx) (elt : Expr) (ifs : List Expr) (t : TOx) : Prop := ∀ (pins : List (Addr × Obj)) (s : Shared) (σ : St) (H : Hp) (Q : Option V → Hp → Prop), Inv X pins σ H s → t σ H Q →
  turnOf elt ifs X.env (model X.prog X.w) X.A (fun o s' => ∃ v H', Inv X pins σ H' s' ∧ (match o, v with | some u, some y => RelV y u | none, none => True | _, _ => False) ∧ Q v H') X.xe s
theorem po_el {X : Cx} {elt : Expr} {te : TE} (h : PE X elt te) : POx X elt [] (tEl te) := fun pins s σ H Q I hw =>
  thn (h pins s σ H _ I hw) fun u s1 ⟨y, H1, I1, r1, q1⟩ => ⟨some y, H1, I1, r1, q1⟩
theorem po_if {X : Cx} {elt c : Expr} {tc : TT} {te : TE} (hc : PT X c tc) (h : PE X elt te) : POx X elt [c] (tElIf tc te) := fun pins s σ H Q I hw => by
  refine thn (hc pins s σ H _ I hw) fun b s1 ⟨H1, I1, q1⟩ => ?_
  cases b with
  | true =>
    rw [if_pos rfl] at q1 ⊢
    exact thn (h pins s1 σ H1 _ I1 q1) fun u s2 ⟨y, H2, I2, r2, q2⟩ => ⟨some y, H2, I2, r2, q2⟩
  | false =>
    rw [if_neg Bool.false_ne_true] at q1 ⊢
    exact ⟨none, H1, I1, trivial, q1⟩
theorem codeAny_compLoop_gen {prog : Program} {w : World} {A : Around} {R : Result → Shared → Prop} {s : Shared} {elt target iter : Expr} {ifs : List Expr} {scope : Scope} {pos : Pos} {it acc : Value} {env : Env} (I : Nat → Shared → Prop)
    (turn : ∀ n s, I n s → wpAny (model prog w) A (pyNext it) (fun r s₁ => match r with
      | none => R (.ok .next) s₁
      | some v => wpAny (model prog w) A (letOwnedTupleGo target it v) (fun _ s₁' => wpAny (model prog w) A (assign target env v) (fun _ s₂ => turnOf elt ifs env (model prog w) A (fun o s₃ => match o with
          | some x => wpAny (model prog w) A (call (.builtin "list.append") [acc, x]) (fun _ s₄ => ∃ m, m < n ∧ I m s₄) (fun _ _ => False) s₃
          | none => ∃ m, m < n ∧ I m s₃)
          (fun _ _ => False) s₂) (fun _ _ => False) s₁') (fun _ _ => False) s₁) (fun _ _ => False) s)
    (n : Nat) (h : I n s) (hifs : ifs.length ≤ 1) :
    codeAny (model prog w) A (.compLoop (.ListComp elt [⟨target, iter, ifs, 0⟩] scope pos) 0 it acc env) R s := by
  refine codeAny_loop rfl I (fun n s hI => ?_) n h
  show wpAny _ _ ((compTurn (.ListComp elt [⟨target, iter, ifs, 0⟩] scope pos) 0 it acc env).onRaise (fun x => do noteFrame x env; theTreesLotGoes x)) _ _ s
  refine wpAny_noted ?_
  have T := turn n s hI
  match ifs, hifs, T with
  | [], _, T =>
    rw [compTurn_list1]
    refine wpAny_bind (wpAny_standAt (wpAny_bind (wpAny_mono T (fun r s₁ h₁ => ?_) fun _ _ h' => h'.elim)))
    cases r with
    | none => exact wpAny_pure h₁
    | some v =>
      refine wpAny_bind (wpAny_mono h₁ (fun _ s₁' h₁' => ?_) fun _ _ h' => h'.elim)
      exact wpAny_bind (wpAny_mono h₁' (fun _ s₂ h₂ => wpAny_bind (wpAny_bind (wpAny_mono (show wpAny _ _ _ _ _ _ from h₂) (fun x s₃ h₃ => wpAny_bind (wpAny_mono h₃
        (fun _ s₄ h₄ => wpAny_pure (wpAny_pure ⟨rfl, h₄⟩)) fun _ _ h' => h'.elim)) fun _ _ h' => h'.elim))) fun _ _ h' => h'.elim)
  | [c], _, T =>
    have e1 : compTurn (.ListComp elt [⟨target, iter, [c], 0⟩] scope pos) 0 it acc env = (standAt iter.pos >>= fun _ => pyNext it >>= fun r => match r with
      | none => pure (.done .next)
      | some v => letOwnedTupleGo target it v >>= fun _ => assign target env v >>= fun _ => isTrue c env (eval c env) >>= fun ok =>
        (if ok = true then (eval elt env >>= fun x => call (.builtin "list.append") [acc, x] >>= fun _ => pure ()) >>= fun _ => again (.compLoop (.ListComp elt [⟨target, iter, [c], 0⟩] scope pos) 0 it acc env)
          else again (.compLoop (.ListComp elt [⟨target, iter, [c], 0⟩] scope pos) 0 it acc env))) := by
      unfold compTurn
      simp only [List.forIn_cons, List.forIn_nil, if_true, bind_assoc, pure_bind, List.getElem?_cons_zero]
      rfl
    rw [e1]
    refine wpAny_bind (wpAny_standAt (wpAny_bind (wpAny_mono T (fun r s₁ h₁ => ?_) fun _ _ h' => h'.elim)))
    cases r with
    | none => exact wpAny_pure h₁
    | some v =>
      refine wpAny_bind (wpAny_mono h₁ (fun _ s₁' h₁' => ?_) fun _ _ h' => h'.elim)
      refine wpAny_bind (wpAny_mono h₁' (fun _ s₂ h₂ => wpAny_bind (wpAny_mono (show wpAny _ _ _ _ _ _ from h₂) (fun b s₃ h₃ => ?_) fun _ _ h' => h'.elim)) fun _ _ h' => h'.elim)
      cases b with
      | true =>
        rw [if_pos rfl] at h₃ ⊢
        exact wpAny_bind (wpAny_bind (wpAny_mono h₃ (fun x s₄ h₄ => wpAny_bind (wpAny_mono h₄ (fun _ s₅ h₅ => wpAny_pure (wpAny_pure ⟨rfl, h₅⟩)) fun _ _ h' => h'.elim)) fun _ _ h' => h'.elim))
      | false =>
        rw [if_neg Bool.false_ne_true] at h₃ ⊢
        exact wpAny_pure ⟨rfl, h₃⟩
  | _ :: _ :: _, hifs, T =>
    exact absurd hifs (by simp)
end L2
namespace L2
open PySem PySem.Spec PyProof.Rows
noncomputable def outTo (a : Addr) (N : Hp → Prop) : Option V → Hp → Prop
  | some y, H => ∃ zs, H a = some (.lst zs) ∧ zs.length < sizeLine ∧ N (upd H a (.lst (zs ++ [y])))
  | none, H => N H
noncomputable abbrev CompWG (J : It) (g : TG) (tt : TOx) (n : Nat) (fr : List (Str × Nat)) (σ : St) (a : Addr) (H : Hp) (Q : VK) : Prop :=
  ∃ W : Nat → Nat → Hp → Prop, (∃ m, W 0 m (upd H a (.lst []))) ∧ ∀ i m H2, W i m H2 → (J.stop i H2 ∧ Q (.ref a) H2) ∨
    (J.go i H2 ∧ ∃ N : Hp → Prop, (∀ H', N H' → ∃ m', m' < m ∧ W (i + 1) m' H') ∧ ∀ (ys : St) x H3, ys.length = n → J.yld i H2 x H3 →
      g x (ys ++ frees fr σ) H3 fun σ4 H4 => (∃ ys' : St, ys'.length = n ∧ σ4 = ys' ++ frees fr σ) ∧ tt σ4 H4 (outTo a N))
noncomputable def tCompG (wi : TI) (g : TG) (tt : TOx) (n : Nat) (fr : List (Str × Nat)) : TE := fun σ H Q => wi σ H fun J H1 => ∀ a, H1 a = none → CompWG J g tt n fr σ a H1 Q
section
variable {X : Cx} {sc scope : Scope} {xs : List Str} {fr : List (Str × Nat)} {elt tg iter : Expr} {ifs : List Expr} {g : TG} {tt : TOx}
theorem comp_coreG {pins : List (Addr × Obj)} {σ : St} {H : Hp} {s : Shared} {pos : Pos} {J : It} {fp : List Addr} {it : Addr} {tn : Nat → Heap → Prop} {Q : VK} {RR : Value → Addr → Result → Shared → Prop} {E : Value → Shared → Prop}
    (c : CompOkG X sc scope xs fr) (hc : X.calm = true) (hifs : ifs.length ≤ 1) (I : Inv X pins σ H s) (T : Turn X.prog X.w X.K tg J fp it tn) (t0 : tn 0 s.heap) (hf : ∀ b ∈ fp, FpOk X pins H b)
    (hg : ∀ (s₃ : Shared) (H₃ : Hp) (fp : List Addr), (cxCompG X scope (xs ++ fr.map (·.1)) s₃ H₃ fp).env.scope = relab sc scope → PG (cxCompG X scope (xs ++ fr.map (·.1)) s₃ H₃ fp) tg g)
    (he : ∀ (s₃ : Shared) (H₃ : Hp) (fp : List Addr), (cxCompG X scope (xs ++ fr.map (·.1)) s₃ H₃ fp).env.scope = relab sc scope → POx (cxCompG X scope (xs ++ fr.map (·.1)) s₃ H₃ fp) elt ifs tt)
    (hw : ∀ a, H a = none → CompWG J g tt xs.length fr σ a H Q)
    (hRR : ∀ a C H' s' m, s'.heap.Ns C m → Inv X pins σ H' s' → FpOk X pins H' C → Q (.ref a) H' → RR (.ref a) C (.ok .next) s') :
    wpAny (model X.prog X.w) X.A (newList []) (fun acc s₃ => wpAny (model X.prog X.w) X.A (newFunctionEnv scope X.env.globals (clOf X.env scope.names []) [] X.env.qual none .none (some X.env)) (fun cenv s₄ =>
      codeAny (model X.prog X.w) X.A (.compStart (.ListComp elt [⟨tg, iter, ifs, 0⟩] scope pos) 0 (.ref it) acc { cenv with scope := relabel scope X.env }) (RR acc cenv.locals) s₄) E s₃) E s := by
  obtain ⟨W, ⟨m0, w0⟩, turn⟩ := hw s.heap.objs.size I.fresh
  refine wpAny_newObj_type (newEnv_own ?_)
  have I3 : Inv X pins σ (upd H s.heap.objs.size (.lst [])) { s with heap := s.heap.push { cls := .type "list", dict := none, data := .seq ([] : List Value).toArray } } := I.lnew (ys := []) (its := []) (t' := s.toks) .nil (Nat.zero_le _)
  have kp : ∀ b o, s.heap.get? b = some o → (s.heap.push { cls := .type "list", dict := none, data := .seq ([] : List Value).toArray }).get? b = some o := fun b o e => Heap.get?_push_of_some _ e
  have un0 : Un (frs X.stack) fp H (upd H s.heap.objs.size (.lst [])) s.heap (s.heap.push { cls := .type "list", dict := none, data := .seq ([] : List Value).toArray }) := Un.laid kp (Nat.le_refl _) I.fresh
  dsimp only
  generalize hH2 : s.heap.push { cls := .type "list", dict := none, data := .seq ([] : List Value).toArray } = hp2 at I3 kp un0 ⊢
  have hsz : s.heap.objs.size ≤ hp2.objs.size := by rw [← hH2, Heap.size_push]; exact Nat.le_succ _
  have ft : ∀ b ∈ fp, ∃ o, s.heap.get? b = some o := fun b hb => let ⟨o, e, _⟩ := T.obj _ _ t0 b hb; ⟨o, e⟩
  have nea : ∀ b ∈ fp, b ≠ s.heap.objs.size := fun b hb => let ⟨_, e⟩ := ft b hb; Nat.ne_of_lt (Heap.lt_size e)
  have f3 : ∀ b ∈ fp, FpOk X pins (upd H s.heap.objs.size (.lst [])) b ∧ ∃ o, hp2.get? b = some o := fun b hb => by
    obtain ⟨o, e⟩ := ft b hb
    exact ⟨⟨by rw [upd_ne (nea b hb)]; exact (hf b hb).1, (hf b hb).2⟩, o, kp b o e⟩
  have J0 := comp_startG c I3 f3
  have k4 : ∀ b o, hp2.get? b = some o → (pushCells (hp2.push { cls := .type "dict", data := .dict #[] }) scope.names).get? b = some o := fun b o e => pushCells_keeps _ _ b o (Heap.get?_push_of_some _ e)
  have t4 : tn 0 (pushCells (hp2.push { cls := .type "dict", data := .dict #[] }) scope.names) := T.keep 0 _ _ t0 fun b hb o e => k4 b o (kp b o e)
  have esc : ∀ (s₃ : Shared) (H₃ : Hp) (fp : List Addr), (cxCompG X scope (xs ++ fr.map (·.1)) s₃ H₃ fp).env.scope = relab sc scope := fun _ _ _ => relab_is c.hsc
  have stat : ∀ {H' : Hp}, (∀ b ∈ fp, H' b = none) → ∀ b ∈ fp, FpOk (cxCompG X scope (xs ++ fr.map (·.1)) { s with heap := hp2 } (upd H s.heap.objs.size (.lst [])) fp) [] H' b := fun hn b hb => by
    obtain ⟨e1, e2⟩ := J0.ok.exf b hb
    exact ⟨hn b hb, e1, J0.ok.exfs b hb, .inl hb, e2, fun p hp => absurd (show p ∈ ([] : List (Addr × Obj)) from hp) (by simp)⟩
  have loop : codeAny (model X.prog X.w) X.A (.compLoop (.ListComp elt [⟨tg, iter, ifs, 0⟩] scope pos) 0 (.ref it) (.ref s.heap.objs.size) (compEnvC scope (cellsFrom (hp2.objs.size + 1) scope.names (clOf X.env scope.names [])) hp2.objs.size X.env))
      (RR (.ref s.heap.objs.size) hp2.objs.size) { s with heap := pushCells (hp2.push { cls := .type "dict", data := .dict #[] }) scope.names } := by
    refine codeAny_compLoop_gen (fun n s' => ∃ i, ∃ ys : St, ∃ H', ys.length = xs.length ∧ Inv (cxCompG X scope (xs ++ fr.map (·.1)) { s with heap := hp2 } (upd H s.heap.objs.size (.lst [])) fp) [] (ys ++ frees fr σ) H' s' ∧ tn i s'.heap ∧ (∀ b ∈ fp, H' b = none) ∧ W i n H')
      ?_ m0 ⟨0, xs.map fun _ => none, _, by simp, J0, t4, fun b hb => (f3 b hb).1.1, w0⟩ hifs
    rintro n s3 ⟨i, ys, H3, hys, K3, st3, fr3, w3⟩
    rcases turn i n H3 w3 with ⟨stop, qn⟩ | ⟨go, N, hN, step⟩
    · refine thn (T.done (cxCompG X scope (xs ++ fr.map (·.1)) { s with heap := hp2 } (upd H s.heap.objs.size (.lst [])) fp) rfl rfl rfl hc i [] s3 _ H3 (fun _ _ => False) K3 (stat fr3) st3 stop) fun r s4 ⟨hr, K4⟩ => ?_
      subst hr
      obtain ⟨m4, hn4, _⟩ := K4.loc
      have K5 : Inv X pins σ H3 s4 := I.call' K4.os (un0.trans K4.base) K4.hok K4.bare fun b hb => let f := hf b hb; ⟨f.2.2.2.1, f.2.1, f.2.2.2.2.1, f.2.2.2.2.2⟩
      exact hRR _ _ H3 s4 m4 hn4 K5 (I.fpOk hsz K4.free) qn
    · refine thn (T.item (cxCompG X scope (xs ++ fr.map (·.1)) { s with heap := hp2 } (upd H s.heap.objs.size (.lst [])) fp) rfl rfl rfl hc i [] s3 _ H3 (fun _ _ => False) K3 (stat fr3) st3 go) fun r s4 ⟨u, hr, h4⟩ => ?_
      subst hr
      refine thn h4 fun _ s5 ⟨y, H5, K5, r5, y5, st5, fr5⟩ => ?_
      have K5' := K5.pinned (stat fr5) (T.obj _ _ st5)
      refine thn (hg _ _ _ (esc _ _ _) _ s5 _ H5 y u _ K5' r5 (step ys y H5 hys y5)) fun _ s6 ⟨σ6, H6, K6, ⟨ys6, hl6, e6⟩, q6⟩ => ?_
      subst e6
      have fin : ∀ (s8 : Shared) (H8 : Hp), Inv (cxCompG X scope (xs ++ fr.map (·.1)) { s with heap := hp2 } (upd H s.heap.objs.size (.lst [])) fp) ([] ++ pinsAt fp s5.heap) (ys6 ++ frees fr σ) H8 s8 → N H8 →
          ∃ m, m < n ∧ ∃ i, ∃ ys : St, ∃ H', ys.length = xs.length ∧ Inv (cxCompG X scope (xs ++ fr.map (·.1)) { s with heap := hp2 } (upd H s.heap.objs.size (.lst [])) fp) [] (ys ++ frees fr σ) H' s8 ∧ tn i s8.heap ∧ (∀ b ∈ fp, H' b = none) ∧ W i m H' := by
        intro s8 H8 K8 n8
        obtain ⟨m', hm, w8⟩ := hN H8 n8
        refine ⟨m', hm, i + 1, ys6, H8, hl6, K8.unpinned, T.keep _ _ _ st5 fun b hb o e => (K8.pin (b, o) (List.mem_append_right _ (List.mem_append_right _ (mem_pinsAt hb e)))).1, fun b hb => ?_, w8⟩
        obtain ⟨o, e, d⟩ := T.obj _ _ st5 b hb
        exact (K8.pin (b, o) (List.mem_append_right _ (List.mem_append_right _ (mem_pinsAt hb e)))).2.1
      have h7 := he _ _ _ (esc _ _ _) _ s6 _ H6 _ K6 q6
      have mono : ∀ {Q Q' : Option Value → Shared → Prop} {E : Value → Shared → Prop} {s' : Shared} {env : Env}, (∀ o s1, Q o s1 → Q' o s1) → turnOf elt ifs env (model X.prog X.w) X.A Q E s' → turnOf elt ifs env (model X.prog X.w) X.A Q' E s' := by
        intro Q Q' E s' env hq ht
        unfold turnOf at ht ⊢
        match ifs, hifs, ht with
        | [], _, ht => exact wpAny_mono ht (fun x s1 q => hq _ _ q) fun _ _ e => e
        | [c], _, ht =>
          refine wpAny_mono ht (fun b s1 q => ?_) fun _ _ e => e
          split at q
          · rename_i hb; rw [if_pos hb]; exact wpAny_mono q (fun x s2 q => hq _ _ q) fun _ _ e => e
          · rename_i hb; rw [if_neg hb]; exact hq _ _ q
        | _ :: _ :: _, hifs, _ => exact absurd hifs (by simp)
      refine mono (fun o s7 ⟨z7, H7, K7, r7, q7⟩ => ?_) h7
      cases o with
      | none =>
        cases z7 with
        | none => exact fin s7 H7 K7 q7
        | some z => exact r7.elim
      | some v7 =>
        cases z7 with
        | none => exact r7.elim
        | some z7 =>
          obtain ⟨zs, hz, hl, w7⟩ := q7
          exact thn (mt_append _ s7 _ H7 (.ref s.heap.objs.size) [z7] (.ref s.heap.objs.size) [v7] (fun _ H8 => N H8) K7 rfl (.cons r7 .nil) ⟨_, zs, z7, rfl, rfl, hz, hl, w7⟩) fun _ s8 ⟨_, H8, K8, _, n8⟩ => fin s8 H8 K8 n8
  exact codeAny_compStart_list loop (T.self _ 0 _ _ _ t4 loop)
variable {wi : TI}
theorem pe_compG {pos : Pos} (c : CompOkG X sc scope xs fr) (hc : X.calm = true) (hi : PI X tg iter wi)
    (hg : ∀ (s₃ : Shared) (H₃ : Hp) (fp : List Addr), (cxCompG X scope (xs ++ fr.map (·.1)) s₃ H₃ fp).env.scope = relab sc scope → PG (cxCompG X scope (xs ++ fr.map (·.1)) s₃ H₃ fp) tg g)
    (he : ∀ (s₃ : Shared) (H₃ : Hp) (fp : List Addr), (cxCompG X scope (xs ++ fr.map (·.1)) s₃ H₃ fp).env.scope = relab sc scope → POx (cxCompG X scope (xs ++ fr.map (·.1)) s₃ H₃ fp) elt ifs tt)
    (hifs : ifs.length ≤ 1 := by exact Nat.le_of_ble_eq_true rfl) (hs : ∀ x, foldedSetIterable iter X.env x = pure x := by intro _; rfl) : PE X (.ListComp elt [⟨tg, iter, ifs, 0⟩] scope pos) (tCompG wi g tt xs.length fr) := by
  intro pins s σ H Q I h
  rw [eval_ListComp]
  refine wpAny_comprehension_free (use := none) rfl hs (closure_is (c.cells I)) c.kind c.loc (thn (hi pins s σ H _ I h) fun v s1 h1 => thn h1 fun itv s2 h2 => ?_)
  obtain ⟨it, fp, tn, J, H2, e, I2, T, t2, f2, hw⟩ := h2
  subst e
  refine comp_coreG (RR := fun acc C => compPost (model X.prog X.w) X.A X.xe none (EP X pins σ Q) acc C) c hc hifs I2 T t2 f2 hg he hw ?_
  intro a C H' s' m hn K f q
  exact ⟨m, hn, fun h' hs' => ⟨.ref a, H', K.turned (t' := s'.toks) (fun b o hb e => (hs'.2 b hb).trans e) f.1 f.2.1 f.2.2.2.1 f.2.2.2.2.1 f.2.2.2.2.2, rfl, q⟩⟩
theorem ps_setCG {pos spos py : Pos} {y : Str} {i : Nat} (c : CompOkG X sc scope xs fr) (hc : X.calm = true) (hN : X.N.Nodup) (hy : X.N[i]? = some y) (hl : X.env.scope.names.lookup y = some .local) (hi : PI X tg iter wi)
    (hg : ∀ (s₃ : Shared) (H₃ : Hp) (fp : List Addr), (cxCompG X scope (xs ++ fr.map (·.1)) s₃ H₃ fp).env.scope = relab sc scope → PG (cxCompG X scope (xs ++ fr.map (·.1)) s₃ H₃ fp) tg g)
    (he : ∀ (s₃ : Shared) (H₃ : Hp) (fp : List Addr), (cxCompG X scope (xs ++ fr.map (·.1)) s₃ H₃ fp).env.scope = relab sc scope → POx (cxCompG X scope (xs ++ fr.map (·.1)) s₃ H₃ fp) elt ifs tt)
    (hsw : swapsWith (.ListComp elt [⟨tg, iter, ifs, 0⟩] scope pos) (some (.Name y py)) spos.line X.env = pure true := by rfl)
    (hifs : ifs.length ≤ 1 := by exact Nat.le_of_ble_eq_true rfl) (hs : ∀ x, foldedSetIterable iter X.env x = pure x := by intro _; rfl) : PS X (.Assign [.Name y py] (.ListComp elt [⟨tg, iter, ifs, 0⟩] scope pos) spos) (tSetC i (tCompG wi g tt xs.length fr)) := by
  intro pins s σ H D I h
  rw [exec_Assign_Name_used _ _ _ _ hsw]
  refine wpAny_bind (wpAny_standAt (wpAny_bind ?_))
  show wpAny _ _ (do let _ ← comprehension (.ListComp elt [⟨tg, iter, ifs, 0⟩] scope pos) scope X.env _ (newList []) false (eval iter X.env) (some (assign (.Name y py) X.env))) _ _ s
  refine wpAny_bind (wpAny_mono (wpAny_comprehension_free (use := some (assign (.Name y py) X.env)) (Q := fun _ s' => SP X pins D .next s') rfl hs (closure_is (c.cells I)) c.kind c.loc
    (thn (hi pins s σ H _ I h) fun v s1 h1 => thn h1 fun itv s2 h2 => ?_)) (fun _ s' hq => wpAny_pure (wpAny_pure hq)) fun _ _ e => e)
  obtain ⟨it, fp, tn, J, H2, e, I2, T, t2, f2, hw⟩ := h2
  subst e
  refine comp_coreG (RR := fun acc C => compPost (model X.prog X.w) X.A X.xe (some (assign (.Name y py) X.env)) (fun _ s' => SP X pins D .next s') acc C) (Q := fun v H1 => D.nx (σ.set i (some v)) H1) c hc hifs I2 T t2 f2 hg he hw ?_
  intro a C H' s' m hn K f q
  show wpAny _ _ (assign (.Name y py) X.env (.ref a)) _ _ _
  refine wpAny_assign_Name (store_ok2 K hN hy (.inl hl) (show RelV (.ref a) (.ref a) from rfl) (fun s'' K2 ⟨b, sb, hb⟩ => ?_) (.inr hl))
  have hCb : C ≠ b := by
    rcases hb with e | e
    · rw [e]; exact f.2.1
    · exact Ne.symm (f.2.2.2.2.1 y b e)
  refine ⟨m, hn.sameBut sb hCb, fun h' hs' => ?_⟩
  exact ⟨_, H', K2.turned (t' := s''.toks) (fun b o hb e => (hs'.2 b hb).trans e) f.1 f.2.1 f.2.2.2.1 f.2.2.2.2.1 f.2.2.2.2.2, q⟩
end
noncomputable def compGB (sc : Scope) (N : List Str) (scope : Scope) (fr : List (Str × Nat)) : Bool :=
  decide (scope.kind = .function) && decide ((scope.names.map (·.1)).Nodup) && decide (∀ y ∈ scope.names, y.2 = .free → sc.names.lookup y.1 = some .cell ∨ sc.names.lookup y.1 = some .free) &&
  decide (∀ y ∈ scope.names, y.2 = .local → scope.names.lookup y.1 = some .local) && decide (∀ p ∈ fr, N[p.2]? = some p.1 ∧ scope.names.lookup p.1 = some .free)
theorem compG_ok {X : Cx} {sc scope : Scope} {N xs : List Str} {fr : List (Str × Nat)} (h1 : X.env.scope = sc) (h2 : X.N = N) (h : compGB sc N scope fr = true) : CompOkG X sc scope xs fr := by
  unfold compGB at h
  simp only [Bool.and_eq_true, decide_eq_true_eq] at h
  obtain ⟨⟨⟨⟨e1, e2⟩, e3⟩, e4⟩, e5⟩ := h
  subst h2
  exact ⟨h1, e1, e2, e3, e4, e5⟩
noncomputable def nameB (sc : Scope) (N : List Str) (i : Nat) (x : Str) : Bool := decide (N.Nodup) && decide (N[i]? = some x) && (decide (sc.names.lookup x = some .local))
theorem pg_own {X : Cx} {sc : Scope} {N : List Str} {i : Nat} {x : Str} {pos : Pos} (h1 : X.env.scope = sc) (h2 : X.N = N) (h : nameB sc N i x = true) : PG X (.Name x pos) (gName i) := by
  unfold nameB at h
  simp only [Bool.and_eq_true, decide_eq_true_eq] at h
  subst h1 h2
  exact pg_name h.1.1 h.1.2 (.inl h.2) (.inr h.2)
theorem pg_ownC {X : Cx} {sc : Scope} {N : List Str} {i : Nat} {x : Str} {pos : Pos} (h1 : X.env.scope = sc) (h2 : X.N = N) (h : (decide (N.Nodup) && decide (N[i]? = some x) && (decide (sc.names.lookup x = some .cell))) = true) (hf : X.fn x = true) : PG X (.Name x pos) (gName i) := by
  simp only [Bool.and_eq_true, decide_eq_true_eq] at h
  subst h1 h2
  exact pg_name h.1.1 h.1.2 (.inr h.2) (.inl hf)
end L2

namespace L2
open PySem PySem.Spec PyProof.Rows
noncomputable def SqB (b : Bool) (K : PySem.W.Frag) (H : Hp) (a : Addr) (xs : List V) : Prop := match b with | false => SqL K H a xs | true => SqT K H a xs
noncomputable def ItB (b : Bool) (h : Heap) (it a : Addr) (i : Nat) : Prop := match b with | false => h.IsListIter it a i | true => h.IsTupleIter it a i
noncomputable def seqB (b : Bool) (h : Heap) (a : Addr) (its : Array Value) : Prop := match b with | false => h.IsList a its | true => h.IsTuple a its
noncomputable def nmB (b : Bool) : String := match b with | false => "list_iterator" | true => "tuple_iterator"
theorem ItB.at {b : Bool} {h h' : Heap} {it a : Addr} {i : Nat} (x : ItB b h it a i) (e : ∀ o, h.get? it = some o → h'.get? it = some o) : ItB b h' it a i := by
  cases b
  · exact Heap.IsListIter.at x e
  · exact Heap.IsTupleIter.at x e
theorem seqB.at {b : Bool} {h h' : Heap} {a : Addr} {its : Array Value} (x : seqB b h a its) (e : ∀ o, h.get? a = some o → h'.get? a = some o) : seqB b h' a its := by
  cases b
  · exact Heap.IsList.at x e
  · obtain ⟨o, ho, r⟩ := x
    exact ⟨o, e o ho, r⟩
theorem ItB.lt {b : Bool} {h : Heap} {it a : Addr} {i : Nat} (x : ItB b h it a i) : ∃ o, h.get? it = some o ∧ ∀ v, o.data ≠ .cell v := by
  cases b
  · obtain ⟨o, e, c, d⟩ := x
    exact ⟨o, e, fun v z => by rw [d] at z; cases z⟩
  · obtain ⟨o, e, c, d⟩ := x
    exact ⟨o, e, fun v z => by rw [d] at z; cases z⟩
section
variable {prog : Program} {w : World} {A : Around} {E : Value → Shared → Prop} {s : Shared}
theorem nextT_item {it t : Addr} {i : Nat} {items} {x : Value} {Q : Value → Shared → Prop} (hit : s.heap.IsTupleIter it t i) (ht : s.heap.IsTuple t items) (hx : items[i]? = some x)
    (hQ : ∀ h', h'.IsTupleIter it t (i + 1) → Heap.SameBut it s.heap h' → Q x { s with heap := h' }) : wpAny (model prog w) A (Builtin.SmallTypes.nextOf (.ref it)) Q E s := by
  obtain ⟨o, ho, hc, hd⟩ := id hit
  obtain ⟨ol, hol, _, nl, hdl⟩ := ht
  unfold Builtin.SmallTypes.nextOf
  refine wpAny_bind (wpAny_callSpecial?_slot (name := Str.ofString "__next__") hit.typeIs F.slot_tuple_iterator_next
    (wpAny_call_entry F.slot_tuple_iterator_next hit.typeIs F.entry_tuple_iterator_next ?_ (F.args_tuple_iterator_next_1 _)))
  show wpAny _ _ (field (.ref it) 0 >>= _) _ _ s
  refine wpAny_bind (wpAny_field ho hd (x := .ref t) rfl ?_)
  show wpAny _ _ (if (Value.ref t == Value.none) = true then _ else _) _ _ s
  rw [if_neg (show ¬ ((Value.ref t == Value.none) = true) from Bool.false_ne_true)]
  show wpAny _ _ (field (.ref it) 1 >>= _) _ _ s
  refine wpAny_bind (wpAny_field ho hd (x := .int i 0) rfl ?_)
  show wpAny _ _ (seqItems? (.ref t) >>= _) _ _ s
  refine wpAny_bind (wpAny_seqItems hol hdl ?_)
  simp only [Int.toNat_natCast, hx]
  refine wpAny_bind (wpAny_setField ho hd (by simp) (wpAny_pure ⟨x, rfl, wpAny_pure (hQ _ ?_ (Heap.SameBut.update ..))⟩))
  exact ⟨_, Heap.get?_update_self _ ho (Obj.isFreed_of_fields (Obj.data_mapFields hd _)), (Obj.cls_mapFields ..).trans hc, by
    rw [Obj.data_mapFields hd]; simp [rawInt]⟩
theorem nextT_end {it t : Addr} {i : Nat} {items} {Q : Value → Shared → Prop} (hh : A.handled = none) (hit : s.heap.IsTupleIter it t i) (ht : s.heap.IsTuple t items) (hx : items[i]? = none)
    (hE : ∀ h' e, Heap.ExtBut it s.heap h' → (∃ o, h'.get? e = some o ∧ o.cls = .type "StopIteration") → E (.ref e) { s with heap := h' }) : wpAny (model prog w) A (Builtin.SmallTypes.nextOf (.ref it)) Q E s := by
  obtain ⟨o, ho, hc, hd⟩ := id hit
  obtain ⟨ol, hol, _, nl, hdl⟩ := ht
  unfold Builtin.SmallTypes.nextOf
  refine wpAny_bind (wpAny_callSpecial?_slot (name := Str.ofString "__next__") hit.typeIs F.slot_tuple_iterator_next
    (wpAny_call_entry F.slot_tuple_iterator_next hit.typeIs F.entry_tuple_iterator_next ?_ (F.args_tuple_iterator_next_1 _)))
  show wpAny _ _ (field (.ref it) 0 >>= _) _ _ s
  refine wpAny_bind (wpAny_field ho hd (x := .ref t) rfl ?_)
  show wpAny _ _ (if (Value.ref t == Value.none) = true then _ else _) _ _ s
  rw [if_neg (show ¬ ((Value.ref t == Value.none) = true) from Bool.false_ne_true)]
  show wpAny _ _ (field (.ref it) 1 >>= _) _ _ s
  refine wpAny_bind (wpAny_field ho hd (x := .int i 0) rfl ?_)
  show wpAny _ _ (seqItems? (.ref t) >>= _) _ _ s
  refine wpAny_bind (wpAny_seqItems hol hdl ?_)
  simp only [Int.toNat_natCast, hx]
  refine wpAny_bind (wpAny_rule (wpAny_bind (wpAny_setField ho hd (by simp) ?_)))
  show wpAny _ _ (newExc (.type "StopIteration") [] >>= _) _ _ _
  refine wpAny_bind ?_
  simp only [newExc, newTuple]
  refine wpAny_bind (wpAny_newObj_type ?_ (by size_fits))
  refine wpAny_bind (m := firstArgMember _ _) (wpAny_of_eq (a := Value.none) (by first | rfl | (simp only [firstArgMember]; rfl)) ?_)
  refine wpAny_newObj_type ?_ (by size_fits)
  simp only [raiseNew]
  refine wpAny_bind (wpAny_handled ?_)
  first | rw [show A.in1.handled = none from hh] | rw [hh]
  refine wpAny_bind (wpAny_pure (wpAny_throw ?_))
  exact hE _ _ (((Heap.SameBut.update ..).extBut.push _).push _) ⟨_, Heap.get?_push_size _ rfl, rfl⟩
theorem nextB_item {b : Bool} {it l : Addr} {i : Nat} {items : Array Value} {x : Value} {Q : Value → Shared → Prop} (hit : ItB b s.heap it l i) (hl : seqB b s.heap l items) (hx : items[i]? = some x)
    (hQ : ∀ h', ItB b h' it l (i + 1) → Heap.SameBut it s.heap h' → Q x { s with heap := h' }) : wpAny (model prog w) A (Builtin.SmallTypes.nextOf (.ref it)) Q E s := by
  cases b
  · exact wpAny_nextOf_list_item hit hl hx hQ
  · exact nextT_item hit hl hx hQ
theorem nextB_end {b : Bool} {it l : Addr} {i : Nat} {items : Array Value} {Q : Value → Shared → Prop} (hh : A.handled = none) (hit : ItB b s.heap it l i) (hl : seqB b s.heap l items) (hx : items[i]? = none)
    (hE : ∀ h' e, Heap.ExtBut it s.heap h' → (∃ o, h'.get? e = some o ∧ o.cls = .type "StopIteration") → E (.ref e) { s with heap := h' }) : wpAny (model prog w) A (Builtin.SmallTypes.nextOf (.ref it)) Q E s := by
  cases b
  · exact wpAny_nextOf_list_end hh hit hl hx hE
  · exact nextT_end hh hit hl hx hE
theorem iterB {b : Bool} {l : Addr} {items : Array Value} {Q : Value → Shared → Prop} (hl : seqB b s.heap l items)
    (hQ : Q (.ref s.heap.objs.size) { s with heap := s.heap.push { cls := .type (nmB b), data := .fields #[.ref l, .int 0 0] } }) : wpAny (model prog w) A (pyIter (.ref l)) Q E s := by
  cases b
  · exact wpAny_pyIter_list hl hQ
  · exact wpAny_pyIter_tuple hl hQ
theorem iterB_new {b : Bool} {h : Heap} {l : Addr} : ItB b (h.push { cls := .type (nmB b), data := .fields #[.ref l, .int 0 0] }) h.objs.size l 0 := by
  cases b
  · exact ⟨_, Heap.get?_push_size _ rfl, rfl, rfl⟩
  · exact ⟨_, Heap.get?_push_size _ rfl, rfl, rfl⟩
theorem drawsB (b : Bool) (hh : A.handled = none) (it l : Addr) (hne : l ≠ it) (items : Array Value) :
    Draws prog w A it [it, l] items.size (fun i v => items[i]? = some v) (fun i h => ItB b h it l i ∧ seqB b h l items) where
  live := fun _ _ st => let ⟨o, ho, _⟩ := st.1.lt; ⟨o, ho⟩
  frame := fun _ _ _ st hk => ⟨st.1.at fun o e => hk it (by simp) o e, st.2.at fun o e => hk l (by simp) o e⟩
  item := fun i s Q E hi st hQ => by
    refine nextB_item st.1 st.2 (x := items[i]) (by simp [hi]) fun h' hit' hs' => ?_
    exact hQ _ h' s.toks (by simp [hi]) ⟨hit', st.2.at fun o e => (hs'.2 l hne).trans e⟩ hs'
  done := fun s Q E st hE => nextB_end hh st.1 st.2 (by simp) hE

theorem zipB_item {b1 b2 : Bool} {z TI TO i1 i2 l1 l2 : Addr} {k1 k2 : Nat} {xs ys : Array Value} {x y a b : Value} {Q : Option Value → Shared → Prop} (D : ZipApart z TI TO i1 i2 l1 l2)
    (hz : IsZip s.heap z TI TO .none) (hTI : IsPair s.heap TI (.ref i1) (.ref i2)) (hTO : IsPair s.heap TO a b)
    (h1 : ItB b1 s.heap i1 l1 k1) (h2 : ItB b2 s.heap i2 l2 k2) (hl1 : seqB b1 s.heap l1 xs) (hl2 : seqB b2 s.heap l2 ys) (hx : xs[k1]? = some x) (hy : ys[k2]? = some y)
    (hQ : ∀ h', IsZip h' z TI TO (rawInt s.heap.objs.size) → IsPair h' TO x y → ItB b1 h' i1 l1 (k1 + 1) → ItB b2 h' i2 l2 (k2 + 1) → IsPair h' s.heap.objs.size x y → h'.objs.size = s.heap.objs.size + 1 →
      (∀ c o, c ≠ z → c ≠ TO → c ≠ i1 → c ≠ i2 → s.heap.get? c = some o → h'.get? c = some o) → Q (some (.ref s.heap.objs.size)) { s with heap := h' }) :
    wpAny (model prog w) A (pyNext (.ref z)) Q E s := by
  have hT : s.TypeIs (.ref z) "zip" := ⟨_, hz, rfl⟩
  unfold pyNext
  refine wpAny_bind (wpAny_attempt (wpAny_callSpecial?_slot (name := Str.ofString "__next__") hT F.slot_zip_next (wpAny_call_entry F.slot_zip_next hT F.entry_zip_next ?_ (F.args_zip_next_1 _))))
  show wpAny _ _ (field (.ref z) 2 >>= _) _ _ _
  refine wpAny_bind (wpAny_field hz rfl (x := .bool false) rfl ?_)
  show wpAny _ _ (field (.ref z) 3 >>= _) _ _ _
  refine wpAny_bind (wpAny_field hz rfl (x := .ref TI) rfl ?_)
  refine wpAny_bind (wpAny_seqItems hTI rfl ?_)
  show wpAny _ _ (Builtin.SmallTypes.ownedTupleIsFree (.ref z) >>= _) _ _ _
  refine wpAny_bind ?_
  unfold Builtin.SmallTypes.ownedTupleIsFree
  refine wpAny_bind (wpAny_field hz rfl (x := .none) rfl (wpAny_pure ?_))
  simp only [if_true]
  refine wpAny_bind (wpAny_rule ?_)
  refine wpAny_bind (wpAny_field hz rfl (x := .ref TO) rfl ?_)
  refine wpAny_bind (wpAny_setField_rec hz (by simp) fun h₁ hz₁ hs₁ => ?_)
  replace hz₁ : IsZip h₁ z TI TO .ellipsis := hz₁
  refine wpAny_bind ?_
  simp only [List.zipIdx_cons, List.zipIdx_nil, List.forIn_cons, List.forIn_nil]
  refine wpAny_bind (wpAny_bind (wpAny_onRaise ?_))
  show wpAny _ _ (Builtin.SmallTypes.nextOf (.ref i1) >>= _) _ _ _
  refine wpAny_bind (nextB_item (h1.at fun o e => hs₁.extBut _ _ D.i1z e) (hl1.at fun o e => hs₁.extBut _ _ D.l1z e) hx fun h₂ h1₂ hs₂ => wpAny_pure ?_)
  have hTO₂ : IsPair h₂ TO a b := hs₂.extBut _ _ D.TOi1 (hs₁.extBut _ _ D.TOz hTO)
  refine wpAny_bind (wpAny_seqItems hTO₂ rfl ?_)
  refine wpAny_bind (wpAny_updateSeq_pair hTO₂ fun h₃ hTO₃ hs₃ => ?_)
  replace hTO₃ : IsPair h₃ TO x b := hTO₃
  refine wpAny_bind (wpAny_letGo (wpAny_pure ?_))
  refine wpAny_bind (wpAny_bind (wpAny_onRaise ?_))
  show wpAny _ _ (Builtin.SmallTypes.nextOf (.ref i2) >>= _) _ _ _
  refine wpAny_bind (nextB_item (h2.at fun o e => hs₃.extBut _ _ D.TOi2.symm (hs₂.extBut _ _ D.i12.symm (hs₁.extBut _ _ D.i2z e)))
    (hl2.at fun o e => hs₃.extBut _ _ D.l2TO (hs₂.extBut _ _ D.l2i1 (hs₁.extBut _ _ D.l2z e))) hy fun h₄ h2₄ hs₄ => wpAny_pure ?_)
  have hTO₄ : IsPair h₄ TO x b := hs₄.extBut _ _ D.TOi2 hTO₃
  refine wpAny_bind (wpAny_seqItems hTO₄ rfl ?_)
  refine wpAny_bind (wpAny_updateSeq_pair hTO₄ fun h₅ hTO₅ hs₅ => ?_)
  replace hTO₅ : IsPair h₅ TO x y := hTO₅
  refine wpAny_bind (wpAny_letGo (wpAny_pure (wpAny_pure ?_)))
  refine wpAny_bind (wpAny_seqItems hTO₅ rfl ?_)
  refine wpAny_bind (wpAny_newTuple ?_)
  have hsz : h₅.objs.size = s.heap.objs.size := by rw [hs₅.1, hs₄.1, hs₃.1, hs₂.1, hs₁.1]
  have hz₅ : IsZip h₅ z TI TO .ellipsis := hs₅.extBut _ _ D.TOz.symm (hs₄.extBut _ _ D.i2z.symm (hs₃.extBut _ _ D.TOz.symm (hs₂.extBut _ _ D.i1z.symm hz₁)))
  have hk₅ : ∀ c o, c ≠ z → c ≠ TO → c ≠ i1 → c ≠ i2 → s.heap.get? c = some o → h₅.get? c = some o := fun c o c1 c2 c3 c4 e =>
    hs₅.extBut _ _ c2 (hs₄.extBut _ _ c4 (hs₃.extBut _ _ c2 (hs₂.extBut _ _ c3 (hs₁.extBut _ _ c1 e))))
  have h1₅ : ItB b1 h₅ i1 l1 (k1 + 1) := h1₂.at fun o e => hs₅.extBut _ _ D.TOi1.symm (hs₄.extBut _ _ D.i12 (hs₃.extBut _ _ D.TOi1.symm e))
  have h2₅ : ItB b2 h₅ i2 l2 (k2 + 1) := h2₄.at fun o e => hs₅.extBut _ _ D.TOi2.symm e
  have hzlt : z < h₅.objs.size := Heap.lt_size hz₅
  show wpAny _ _ (Builtin.SmallTypes.ownedTupleHandOut (.ref z) (.ref h₅.objs.size) >>= _) _ _ _
  refine wpAny_bind ?_
  unfold Builtin.SmallTypes.ownedTupleHandOut
  have hz₆ : IsZip (h₅.push { cls := .type "tuple", data := .seq #[x, y] }) z TI TO .ellipsis := Heap.get?_push_of_some _ hz₅
  refine wpAny_bind (wpAny_setField_rec hz₆ (by simp) fun h₇ hz₇ hs₇ => ?_)
  replace hz₇ : IsZip h₇ z TI TO (rawInt h₅.objs.size) := hz₇
  refine wpAny_setField_rec hz₇ (by simp) fun h₈ hz₈ hs₈ => ?_
  replace hz₈ : IsZip h₈ z TI TO (rawInt h₅.objs.size) := hz₈
  have up : ∀ c o, c ≠ z → h₅.get? c = some o → h₈.get? c = some o := fun c o c1 e => hs₈.extBut _ _ c1 (hs₇.extBut _ _ c1 (Heap.get?_push_of_some _ e))
  have hT₈ : IsPair h₈ h₅.objs.size x y := hs₈.extBut _ _ (Nat.ne_of_gt hzlt) (hs₇.extBut _ _ (Nat.ne_of_gt hzlt) (Heap.get?_push_size _ rfl))
  have hz8 : h₈.objs.size = h₅.objs.size + 1 := by rw [hs₈.1, hs₇.1, Heap.size_push]
  rw [hsz] at hz₈ hT₈ hz8
  refine wpAny_pure ⟨_, rfl, wpAny_pure ?_⟩
  show Q (some (.ref h₅.objs.size)) _
  rw [hsz]
  exact hQ h₈ hz₈ (up _ _ D.TOz hTO₅) (h1₅.at fun o e => up _ o D.i1z e) (h2₅.at fun o e => up _ o D.i2z e) hT₈ hz8 fun c o c1 c2 c3 c4 e => up c o c1 (hk₅ c o c1 c2 c3 c4 e)
theorem zipB_end {b1 b2 : Bool} {z TI TO i1 i2 l1 l2 : Addr} {k1 k2 : Nat} {xs ys : Array Value} {a b : Value} {Q : Option Value → Shared → Prop} (hh : A.handled = none) (D : ZipApart z TI TO i1 i2 l1 l2)
    (hz : IsZip s.heap z TI TO .none) (hTI : IsPair s.heap TI (.ref i1) (.ref i2)) (hTO : IsPair s.heap TO a b)
    (h1 : ItB b1 s.heap i1 l1 k1) (h2 : ItB b2 s.heap i2 l2 k2) (hl1 : seqB b1 s.heap l1 xs) (hl2 : seqB b2 s.heap l2 ys) (hend : xs[k1]? = none ∨ ys[k2]? = none)
    (hQ : ∀ h', (∀ c o, c ≠ z → c ≠ TO → c ≠ i1 → c ≠ i2 → s.heap.get? c = some o → h'.get? c = some o) → Q none { s with heap := h' }) : wpAny (model prog w) A (pyNext (.ref z)) Q E s := by
  have hT : s.TypeIs (.ref z) "zip" := ⟨_, hz, rfl⟩
  unfold pyNext
  refine wpAny_bind (wpAny_attempt (wpAny_callSpecial?_slot (name := Str.ofString "__next__") hT F.slot_zip_next (wpAny_call_entry F.slot_zip_next hT F.entry_zip_next (Q := _) ?_ (F.args_zip_next_1 _))))
  show wpAny _ _ (field (.ref z) 2 >>= _) _ _ _
  refine wpAny_bind (wpAny_field hz rfl (x := .bool false) rfl ?_)
  show wpAny _ _ (field (.ref z) 3 >>= _) _ _ _
  refine wpAny_bind (wpAny_field hz rfl (x := .ref TI) rfl ?_)
  refine wpAny_bind (wpAny_seqItems hTI rfl ?_)
  show wpAny _ _ (Builtin.SmallTypes.ownedTupleIsFree (.ref z) >>= _) _ _ _
  refine wpAny_bind ?_
  unfold Builtin.SmallTypes.ownedTupleIsFree
  refine wpAny_bind (wpAny_field hz rfl (x := .none) rfl (wpAny_pure ?_))
  simp only [if_true]
  refine wpAny_bind (wpAny_rule ?_)
  refine wpAny_bind (wpAny_field hz rfl (x := .ref TO) rfl ?_)
  refine wpAny_bind (wpAny_setField_rec hz (by simp) fun h₁ hz₁ hs₁ => ?_)
  replace hz₁ : IsZip h₁ z TI TO .ellipsis := hz₁
  refine wpAny_bind ?_
  simp only [List.zipIdx_cons, List.zipIdx_nil, List.forIn_cons, List.forIn_nil]
  refine wpAny_bind (wpAny_bind (wpAny_onRaise ?_))
  show wpAny _ _ (Builtin.SmallTypes.nextOf (.ref i1) >>= _) _ _ _
  cases hx : xs[k1]? with
  | none =>
    refine wpAny_bind (nextB_end hh (h1.at fun o e => hs₁.extBut _ _ D.i1z e) (hl1.at fun o e => hs₁.extBut _ _ D.l1z e) hx fun h₂ e hs₂ he => ?_)
    obtain ⟨oe, hoe, hce⟩ := he
    have hz₂ : IsZip h₂ z TI TO .ellipsis := hs₂ _ _ D.i1z.symm hz₁
    have hez : e ≠ z := fun x => by subst x; rw [hz₂] at hoe; cases hoe; simp at hce
    refine wpAny_setField_rec hz₂ (by simp) fun h₃ _ hs₃ => ?_
    refine wpAny_bind (wpAny_isInstance (T := "StopIteration") (b := true) ⟨oe, hs₃.extBut _ _ hez hoe, hce⟩ isSubtype_stop ?_)
    exact wpAny_pure (hQ h₃ fun c o c1 _ c3 _ x => hs₃.extBut _ _ c1 (hs₂ _ _ c3 (hs₁.extBut _ _ c1 x)))
  | some x =>
    have hy : ys[k2]? = none := by rcases hend with h | h; rw [hx] at h; cases h; exact h
    refine wpAny_bind (nextB_item (h1.at fun o e => hs₁.extBut _ _ D.i1z e) (hl1.at fun o e => hs₁.extBut _ _ D.l1z e) hx fun h₂ h1₂ hs₂ => wpAny_pure ?_)
    have hTO₂ : IsPair h₂ TO a b := hs₂.extBut _ _ D.TOi1 (hs₁.extBut _ _ D.TOz hTO)
    refine wpAny_bind (wpAny_seqItems hTO₂ rfl ?_)
    refine wpAny_bind (wpAny_updateSeq_pair hTO₂ fun h₃ hTO₃ hs₃ => ?_)
    refine wpAny_bind (wpAny_letGo (wpAny_pure ?_))
    refine wpAny_bind (wpAny_bind (wpAny_onRaise ?_))
    show wpAny _ _ (Builtin.SmallTypes.nextOf (.ref i2) >>= _) _ _ _
    refine wpAny_bind (nextB_end hh (h2.at fun o e => hs₃.extBut _ _ D.TOi2.symm (hs₂.extBut _ _ D.i12.symm (hs₁.extBut _ _ D.i2z e)))
      (hl2.at fun o e => hs₃.extBut _ _ D.l2TO (hs₂.extBut _ _ D.l2i1 (hs₁.extBut _ _ D.l2z e))) hy fun h₄ e hs₄ he => ?_)
    obtain ⟨oe, hoe, hce⟩ := he
    have hz₄ : IsZip h₄ z TI TO .ellipsis := hs₄ _ _ D.i2z.symm (hs₃.extBut _ _ D.TOz.symm (hs₂.extBut _ _ D.i1z.symm hz₁))
    have hez : e ≠ z := fun x => by subst x; rw [hz₄] at hoe; cases hoe; simp at hce
    refine wpAny_setField_rec hz₄ (by simp) fun h₅ _ hs₅ => ?_
    refine wpAny_bind (wpAny_isInstance (T := "StopIteration") (b := true) ⟨oe, hs₅.extBut _ _ hez hoe, hce⟩ isSubtype_stop ?_)
    exact wpAny_pure (hQ h₅ fun c o c1 c2 c3 c4 x => hs₅.extBut _ _ c1 (hs₄ _ _ c4 (hs₃.extBut _ _ c2 (hs₂.extBut _ _ c3 (hs₁.extBut _ _ c1 x)))))
end
noncomputable abbrev zB1 (b1 : Bool) (h : Heap) (l1 : Addr) : Heap := h.push { cls := .type (nmB b1), data := .fields #[.ref l1, .int 0 0] }
noncomputable abbrev zB2 (b1 b2 : Bool) (h : Heap) (l1 l2 : Addr) : Heap := (zB1 b1 h l1).push { cls := .type (nmB b2), data := .fields #[.ref l2, .int 0 0] }
noncomputable abbrev zB3 (b1 b2 : Bool) (h : Heap) (l1 l2 : Addr) : Heap := (zB2 b1 b2 h l1 l2).push { cls := .type "tuple", data := .seq #[.ref h.objs.size, .ref (zB1 b1 h l1).objs.size] }
noncomputable abbrev zB4 (b1 b2 : Bool) (h : Heap) (l1 l2 : Addr) : Heap := (zB3 b1 b2 h l1 l2).push { cls := .type "tuple", data := .seq #[.none, .none] }
noncomputable abbrev zB5 (b1 b2 : Bool) (h : Heap) (l1 l2 : Addr) : Heap := (zB4 b1 b2 h l1 l2).push { cls := .type "zip", data := .fields #[.none, .bool false, .bool false, .ref (zB2 b1 b2 h l1 l2).objs.size, .ref (zB3 b1 b2 h l1 l2).objs.size] }
theorem meets_zipB (b1 b2 : Bool) (l1 l2 : Addr) (xs ys : Array Value) :
    Meets (Builtin.«zip.__new__» ⟨[.type "zip", .ref l1, .ref l2], []⟩) (fun _ R s => seqB b1 s.heap l1 xs ∧ seqB b2 s.heap l2 ys ∧
      R (.ok (.ret (.ref (zB4 b1 b2 s.heap l1 l2).objs.size))) { s with heap := zB5 b1 b2 s.heap l1 l2 }) :=
  .of_wp fun prog w A R s h => by
    obtain ⟨hp, g, d, tk, os⟩ := s; obtain ⟨hl1, hl2, h⟩ := h
    have hsub := sub_zip
    have hL1 : seqB b1 (Shared.heap ⟨hp, g, d, tk, os⟩) l1 xs := hl1
    have hL2 : seqB b2 (Shared.heap ⟨hp.push { cls := .type (nmB b1), data := .fields #[.ref l1, .int 0 0] }, g, d, tk, os⟩) l2 ys := hl2.at fun o e => Heap.get?_push_of_some _ e
    wp_walk using iterB hL1, iterB hL2
    exact ⟨_, rfl, h⟩
theorem call_zipB {prog : Program} {w : World} {A : Around} {E : Value → Shared → Prop} {s : Shared} {b1 b2 : Bool} {l1 l2 : Addr} {xs ys : Array Value} {Q : Value → Shared → Prop} (hl1 : seqB b1 s.heap l1 xs) (hl2 : seqB b2 s.heap l2 ys)
    (h : ∀ h', IsZip h' (s.heap.objs.size + 4) (s.heap.objs.size + 2) (s.heap.objs.size + 3) .none → IsPair h' (s.heap.objs.size + 2) (.ref s.heap.objs.size) (.ref (s.heap.objs.size + 1)) →
      IsPair h' (s.heap.objs.size + 3) .none .none → ItB b1 h' s.heap.objs.size l1 0 → ItB b2 h' (s.heap.objs.size + 1) l2 0 →
      (∀ c o, s.heap.get? c = some o → h'.get? c = some o) → Q (.ref (s.heap.objs.size + 4)) { s with heap := h' }) :
    wpAny (model prog w) A (call (.type "zip") [.ref l1, .ref l2]) Q E s := by
  refine callType_new F.called_zip (by decide) (F.typeCall_zip_2 _ _) (F.newCall_zip_2 _ _) (fun obj => F.args_object_init_3 obj _ _) F.entry_zip_new
    (meets_zipB b1 b2 l1 l2 xs ys) ⟨hl1, hl2, ?_⟩
  have z1 : (zB1 b1 s.heap l1).objs.size = s.heap.objs.size + 1 := Heap.size_push ..
  have z2 : (zB2 b1 b2 s.heap l1 l2).objs.size = s.heap.objs.size + 2 := by rw [Heap.size_push, z1]
  have z3 : (zB3 b1 b2 s.heap l1 l2).objs.size = s.heap.objs.size + 3 := by rw [Heap.size_push, z2]
  have z4 : (zB4 b1 b2 s.heap l1 l2).objs.size = s.heap.objs.size + 4 := by rw [Heap.size_push, z3]
  have g5 : (zB5 b1 b2 s.heap l1 l2).get? (zB4 b1 b2 s.heap l1 l2).objs.size = some _ := Heap.get?_push_size _ rfl
  have g4 : (zB5 b1 b2 s.heap l1 l2).get? (zB3 b1 b2 s.heap l1 l2).objs.size = some _ := Heap.get?_push_of_some _ (Heap.get?_push_size _ rfl)
  have g3 : (zB5 b1 b2 s.heap l1 l2).get? (zB2 b1 b2 s.heap l1 l2).objs.size = some _ := Heap.get?_push_of_some _ (Heap.get?_push_of_some _ (Heap.get?_push_size _ rfl))
  have u2 : ∀ c o, (zB2 b1 b2 s.heap l1 l2).get? c = some o → (zB5 b1 b2 s.heap l1 l2).get? c = some o := fun c o e => Heap.get?_push_of_some _ (Heap.get?_push_of_some _ (Heap.get?_push_of_some _ e))
  have g2 : ItB b2 (zB5 b1 b2 s.heap l1 l2) (zB1 b1 s.heap l1).objs.size l2 0 := iterB_new.at fun o e => u2 _ o e
  have g1 : ItB b1 (zB5 b1 b2 s.heap l1 l2) s.heap.objs.size l1 0 := iterB_new.at fun o e => u2 _ o (Heap.get?_push_of_some _ e)
  show _ ∧ _
  rw [z2, z3, z4] at g5
  rw [z1, z2] at g3
  rw [z3] at g4
  rw [z1] at g2
  rw [z4]
  exact ⟨⟨_, g5, rfl⟩, h _ g5 g3 g4 g1 g2 fun c o x => u2 c o (Heap.get?_push_of_some _ (Heap.get?_push_of_some _ x))⟩
end L2
namespace L2
open PySem PySem.Spec PyProof.Rows
section
variable {X : Cx} {pins : List (Addr × Obj)} {σ : St} {H : Hp} {s : Shared} {h' : Heap}
theorem Inv.seqB {b : Bool} {a : Addr} {xs : List V} (I : Inv X pins σ H s) (h : SqB b X.K H a xs) : ∃ its : List Value, Vals xs its ∧ L2.seqB b s.heap a its.toArray := by
  cases b
  · obtain ⟨its, rv, p, _⟩ := I.list h
    exact ⟨its, rv, p.isList⟩
  · obtain ⟨its, rv, p, _⟩ := I.tuple h
    exact ⟨its, rv, p⟩
theorem Inv.seqB_inj {b : Bool} {a : Addr} {xs ys : List V} (I : Inv X pins σ H s) (h : SqB b X.K H a xs) (h2 : SqB b X.K H a ys) : xs = ys := by
  cases b
  · exact I.list_inj h h2
  · exact I.tuple_inj h h2
theorem Inv.seq_ne {b : Bool} {a f : Addr} {xs : List V} (I : Inv X pins σ H s) (h : SqB b X.K H a xs) (hf : FpOk X pins H f) : a ≠ f := by
  have rd : ∀ u, Rd H a u → a ≠ f := fun u r z => by
    subst z
    rcases r with r | ⟨o, r⟩ <;> (rw [hf.1] at r; cases r)
  have kk : ∀ o, X.K.lookup a = some o → a ≠ f := fun o e z => by
    subst z
    have q := I.mod.kin a o e
    rcases hf.2.2.2.1 with w | w
    · exact I.ok.noex _ _ q w
    · exact absurd (Nat.lt_of_lt_of_le (Heap.lt_size q) (Nat.le_trans I.ok.bsz w)) (Nat.lt_irrefl _)
  cases b
  · rcases h with h | ⟨o, its, n, hk, _⟩
    · exact rd _ h
    · exact kk _ hk
  · rcases h with h | ⟨o, its, n, hk, _⟩
    · exact rd _ h
    · exact kk _ hk
theorem Inv.turnedNew {fp : List Addr} {n : Addr} {u : HO} {t' : Nat} (I : Inv X pins σ H s) (hf : ∀ b ∈ fp, FpOk X pins H b) (k : ∀ b o, b ∉ fp → s.heap.get? b = some o → h'.get? b = some o) (hn : s.heap.objs.size ≤ n)
    (new : ObjOk X.prog X.w (upd H n u) h' n u) : Inv X pins σ (upd H n u) { s with heap := h', toks := t' } := by
  have fn := I.hok.fresh hn
  have nfp : ∀ b v, H b = some v → b ∉ fp := fun b v e z => by rw [(hf b z).1] at e; cases e
  have nl : X.env.locals ∉ fp := fun z => (hf _ z).2.1 rfl
  refine I.step (g' := s.gens) (d' := s.drawn) (ch := fp) (fun b hb => ?_) (fun b o _ _ hc e _ => k b o hc e) (fun b o _ _ hc e _ => ⟨o.slots, k b o hc e⟩) (fun b o _ e z => ?_)
    (fun b o hc e => ⟨o, k b o hc e⟩) (fun b xs e => ?_) (fun b o v e => ?_) (fun b ps e => ⟨#[], ?_⟩) (fun m hm => ?_) (fun b v e => ?_) I.bare
  · obtain ⟨f0, f1, f2, f3, f4, f5⟩ := hf b hb
    exact ⟨f3, f1, f4, f5⟩
  · rw [upd_ne (Nat.ne_of_lt (Nat.lt_of_lt_of_le (Heap.lt_size e) hn))]
    exact z
  · rw [upd_ne (ne_of_none e fn)]; exact e
  · rw [upd_ne (ne_of_none e fn)]; exact e
  · rw [upd_ne (ne_of_none e fn), e]; simp
  · obtain ⟨o, es, ep, ho, r⟩ := hm
    exact ⟨o, es, ep, k _ o nl ho, r⟩
  · by_cases hb : b = n
    · subst hb
      rw [upd_same] at e
      cases e
      exact new
    · rw [upd_ne hb] at e
      refine (I.hok b v e).stay (fun c x hc q => k c x ?_ q) (fun c q => by rw [upd_ne (ne_of_none q fn)]; exact q) fun c xs q => by rw [upd_ne (ne_of_none q fn)]; exact q
      rcases hc with z | z
      · rw [z]; exact nfp b v e
      · exact nfp c _ z
theorem Inv.turnedL {fp : List Addr} {t' : Nat} (I : Inv X pins σ H s) (hf : ∀ b ∈ fp, FpOk X pins H b) (k : ∀ b o, b ∉ fp → s.heap.get? b = some o → h'.get? b = some o) : Inv X pins σ H { s with heap := h', toks := t' } := by
  have nfp : ∀ b v, H b = some v → b ∉ fp := fun b v e z => by rw [(hf b z).1] at e; cases e
  have nl : X.env.locals ∉ fp := fun z => (hf _ z).2.1 rfl
  refine I.step (g' := s.gens) (d' := s.drawn) (ch := fp) (fun b hb => ?_) (fun b o _ _ hc e _ => k b o hc e) (fun b o _ _ hc e _ => ⟨o.slots, k b o hc e⟩) (fun b o _ e z => z)
    (fun b o hc e => ⟨o, k b o hc e⟩) (fun b xs e => e) (fun b o v e => e) (fun b ps e => ⟨#[], by rw [e]; simp⟩) (fun m hm => ?_) (fun b v e => ?_) I.bare
  · obtain ⟨f0, f1, f2, f3, f4, f5⟩ := hf b hb
    exact ⟨f3, f1, f4, f5⟩
  · obtain ⟨o, es, ep, ho, r⟩ := hm
    exact ⟨o, es, ep, k _ o nl ho, r⟩
  · refine (I.hok b v e).stay (fun c x hc q => k c x ?_ q) (fun c q => q) fun c xs q => q
    rcases hc with z | z
    · rw [z]; exact nfp b v e
    · exact nfp c _ z
end
noncomputable def Itz (K : PySem.W.Frag) (b1 : Bool) (l1 : Addr) (b2 : Bool) (l2 : Addr) : It :=
  ⟨fun i H => ∃ xs ys x y, SqB b1 K H l1 xs ∧ SqB b2 K H l2 ys ∧ xs[i]? = some x ∧ ys[i]? = some y,
   fun i H v H' => ∃ p x y, v = .ref p ∧ H p = none ∧ H' = upd H p (.tup [x, y]) ∧ (∀ xs, SqB b1 K H l1 xs → xs[i]? = some x) ∧ ∀ ys, SqB b2 K H l2 ys → ys[i]? = some y,
   fun i H => ∃ xs ys, SqB b1 K H l1 xs ∧ SqB b2 K H l2 ys ∧ (xs[i]? = none ∨ ys[i]? = none)⟩
theorem vals_at {xs : List V} {its : List Value} {i : Nat} (r : Vals xs its) : xs[i]? = none → its.toArray[i]? = none := fun h => by
  have := r.none_of h
  simpa using this
theorem turn_zip {P : Program} {w : World} {K : PySem.W.Frag} {es : List Expr} {k : Nat} {pos : Pos} {b1 b2 : Bool} {z TI TO i1 i2 l1 l2 : Addr} (hd : [z, TI, TO, i1, i2].Nodup) :
    Turn P w K (.Tuple es k pos) (Itz K b1 l1 b2 l2) [z, TI, TO, i1, i2] z (fun i h => IsZip h z TI TO .none ∧ IsPair h TI (.ref i1) (.ref i2) ∧ (∃ a b, IsPair h TO a b) ∧ ItB b1 h i1 l1 i ∧ ItB b2 h i2 l2 i) where
  mem := by simp
  obj := fun i h ⟨hz, hTI, ⟨a, b, hTO⟩, h1, h2⟩ c hc => by
    simp only [List.mem_cons, List.not_mem_nil, or_false] at hc
    rcases hc with e | e | e | e | e <;> subst e
    · exact ⟨_, hz, fun v q => by have q' : Data.fields _ = Data.cell v := q; cases q'⟩
    · exact ⟨_, hTI, fun v q => by have q' : Data.seq _ _ = Data.cell v := q; cases q'⟩
    · exact ⟨_, hTO, fun v q => by have q' : Data.seq _ _ = Data.cell v := q; cases q'⟩
    · exact h1.lt
    · exact h2.lt
  keep := fun i h h' ⟨hz, hTI, ⟨a, b, hTO⟩, h1, h2⟩ kk => ⟨kk z (by simp) _ hz, kk TI (by simp) _ hTI, ⟨a, b, kk TO (by simp) _ hTO⟩, h1.at fun o e => kk i1 (by simp) o e, h2.at fun o e => kk i2 (by simp) o e⟩
  item := by
    intro X hP hw hK hc i pins s σ H E I hf st hg
    subst hP hw hK
    obtain ⟨hz, hTI, ⟨a, b, hTO⟩, h1, h2⟩ := st
    obtain ⟨xs, ys, x, y, q1, q2, e1, e2⟩ := hg
    obtain ⟨its1, r1, p1⟩ := I.seqB q1
    obtain ⟨its2, r2, p2⟩ := I.seqB q2
    obtain ⟨u1, hu1, ru1⟩ := r1.get e1
    obtain ⟨u2, hu2, ru2⟩ := r2.get e2
    have ne1 : ∀ f ∈ [z, TI, TO, i1, i2], l1 ≠ f := fun f hff => I.seq_ne q1 (hf f hff)
    have ne2 : ∀ f ∈ [z, TI, TO, i1, i2], l2 ≠ f := fun f hff => I.seq_ne q2 (hf f hff)
    simp only [List.nodup_cons, List.mem_cons, List.not_mem_nil, or_false, not_or, List.nodup_nil, and_true, not_false_eq_true] at hd
    obtain ⟨⟨d1, d2, d3, d4⟩, ⟨d5, d6, d7⟩, ⟨d8, d9⟩, d10⟩ := hd
    have D : ZipApart z TI TO i1 i2 l1 l2 := ⟨Ne.symm d1, Ne.symm d2, Ne.symm d3, Ne.symm d4, d5, d6, d7, d8, d9, d10, ne1 z (by simp), ne1 TO (by simp), ne1 i1 (by simp), ne1 i2 (by simp), ne2 z (by simp), ne2 TO (by simp), ne2 i1 (by simp), ne2 i2 (by simp)⟩
    refine zipB_item D hz hTI hTO h1 h2 p1 p2 (x := u1) (y := u2) (by simpa using hu1) (by simpa using hu2) fun h' a1 a2 a3 a4 a5 a6 a7 => ⟨_, rfl, ?_⟩
    refine wpAny_letOwnedTupleGo_zip a1 fun h'' hz' hs' => ?_
    have up : ∀ c o, c ∉ [z, TI, TO, i1, i2] → s.heap.get? c = some o → h''.get? c = some o := fun c o hc' e => by
      simp only [List.mem_cons, List.not_mem_nil, or_false, not_or] at hc'
      obtain ⟨c1, c2, c3, c4, c5⟩ := hc'
      exact hs'.extBut _ _ c1 (a7 c o c1 c3 c4 c5 e)
    have nz : s.heap.objs.size ≠ z := Nat.ne_of_gt (Heap.lt_size hz)
    have new : ObjOk X.prog X.w (upd H s.heap.objs.size (.tup [x, y])) h'' s.heap.objs.size (.tup [x, y]) :=
      ⟨by show 2 ≤ sizeLine; decide, [u1, u2], .cons ru1 (.cons ru2 .nil), ⟨_, hs'.extBut _ _ nz a5, rfl, _, rfl⟩⟩
    have I2 : Inv X pins σ (upd H s.heap.objs.size (.tup [x, y])) { s with heap := h'' } := I.turnedNew (t' := s.toks) hf up (Nat.le_refl _) new
    refine ⟨.ref s.heap.objs.size, _, I2, rfl, ⟨_, x, y, rfl, I.fresh, rfl, fun xs' q => by rw [I.seqB_inj q q1]; exact e1, fun ys' q => by rw [I.seqB_inj q q2]; exact e2⟩, ⟨hz', hs'.extBut _ _ D.TIz (a7 _ _ D.TIz D.TITO D.TIi1 D.TIi2 hTI), ⟨_, _, hs'.extBut _ _ D.TOz a2⟩, a3.at fun o e => hs'.extBut _ _ D.i1z e, a4.at fun o e => hs'.extBut _ _ D.i2z e⟩, fun c hc' => ?_⟩
    have hcf := (hf c hc').1
    rw [upd_ne]
    · exact hcf
    · intro e
      subst e
      simp only [List.mem_cons, List.not_mem_nil, or_false] at hc'
      rcases hc' with e | e | e | e | e
      · exact nz e
      · exact absurd (Heap.lt_size hTI) (by rw [← e]; exact Nat.lt_irrefl _)
      · exact absurd (Heap.lt_size hTO) (by rw [← e]; exact Nat.lt_irrefl _)
      · obtain ⟨o, q, _⟩ := h1.lt; exact absurd (Heap.lt_size q) (by rw [← e]; exact Nat.lt_irrefl _)
      · obtain ⟨o, q, _⟩ := h2.lt; exact absurd (Heap.lt_size q) (by rw [← e]; exact Nat.lt_irrefl _)
  done := by
    intro X hP hw hK hc i pins s σ H E I hf st hg
    subst hP hw hK
    obtain ⟨hz, hTI, ⟨a, b, hTO⟩, h1, h2⟩ := st
    obtain ⟨xs, ys, q1, q2, e1⟩ := hg
    obtain ⟨its1, r1, p1⟩ := I.seqB q1
    obtain ⟨its2, r2, p2⟩ := I.seqB q2
    have ne1 : ∀ f ∈ [z, TI, TO, i1, i2], l1 ≠ f := fun f hff => I.seq_ne q1 (hf f hff)
    have ne2 : ∀ f ∈ [z, TI, TO, i1, i2], l2 ≠ f := fun f hff => I.seq_ne q2 (hf f hff)
    simp only [List.nodup_cons, List.mem_cons, List.not_mem_nil, or_false, not_or, List.nodup_nil, and_true, not_false_eq_true] at hd
    obtain ⟨⟨d1, d2, d3, d4⟩, ⟨d5, d6, d7⟩, ⟨d8, d9⟩, d10⟩ := hd
    have D : ZipApart z TI TO i1 i2 l1 l2 := ⟨Ne.symm d1, Ne.symm d2, Ne.symm d3, Ne.symm d4, d5, d6, d7, d8, d9, d10, ne1 z (by simp), ne1 TO (by simp), ne1 i1 (by simp), ne1 i2 (by simp), ne2 z (by simp), ne2 TO (by simp), ne2 i1 (by simp), ne2 i2 (by simp)⟩
    refine zipB_end (I.ok.hd hc) D hz hTI hTO h1 h2 p1 p2 (e1.imp (vals_at r1) (vals_at r2)) fun h' a7 => ⟨rfl, I.turnedL (t' := s.toks) hf fun c o hc' e => ?_⟩
    simp only [List.mem_cons, List.not_mem_nil, or_false, not_or] at hc'
    obtain ⟨c1, c2, c3, c4, c5⟩ := hc'
    exact a7 c o c1 c3 c4 c5 e
  self := fun _ _ _ _ _ st h => wpAny_pyIter_zip st.1 h
section
variable {X : Cx}
noncomputable def iZip (K : PySem.W.Frag) (ta : TA) : TI := fun σ H R => ta σ H fun vs H1 => ∃ b1 b2 l1 l2, vs = [.ref l1, .ref l2] ∧ (∃ xs, SqB b1 K H1 l1 xs) ∧ (∃ ys, SqB b2 K H1 l2 ys) ∧ R (Itz K b1 l1 b2 l2) H1
theorem pi_zip {a b : Expr} {ta : TA} {es : List Expr} {k : Nat} {tp p pos : Pos} (hg : Gl X "zip") (hm : X.mg "zip" = none) (ha : PA X [a, b] ta) (hv : bootBuiltins "zip" = some (.type "zip") := by decide +kernel)
    (hs : starEach [a, b] X.env = [(false, eval a X.env), (false, eval b X.env)] := by rfl) (hs2 : starEach [b] X.env = [(false, eval b X.env)] := by rfl) :
    PI X (.Tuple es k tp) (.Call (.Name "zip" p) [a, b] [] pos) (iZip X.K ta) := by
  intro pins s σ H R I h
  refine Call_ (ld_blt I hg hm hv (PyProof.Rows.callWith_type1 (thn (ha pos pins s σ H _ I h) fun us s1 ⟨vs, H1, I1, r1, q1⟩ => ?_) (by rw [hs, hs2]) (by rw [hs2]; rfl)))
  obtain ⟨b1, b2, l1, l2, e, ⟨xs, q1⟩, ⟨ys, q2⟩, q⟩ := q1
  subst e
  cases r1 with
  | cons r rr =>
    cases rr with
    | cons r' rr =>
      cases rr
      cases r
      cases r'
      obtain ⟨its1, v1, p1⟩ := I1.seqB q1
      obtain ⟨its2, v2, p2⟩ := I1.seqB q2
      refine call_zipB p1 p2 fun h' a1 a2 a3 a4 a5 kp => ?_
      refine wpAny_pyIter_zip a1 ?_
      have lt : ∀ j, j ≤ 4 → s1.heap.objs.size ≤ s1.heap.objs.size + j := fun j _ => Nat.le_add_right _ _
      refine ⟨s1.heap.objs.size + 4, [s1.heap.objs.size + 4, s1.heap.objs.size + 2, s1.heap.objs.size + 3, s1.heap.objs.size, s1.heap.objs.size + 1], _, _, H1, rfl, I1.kept (t' := s1.toks) kp, turn_zip (b1 := b1) (b2 := b2) (l1 := l1) (l2 := l2) ?_, ⟨a1, a2, ⟨_, _, a3⟩, a4, a5⟩, fun c hc => ?_, q⟩
      · simp
      · have hle : s1.heap.objs.size ≤ c := by
          simp only [List.mem_cons, List.not_mem_nil, or_false] at hc
          rcases hc with e | e | e | e | e <;> subst e <;> first | exact Nat.le_refl _ | exact Nat.le_add_right _ _
        exact I1.fpOk hle (I1.hok.fresh hle)
end
end L2

namespace L2
open PySem PySem.Spec PyProof.Rows
open AutoSeq1 (wpAny_loadPart')
set_option maxRecDepth 100000 in
theorem meets_enumT (l : Addr) (items : Array Value) (n : Nat) (dct : Option Addr) (sl : Array (Option Value)) :
    Meets (Builtin.«enumerate.__new__» ⟨[.type "enumerate", .ref l], []⟩) (fun _ R s => s.heap.get? l = some { cls := .type "tuple", dict := dct, data := .seq items n, slots := sl } ∧
      R (.ok (.ret (.ref (s.heap.push { cls := .type "tuple_iterator", data := .fields #[.ref l, .int 0 0] }).objs.size)))
        { s with heap := (s.heap.push { cls := .type "tuple_iterator", data := .fields #[.ref l, .int 0 0] }).push { cls := .type "enumerate", data := .fields #[.none, .bool false, .ref s.heap.objs.size, rawInt 0, .none, .none] } }) :=
  .of_wp fun prog w A R s h => by
    obtain ⟨hp, g, d, tk, os⟩ := s; obtain ⟨hl, h⟩ := h
    have hsub := sub_enumerate
    have hL : Heap.IsTuple (Shared.heap ⟨hp, g, d, tk, os⟩) l items := ⟨_, hl, rfl, n, rfl⟩
    wp_walk using wpAny_loadPart' hl
    refine wpAny_stack_any fun st => wpAny_pure ?_
    split
    · rename_i c _ _ _ _ _
      cases (c == Value.type "enumerate")
      · wp_walk using wpAny_loadPart' hl, wpAny_pyIter_tuple hL
        exact ⟨_, rfl, h⟩
      · wp_walk using wpAny_loadPart' hl, wpAny_pyIter_tuple hL
        exact ⟨_, rfl, h⟩
    · wp_walk using wpAny_loadPart' hl, wpAny_pyIter_tuple hL
      exact ⟨_, rfl, h⟩
theorem call_enumB {prog : Program} {w : World} {A : Around} {E : Value → Shared → Prop} {s : Shared} {b : Bool} {l : Addr} {items : Array Value} {Q : Value → Shared → Prop} (hL : seqB b s.heap l items)
    (h : ∀ h', IsEnum h' (s.heap.objs.size + 1) s.heap.objs.size 0 .none → ItB b h' s.heap.objs.size l 0 →
      (∀ b o, s.heap.get? b = some o → h'.get? b = some o) → Q (.ref (s.heap.objs.size + 1)) { s with heap := h' }) :
    wpAny (model prog w) A (call (.type "enumerate") [.ref l]) Q E s := by
  cases b
  · exact call_enumerate_list hL fun h' a1 a2 a3 a4 => h h' a1 a2 a4
  · obtain ⟨⟨c, dct, dt, sl⟩, hl, hc, n, hd⟩ := hL
    replace hc : c = .type "tuple" := hc
    replace hd : dt = .seq items n := hd
    subst hc hd
    refine callType_new F.called_enumerate (by decide) (F.typeCall_enumerate_1 _) (F.newCall_enumerate_1 _) (fun obj => F.args_object_init_2 obj _) F.entry_enumerate_new
      (meets_enumT l items n dct sl) ⟨hl, ?_⟩
    have hz : (s.heap.push { cls := .type "tuple_iterator", data := .fields #[.ref l, .int 0 0] }).objs.size = s.heap.objs.size + 1 := Heap.size_push ..
    show _ ∧ _
    rw [hz]
    have he : IsEnum ((s.heap.push { cls := .type "tuple_iterator", data := .fields #[.ref l, .int 0 0] }).push
        { cls := .type "enumerate", data := .fields #[.none, .bool false, .ref s.heap.objs.size, rawInt 0, .none, .none] }) (s.heap.objs.size + 1) s.heap.objs.size 0 .none := by
      have := Heap.get?_push_size (s.heap.push { cls := .type "tuple_iterator", data := .fields #[.ref l, .int 0 0] })
        (o := { cls := .type "enumerate", data := .fields #[.none, .bool false, .ref s.heap.objs.size, rawInt 0, .none, .none] }) rfl
      rw [hz] at this; exact this
    refine ⟨⟨_, he, rfl⟩, h _ he ⟨_, Heap.get?_push_of_some _ (Heap.get?_push_size _ rfl), rfl, rfl⟩ fun b o x => Heap.get?_push_of_some _ (Heap.get?_push_of_some _ x)⟩
noncomputable def Ite (K : PySem.W.Frag) (b : Bool) (l : Addr) : It :=
  ⟨fun i H => ∃ xs x, SqB b K H l xs ∧ xs[i]? = some x,
   fun i H v H' => ∃ p x, v = .ref p ∧ H p = none ∧ H' = upd H p (.tup [.int i, x]) ∧ ∀ xs, SqB b K H l xs → xs[i]? = some x,
   fun i H => ∃ xs, SqB b K H l xs ∧ xs.length = i⟩
theorem turn_enum {P : Program} {w : World} {K : PySem.W.Frag} {es : List Expr} {k : Nat} {pos : Pos} {b : Bool} {e it l : Addr} (hd : e ≠ it) :
    Turn P w K (.Tuple es k pos) (Ite K b l) [e, it] e (fun i h => (∃ old, IsEnum h e it i old) ∧ ItB b h it l i) where
  mem := by simp
  obj := fun i h ⟨⟨old, hz⟩, h1⟩ c hc => by
    simp only [List.mem_cons, List.not_mem_nil, or_false] at hc
    rcases hc with e | e <;> subst e
    · exact ⟨_, hz, fun v q => by have q' : Data.fields _ = Data.cell v := q; cases q'⟩
    · exact h1.lt
  keep := fun i h h' ⟨⟨old, hz⟩, h1⟩ kk => ⟨⟨old, kk e (by simp) _ hz⟩, h1.at fun o q => kk it (by simp) o q⟩
  item := by
    intro X hP hw hK hc i pins s σ H E I hf st hg
    subst hP hw hK
    obtain ⟨⟨old, hz⟩, h1⟩ := st
    obtain ⟨xs, x, q1, e1⟩ := hg
    obtain ⟨its1, r1, p1⟩ := I.seqB q1
    obtain ⟨u1, hu1, ru1⟩ := r1.get e1
    have ne1 : ∀ f ∈ [e, it], l ≠ f := fun f hff => I.seq_ne q1 (hf f hff)
    have hlt : i < its1.toArray.size := by
      have := (List.getElem?_eq_some_iff.mp hu1).1
      simpa using this
    refine wpAny_pyNext_enum_itemD (drawsB b (show X.A.in1.handled = none from I.ok.hd hc) it l (ne1 it (by simp)) its1.toArray) hz ⟨h1, p1⟩ hlt hd (fun q => ?_) fun u h' tk hP a1 a2 a3 a4 a5 => ⟨_, rfl, ?_⟩
    · simp only [List.mem_cons, List.not_mem_nil, or_false] at q
      rcases q with q | q
      · exact hd q
      · exact ne1 e (by simp) q.symm
    have eu : u = u1 := by
      have : its1.toArray[i]? = some u1 := by simpa using hu1
      rw [this] at hP
      exact (Option.some.inj hP).symm
    subst eu
    refine wpAny_letOwnedTupleGo_enum a1 fun h'' hz' hs' => ?_
    have ne : s.heap.objs.size ≠ e := Nat.ne_of_gt (Heap.lt_size hz)
    have up : ∀ c o, c ∉ [e, it] → s.heap.get? c = some o → h''.get? c = some o := fun c o hc' q => by
      simp only [List.mem_cons, List.not_mem_nil, or_false, not_or] at hc'
      exact hs'.extBut _ _ hc'.1 (a5 c o hc'.1 hc'.2 q)
    have new : ObjOk X.prog X.w (upd H s.heap.objs.size (.tup [.int i, x])) h'' s.heap.objs.size (.tup [.int i, x]) :=
      ⟨by show 2 ≤ sizeLine; decide, [.int i tk, u], .cons ⟨tk, rfl⟩ (.cons ru1 .nil), ⟨_, hs'.extBut _ _ ne a3, rfl, _, rfl⟩⟩
    have I2 : Inv X pins σ (upd H s.heap.objs.size (.tup [.int i, x])) { s with heap := h'', toks := tk + 1 } := I.turnedNew (t' := tk + 1) hf up (Nat.le_refl _) new
    refine ⟨.ref s.heap.objs.size, _, I2, rfl, ⟨_, x, rfl, I.fresh, rfl, fun xs' q => by rw [I.seqB_inj q q1]; exact e1⟩, ⟨⟨u, by simpa using hz'⟩, a2.1.at fun o q => hs'.extBut _ _ (Ne.symm hd) q⟩, fun c hc' => ?_⟩
    have hcf := (hf c hc').1
    rw [upd_ne]
    · exact hcf
    · intro z
      subst z
      simp only [List.mem_cons, List.not_mem_nil, or_false] at hc'
      rcases hc' with z | z
      · exact ne z
      · obtain ⟨o, q, _⟩ := h1.lt; exact absurd (Heap.lt_size q) (by rw [← z]; exact Nat.lt_irrefl _)
  done := by
    intro X hP hw hK hc i pins s σ H E I hf st hg
    subst hP hw hK
    obtain ⟨⟨old, hz⟩, h1⟩ := st
    obtain ⟨xs, q1, e1⟩ := hg
    obtain ⟨its1, r1, p1⟩ := I.seqB q1
    have ne1 : ∀ f ∈ [e, it], l ≠ f := fun f hff => I.seq_ne q1 (hf f hff)
    have el : its1.toArray.size = i := by rw [List.size_toArray, ← r1.length, e1]
    refine wpAny_pyNext_enum_endD (drawsB b (show X.A.in1.handled = none from I.ok.hd hc) it l (ne1 it (by simp)) its1.toArray) hz ⟨by rw [el]; exact h1, p1⟩ fun h' hx => ⟨rfl, I.turnedL (t' := s.toks) hf fun c o hc' q => ?_⟩
    simp only [List.mem_cons, List.not_mem_nil, or_false, not_or] at hc'
    exact hx c o hc'.2 q
  self := fun _ _ _ _ _ st h => let ⟨⟨_, q⟩, _⟩ := st; wpAny_pyIter_enum q h
section
variable {X : Cx}
noncomputable def iEnum (K : PySem.W.Frag) (ta : TA) : TI := fun σ H R => ta σ H fun vs H1 => ∃ b l, vs = [.ref l] ∧ (∃ xs, SqB b K H1 l xs) ∧ R (Ite K b l) H1
theorem pi_enum {a : Expr} {ta : TA} {es : List Expr} {k : Nat} {tp p pos : Pos} (hg : Gl X "enumerate") (hm : X.mg "enumerate" = none) (ha : PA X [a] ta) (hv : bootBuiltins "enumerate" = some (.type "enumerate") := by decide +kernel)
    (hs : starEach [a] X.env = [(false, eval a X.env)] := by rfl) :
    PI X (.Tuple es k tp) (.Call (.Name "enumerate" p) [a] [] pos) (iEnum X.K ta) := by
  intro pins s σ H R I h
  refine Call_ (ld_blt I hg hm hv (PyProof.Rows.callWith_type1 (thn (ha pos pins s σ H _ I h) fun us s1 ⟨vs, H1, I1, r1, q1⟩ => ?_) hs rfl))
  obtain ⟨b, l, e, ⟨xs, q1⟩, q⟩ := q1
  subst e
  cases r1 with
  | cons r rr =>
    cases rr
    cases r
    obtain ⟨its1, v1, p1⟩ := I1.seqB q1
    refine call_enumB p1 fun h' a1 a2 kp => ?_
    refine wpAny_pyIter_enum a1 ?_
    refine ⟨s1.heap.objs.size + 1, [s1.heap.objs.size + 1, s1.heap.objs.size], _, _, H1, rfl, I1.kept (t' := s1.toks) kp, turn_enum (b := b) (l := l) (by simp), ⟨⟨_, a1⟩, a2⟩, fun c hc => ?_, q⟩
    have hle : s1.heap.objs.size ≤ c := by
      simp only [List.mem_cons, List.not_mem_nil, or_false] at hc
      rcases hc with e | e <;> subst e <;> first | exact Nat.le_refl _ | exact Nat.le_add_right _ _
    exact I1.fpOk hle (I1.hok.fresh hle)
theorem ints_items : ∀ {ns : List Int} {its : List Value}, Vals (ns.map V.int) its → ∃ xs : List (Int × Tok), its = xs.map (fun p => Value.int p.1 p.2) ∧ xs.map (·.1) = ns
  | [], _, .nil => ⟨[], rfl, rfl⟩
  | n :: r, _, .cons ⟨t, h⟩ q => by
    obtain ⟨xs, e1, e2⟩ := ints_items (ns := r) q
    exact ⟨(n, t) :: xs, by rw [h, e1]; rfl, by rw [List.map_cons, e2]⟩
theorem call_sum (hc : X.calm = true) : CallR X (.builtin "sum") (fun xs H Q => ∃ (p : Addr) (ns : List Int), xs = [.ref p] ∧ SqL X.K H p (ns.map V.int) ∧ Q (.int ns.sum) H) := by
  intro pins s σ H xs us Q I r h
  obtain ⟨p, ns, rfl, hq, q⟩ := h
  obtain ⟨u, rfl, rx⟩ := vals1 r
  cases rx
  obtain ⟨its, rv, pl, hz⟩ := I.list hq
  obtain ⟨ps, e1, e2⟩ := ints_items rv
  have hl : s.heap.IsList p (intItems ps.toArray) := by
    have := pl.isList
    rw [e1] at this
    simpa [intItems] using this
  refine sum_intListG (I.ok.hd hc) hl fun h' tk t' hk => ⟨.int ns.sum, H, I.kept (t' := tk) hk, ⟨t', ?_⟩, q⟩
  rw [preSum_eq, List.take_of_length_le (by simp)]
  simp [e2]
end
end L2

namespace L2
open PySem PySem.Spec PyProof.Rows
theorem SqB.or {b : Bool} {K : PySem.W.Frag} {H : Hp} {a : Addr} {xs : List V} (h : SqB b K H a xs) : SqL K H a xs ∨ SqT K H a xs := by
  cases b
  · exact .inl h
  · exact .inr h
theorem SqB.up {b : Bool} {K : PySem.W.Frag} {H H' : Hp} {a : Addr} {xs : List V} (h : SqB b K H a xs) (s : Same H H') : SqB b K H' a xs := by
  cases b
  · exact s.seq h
  · exact s.tup h
theorem SqB.lst {K : PySem.W.Frag} {H : Hp} {a : Addr} {xs : List V} (h : H a = some (.lst xs)) : SqB false K H a xs := SqL.of h
theorem SqB.tup {K : PySem.W.Frag} {H : Hp} {a : Addr} {xs : List V} (h : H a = some (.tup xs)) : SqB true K H a xs := SqT.of h
noncomputable def Its (K : PySem.W.Frag) (b : Bool) (a : Addr) : It := match b with | false => Itl K a | true => Itt K a
theorem Its.go {K : PySem.W.Frag} {b : Bool} {a : Addr} {xs : List V} {x : V} {i : Nat} {H : Hp} (h : SqB b K H a xs) (e : xs[i]? = some x) : (Its K b a).go i H := by
  cases b
  · exact ⟨xs, x, h, e⟩
  · exact ⟨xs, x, h, e⟩
theorem Its.stop {K : PySem.W.Frag} {b : Bool} {a : Addr} {xs : List V} {i : Nat} {H : Hp} (h : SqB b K H a xs) (e : xs.length ≤ i) : (Its K b a).stop i H := by
  cases b
  · exact ⟨xs, h, e⟩
  · exact ⟨xs, h, e⟩
theorem Its.yld {K : PySem.W.Frag} {b : Bool} {a : Addr} {xs : List V} {i : Nat} {H H' : Hp} {x : V} (h : SqB b K H a xs) (y : (Its K b a).yld i H x H') : H' = H ∧ xs[i]? = some x := by
  cases b
  · exact ⟨y.1, y.2 xs h⟩
  · exact ⟨y.1, y.2 xs h⟩
section
variable {X : Cx}
noncomputable def iSeq (K : PySem.W.Frag) (tl : TE) : TI := fun σ H R => tl σ H fun x H1 => ∃ b a, x = .ref a ∧ (∃ xs, SqB b K H1 a xs) ∧ R (Its K b a) H1
theorem pi_seq {tg l : Expr} {tl : TE} (hl : PE X l tl) : PI X tg l (iSeq X.K tl) := by
  intro pins s σ H R I h
  refine thn (hl pins s σ H _ I h) fun v s1 ⟨x, H1, I1, r1, q1⟩ => ?_
  obtain ⟨b, a, e, ⟨xs, hq⟩, q⟩ := q1
  subst e
  cases r1
  cases b
  · obtain ⟨its, rv, p, hz⟩ := I1.list hq
    refine wpAny_pyIter_list p.isList ?_
    refine ⟨s1.heap.objs.size, [s1.heap.objs.size], _, _, H1, rfl, I1.kept (t' := s1.toks) fun b o e => Heap.get?_push_of_some _ e, turn_list a _, ⟨_, Heap.get?_push_size _ rfl, rfl, rfl⟩, fun b hb => ?_, q⟩
    have e : b = s1.heap.objs.size := by simpa using hb
    subst e
    exact I1.fpOk (Nat.le_refl _) (I1.hok.fresh (Nat.le_refl _))
  · obtain ⟨its, rv, p, hz⟩ := I1.tuple hq
    refine wpAny_pyIter_tuple (show s1.heap.IsTuple a its.toArray from p) ?_
    refine ⟨s1.heap.objs.size, [s1.heap.objs.size], _, _, H1, rfl, I1.kept (t' := s1.toks) fun b o e => Heap.get?_push_of_some _ e, turn_tuple a _, ⟨_, Heap.get?_push_size _ rfl, rfl, rfl⟩, fun b hb => ?_, q⟩
    have e : b = s1.heap.objs.size := by simpa using hb
    subst e
    exact I1.fpOk (Nat.le_refl _) (I1.hok.fresh (Nat.le_refl _))
noncomputable def rIxB (K : PySem.W.Frag) : R2 := fun x y H Q => ∃ b p xs i v, x = .ref p ∧ y = .int i ∧ SqB b K H p xs ∧ atI xs i = some v ∧ Q v H
theorem ix_B : IxR X (rIxB X.K) := by
  intro value slice pins s σ H x y v u Q I rx ry h
  obtain ⟨b, p, xs, i, v', e1, e2, hq, ha, q⟩ := h
  cases b
  · exact ix_list value slice pins s σ H x y v u Q I rx ry ⟨p, xs, i, v', e1, e2, hq, ha, q⟩
  · exact ix_tup value slice pins s σ H x y v u Q I rx ry ⟨p, xs, i, v', e1, e2, hq, ha, q⟩
noncomputable def rLenB (K : PySem.W.Frag) : List V → Hp → VK → Prop := fun xs H Q => ∃ b p ys, xs = [.ref p] ∧ SqB b K H p ys ∧ Q (.int ys.length) H
theorem call_lenB : CallR X (.builtin "len") (rLenB X.K) := by
  intro pins s σ H xs us Q I r h
  obtain ⟨b, p, ys, e, hq, q⟩ := h
  exact call_len_seq pins s σ H xs us Q I r ⟨p, ys, e, hq.or, q⟩
noncomputable def rListB (K : PySem.W.Frag) : List V → Hp → VK → Prop := fun xs H Q => ∃ b p ys, xs = [.ref p] ∧ SqB b K H p ys ∧ ∀ l, H l = none → Q (.ref l) (upd H l (.lst ys))
theorem call_listB : CallR X (.type "list") (rListB X.K) := by
  intro pins s σ H xs us Q I r h
  obtain ⟨b, p, ys, e, hq, q⟩ := h
  exact call_list_of pins s σ H xs us Q I r ⟨p, ys, e, hq.or, q⟩
noncomputable def rTupB (K : PySem.W.Frag) : List V → Hp → VK → Prop := fun xs H Q => ∃ p ys, xs = [.ref p] ∧ ((SqL K H p ys ∧ ∀ l, H l = none → Q (.ref l) (upd H l (.tup ys))) ∨ (SqT K H p ys ∧ Q (.ref p) H))
theorem call_tupB : CallR X (.type "tuple") (rTupB X.K) := call_tuple_of
end
theorem for_seq {K : PySem.W.Frag} {b : Bool} {a : Addr} {xs : List V} {g : TG} {tb : TS} {D : Ends} {σ : St} {H : Hp} (Pv : Nat → St → Hp → Prop) (h0 : Pv 0 σ H) (hl : ∀ i σ H, i ≤ xs.length → Pv i σ H → SqB b K H a xs)
    (hs : ∀ i x σ H, xs[i]? = some x → Pv i σ H → g x σ H fun σ2 H2 => tb { D with nx := Pv (i + 1), ct := Pv (i + 1), bk := D.nx } σ2 H2) (hd : ∀ σ H, Pv xs.length σ H → D.nx σ H) :
    ∃ W : Nat → Nat → St → Hp → Prop, (∃ m, W 0 m σ H) ∧ ∀ i m σ H, W i m σ H →
      ((Its K b a).stop i H ∧ D.nx σ H) ∨ ((Its K b a).go i H ∧ ∃ N : St → Hp → Prop, (∀ σ' H', N σ' H' → ∃ m', m' < m ∧ W (i + 1) m' σ' H') ∧ ∀ x H', (Its K b a).yld i H x H' → g x σ H' fun σ2 H2 => tb { D with nx := N, ct := N, bk := D.nx } σ2 H2) := by
  cases b
  · exact for_list Pv h0 hl hs hd
  · exact for_tup Pv h0 hl hs hd
theorem for_enum {K : PySem.W.Frag} {b : Bool} {a : Addr} {xs : List V} {g : TG} {tb : TS} {D : Ends} {σ : St} {H : Hp} (Pv : Nat → St → Hp → Prop) (h0 : Pv 0 σ H) (hl : ∀ i σ H, i ≤ xs.length → Pv i σ H → SqB b K H a xs)
    (hs : ∀ i x p σ H, xs[i]? = some x → Pv i σ H → H p = none → g (.ref p) σ (upd H p (.tup [.int i, x])) fun σ2 H2 => tb { D with nx := Pv (i + 1), ct := Pv (i + 1), bk := D.nx } σ2 H2) (hd : ∀ σ H, Pv xs.length σ H → D.nx σ H) :
    ∃ W : Nat → Nat → St → Hp → Prop, (∃ m, W 0 m σ H) ∧ ∀ i m σ H, W i m σ H →
      ((Ite K b a).stop i H ∧ D.nx σ H) ∨ ((Ite K b a).go i H ∧ ∃ N : St → Hp → Prop, (∀ σ' H', N σ' H' → ∃ m', m' < m ∧ W (i + 1) m' σ' H') ∧ ∀ x H', (Ite K b a).yld i H x H' → g x σ H' fun σ2 H2 => tb { D with nx := N, ct := N, bk := D.nx } σ2 H2) := by
  refine ⟨fun i m σ H => m = xs.length - i ∧ i ≤ xs.length ∧ Pv i σ H, ⟨xs.length, by simp, Nat.zero_le _, h0⟩, ?_⟩
  rintro i m σ H ⟨rfl, hi, p⟩
  have q := hl i σ H hi p
  by_cases hlt : i < xs.length
  · refine .inr ⟨⟨xs, xs[i], q, by simp [hlt]⟩, Pv (i + 1), fun σ' H' p' => ⟨xs.length - (i + 1), by omega, rfl, hlt, p'⟩, fun x H' y => ?_⟩
    obtain ⟨r, x, rfl, hr, rfl, hx⟩ := y
    exact hs i x r σ H (hx xs q) p hr
  · have e : i = xs.length := by omega
    subst e
    exact .inl ⟨⟨xs, q, rfl⟩, hd σ H p⟩
noncomputable def SameX (a : Addr) (H H' : Hp) : Prop := ∀ b o, b ≠ a → H b = some o → H' b = some o
theorem Same.x {a : Addr} {H H' : Hp} (s : Same H H') : SameX a H H' := fun b o _ e => s b o e
section
variable {J : It} {g : TG} {tt : TOx} {te : TE} {n : Nat} {fr : List (Str × Nat)} {σ : St} {a : Addr} {H : Hp} {Q : VK} {K : PySem.W.Frag}
theorem cg_inv (len : Nat) (P : Nat → List V → Hp → Prop) (ha : H a = none) (hz : len ≤ 1000) (h0 : P 0 [] (upd H a (.lst [])))
    (hl : ∀ i zs H1, P i zs H1 → zs.length ≤ i) (mono : ∀ i zs H1 H2, P i zs H1 → SameX a H1 H2 → P i zs H2)
    (hgo : ∀ i H1, i < len → Same H H1 → J.go i H1) (hstop : ∀ H1, Same H H1 → J.stop len H1)
    (he : ∀ i H1 zs, i < len → Same H H1 → H1 a = some (.lst zs) → P i zs H1 → ∀ (ys : St) x H3, ys.length = n → J.yld i H1 x H3 → ∀ C : Option V → Hp → Prop,
      (∀ y H2, Same H1 H2 → P (i + 1) (zs ++ [y]) H2 → C (some y) H2) → (∀ H2, Same H1 H2 → P (i + 1) zs H2 → C none H2) →
      g x (ys ++ frees fr σ) H3 fun σ4 H4 => (∃ ys' : St, ys'.length = n ∧ σ4 = ys' ++ frees fr σ) ∧ tt σ4 H4 C)
    (hd : ∀ H1 ys, Same H H1 → H1 a = some (.lst ys) → P len ys H1 → Q (.ref a) H1) : CompWG J g tt n fr σ a H Q := by
  refine ⟨fun i m H1 => m = len - i ∧ i ≤ len ∧ Same H H1 ∧ ∃ zs, H1 a = some (.lst zs) ∧ P i zs H1, ⟨len, by simp, Nat.zero_le _, Same.new ha, [], upd_same, h0⟩, ?_⟩
  rintro i m H1 ⟨rfl, hi, s1, zs, ez, p⟩
  by_cases hlt : i < len
  · refine .inr ⟨hgo i H1 hlt s1, fun H' => i + 1 ≤ len ∧ Same H H' ∧ ∃ zs, H' a = some (.lst zs) ∧ P (i + 1) zs H', fun H' q => ⟨len - (i + 1), by omega, rfl, q⟩, fun ys x H3 hys hy => ?_⟩
    refine he i H1 zs hlt s1 ez p ys x H3 hys hy _ (fun y H2 s2 p2 => ?_) fun H2 s2 p2 => ?_
    · refine ⟨zs, s2 _ _ ez, small1000 (by have := hl i zs H1 p; omega), hlt, Same.over ha (s1.trans s2), _, upd_same, mono _ _ _ _ p2 fun b o hb e => ?_⟩
      rw [upd_ne hb]
      exact e
    · exact ⟨hlt, s1.trans s2, zs, s2 _ _ ez, p2⟩
  · have e : i = len := by omega
    subst e
    exact .inl ⟨hstop H1 s1, hd H1 zs s1 ez p⟩
theorem cg_rel (len : Nat) (R : Nat → V → Hp → Prop) (ha : H a = none) (hz : len ≤ 1000) (mono : ∀ i y H1 H2, R i y H1 → SameX a H1 H2 → R i y H2)
    (hgo : ∀ i H1, i < len → Same H H1 → J.go i H1) (hstop : ∀ H1, Same H H1 → J.stop len H1)
    (he : ∀ i H1 zs, i < len → Same H H1 → H1 a = some (.lst zs) → ∀ (ys : St) x H3, ys.length = n → J.yld i H1 x H3 → ∀ Q' : VK, (∀ y H2, Same H1 H2 → R i y H2 → Q' y H2) →
      g x (ys ++ frees fr σ) H3 fun σ4 H4 => (∃ ys' : St, ys'.length = n ∧ σ4 = ys' ++ frees fr σ) ∧ te σ4 H4 Q')
    (hd : ∀ H1 ys, Same H H1 → H1 a = some (.lst ys) → ys.length = len → (∀ j y, ys[j]? = some y → R j y H1) → Q (.ref a) H1) : CompWG J g (tEl te) n fr σ a H Q := by
  refine cg_inv len (fun i zs H1 => zs.length = i ∧ ∀ j y, zs[j]? = some y → R j y H1) ha hz ⟨rfl, fun j y e => by simp at e⟩ (fun i zs H1 p => Nat.le_of_eq p.1) (fun i zs H1 H2 p s => ⟨p.1, fun j y e => mono _ _ _ _ (p.2 j y e) s⟩) hgo hstop ?_ fun H1 ys s e p => hd H1 ys s e p.1 p.2
  intro i H1 zs hi s1 ez p ys x H3 hys hy C hC _
  refine he i H1 zs hi s1 ez ys x H3 hys hy _ fun y H2 s2 r => hC y H2 s2 ⟨by simp [p.1], fun j z e => ?_⟩
  by_cases hj : j < zs.length
  · rw [List.getElem?_append_left hj] at e
    exact mono _ _ _ _ (p.2 j z e) s2.x
  · rw [List.getElem?_append_right (by omega)] at e
    have e0 : j - zs.length = 0 := by
      by_cases h0 : j - zs.length = 0
      · exact h0
      · rw [List.getElem?_eq_none (by simp; omega)] at e; cases e
    rw [e0] at e
    cases Option.some.inj e
    have : j = i := by have := p.1; omega
    rw [this]
    exact r
theorem cg_seq {b : Bool} {l : Addr} {xs : List V} (R : Nat → V → Hp → Prop) (ha : H a = none) (hS : SqB b K H l xs) (hz : xs.length ≤ 1000) (mono : ∀ i y H1 H2, R i y H1 → SameX a H1 H2 → R i y H2)
    (he : ∀ i x H1 zs, xs[i]? = some x → Same H H1 → H1 a = some (.lst zs) → ∀ Q' : VK, (∀ y H2, Same H1 H2 → R i y H2 → Q' y H2) → te (some x :: frees fr σ) H1 Q')
    (hd : ∀ H1 ys, Same H H1 → H1 a = some (.lst ys) → ys.length = xs.length → (∀ j y, ys[j]? = some y → R j y H1) → Q (.ref a) H1) : CompWG (Its K b l) (gName 0) (tEl te) 1 fr σ a H Q := by
  refine cg_rel xs.length R ha hz mono (fun i H1 hi s => Its.go (hS.up s) (x := xs[i]) (by simp [hi])) (fun H1 s => Its.stop (hS.up s) (Nat.le_refl _)) ?_ hd
  intro i H1 zs hi s1 ez ys x H3 hys hy Q' hQ'
  obtain ⟨e1, e2⟩ := Its.yld (hS.up s1) hy
  subst e1
  match ys, hys with
  | [o], _ => exact ⟨⟨[some x], rfl, rfl⟩, he i x H3 zs e2 s1 ez Q' hQ'⟩
theorem cg_range {lo : Int} {len : Nat} (R : Nat → V → Hp → Prop) (ha : H a = none) (hz : len ≤ 1000) (mono : ∀ i y H1 H2, R i y H1 → SameX a H1 H2 → R i y H2)
    (he : ∀ (i : Nat) H1 zs, i < len → Same H H1 → H1 a = some (.lst zs) → ∀ Q' : VK, (∀ y H2, Same H1 H2 → R i y H2 → Q' y H2) → te (some (.int (lo + i)) :: frees fr σ) H1 Q')
    (hd : ∀ H1 ys, Same H H1 → H1 a = some (.lst ys) → ys.length = len → (∀ j y, ys[j]? = some y → R j y H1) → Q (.ref a) H1) : CompWG (Itr lo len) (gName 0) (tEl te) 1 fr σ a H Q := by
  refine cg_rel len R ha hz mono (fun i H1 hi s => hi) (fun H1 s => Nat.le_refl _) ?_ hd
  intro i H1 zs hi s1 ez ys x H3 hys hy Q' hQ'
  obtain ⟨e1, e2⟩ := hy
  subst e1 e2
  match ys, hys with
  | [o], _ => exact ⟨⟨[_], rfl, rfl⟩, he i H3 zs hi s1 ez Q' hQ'⟩
theorem cg_zip {b1 b2 : Bool} {l1 l2 : Addr} {xs ys : List V} (R : Nat → V → Hp → Prop) (ha : H a = none) (hS1 : SqB b1 K H l1 xs) (hS2 : SqB b2 K H l2 ys) (hlen : xs.length = ys.length) (hz : xs.length ≤ 1000) (mono : ∀ i y H1 H2, R i y H1 → SameX a H1 H2 → R i y H2)
    (he : ∀ i x y H1 zs, xs[i]? = some x → ys[i]? = some y → Same H H1 → H1 a = some (.lst zs) → ∀ Q' : VK, (∀ y H2, Same H1 H2 → R i y H2 → Q' y H2) → te (some x :: some y :: frees fr σ) H1 Q')
    (hd : ∀ H1 zs, Same H H1 → H1 a = some (.lst zs) → zs.length = xs.length → (∀ j y, zs[j]? = some y → R j y H1) → Q (.ref a) H1) :
    CompWG (Itz K b1 l1 b2 l2) (gTup K 2 (gCons (gName 0) (gCons (gName 1) gNil))) (tEl te) 2 fr σ a H Q := by
  refine cg_rel xs.length R ha hz mono (fun i H1 hi s => ⟨xs, ys, xs[i], ys[i], hS1.up s, hS2.up s, by simp [hi], by simp⟩) (fun H1 s => ⟨xs, ys, hS1.up s, hS2.up s, .inl (by simp)⟩) ?_ hd
  intro i H1 zs hi s1 ez os x H3 hos hy Q' hQ'
  obtain ⟨p, x, y, rfl, hp, rfl, hx, hy⟩ := hy
  refine ⟨p, [x, y], rfl, SqT.of upd_same, rfl, x, [y], rfl, y, [], rfl, rfl, ?_⟩
  match os, hos with
  | [o, o'], _ =>
    refine ⟨⟨[some x, some y], rfl, rfl⟩, he i x y _ zs (hx xs (hS1.up s1)) (hy ys (hS2.up s1)) (s1.trans (Same.new hp)) (Same.new hp _ _ ez) Q' fun y H2 s2 r => hQ' y H2 ((Same.new hp).trans s2) r⟩
end
noncomputable def MatB (b1 b2 : Bool) (K : PySem.W.Frag) (H : Hp) (a : Addr) (rows : List (List Int)) : Prop := ∃ ps : List Addr, SqB b1 K H a (ps.map V.ref) ∧ ps.length = rows.length ∧ ∀ (i : Nat) (p : Addr) (r : List Int), ps[i]? = some p → rows[i]? = some r → SqB b2 K H p (r.map V.int)
theorem MatB.up {b1 b2 : Bool} {K : PySem.W.Frag} {H H' : Hp} {a : Addr} {rows : List (List Int)} (h : MatB b1 b2 K H a rows) (s : Same H H') : MatB b1 b2 K H' a rows := let ⟨ps, h1, h2, h3⟩ := h; ⟨ps, h1.up s, h2, fun i p r e1 e2 => (h3 i p r e1 e2).up s⟩
noncomputable def RowR (a : Addr) (f : Nat → List Int) (j : Nat) (y : V) (H : Hp) : Prop := ∃ p, y = .ref p ∧ p ≠ a ∧ H p = some (.lst ((f j).map V.int))
theorem RowR.mono {a : Addr} {f : Nat → List Int} (i : Nat) (y : V) (H1 H2 : Hp) (h : RowR a f i y H1) (s : SameX a H1 H2) : RowR a f i y H2 := let ⟨p, e, n, q⟩ := h; ⟨p, e, n, s _ _ n q⟩
theorem MatB.of {K : PySem.W.Frag} {H : Hp} {a : Addr} {f : Nat → List Int} {ys : List V} (h : H a = some (.lst ys)) (hr : ∀ (j : Nat) y, ys[j]? = some y → RowR a f j y H) : MatB false false K H a ((List.range ys.length).map f) := by
  have hp : ∃ ps : List Addr, ys = ps.map V.ref := by
    clear h
    have : ∀ (zs : List V) (k : Nat), (∀ (j : Nat) y, zs[j]? = some y → RowR a f (j + k) y H) → ∃ ps : List Addr, zs = ps.map V.ref := by
      intro zs
      induction zs with
      | nil => intro k _; exact ⟨[], rfl⟩
      | cons z r ih =>
        intro k hz
        obtain ⟨p, e, _⟩ := hz 0 z rfl
        obtain ⟨ps, e2⟩ := ih (k + 1) fun j y q => by
          have := hz (j + 1) y (by simpa using q)
          rwa [Nat.add_assoc, Nat.add_comm 1 k] at this
        exact ⟨p :: ps, by rw [e, e2]; rfl⟩
    exact this ys 0 hr
  obtain ⟨ps, rfl⟩ := hp
  refine ⟨ps, SqB.lst h, by simp, fun i p r e1 e2 => ?_⟩
  obtain ⟨p', e, _, q⟩ := hr i (.ref p) (by simp [e1])
  cases e
  have hi : i < ps.length := (List.getElem?_eq_some_iff.mp e1).1
  have : r = f i := by
    rw [List.getElem?_map, List.length_map, List.getElem?_range hi] at e2
    exact (Option.some.inj e2).symm
  rw [this]
  exact SqB.lst q
end L2

namespace L2
open PySem PySem.Spec PyProof.Rows
noncomputable def iT : Nat → PyData → Bool
  | _, .int _ => true
  | n + 1, .list xs => xs.all (iT n)
  | n + 1, .tuple xs => xs.all (iT n)
  | _, _ => false
theorem iT_lay : ∀ (n : Nat) (d : PyData), iT n d = true → d.canLay0 = true ∧ d.depth ≤ n
  | 0, .int _, _ => by simp [PyData.canLay0, PyData.depth]
  | n + 1, .int _, _ => by simp [PyData.canLay0, PyData.depth]
  | n + 1, .list xs, h => by
    have all : ∀ ys : List PyData, ys.all (iT n) = true → PyData.canLayAll0 ys = true ∧ PyData.depthAll ys ≤ n := by
      intro ys
      induction ys with
      | nil => intro _; simp [PyData.canLayAll0, PyData.depthAll]
      | cons y r ih =>
        intro hy
        rw [List.all_cons, Bool.and_eq_true] at hy
        have h1 := iT_lay n y hy.1
        have h2 := ih hy.2
        simp only [PyData.canLayAll0, PyData.depthAll, Bool.and_eq_true]
        exact ⟨⟨h1.1, h2.1⟩, by omega⟩
    have := all xs (by simpa [iT] using h)
    simp only [PyData.canLay0, PyData.depth]
    exact ⟨this.1, by omega⟩
  | n + 1, .tuple xs, h => by
    have all : ∀ ys : List PyData, ys.all (iT n) = true → PyData.canLayAll0 ys = true ∧ PyData.depthAll ys ≤ n := by
      intro ys
      induction ys with
      | nil => intro _; simp [PyData.canLayAll0, PyData.depthAll]
      | cons y r ih =>
        intro hy
        rw [List.all_cons, Bool.and_eq_true] at hy
        have h1 := iT_lay n y hy.1
        have h2 := ih hy.2
        simp only [PyData.canLayAll0, PyData.depthAll, Bool.and_eq_true]
        exact ⟨⟨h1.1, h2.1⟩, by omega⟩
    have := all xs (by simpa [iT] using h)
    simp only [PyData.canLay0, PyData.depth]
    exact ⟨this.1, by omega⟩
theorem iT_mix : ∀ (n : Nat) (d d' : PyData), iT n d = true → iT n d' = true → SeqAt.noMix d d' = true := by
  intro n
  induction n with
  | zero => intro d d' h h'; cases d <;> simp [iT] at h <;> cases d' <;> simp [iT] at h' <;> simp [SeqAt.noMix]
  | succ n ih =>
    have all : ∀ ys zs : List PyData, ys.all (iT n) = true → zs.all (iT n) = true → SeqAt.noMixAll ys zs = true := by
      intro ys
      induction ys with
      | nil => intro zs _ _; cases zs <;> simp [SeqAt.noMixAll]
      | cons y r ihr =>
        intro zs hy hz
        cases zs with
        | nil => simp [SeqAt.noMixAll]
        | cons z t =>
          rw [List.all_cons, Bool.and_eq_true] at hy hz
          simp only [SeqAt.noMixAll, Bool.and_eq_true]
          exact ⟨ih y z hy.1 hz.1, ihr t hy.2 hz.2⟩
    intro d d' h h'
    cases d <;> simp only [iT, Bool.false_eq_true] at h <;> cases d' <;> simp only [iT, Bool.false_eq_true] at h' <;> simp only [SeqAt.noMix]
    · exact all _ _ h h'
    · exact all _ _ h h'
theorem iT_same : ∀ (n : Nat) (d d' : PyData), iT n d = true → iT n d' = true → (same d d' = true ↔ d = d') := by
  intro n
  induction n with
  | zero => intro d d' h h'; cases d <;> simp [iT] at h <;> cases d' <;> simp [iT] at h' <;> simp [same]
  | succ n ih =>
    have all : ∀ ys zs : List PyData, ys.all (iT n) = true → zs.all (iT n) = true → (sameAll ys zs = true ↔ ys = zs) := by
      intro ys
      induction ys with
      | nil => intro zs _ _; cases zs <;> simp [sameAll]
      | cons y r ihr =>
        intro zs hy hz
        cases zs with
        | nil => simp [sameAll]
        | cons z t =>
          rw [List.all_cons, Bool.and_eq_true] at hy hz
          simp only [sameAll, Bool.and_eq_true, List.cons.injEq]
          rw [ih y z hy.1 hz.1, ihr t hy.2 hz.2]
    intro d d' h h'
    cases d <;> simp only [iT, Bool.false_eq_true] at h <;> cases d' <;> simp only [iT, Bool.false_eq_true] at h' <;> simp only [same, beq_iff_eq, PyData.int.injEq, PyData.list.injEq, PyData.tuple.injEq, reduceCtorEq, Bool.false_eq_true]
    · exact all _ _ h h'
    · exact all _ _ h h'
theorem iT_shaped {n : Nat} {d : PyData} (hn : n ≤ 64) (h : iT n d = true) : SeqAt.shaped d = true := by
  have := iT_lay n d h
  unfold SeqAt.shaped
  rw [Bool.and_eq_true]
  exact ⟨this.1, decide_eq_true (by omega)⟩
section
variable {K : PySem.W.Frag} {H : Hp} {x y : V} {d d' : PyData} {Q : VK}
theorem eqD_of (n : Nat) (hn : n ≤ 64) (h1 : Dt K H x d) (h2 : Dt K H y d') (t1 : iT n d = true) (t2 : iT n d' = true) {b : Bool} (hb : b = true ↔ d = d') (q : Q (.bl b) H) : rEqD K x y H Q := by
  refine ⟨d, d', h1, h2, iT_shaped hn t1, iT_shaped hn t2, iT_mix n d d' t1 t2, ?_⟩
  have := iT_same n d d' t1 t2
  have e : same d d' = b := by
    cases hs : same d d' <;> cases b <;> simp_all
  rw [e]
  exact q
end
noncomputable def seqD (b : Bool) (ds : List PyData) : PyData := match b with | false => .list ds | true => .tuple ds
noncomputable def intsD (b : Bool) (ns : List Int) : PyData := seqD b (ns.map PyData.int)
noncomputable def matD (b1 b2 : Bool) (rows : List (List Int)) : PyData := seqD b1 (rows.map (intsD b2))
theorem seqD_inj {b : Bool} {xs ys : List PyData} : seqD b xs = seqD b ys ↔ xs = ys := by cases b <;> simp [seqD]
theorem map_inj {α β : Type} {f : α → β} (hf : ∀ x y, f x = f y → x = y) : ∀ {xs ys : List α}, xs.map f = ys.map f ↔ xs = ys
  | [], [] => by simp
  | [], _ :: _ => by simp
  | _ :: _, [] => by simp
  | x :: r, y :: t => by
    rw [List.map_cons, List.map_cons, List.cons.injEq, List.cons.injEq, map_inj hf]
    exact ⟨fun h => ⟨hf _ _ h.1, h.2⟩, fun h => ⟨by rw [h.1], h.2⟩⟩
theorem intsD_inj {b : Bool} {ns ms : List Int} : intsD b ns = intsD b ms ↔ ns = ms := by
  unfold intsD
  rw [seqD_inj, map_inj fun x y h => by injection h]
theorem matD_inj {b1 b2 : Bool} {A B : List (List Int)} : matD b1 b2 A = matD b1 b2 B ↔ A = B := by
  unfold matD
  rw [seqD_inj, map_inj fun x y h => intsD_inj.mp h]
theorem iT_ints (b : Bool) (n : Nat) (ns : List Int) : iT (n + 1) (intsD b ns) = true := by
  have : (ns.map PyData.int).all (iT n) = true := by
    rw [List.all_eq_true]
    intro d hd
    obtain ⟨i, _, rfl⟩ := List.mem_map.mp hd
    cases n <;> rfl
  cases b <;> simpa [intsD, seqD, iT] using this
theorem iT_mat (b1 b2 : Bool) (n : Nat) (rows : List (List Int)) : iT (n + 2) (matD b1 b2 rows) = true := by
  have : (rows.map (intsD b2)).all (iT (n + 1)) = true := by
    rw [List.all_eq_true]
    intro d hd
    obtain ⟨i, _, rfl⟩ := List.mem_map.mp hd
    exact iT_ints b2 n i
  cases b1 <;> simpa [matD, seqD, iT] using this
theorem Dt.seqB {b : Bool} {K : PySem.W.Frag} {H : Hp} {a : Addr} {xs : List V} {ds : List PyData} (h : SqB b K H a xs) (hd : Dts K H xs ds) : Dt K H (.ref a) (seqD b ds) := by
  cases b
  · exact .lst h hd
  · exact .tup h hd
theorem Dt.intsB {b : Bool} {K : PySem.W.Frag} {H : Hp} {a : Addr} {ns : List Int} (h : SqB b K H a (ns.map V.int)) : Dt K H (.ref a) (intsD b ns) := Dt.seqB h (Dts.ints ns)
theorem Dt.matB {b1 b2 : Bool} {K : PySem.W.Frag} {H : Hp} {a : Addr} {rows : List (List Int)} (h : MatB b1 b2 K H a rows) : Dt K H (.ref a) (matD b1 b2 rows) := by
  obtain ⟨ps, h1, h2, h3⟩ := h
  refine Dt.seqB h1 ?_
  clear h1
  induction ps generalizing rows with
  | nil =>
    cases rows with
    | nil => exact .nil
    | cons r t => simp at h2
  | cons p ps ih =>
    cases rows with
    | nil => simp at h2
    | cons r t =>
      refine .cons (Dt.intsB (h3 0 p r rfl rfl)) (ih (by simpa using h2) fun i q z e1 e2 => h3 (i + 1) q z (by simpa using e1) (by simpa using e2))
end L2

namespace L2
open PySem PySem.Spec PyProof.Rows
section
variable {wi : TI} {g : TG} {tt : TOx} {te : TE} {tc : TT} {n : Nat} {fr : List (Str × Nat)} {σ : St} {H : Hp} {Q : VK}
theorem compE_st (h : ∀ B : TE, B = te → wi σ H fun J H1 => ∀ a, H1 a = none → CompWG J g (tEl B) n fr σ a H1 Q) : tCompG wi g (tEl te) n fr σ H Q := h _ rfl
theorem compI_st (h : ∀ (C : TT) (B : TE), C = tc → B = te → wi σ H fun J H1 => ∀ a, H1 a = none → CompWG J g (tElIf C B) n fr σ a H1 Q) : tCompG wi g (tElIf tc te) n fr σ H Q := h _ _ rfl rfl
end
noncomputable def seqO (b : Bool) (xs : List V) : HO := match b with | false => .lst xs | true => .tup xs
noncomputable def rSlB (K : PySem.W.Frag) : V → Option Int → Option Int → Hp → VK → Prop := fun x lo hi H Q => ∃ b a xs, x = .ref a ∧ SqB b K H a xs ∧
  (b = true → ¬ (HT.sIx xs.length 0 lo = 0 ∧ HT.sIx xs.length xs.length hi = xs.length)) ∧ ∀ p, H p = none → Q (.ref p) (upd H p (seqO b (cutV xs lo hi)))
theorem sl_B {X : Cx} : SlR X (rSlB X.K) := by
  intro pins s σ H x v vl vu lo hi sl Q I rx hs pl pu h
  obtain ⟨b, a, xs, e, hq, hw, q⟩ := h
  cases b
  · exact sl_list pins s σ H x v vl vu lo hi sl Q I rx hs pl pu ⟨a, xs, e, hq, q⟩
  · exact sl_tup pins s σ H x v vl vu lo hi sl Q I rx hs pl pu ⟨a, xs, e, hq, hw rfl, q⟩
noncomputable def MatL (H : Hp) (a : Addr) (rows : List (List Int)) : Prop := ∃ ps : List Addr, H a = some (.lst (ps.map V.ref)) ∧ ps.length = rows.length ∧ ∀ (i : Nat) (p : Addr) (r : List Int), ps[i]? = some p → rows[i]? = some r → p ≠ a ∧ H p = some (.lst (r.map V.int))
theorem MatL.b {K : PySem.W.Frag} {H : Hp} {a : Addr} {rows : List (List Int)} (h : MatL H a rows) : MatB false false K H a rows := let ⟨ps, h1, h2, h3⟩ := h; ⟨ps, SqB.lst h1, h2, fun i p r e1 e2 => SqB.lst (h3 i p r e1 e2).2⟩
theorem MatL.up {H H' : Hp} {a : Addr} {rows : List (List Int)} (h : MatL H a rows) (s : Same H H') : MatL H' a rows := let ⟨ps, h1, h2, h3⟩ := h; ⟨ps, s _ _ h1, h2, fun i p r e1 e2 => ⟨(h3 i p r e1 e2).1, s _ _ (h3 i p r e1 e2).2⟩⟩
theorem MatL.of {H : Hp} {a : Addr} {f : Nat → List Int} {ys : List V} (h : H a = some (.lst ys)) (hr : ∀ (j : Nat) y, ys[j]? = some y → RowR a f j y H) : MatL H a ((List.range ys.length).map f) := by
  have hp : ∃ ps : List Addr, ys = ps.map V.ref := by
    clear h
    have : ∀ (zs : List V) (k : Nat), (∀ (j : Nat) y, zs[j]? = some y → RowR a f (j + k) y H) → ∃ ps : List Addr, zs = ps.map V.ref := by
      intro zs
      induction zs with
      | nil => intro k _; exact ⟨[], rfl⟩
      | cons z r ih =>
        intro k hz
        obtain ⟨p, e, _⟩ := hz 0 z rfl
        obtain ⟨ps, e2⟩ := ih (k + 1) fun j y q => by
          have := hz (j + 1) y (by simpa using q)
          rwa [Nat.add_assoc, Nat.add_comm 1 k] at this
        exact ⟨p :: ps, by rw [e, e2]; rfl⟩
    exact this ys 0 hr
  obtain ⟨ps, rfl⟩ := hp
  refine ⟨ps, h, by simp, fun i p r e1 e2 => ?_⟩
  obtain ⟨p', e, n, q⟩ := hr i (.ref p) (by simp [e1])
  cases e
  have hi : i < ps.length := (List.getElem?_eq_some_iff.mp e1).1
  have : r = f i := by
    rw [List.getElem?_map, List.length_map, List.getElem?_range hi] at e2
    exact (Option.some.inj e2).symm
  rw [this]
  exact ⟨n, q⟩
theorem MatL.app {H : Hp} {l p : Addr} {M : List (List Int)} {r : List Int} (h : MatL H l M) (hp : H p = some (.lst (r.map V.int))) (ne : p ≠ l) : ∃ xs, H l = some (.lst xs) ∧ xs.length = M.length ∧ MatL (upd H l (.lst (xs ++ [.ref p]))) l (M ++ [r]) := by
  obtain ⟨ps, h1, h2, h3⟩ := h
  refine ⟨_, h1, by simp [h2], ps ++ [p], by rw [upd_same]; simp, by simp [h2], fun i q z e1 e2 => ?_⟩
  by_cases hi : i < ps.length
  · rw [List.getElem?_append_left hi] at e1
    rw [List.getElem?_append_left (by omega)] at e2
    obtain ⟨n, w⟩ := h3 i q z e1 e2
    exact ⟨n, by rw [upd_ne n]; exact w⟩
  · have e0 : i = ps.length := by
      have := (List.getElem?_eq_some_iff.mp e1).1
      simp at this
      omega
    subst e0
    rw [List.getElem?_append_right (Nat.le_refl _)] at e1
    rw [h2, List.getElem?_append_right (Nat.le_refl _)] at e2
    simp at e1 e2
    subst e1 e2
    exact ⟨ne, by rw [upd_ne ne]; exact hp⟩
theorem MatB.row {b1 b2 : Bool} {K : PySem.W.Frag} {H : Hp} {a : Addr} {rows : List (List Int)} (h : MatB b1 b2 K H a rows) {i : Nat} {r : List Int} (e : rows[i]? = some r) : ∃ ps : List Addr, ∃ p, SqB b1 K H a (ps.map V.ref) ∧ (ps.map V.ref)[i]? = some (.ref p) ∧ (ps.map V.ref).length = rows.length ∧ SqB b2 K H p (r.map V.int) := by
  obtain ⟨ps, h1, h2, h3⟩ := h
  have hi : i < ps.length := by have := (List.getElem?_eq_some_iff.mp e).1; omega
  exact ⟨ps, ps[i], h1, by simp [hi], by simp [h2], h3 i _ r (by simp [hi]) e⟩
theorem MatB.walk {b1 b2 : Bool} {K : PySem.W.Frag} {H : Hp} {a : Addr} {rows : List (List Int)} (h : MatB b1 b2 K H a rows) : ∃ xs : List V, SqB b1 K H a xs ∧ xs.length = rows.length ∧ ∀ (i : Nat) x, xs[i]? = some x → ∃ p r, x = .ref p ∧ rows[i]? = some r ∧ SqB b2 K H p (r.map V.int) := by
  obtain ⟨ps, h1, h2, h3⟩ := h
  refine ⟨_, h1, by simp [h2], fun i x e => ?_⟩
  rw [List.getElem?_map] at e
  cases q : ps[i]? with
  | none => rw [q] at e; cases e
  | some p =>
    rw [q] at e
    have hi : i < rows.length := by have := (List.getElem?_eq_some_iff.mp q).1; omega
    exact ⟨p, rows[i], (Option.some.inj e).symm, by simp [hi], h3 i p _ q (by simp [hi])⟩
theorem atI_at {α : Type} {xs : List α} {k : Nat} {x : α} {i : Int} (h : xs[k]? = some x) (hi : i = k) : atI xs i = some x := by
  subst hi
  exact atI_nat h
theorem ints_at {ns : List Int} {i : Nat} {x : V} (h : (ns.map V.int)[i]? = some x) : ∃ n, ns[i]? = some n ∧ x = .int n := by
  rw [List.getElem?_map] at h
  cases e : ns[i]? with
  | none => rw [e] at h; cases h
  | some n => rw [e] at h; exact ⟨n, rfl, (Option.some.inj h).symm⟩
theorem int_at {ns : List Int} {i : Nat} {n : Int} (h : ns[i]? = some n) : (ns.map V.int)[i]? = some (.int n) := by rw [List.getElem?_map, h]; rfl
theorem getD_of {ns : List Int} {k : Nat} {n : Int} (h : ns[k]? = some n) : ns.getD k 0 = n := by rw [List.getD_eq_getElem?_getD, h]; rfl
theorem getD_at {ns : List Int} {k : Nat} (h : k < ns.length) : ns[k]? = some (ns.getD k 0) := by simp [h]
theorem getD_mem {ns : List Int} {k : Nat} (h : k < ns.length) : ns.getD k 0 ∈ ns := by
  rw [show ns.getD k 0 = ns[k] by simp [h]]
  exact List.getElem_mem h
noncomputable def colI (k : Nat) (rows : List (List Int)) : List Int := rows.map fun r => r.getD k 0
noncomputable def dotI (ms ns : List Int) : Int := (List.zipWith (· * ·) ms ns).sum
noncomputable def turnM (w : Nat) (rows : List (List Int)) : List (List Int) := (List.range w).map fun k => colI k rows
noncomputable def mulM (w : Nat) (A B : List (List Int)) : List (List Int) := A.map fun r => (List.range w).map fun k => dotI r (colI k B)
theorem mulM_at {w : Nat} {A B : List (List Int)} {i : Nat} {r : List Int} (h : A[i]? = some r) : (mulM w A B)[i]? = some ((List.range w).map fun k => dotI r (colI k B)) := by
  unfold mulM
  rw [List.getElem?_map, h]
  rfl
end L2
namespace L2
open PySem PySem.Spec PyProof.Rows
section
variable {K : PySem.W.Frag} {g : TG} {tb : TS} {σ : St} {H : Hp} {nx : St → Hp → Prop} {rt : VK}
noncomputable abbrev LoopW (J : It) (g : TG) (tb : TS) (nx : St → Hp → Prop) (rt : VK) (σ : St) (H : Hp) : Prop := ∃ W : Nat → Nat → St → Hp → Prop, (∃ m, W 0 m σ H) ∧ ∀ i m σ H, W i m σ H →
  (J.stop i H ∧ nx σ H) ∨ (J.go i H ∧ ∃ N : St → Hp → Prop, (∀ σ' H', N σ' H' → ∃ m', m' < m ∧ W (i + 1) m' σ' H') ∧ ∀ x H', J.yld i H x H' → g x σ H' fun σ2 H2 => tb { nx := N, rt := rt, bk := nx, ct := N } σ2 H2)
theorem fr_range {lo : Int} {n : Nat} (Pv : Nat → St → Hp → Prop) (h0 : Pv 0 σ H)
    (hs : ∀ i σ H, i < n → Pv i σ H → g (.int (lo + i)) σ H fun σ2 H2 => tb { nx := Pv (i + 1), rt := rt, bk := nx, ct := Pv (i + 1) } σ2 H2) (hd : ∀ σ H, Pv n σ H → nx σ H) : LoopW (Itr lo n) g tb nx rt σ H :=
  for_range (D := { nx := nx, rt := rt, bk := nx, ct := nx }) Pv h0 hs hd
theorem fr_seq {b : Bool} {a : Addr} {xs : List V} (Pv : Nat → St → Hp → Prop) (h0 : Pv 0 σ H) (hl : ∀ i σ H, i ≤ xs.length → Pv i σ H → SqB b K H a xs)
    (hs : ∀ i x σ H, xs[i]? = some x → Pv i σ H → g x σ H fun σ2 H2 => tb { nx := Pv (i + 1), rt := rt, bk := nx, ct := Pv (i + 1) } σ2 H2) (hd : ∀ σ H, Pv xs.length σ H → nx σ H) : LoopW (Its K b a) g tb nx rt σ H :=
  for_seq (D := { nx := nx, rt := rt, bk := nx, ct := nx }) Pv h0 hl hs hd
theorem fr_enum {b : Bool} {a : Addr} {xs : List V} (Pv : Nat → St → Hp → Prop) (h0 : Pv 0 σ H) (hl : ∀ i σ H, i ≤ xs.length → Pv i σ H → SqB b K H a xs)
    (hs : ∀ i x p σ H, xs[i]? = some x → Pv i σ H → H p = none → g (.ref p) σ (upd H p (.tup [.int i, x])) fun σ2 H2 => tb { nx := Pv (i + 1), rt := rt, bk := nx, ct := Pv (i + 1) } σ2 H2) (hd : ∀ σ H, Pv xs.length σ H → nx σ H) : LoopW (Ite K b a) g tb nx rt σ H :=
  for_enum (D := { nx := nx, rt := rt, bk := nx, ct := nx }) Pv h0 hl hs hd
end
theorem mat_ix {b1 b2 : Bool} {K : PySem.W.Frag} {H : Hp} {a : Addr} {rows : List (List Int)} {i k : Nat} {r : List Int} {x : Int} {I J : Int} {Q : VK} (h : MatB b1 b2 K H a rows) (e : rows[i]? = some r) (e2 : r[k]? = some x) (hi : I = i) (hk : J = k) (q : Q (.int x) H) :
    rIxB K (.ref a) (.int I) H fun v H1 => rIxB K v (.int J) H1 Q := by
  obtain ⟨ps, p, k1, k2, k3, k4⟩ := h.row e
  exact ⟨b1, a, _, _, _, rfl, rfl, k1, atI_at k2 hi, b2, p, _, _, _, rfl, rfl, k4, atI_at (int_at e2) hk, q⟩
theorem mat_row {b1 b2 : Bool} {K : PySem.W.Frag} {H : Hp} {a : Addr} {rows : List (List Int)} {i : Nat} {r : List Int} {I : Int} {Q : VK} (h : MatB b1 b2 K H a rows) (e : rows[i]? = some r) (hi : I = i) (q : ∀ p, SqB b2 K H p (r.map V.int) → Q (.ref p) H) :
    rIxB K (.ref a) (.int I) H Q := by
  obtain ⟨ps, p, k1, k2, k3, k4⟩ := h.row e
  exact ⟨b1, a, _, _, _, rfl, rfl, k1, atI_at k2 hi, q p k4⟩
theorem mat_len {b1 b2 : Bool} {K : PySem.W.Frag} {H : Hp} {a : Addr} {rows : List (List Int)} {Q : VK} (h : MatB b1 b2 K H a rows) (q : Q (.int rows.length) H) : rLenB K [.ref a] H Q := by
  obtain ⟨ps, h1, h2, h3⟩ := h
  refine ⟨b1, a, _, rfl, h1, ?_⟩
  rw [List.length_map, h2]
  exact q
theorem ints_len {b : Bool} {K : PySem.W.Frag} {H : Hp} {a : Addr} {ns : List Int} {Q : VK} (h : SqB b K H a (ns.map V.int)) (q : Q (.int ns.length) H) : rLenB K [.ref a] H Q := by
  refine ⟨b, a, _, rfl, h, ?_⟩
  rw [List.length_map]
  exact q
end L2

namespace L2
open PySem PySem.Spec PyProof.Rows
section
variable {X : Cx} {tg : Expr}
end
section
variable {g : TG} {tb : TS} {σ : St} {H : Hp} {nx : St → Hp → Prop} {rt : VK}
end
noncomputable def RefRows (a : Addr) (H : Hp) (zs : List V) (M : List (List Int)) : Prop := ∃ ps : List Addr, zs = ps.map V.ref ∧ ps.length = M.length ∧ ∀ (j : Nat) (p : Addr) (r : List Int), ps[j]? = some p → M[j]? = some r → p ≠ a ∧ H p = some (.lst (r.map V.int))
theorem RefRows.nil {a : Addr} {H : Hp} : RefRows a H [] [] := ⟨[], rfl, rfl, fun j p r e => by simp at e⟩
theorem RefRows.len {a : Addr} {H : Hp} {zs : List V} {M : List (List Int)} (h : RefRows a H zs M) : zs.length = M.length := let ⟨ps, e, l, _⟩ := h; by rw [e, List.length_map, l]
theorem RefRows.mono {a : Addr} {H H' : Hp} {zs : List V} {M : List (List Int)} (h : RefRows a H zs M) (s : SameX a H H') : RefRows a H' zs M := let ⟨ps, e, l, q⟩ := h; ⟨ps, e, l, fun j p r e1 e2 => ⟨(q j p r e1 e2).1, s _ _ (q j p r e1 e2).1 (q j p r e1 e2).2⟩⟩
theorem RefRows.snoc {a p : Addr} {H : Hp} {zs : List V} {M : List (List Int)} {r : List Int} (h : RefRows a H zs M) (ne : p ≠ a) (hp : H p = some (.lst (r.map V.int))) : RefRows a H (zs ++ [.ref p]) (M ++ [r]) := by
  obtain ⟨ps, rfl, h2, h3⟩ := h
  refine ⟨ps ++ [p], by simp, by simp [h2], fun i q z e1 e2 => ?_⟩
  by_cases hi : i < ps.length
  · rw [List.getElem?_append_left hi] at e1
    rw [List.getElem?_append_left (by omega)] at e2
    exact h3 i q z e1 e2
  · have e0 : i = ps.length := by
      have := (List.getElem?_eq_some_iff.mp e1).1
      simp at this
      omega
    subst e0
    rw [List.getElem?_append_right (Nat.le_refl _)] at e1
    rw [h2, List.getElem?_append_right (Nat.le_refl _)] at e2
    simp at e1 e2
    subst e1 e2
    exact ⟨ne, hp⟩
theorem RefRows.mat {a : Addr} {H : Hp} {zs : List V} {M : List (List Int)} (h : H a = some (.lst zs)) (r : RefRows a H zs M) : MatL H a M := by
  obtain ⟨ps, rfl, h2, h3⟩ := r
  exact ⟨ps, h, h2, h3⟩
theorem MatL.refs {a : Addr} {H : Hp} {M : List (List Int)} (h : MatL H a M) : ∃ zs, H a = some (.lst zs) ∧ RefRows a H zs M := let ⟨ps, h1, h2, h3⟩ := h; ⟨_, h1, ps, rfl, h2, h3⟩
theorem cut_ints (ns : List Int) (lo hi : Option Int) : cutV (ns.map V.int) lo hi = ((ns.drop (HT.sIx ns.length 0 lo)).take (HT.sIx ns.length ns.length hi - HT.sIx ns.length 0 lo)).map V.int := by
  unfold cutV
  rw [List.length_map, List.map_take, List.map_drop]
theorem cut_to {ns : List Int} {k : Nat} (h : k ≤ ns.length) : cutV (ns.map V.int) none (some (k : Int)) = (ns.take k).map V.int := by
  rw [cut_ints, HT.sIx_none, HT.sIx_nat, Nat.min_eq_left h]
  simp
theorem cut_from {ns : List Int} {k : Nat} (h : k ≤ ns.length) : cutV (ns.map V.int) (some (k : Int)) none = (ns.drop k).map V.int := by
  rw [cut_ints, HT.sIx_none, HT.sIx_nat, Nat.min_eq_left h, List.take_of_length_le (by simp)]
end L2

namespace L2
open PySem PySem.Spec PyProof.Rows
section
variable {K : PySem.W.Frag} {H : Hp} {a a1 : Addr} {M : List (List Int)} {σ : St} {Q : VK} {b1 b2 : Bool}
theorem copy_list (hM : MatB b1 b2 K H a M) (hl : M.length ≤ 1000) (ha1 : H a1 = none) (hQ : ∀ H1, Same H H1 → MatL H1 a1 M → Q (.ref a1) H1) : CompWG (Its K b1 a) (gName 0) (tEl (tCB (rListB K) (tCons (tVar 0) tNil))) 1 [] σ a1 H Q := by
  obtain ⟨xs, x1, x2, x3⟩ := hM.walk
  refine cg_seq (RowR a1 fun j => M.getD j []) ha1 x1 (by omega) (RowR.mono (a := a1)) ?_ ?_
  · intro i x H1 zs ex s1 ez Q' hQ'
    obtain ⟨p, r, rfl, er, hp⟩ := x3 i x ex
    refine ⟨_, rfl, b2, p, _, rfl, hp.up s1, fun l hl1 => hQ' _ _ (Same.new hl1) ⟨l, rfl, Ne.symm (ne_of_none ez hl1), ?_⟩⟩
    rw [upd_same]; dsimp only; rw [List.getD_eq_getElem?_getD, er]
    rfl
  · intro H1 ys s1 e1 hly hr1
    have := MatL.of e1 hr1
    have e : (List.range ys.length).map (fun j => M.getD j []) = M := by
      rw [hly, x2]
      refine List.ext_getElem (by simp) fun i h1 h2 => ?_
      simp at h1
      simp [h1]
    rw [e] at this
    exact hQ H1 s1 this
noncomputable def MatT (H : Hp) (a : Addr) (rows : List (List Int)) : Prop := ∃ ps : List Addr, H a = some (.lst (ps.map V.ref)) ∧ ps.length = rows.length ∧ ∀ (i : Nat) (p : Addr) (r : List Int), ps[i]? = some p → rows[i]? = some r → H p = some (.tup (r.map V.int))
theorem copy_tup (hM : MatB b1 false K H a M) (hl : M.length ≤ 1000) (ha1 : H a1 = none) (hQ : ∀ H1, Same H H1 → MatT H1 a1 M → Q (.ref a1) H1) : CompWG (Its K b1 a) (gName 0) (tEl (tCB (rTupB K) (tCons (tVar 0) tNil))) 1 [] σ a1 H Q := by
  obtain ⟨xs, x1, x2, x3⟩ := hM.walk
  refine cg_seq (fun j y H1 => ∃ p r, y = .ref p ∧ M[j]? = some r ∧ p ≠ a1 ∧ H1 p = some (.tup (r.map V.int))) ha1 x1 (by omega) (fun i y H1 H2 ⟨p, r, e1, e2, e3, e4⟩ s => ⟨p, r, e1, e2, e3, s _ _ e3 e4⟩) ?_ ?_
  · intro i x H1 zs ex s1 ez Q' hQ'
    obtain ⟨p, r, rfl, er, hp⟩ := x3 i x ex
    exact ⟨_, rfl, p, _, rfl, .inl ⟨hp.up s1, fun l hl1 => hQ' _ _ (Same.new hl1) ⟨l, r, rfl, er, Ne.symm (ne_of_none ez hl1), upd_same⟩⟩⟩
  · intro H1 ys s1 e1 hly hr1
    have hps : ∃ ps : List Addr, ys = ps.map V.ref := by
      clear e1 hly
      have : ∀ (zs : List V), (∀ (j : Nat) y, zs[j]? = some y → ∃ p : Addr, y = .ref p) → ∃ ps : List Addr, zs = ps.map V.ref := by
        intro zs
        induction zs with
        | nil => intro _; exact ⟨[], rfl⟩
        | cons z r ih =>
          intro hz
          obtain ⟨p, e⟩ := hz 0 z rfl
          obtain ⟨ps, e2⟩ := ih fun j y q => hz (j + 1) y (by simpa using q)
          exact ⟨p :: ps, by rw [e, e2]; rfl⟩
      exact this ys fun j y e => let ⟨p, r, e1, _⟩ := hr1 j y e; ⟨p, e1⟩
    obtain ⟨ps, rfl⟩ := hps
    refine hQ H1 s1 ⟨ps, e1, by simp at hly; omega, fun i p r e2 e3 => ?_⟩
    obtain ⟨p', r', e4, e5, _, e6⟩ := hr1 i (.ref p) (by simp [e2])
    cases e4
    rw [e3] at e5
    cases e5
    exact e6
theorem MatT.tuple {l : Addr} (h : MatT H a M) (hl : H l = none) : ∃ zs, H a = some (.lst zs) ∧ MatB true true K (upd H l (.tup zs)) l M := by
  obtain ⟨ps, h1, h2, h3⟩ := h
  exact ⟨_, h1, ps, SqB.tup upd_same, h2, fun i p r e1 e2 => SqB.tup (Same.new hl _ _ (h3 i p r e1 e2))⟩
end
end L2

namespace L2
open PySem PySem.Spec PyProof.Rows
theorem pe_globE {X : Cx} {x : Str} {v : V} {pos : Pos} (hg : Gl X x) (h : ∃ u, X.mg x = some u ∧ RelV v u) (hd : (x == ("__debug__" : Str)) = false := by decide) : PE X (.Name x pos) (tC v) := by
  obtain ⟨u, e, r⟩ := h
  exact pe_glob hg e r hd
end L2
namespace L2
open PySem PySem.Spec PyProof.Rows
noncomputable def MkI (te : TE) (n : Int) : Prop := ∀ σ H Q, Q (.int n) H → te σ H Q
theorem MkI.pos (n : Int) : MkI (tC (.int n)) n := fun _ _ _ q => q
theorem MkI.neg (n : Int) : MkI (tUn (rU fun i => .int (-i)) (tC (.int n))) (-n) := fun _ _ _ q => ⟨n, rfl, q⟩
noncomputable def MkIs (ta : TA) (ns : List Int) : Prop := ∀ σ H Q, Q (ns.map V.int) H → ta σ H Q
theorem MkIs.nil : MkIs tNil [] := fun _ _ _ q => q
theorem MkIs.cons {te : TE} {ta : TA} {n : Int} {ns : List Int} (h : MkI te n) (h2 : MkIs ta ns) : MkIs (tCons te ta) (n :: ns) := fun σ H Q q => h σ H _ (h2 σ H _ q)
noncomputable def MkR (te : TE) (ns : List Int) : Prop := ∀ σ H Q, (∀ p H', Same H H' → H p = none → H' p = some (.lst (ns.map V.int)) → Q (.ref p) H') → te σ H Q
theorem MkR.of {ta : TA} {ns : List Int} (h : MkIs ta ns) (hz : ns.length ≤ 1000) : MkR (tLst ta) ns := fun σ H Q q => h σ H _ ⟨by rw [List.length_map]; exact Nat.le_of_lt (small1000 hz), fun l hl => q l _ (Same.new hl) hl upd_same⟩
noncomputable def MkRs (ta : TA) (M : List (List Int)) : Prop := ∀ σ H Q, (∀ ps H', Same H H' → RefRowsN H H' ps M → Q (ps.map V.ref) H') → ta σ H Q
where RefRowsN (H H' : Hp) (ps : List Addr) (M : List (List Int)) : Prop := ps.length = M.length ∧ ∀ (j : Nat) (p : Addr) (r : List Int), ps[j]? = some p → M[j]? = some r → H' p = some (.lst (r.map V.int))
theorem MkRs.nil : MkRs tNil [] := fun _ H Q q => q [] H (Same.refl _) ⟨rfl, fun j p r e => by simp at e⟩
theorem MkRs.cons {te : TE} {ta : TA} {ns : List Int} {M : List (List Int)} (h : MkR te ns) (h2 : MkRs ta M) : MkRs (tCons te ta) (ns :: M) := fun σ H Q q => h σ H _ fun p H1 s1 hp e1 => h2 σ H1 _ fun ps H2 s2 r => q (p :: ps) H2 (s1.trans s2) ⟨by simp [r.1], fun j p' r' e e' => by
  cases j with
  | zero => simp at e e'; subst e e'; exact s2 _ _ e1
  | succ j => exact r.2 j p' r' (by simpa using e) (by simpa using e')⟩
noncomputable def MkM (te : TE) (M : List (List Int)) : Prop := ∀ σ H Q, (∀ p H', Same H H' → H p = none → MatL H' p M → Q (.ref p) H') → te σ H Q
theorem MkM.of {ta : TA} {M : List (List Int)} (h : MkRs ta M) (hz : M.length ≤ 1000) : MkM (tLst ta) M := fun σ H Q q => h σ H _ fun ps H1 s1 r => ⟨by rw [List.length_map, r.1]; exact Nat.le_of_lt (small1000 hz), fun l hl => by
  have hn : H l = none := by cases e : H l with | none => rfl | some o => rw [s1 _ _ e] at hl; cases hl
  exact q l _ (s1.trans (Same.new hl)) hn ⟨ps, upd_same, r.1, fun i p z e1 e2 => ⟨ne_of_none (r.2 i p z e1 e2) hl, Same.new hl _ _ (r.2 i p z e1 e2)⟩⟩⟩
noncomputable def Mats (H : Hp) (p : Addr) (Ms : List (List (List Int))) : Prop := ∃ ps : List Addr, H p = some (.lst (ps.map V.ref)) ∧ ps.length = Ms.length ∧ ∀ (i : Nat) (q : Addr) (M : List (List Int)), ps[i]? = some q → Ms[i]? = some M → MatL H q M
theorem Mats.up {H H' : Hp} {p : Addr} {Ms : List (List (List Int))} (h : Mats H p Ms) (s : Same H H') : Mats H' p Ms := let ⟨ps, h1, h2, h3⟩ := h; ⟨ps, s _ _ h1, h2, fun i q M e1 e2 => (h3 i q M e1 e2).up s⟩
noncomputable def MkMs (ta : TA) (Ms : List (List (List Int))) : Prop := ∀ σ H Q, (∀ (ps : List Addr) H', Same H H' → ps.length = Ms.length → (∀ (i : Nat) (q : Addr) (M : List (List Int)), ps[i]? = some q → Ms[i]? = some M → MatL H' q M) → Q (ps.map V.ref) H') → ta σ H Q
theorem MkMs.nil : MkMs tNil [] := fun _ H Q q => q [] H (Same.refl _) rfl fun j p r e => by simp at e
theorem MkMs.cons {te : TE} {ta : TA} {M : List (List Int)} {Ms : List (List (List Int))} (h : MkM te M) (h2 : MkMs ta Ms) : MkMs (tCons te ta) (M :: Ms) := fun σ H Q q => h σ H _ fun p H1 s1 _ e1 => h2 σ H1 _ fun ps H2 s2 l r => q (p :: ps) H2 (s1.trans s2) (by simp [l]) fun j p' r' e e' => by
  cases j with
  | zero => simp at e e'; subst e e'; exact e1.up s2
  | succ j => exact r j p' r' (by simpa using e) (by simpa using e')
theorem MkMs.lst {ta : TA} {Ms : List (List (List Int))} (h : MkMs ta Ms) (hz : Ms.length ≤ 1000) {σ : St} {H : Hp} {Q : VK} (q : ∀ p H', Same H H' → Mats H' p Ms → Q (.ref p) H') : tLst ta σ H Q := h σ H _ fun ps H1 s1 l r => ⟨by rw [List.length_map, l]; exact Nat.le_of_lt (small1000 hz), fun a ha =>
  q a _ (s1.trans (Same.new ha)) ⟨ps, upd_same, l, fun i q M e1 e2 => (r i q M e1 e2).up (Same.new ha)⟩⟩
theorem Mats.cat {H : Hp} {p q : Addr} {A B : List (List (List Int))} {Q : VK} (h1 : Mats H p A) (h2 : Mats H q B) (hz : A.length + B.length ≤ 1000) (k : ∀ r H', Same H H' → Mats H' r (A ++ B) → Q (.ref r) H') : rCat (.ref p) (.ref q) H Q := by
  obtain ⟨ps, a1, a2, a3⟩ := h1
  obtain ⟨qs, b1, b2, b3⟩ := h2
  refine ⟨p, q, _, _, rfl, rfl, a1, b1, by rw [List.length_map, List.length_map, a2, b2]; exact Nat.le_of_lt (small1000 hz), fun r hr => k r _ (Same.new hr) ⟨ps ++ qs, by rw [upd_same, List.map_append], by simp [a2, b2], fun i z M e1 e2 => ?_⟩⟩
  by_cases hi : i < ps.length
  · rw [List.getElem?_append_left hi] at e1
    rw [List.getElem?_append_left (by omega)] at e2
    exact (a3 i z M e1 e2).up (Same.new hr)
  · rw [List.getElem?_append_right (by omega)] at e1
    rw [List.getElem?_append_right (by omega), ← a2] at e2
    exact (b3 _ z M e1 e2).up (Same.new hr)
theorem Mats.at {K : PySem.W.Frag} {H : Hp} {p : Addr} {Ms : List (List (List Int))} {i : Nat} {M : List (List Int)} {I : Int} {Q : VK} (h : Mats H p Ms) (e : Ms[i]? = some M) (hi : I = i) (k : ∀ q, MatL H q M → Q (.ref q) H) : rIxB K (.ref p) (.int I) H Q := by
  obtain ⟨ps, h1, h2, h3⟩ := h
  have hlt : i < ps.length := by have := (List.getElem?_eq_some_iff.mp e).1; omega
  exact ⟨false, p, _, _, _, rfl, rfl, SqB.lst h1, atI_at (show (ps.map V.ref)[i]? = some (.ref ps[i]) by simp [hlt]) hi, k _ (h3 i _ M (by simp [hlt]) e)⟩
noncomputable def MatD (H0 H : Hp) (a : Addr) (rows : List (List Int)) : Prop := ∃ ps : List Addr, H a = some (.lst (ps.map V.ref)) ∧ ps.length = rows.length ∧ ps.Nodup ∧ ∀ (i : Nat) (p : Addr) (r : List Int), ps[i]? = some p → rows[i]? = some r → p ≠ a ∧ H0 p = none ∧ H p = some (.lst (r.map V.int))
theorem MatD.l {H0 H : Hp} {a : Addr} {rows : List (List Int)} (h : MatD H0 H a rows) : MatL H a rows := let ⟨ps, h1, h2, _, h3⟩ := h; ⟨ps, h1, h2, fun i p r e1 e2 => ⟨(h3 i p r e1 e2).1, (h3 i p r e1 e2).2.2⟩⟩
theorem MatD.up {H0 H H' : Hp} {a : Addr} {rows : List (List Int)} (h : MatD H0 H a rows) (s : Same H H') : MatD H0 H' a rows := let ⟨ps, h1, h2, n, h3⟩ := h; ⟨ps, s _ _ h1, h2, n, fun i p r e1 e2 => ⟨(h3 i p r e1 e2).1, (h3 i p r e1 e2).2.1, s _ _ (h3 i p r e1 e2).2.2⟩⟩
theorem MatD.row {H0 H : Hp} {a : Addr} {rows : List (List Int)} {i : Nat} {r : List Int} (h : MatD H0 H a rows) (e : rows[i]? = some r) : ∃ zs p, H a = some (.lst zs) ∧ zs[i]? = some (.ref p) ∧ zs.length = rows.length ∧ p ≠ a ∧ H0 p = none ∧ H p = some (.lst (r.map V.int)) ∧ ∀ r', MatD H0 (upd H p (.lst (r'.map V.int))) a (rows.set i r') := by
  obtain ⟨ps, h1, h2, hn, h3⟩ := h
  have hi : i < ps.length := by have := (List.getElem?_eq_some_iff.mp e).1; omega
  have hp := h3 i ps[i] r (by simp [hi]) e
  refine ⟨_, ps[i], h1, by simp [hi], by simp [h2], hp.1, hp.2.1, hp.2.2, fun r' => ⟨ps, by rw [upd_ne (Ne.symm hp.1)]; exact h1, by simp [h2], hn, fun j q z e1 e2 => ?_⟩⟩
  by_cases hj : j = i
  · subst hj
    have eq : q = ps[j] := by simp [hi] at e1; exact e1.symm
    subst eq
    rw [List.getElem?_set_self (by omega)] at e2
    cases e2
    exact ⟨hp.1, hp.2.1, upd_same⟩
  · rw [List.getElem?_set_ne (Ne.symm hj)] at e2
    obtain ⟨n1, n3, n2⟩ := h3 j q z e1 e2
    have : q ≠ ps[i] := fun w => by
      have hjl := (List.getElem?_eq_some_iff.mp e1)
      obtain ⟨hjl, ej⟩ := hjl
      exact hj ((List.getElem_inj hn).mp (ej.trans w))
    exact ⟨n1, n3, by rw [upd_ne this]; exact n2⟩
section
variable {K : PySem.W.Frag} {H : Hp} {a a1 : Addr} {M : List (List Int)} {σ : St} {Q : VK} {b1 b2 : Bool}
theorem copy_listD (hM : MatB b1 b2 K H a M) (hl : M.length ≤ 1000) (ha1 : H a1 = none) (hQ : ∀ H1, Same H H1 → MatD H H1 a1 M → Q (.ref a1) H1) : CompWG (Its K b1 a) (gName 0) (tEl (tCB (rListB K) (tCons (tVar 0) tNil))) 1 [] σ a1 H Q := by
  obtain ⟨xs, x1, x2, x3⟩ := hM.walk
  refine cg_inv xs.length (fun t zs H1 => ∃ ps : List Addr, zs = ps.map V.ref ∧ ps.length = t ∧ ps.Nodup ∧ ∀ (j : Nat) (p : Addr) (r : List Int), ps[j]? = some p → M[j]? = some r → p ≠ a1 ∧ H p = none ∧ H1 p = some (.lst (r.map V.int))) ha1 (by omega) ⟨[], rfl, rfl, List.nodup_nil, fun j p r e => by simp at e⟩
    (fun i zs H1 ⟨ps, e, l, _⟩ => by rw [e, List.length_map, l]; exact Nat.le_refl _) (fun i zs H1 H2 ⟨ps, e, l, n, q⟩ s => ⟨ps, e, l, n, fun j p r e1 e2 => ⟨(q j p r e1 e2).1, (q j p r e1 e2).2.1, s _ _ (q j p r e1 e2).1 (q j p r e1 e2).2.2⟩⟩)
    (fun i H1 hi s => Its.go (x1.up s) (x := xs[i]) (by simp [hi])) (fun H1 s => Its.stop (x1.up s) (Nat.le_refl _)) ?_ ?_
  · rintro i H1 zs hi s1 ez ⟨ps, rfl, hpl, hnd, hq⟩ ys x H3 hys hy C hC _
    obtain ⟨e1, e2⟩ := Its.yld (x1.up s1) hy
    subst e1
    obtain ⟨p, r, rfl, er, hp⟩ := x3 i x e2
    match ys, hys with
    | [o], _ =>
      refine ⟨⟨[some (.ref p)], rfl, rfl⟩, _, rfl, b2, p, _, rfl, hp.up s1, fun l hl1 => hC _ _ (Same.new hl1) ⟨ps ++ [l], by simp, by simp [hpl], ?_, fun j p' r' e3 e4 => ?_⟩⟩
      · rw [List.nodup_append]
        refine ⟨hnd, by simp, fun z hz w hw => ?_⟩
        rw [List.mem_singleton.mp hw]
        obtain ⟨j, hj, ej⟩ := List.getElem_of_mem hz
        have hjM : j < M.length := by omega
        exact ne_of_none (hq j z M[j] (by simp [hj, ej]) (by simp [hjM])).2.2 hl1
      · by_cases hj : j < ps.length
        · rw [List.getElem?_append_left hj] at e3
          obtain ⟨n1, n3, n2⟩ := hq j p' r' e3 e4
          exact ⟨n1, n3, Same.new hl1 _ _ n2⟩
        · have ej : j = ps.length := by have := (List.getElem?_eq_some_iff.mp e3).1; simp at this; omega
          subst ej
          rw [List.getElem?_append_right (Nat.le_refl _)] at e3
          simp at e3
          subst e3
          rw [hpl, er] at e4
          cases e4
          have hn : H l = none := by cases w : H l with | none => rfl | some o => rw [s1 _ _ w] at hl1; cases hl1
          exact ⟨Ne.symm (ne_of_none ez hl1), hn, upd_same⟩
  · rintro H1 ys s1 e1 ⟨ps, rfl, hpl, hnd, hq⟩
    exact hQ H1 s1 ⟨ps, e1, by omega, hnd, hq⟩
end
end L2
namespace L2
open PySem PySem.Spec PyProof.Rows
noncomputable def litI : Expr → Option Int
  | .Constant (.int i) _ _ => some i
  | .UnaryOp .USub (.Constant (.int i) _ _) _ => some (-i)
  | _ => none
noncomputable def litIs : List Expr → Option (List Int)
  | [] => some []
  | e :: es => match litI e, litIs es with | some n, some ns => some (n :: ns) | _, _ => none
noncomputable def litR : Expr → Option (List Int)
  | .List es _ => litIs es
  | _ => none
noncomputable def litRs : List Expr → Option (List (List Int))
  | [] => some []
  | e :: es => match litR e, litRs es with | some n, some ns => some (n :: ns) | _, _ => none
noncomputable def litM : Expr → Option (List (List Int))
  | .List es _ => litRs es
  | _ => none
noncomputable def litMs : List Expr → Option (List (List (List Int)))
  | [] => some []
  | e :: es => match litM e, litMs es with | some n, some ns => some (n :: ns) | _, _ => none
noncomputable def litMM : Expr → Option (List (List (List Int)))
  | .List es _ => litMs es
  | _ => none
section
variable {X : Cx}
theorem PE.weak {e : Expr} {t u : TE} (h : PE X e t) (w : ∀ σ H Q, u σ H Q → t σ H Q) : PE X e u := fun pins s σ H Q I q => h pins s σ H Q I (w σ H Q q)
theorem PA.weak {es : List Expr} {t u : TA} (h : PA X es t) (w : ∀ σ H Q, u σ H Q → t σ H Q) : PA X es u := fun pos pins s σ H Q I q => h pos pins s σ H Q I (w σ H Q q)
theorem pe_litI {e : Expr} {n : Int} (h : litI e = some n) : PE X e (tC (.int n)) ∧ ∀ es, starEach (e :: es) X.env = (false, eval e X.env) :: starEach es X.env := by
  unfold litI at h
  split at h
  · cases h; exact ⟨pe_int, fun _ => rfl⟩
  · cases h
    exact ⟨(pe_un un_neg pe_int).weak fun σ H Q q => ⟨_, rfl, q⟩, fun _ => rfl⟩
  · cases h
theorem pa_litIs : ∀ {es : List Expr} {ns : List Int}, litIs es = some ns → PA X es fun _ H Q => Q (ns.map V.int) H
  | [], ns, h => by cases h; exact pa_nil
  | e :: es, ns, h => by
    unfold litIs at h
    split at h
    · rename_i n ms e1 e2
      cases h
      exact (pa_cons (pe_litI e1).1 (pa_litIs e2) ((pe_litI e1).2 es)).weak fun σ H Q q => q
    · cases h
noncomputable def tRowN (ns : List Int) : TE := fun _ H Q => ∀ p H', Same H H' → H p = none → H' p = some (.lst (ns.map V.int)) → Q (.ref p) H'
noncomputable def tMatN (M : List (List Int)) : TE := fun _ H Q => ∀ p H', Same H H' → H p = none → MatL H' p M → Q (.ref p) H'
noncomputable def tMatsN (Ms : List (List (List Int))) : TE := fun _ H Q => ∀ p H', Same H H' → Mats H' p Ms → Q (.ref p) H'
theorem pe_litR {e : Expr} {ns : List Int} (h : litR e = some ns) (hz : ns.length ≤ 1000) : PE X e (tRowN ns) ∧ ∀ es, starEach (e :: es) X.env = (false, eval e X.env) :: starEach es X.env := by
  unfold litR at h
  split at h
  · refine ⟨(pe_lst (pa_litIs h)).weak fun σ H Q q => MkR.of (ta := fun _ H Q => Q (ns.map V.int) H) (fun _ _ _ q => q) hz σ H Q q, fun _ => rfl⟩
  · cases h
theorem pa_litRs : ∀ {es : List Expr} {M : List (List Int)}, litRs es = some M → (∀ r ∈ M, r.length ≤ 1000) → ∃ ta, PA X es ta ∧ MkRs ta M
  | [], ns, h, _ => by cases h; exact ⟨_, pa_nil, MkRs.nil⟩
  | e :: es, ns, h, hz => by
    unfold litRs at h
    split at h
    · rename_i n ms e1 e2
      cases h
      have h1 := pe_litR (X := X) e1 (hz n List.mem_cons_self)
      obtain ⟨ta, h2, h3⟩ := pa_litRs e2 fun r hr => hz r (List.mem_cons_of_mem _ hr)
      exact ⟨_, pa_cons h1.1 h2 (h1.2 es), MkRs.cons (te := tRowN n) (fun σ H Q q => q) h3⟩
    · cases h
theorem pe_litM {e : Expr} {M : List (List Int)} (h : litM e = some M) (hz : M.length ≤ 1000 ∧ ∀ r ∈ M, r.length ≤ 1000) : PE X e (tMatN M) ∧ ∀ es, starEach (e :: es) X.env = (false, eval e X.env) :: starEach es X.env := by
  unfold litM at h
  split at h
  · obtain ⟨ta, h1, h2⟩ := pa_litRs (X := X) h hz.2
    exact ⟨(pe_lst h1).weak fun σ H Q q => MkM.of h2 hz.1 σ H Q q, fun _ => rfl⟩
  · cases h
theorem pa_litMs : ∀ {es : List Expr} {Ms : List (List (List Int))}, litMs es = some Ms → (∀ M ∈ Ms, M.length ≤ 1000 ∧ ∀ r ∈ M, r.length ≤ 1000) → ∃ ta, PA X es ta ∧ MkMs ta Ms
  | [], ns, h, _ => by cases h; exact ⟨_, pa_nil, MkMs.nil⟩
  | e :: es, ns, h, hz => by
    unfold litMs at h
    split at h
    · rename_i n ms e1 e2
      cases h
      have h1 := pe_litM (X := X) e1 (hz n List.mem_cons_self)
      obtain ⟨ta, h2, h3⟩ := pa_litMs e2 fun r hr => hz r (List.mem_cons_of_mem _ hr)
      exact ⟨_, pa_cons h1.1 h2 (h1.2 es), MkMs.cons (te := tMatN n) (fun σ H Q q => q) h3⟩
    · cases h
theorem pe_mats {e : Expr} {Ms : List (List (List Int))} (h : (decide (litMM e = some Ms) && decide (Ms.length ≤ 1000 ∧ ∀ M ∈ Ms, M.length ≤ 1000 ∧ ∀ r ∈ M, r.length ≤ 1000)) = true) : PE X e (tMatsN Ms) := by
  simp only [Bool.and_eq_true, decide_eq_true_eq] at h
  obtain ⟨h, hz, hz2⟩ := h
  unfold litMM at h
  split at h
  · obtain ⟨ta, h1, h2⟩ := pa_litMs (X := X) h hz2
    exact (pe_lst h1).weak fun σ H Q q => MkMs.lst h2 hz q
  · cases h
end
end L2
namespace L2
open PySem
theorem swapL {es : List Expr} {pos : Pos} {t : Option Expr} {l : Nat} {env : Env} : swapsWith (.List es pos) t l env = pure false := by cases t <;> rfl
theorem swapB {a b : Expr} {op : Operator} {pos : Pos} {t : Option Expr} {l : Nat} {env : Env} : swapsWith (.BinOp a op b pos) t l env = pure false := by cases t <;> rfl
end L2
namespace L2
open PySem PySem.Spec PyProof.Rows
noncomputable def sizesOk (Ms : List (List (List Int))) : Bool := decide (Ms.length ≤ 1000 ∧ ∀ M ∈ Ms, M.length ≤ 1000 ∧ ∀ r ∈ M, r.length ≤ 1000)
noncomputable def isList : Expr → Bool
  | .List _ _ => true
  | _ => false
noncomputable def asgLit (x : Str) (Ms : List (List (List Int))) : Stmt → Bool
  | .Assign [.Name y _] e _ => decide (y = x) && isList e && (decide (litMM e = some Ms) && sizesOk Ms)
  | _ => false
noncomputable def asgCat (y x : Str) (Ms : List (List (List Int))) : Stmt → Bool
  | .Assign [.Name y' _] (.BinOp (.Name x' _) .Add e _) _ => decide (y' = y) && decide (x' = x) && (decide (litMM e = some Ms) && sizesOk Ms)
  | _ => false
theorem ps_setLit {X : Cx} {st : Stmt} {i : Nat} {x : Str} {Ms : List (List (List Int))} (h : asgLit x Ms st = true) (hN : X.N.Nodup) (hi : X.N[i]? = some x) (hx : X.env.scope.names.lookup x = some .local) : PS X st (tAsg (tMatsN Ms) (gName i)) := by
  unfold asgLit at h
  split at h
  · rename_i y p e q
    simp only [Bool.and_eq_true, decide_eq_true_eq] at h
    obtain ⟨⟨rfl, hl⟩, hm, hz⟩ := h
    have hs : ∀ pos' l, swapsWith e (some (.Name y pos')) l X.env = pure false := by
      intro pos' l
      unfold isList at hl
      split at hl
      · exact swapL
      · cases hl
    exact ps_set hN hi (.inl hx) (pe_mats (by rw [decide_eq_true hm]; exact hz)) (hs _ _) (.inr hx)
  · cases h
theorem ps_setCat {X : Cx} {st : Stmt} {i j : Nat} {y x : Str} {Ms : List (List (List Int))} (h : asgCat y x Ms st = true) (hN : X.N.Nodup) (hi : X.N[i]? = some y) (hx : X.env.scope.names.lookup y = some .local) (hj : X.N[j]? = some x) (hv : Vis X.env.scope x) (hd : (x == ("__debug__" : Str)) = false) (hc : (x == ("__classdict__" : Str)) = false) : PS X st (tAsg (tOp rCat (tVar j) (tMatsN Ms)) (gName i)) := by
  unfold asgCat at h
  split at h
  · rename_i y' p x' p' e p2 p3
    simp only [Bool.and_eq_true, decide_eq_true_eq] at h
    obtain ⟨⟨rfl, rfl⟩, hm, hz⟩ := h
    exact ps_set hN hi (.inl hx) (pe_op op_cat (pe_var hj hv hd hc) (pe_mats (by rw [decide_eq_true hm]; exact hz))) swapB (.inr hx)
  · cases h
end L2

namespace L2
open PySem PySem.Spec PyProof.Rows
section
variable {X : Cx}
theorem bools_get : ∀ {bs : List Bool} {its : List Value}, Vals (bs.map V.bl) its → ∀ (i : Nat) (v : Value), its[i]? = some v → ∃ b, bs[i]? = some b ∧ v = .bool b
  | [], _, .nil, i, v, e => by simp at e
  | b :: r, _, .cons h q, i, v, e => by
    cases i with
    | zero => simp at e; subst e; exact ⟨b, rfl, h⟩
    | succ i => simpa using bools_get (bs := r) q i v (by simpa using e)
theorem range_anyB : ∀ bs : List Bool, ((List.range bs.length).any fun i => (bs[i]?).getD false) = bs.any id
  | [] => rfl
  | b :: bs => by
    have ih := range_anyB bs
    rw [List.length_cons, List.range_succ_eq_map, List.any_cons, List.any_cons, List.any_map]
    show (b || _) = (b || _)
    congr 1
theorem call_any (hc : X.calm = true) : CallR X (.builtin "any") (fun xs H Q => ∃ (p : Addr) (bs : List Bool), xs = [.ref p] ∧ SqL X.K H p (bs.map V.bl) ∧ Q (.bl (bs.any id)) H) := by
  intro pins s σ H xs us Q I r h
  obtain ⟨p, bs, rfl, hq, q⟩ := h
  obtain ⟨u, rfl, rx⟩ := vals1 r
  cases rx
  obtain ⟨its, rv, pl, hz⟩ := I.list hq
  have hl : s.heap.IsList p its.toArray := pl.isList
  have hlt : p < s.heap.objs.size := by obtain ⟨_, e, _⟩ := hl; exact Heap.lt_size e
  have hlen : its.toArray.size = bs.length := by
    have := rv.length
    simpa using this.symm
  refine call_any_walk (wpAny_pyIter_list hl ?_)
  refine ⟨s.heap.objs.size, [s.heap.objs.size, p], [s.heap.objs.size], its.toArray.size, _, _, fun i => (bs[i]?).getD false, rfl, Walks.list (A := X.A.in1) (I.ok.hd hc) _ p (Nat.ne_of_lt hlt) its.toArray,
    ⟨⟨_, Heap.get?_push_size _ rfl, rfl, rfl⟩, hl.push _⟩, fun i v s' Q' E' hP hQ => ?_, fun h' tk hk => ?_⟩
  · obtain ⟨b, e, rfl⟩ := bools_get rv i v (by simpa using hP)
    simp only [e, Option.getD_some] at hQ
    exact wpAny_truthy_bool hQ
  · rw [hlen, range_anyB bs]
    refine ⟨.bl (bs.any id), H, I.kept (t' := tk) fun b x e => hk b x (fun hm => by rw [List.mem_singleton.mp hm] at e; exact Nat.lt_irrefl _ (Heap.lt_size e)) (Heap.get?_push_of_some _ e), rfl, q⟩
end
end L2

namespace L2
open PySem PySem.Spec PyProof.Rows
section
variable {X : Cx} {a b c d : Expr} {ta tb tc td : TE} {pos : Pos}
end
section
variable {prog : Program} {w : World} {A : Around} {E : Value → Shared → Prop} {s : Shared}
end
section
variable {X : Cx} {pos : Pos}
end
end L2

namespace L2
open PySem PySem.Spec PyProof.Rows
open Builtin Builtin.Str
section
variable {X : Cx}
end
section
variable {fr : List (Str × Nat)} {σ : St} {a : Addr} {H : Hp} {Q : VK} {te : TE}
end
theorem Dts.strs {K : PySem.W.Frag} {H : Hp} : ∀ (xs : List Str), Dts K H (xs.map V.str) (xs.map PyData.str)
  | [] => .nil
  | x :: r => .cons (.str x) (Dts.strs r)
noncomputable def litS : Expr → Option Str
  | .Constant (.str x) _ _ => some x
  | _ => none
noncomputable def litSs : List Expr → Option (List Str)
  | [] => some []
  | e :: es => match litS e, litSs es with | some n, some ns => some (n :: ns) | _, _ => none
noncomputable def asgStrs (x : Str) (ss : List Str) : Stmt → Bool
  | .Assign [.Name y _] (.List es _) _ => decide (y = x) && decide (litSs es = some ss)
  | _ => false
noncomputable def tStrsA (ss : List Str) : TA := fun _ H Q => Q (ss.map V.str) H
theorem pa_strs {X : Cx} : ∀ {es : List Expr} {ss : List Str}, litSs es = some ss → PA X es (tStrsA ss)
  | [], ss, h => by
    cases h
    intro pos pins s σ H Q I q
    exact pa_nil pos pins s σ H Q I q
  | e :: es, ss, h => by
    unfold litSs at h
    split at h
    · rename_i n ns e1 e2
      cases h
      have ih := pa_strs (X := X) e2
      unfold litS at e1
      split at e1
      · cases e1
        intro pos pins s σ H Q I q
        exact pa_cons pe_str ih rfl pos pins s σ H Q I q
      · cases e1
    · cases h
theorem ps_setStrs {X : Cx} {st : Stmt} {i : Nat} {x : Str} {ss : List Str} (h : asgStrs x ss st = true) (hN : X.N.Nodup) (hi : X.N[i]? = some x) (hx : X.env.scope.names.lookup x = some .local) : PS X st (tAsg (tLst (tStrsA ss)) (gName i)) := by
  unfold asgStrs at h
  split at h
  · rename_i y p es q r
    simp only [Bool.and_eq_true, decide_eq_true_eq] at h
    obtain ⟨rfl, hl⟩ := h
    exact ps_set hN hi (.inl hx) (pe_lst (pa_strs hl)) swapL (.inr hx)
  · cases h
end L2

namespace L2
open PySem PySem.Spec PyProof.Rows
noncomputable def tMethD (Fm : Addr → Prop) (m : Str) (sp : Addr → Sp) (ta : TE) : TE := fun σ H Q => ta σ H fun x H1 => ∃ a C dx fs, x = .ref a ∧ H1 a = some (.ins C dx fs) ∧ Fm C ∧ fs.lookup m = none ∧ sp C [x] H1 Q E0
structure MethD (P : Program) (w : World) (K : PySem.W.Frag) (mg : Str → Option Value) (base : Heap) (k : Nat) (m : Str) (sp : Addr → Sp) (C : Addr) : Prop where
  cl : Cls K C
  ex : ∃ f fd ps, Meth K C m f ∧ FnOk P w K mg base CX0 k f fd ps (sp C) ∧ Binds K fd ps []
section
variable {X : Cx} {o : Expr} {m : Str} {apos pos : Pos} {ta : TE} {sp : Addr → Sp} {k : Nat} {Fm : Addr → Prop}
theorem pe_methD0 {pl : Sem Bool} (he : PE X o ta) (D : ∀ C, Fm C → MethD X.prog X.w X.K X.mg X.base k m sp C) (hr : Room k X.A) (hx : Passes CX0 X E0 := by exact pass0)
    (ht : eval (.Call (.Attribute o m apos) [] [] pos) X.env = (do
      let ov ← eval o X.env
      standAt apos.atName
      let (f, first) ← holding [ov] (getMethod ov m pl)
      callWith pos f first (backTo pos (starEach [] X.env)) (backToKw pos (keywordEach [] X.env))) := by rfl) :
    PE X (.Call (.Attribute o m apos) [] [] pos) (tMethD Fm m sp ta) := by
  intro pins s σ H Q I h
  refine PySem.W.methodCall_KW (pl := pl) (thn (he pins s σ H _ I h) fun u s1 ⟨x, H1, I1, rx, a, C, dx, fs, ex, ea, hF, l, q⟩ => ?_) ht
  subst ex
  obtain rfl : u = Value.ref a := rx
  obtain ⟨c, f, fd, ps, hm, F, hb⟩ := D C hF
  refine getmeth_ok I1 ea c hm l ?_
  exact PySem.W.callWith_K0 (first := [.ref a]) I1.kIn hm.kp (run_fn (us := [.ref a]) (vs := [.ref a]) F hr hb .nil hx I1 (.cons rfl .nil) q)
theorem pe_never {e : Expr} : PE X e (fun _ _ _ => False) := fun _ _ _ _ _ _ h => h.elim
end
section
variable {X : Cx}
theorem ints_get : ∀ {ns : List Int} {its : List Value}, Vals (ns.map V.int) its → ∀ (i : Nat) (v : Value), its[i]? = some v → ∃ n t, ns[i]? = some n ∧ v = .int n t
  | [], _, .nil, i, v, e => by simp at e
  | b :: r, _, .cons h q, i, v, e => by
    cases i with
    | zero => simp at e; subst e; obtain ⟨t, ht⟩ := h; exact ⟨b, t, rfl, ht⟩
    | succ i => simpa using ints_get (ns := r) q i v (by simpa using e)
theorem call_anyI (hc : X.calm = true) : CallR X (.builtin "any") (fun xs H Q => ∃ (p : Addr) (ns : List Int), xs = [.ref p] ∧ SqT X.K H p (ns.map V.int) ∧ Q (.bl ((ns.map fun n => n != 0).any id)) H) := by
  intro pins s σ H xs us Q I r h
  obtain ⟨p, ns, rfl, hq, q⟩ := h
  obtain ⟨u, rfl, rx⟩ := vals1 r
  cases rx
  obtain ⟨its, rv, pl, hz⟩ := I.tuple hq
  have hl : s.heap.IsTuple p its.toArray := pl
  have hlt : p < s.heap.objs.size := by obtain ⟨_, e, _⟩ := hl; exact Heap.lt_size e
  have hlen : its.toArray.size = (ns.map fun n => n != 0).length := by
    have := rv.length
    simpa using this.symm
  refine call_any_walk (wpAny_pyIter_tuple hl ?_)
  refine ⟨s.heap.objs.size, [s.heap.objs.size, p], [s.heap.objs.size], its.toArray.size, _, _, fun i => ((ns.map fun n => n != 0)[i]?).getD false, rfl, Walks.tuple (A := X.A.in1) (I.ok.hd hc) _ p (Nat.ne_of_lt hlt) its.toArray,
    ⟨⟨_, Heap.get?_push_size _ rfl, rfl, rfl⟩, hl.push _⟩, fun i v s' Q' E' hP hQ => ?_, fun h' tk hk => ?_⟩
  · obtain ⟨n, tk, e, rfl⟩ := ints_get rv i v (by simpa using hP)
    have e2 : ((ns.map fun n => n != 0)[i]?).getD false = (n != 0) := by rw [List.getElem?_map, e]; rfl
    have hQ' : Q' (((ns.map fun n => n != 0)[i]?).getD false) s' := hQ
    rw [e2] at hQ'
    exact truthy_int hQ'
  · rw [hlen, range_anyB]
    refine ⟨.bl _, H, I.kept (t' := tk) fun b x e => hk b x (fun hm => by rw [List.mem_singleton.mp hm] at e; exact Nat.lt_irrefl _ (Heap.lt_size e)) (Heap.get?_push_of_some _ e), rfl, q⟩
end
end L2

namespace Cw
open PySem L2
noncomputable def top (i : Nat) : Stmt := PySem.Challenge.pw_crystalwords_k32_kinds.main.body.getD i (.Pass ⟨0, 0, 0, 0⟩)
noncomputable abbrev s_divisor : Stmt := top 7
noncomputable abbrev N_divisor : List Str := ["one", "other", "greater", "lesser", "remainder"]
noncomputable abbrev s_place : Stmt := top 9
noncomputable abbrev N_place : List Str := ["tops", "under", "common", "top"]
noncomputable abbrev s_still_rows : Stmt := top 11
noncomputable abbrev N_still_rows : List Str := ["size"]
noncomputable abbrev s_dot : Stmt := top 12
noncomputable abbrev N_dot : List Str := ["one", "other"]
noncomputable abbrev s_turned : Stmt := top 13
noncomputable abbrev N_turned : List Str := ["rows"]
noncomputable abbrev s_times : Stmt := top 14
noncomputable abbrev N_times : List Str := ["one", "other", "columns"]
noncomputable abbrev s_without : Stmt := top 15
noncomputable abbrev N_without : List Str := ["rows", "i", "k"]
noncomputable abbrev s_determinant : Stmt := top 16
noncomputable abbrev N_determinant : List Str := ["rows", "total", "sign", "k", "number"]
noncomputable abbrev s_joined : Stmt := top 23
noncomputable abbrev N_joined : List Str := ["rows", "spot"]
noncomputable abbrev s_deed : Stmt := top 24
noncomputable abbrev N_deed : List Str := ["rows", "tops", "under", "axes"]
noncomputable abbrev s_still : Stmt := top 25
noncomputable abbrev N_still : List Str := ["d"]
noncomputable abbrev s_moved : Stmt := top 26
noncomputable abbrev N_moved : List Str := ["one", "spot", "tops"]
noncomputable abbrev s_behind : Stmt := top 27
noncomputable abbrev N_behind : List Str := ["one", "other", "columns", "rows"]
noncomputable abbrev s_again : Stmt := top 29
noncomputable abbrev N_again : List Str := ["one", "times", "step", "left", "done"]
noncomputable abbrev s_span : Stmt := top 32
noncomputable abbrev N_span : List Str := ["rows", "still", "reached", "count"]
noncomputable abbrev s_signs_turned : Stmt := top 33
noncomputable abbrev N_signs_turned : List Str := ["rows"]
noncomputable abbrev s_fold_of : Stmt := top 34
noncomputable abbrev N_fold_of : List Str := ["rows"]
noncomputable abbrev s_slide_of : Stmt := top 35
noncomputable abbrev N_slide_of : List Str := ["one", "count", "far"]
noncomputable abbrev s_is_nought : Stmt := top 36
noncomputable abbrev N_is_nought : List Str := ["spot"]
noncomputable abbrev s_Kind___init__ : Stmt := inClass (top 37) 0
noncomputable abbrev N_Kind___init__ : List Str := ["self", "one"]
noncomputable abbrev s_Kind_fold : Stmt := inClass (top 37) 2
noncomputable abbrev N_Kind_fold : List Str := ["self"]
noncomputable abbrev s_Kind_order : Stmt := inClass (top 37) 3
noncomputable abbrev N_Kind_order : List Str := ["self", "drift"]
noncomputable abbrev s_Kind_slide : Stmt := inClass (top 37) 4
noncomputable abbrev N_Kind_slide : List Str := ["self"]
noncomputable abbrev s_Still_word : Stmt := inClass (top 38) 0
noncomputable abbrev N_Still_word : List Str := ["self"]
noncomputable abbrev s_Move_word : Stmt := inClass (top 39) 0
noncomputable abbrev N_Move_word : List Str := ["self"]
noncomputable abbrev s_Turn_word : Stmt := inClass (top 40) 0
noncomputable abbrev N_Turn_word : List Str := ["self"]
noncomputable abbrev s_Screw_word : Stmt := inClass (top 41) 0
noncomputable abbrev N_Screw_word : List Str := ["self"]
noncomputable abbrev s_Mirror_word : Stmt := inClass (top 42) 0
noncomputable abbrev N_Mirror_word : List Str := ["self"]
noncomputable abbrev s_Slide_word : Stmt := inClass (top 43) 0
noncomputable abbrev N_Slide_word : List Str := ["self"]
noncomputable abbrev s_Point_word : Stmt := inClass (top 44) 0
noncomputable abbrev N_Point_word : List Str := ["self"]
noncomputable abbrev s_Twist_word : Stmt := inClass (top 45) 0
noncomputable abbrev N_Twist_word : List Str := ["self"]
noncomputable abbrev s_Endless_word : Stmt := inClass (top 46) 0
noncomputable abbrev N_Endless_word : List Str := ["self"]
noncomputable abbrev s_kind_of : Stmt := top 47
noncomputable abbrev N_kind_of : List Str := ["one", "drift"]
noncomputable abbrev s_unmirrored : Stmt := top 48
noncomputable abbrev N_unmirrored : List Str := ["one", "stays"]
noncomputable abbrev s_mirrored : Stmt := top 49
noncomputable abbrev N_mirrored : List Str := ["one", "stays", "fold"]
noncomputable abbrev s_law_cell_at : Stmt := top 51
noncomputable abbrev N_law_cell_at : List Str := ["_law_script", "_law_k"]
noncomputable abbrev s_law_whole : Stmt := top 52
noncomputable abbrev N_law_whole : List Str := ["_law_found"]
noncomputable abbrev s_law_shared : Stmt := top 53
noncomputable abbrev N_law_shared : List Str := ["_law_part", "_law_number"]
noncomputable abbrev s_law_place : Stmt := top 54
noncomputable abbrev N_law_place : List Str := ["_law_tops_here", "_law_under", "_law_by", "_law_top"]
noncomputable abbrev s_law_first : Stmt := top 55
noncomputable abbrev N_law_first : List Str := ["_law_cell", "_law_plane", "_law_space", "_law_rows"]
noncomputable abbrev s_law_added : Stmt := top 56
noncomputable abbrev N_law_added : List Str := ["_law_rows", "_law_cell", "_law_d", "_law_i", "_law_j", "_law_many", "_law_made", "_law_k", "_law_row"]
noncomputable abbrev s_law_led : Stmt := top 57
noncomputable abbrev N_law_led : List Str := ["_law_rows", "_law_tops_here"]
noncomputable abbrev s_law_tops : Stmt := top 58
noncomputable abbrev N_law_tops : List Str := ["_law_rows", "_law_script", "_law_drawn", "_law_k", "_law_way", "_law_led_here", "_law_tops_here", "_law_more"]
noncomputable abbrev s_law_deed : Stmt := top 59
noncomputable abbrev N_law_deed : List Str := ["_law_script", "_law_rows", "_law_k", "_law_under", "_law_tops_here"]
noncomputable abbrev s_law_times : Stmt := top 60
noncomputable abbrev N_law_times : List Str := ["_law_one", "_law_other", "_law_made", "_law_row"]
noncomputable abbrev s_law_rests : Stmt := top 61
noncomputable abbrev N_law_rests : List Str := ["_law_rows", "_law_i", "_law_k"]
noncomputable abbrev s_law_span : Stmt := top 62
noncomputable abbrev N_law_span : List Str := ["_law_rows", "_law_power", "_law_many"]
noncomputable abbrev s_law_determinant : Stmt := top 63
noncomputable abbrev N_law_determinant : List Str := ["_law_rows", "_law_found", "_law_k", "_law_ahead", "_law_less"]
noncomputable abbrev s_law_slide : Stmt := top 64
noncomputable abbrev N_law_slide : List Str := ["_law_one", "_law_many", "_law_tops_here", "_law_k", "_law_led_here"]
noncomputable abbrev s_law_due : Stmt := top 65
noncomputable abbrev N_law_due : List Str := ["_law_one", "_law_many", "_law_slide_here", "_law_stays", "_law_fold", "_law_order", "_law_word"]
noncomputable abbrev s_law_classes : Stmt := top 66
noncomputable abbrev N_law_classes : List Str := ["_law_kind", "_law_some"]
noncomputable abbrev s_law_called : Stmt := top 67
noncomputable abbrev N_law_called : List Str := ["_law_word", "_law_one"]
noncomputable abbrev s_law_slides : Stmt := top 68
noncomputable abbrev N_law_slides : List Str := ["_law_found", "_law_due_here", "_law_top"]
noncomputable abbrev s_law_told : Stmt := top 69
noncomputable abbrev N_law_told : List Str := ["_law_kind", "_law_due_here", "_law_word", "_law_fold", "_law_order", "_law_slide_here", "_law_some"]
noncomputable abbrev s_law : Stmt := top 70
noncomputable abbrev N_law : List Str := ["_law_script", "_law_one", "_law_due_here", "_law_kind"]
theorem sc_divisor : FnScope N_divisor ["one", "other"] (defScope s_divisor) := ⟨rfl, rfl, rfl, by decide +kernel, rfl, by decide +kernel, by decide +kernel⟩
theorem sc_place : FnScope N_place ["tops", "under"] (defScope s_place) := ⟨rfl, rfl, rfl, by decide +kernel, rfl, by decide +kernel, by decide +kernel⟩
theorem sc_still_rows : FnScope N_still_rows ["size"] (defScope s_still_rows) := ⟨rfl, rfl, rfl, by decide +kernel, rfl, by decide +kernel, by decide +kernel⟩
theorem sc_dot : FnScope N_dot ["one", "other"] (defScope s_dot) := ⟨rfl, rfl, rfl, by decide +kernel, rfl, by decide +kernel, by decide +kernel⟩
theorem sc_turned : FnScope N_turned ["rows"] (defScope s_turned) := ⟨rfl, rfl, rfl, by decide +kernel, rfl, by decide +kernel, by decide +kernel⟩
theorem sc_times : FnScope N_times ["one", "other"] (defScope s_times) := ⟨rfl, rfl, rfl, by decide +kernel, rfl, by decide +kernel, by decide +kernel⟩
theorem sc_without : FnScope N_without ["rows", "i", "k"] (defScope s_without) := ⟨rfl, rfl, rfl, by decide +kernel, rfl, by decide +kernel, by decide +kernel⟩
theorem sc_determinant : FnScope N_determinant ["rows"] (defScope s_determinant) := ⟨rfl, rfl, rfl, by decide +kernel, rfl, by decide +kernel, by decide +kernel⟩
theorem sc_joined : FnScope N_joined ["rows", "spot"] (defScope s_joined) := ⟨rfl, rfl, rfl, by decide +kernel, rfl, by decide +kernel, by decide +kernel⟩
theorem sc_deed : FnScope N_deed ["rows", "tops", "under"] (defScope s_deed) := ⟨rfl, rfl, rfl, by decide +kernel, rfl, by decide +kernel, by decide +kernel⟩
theorem sc_still : FnScope N_still ["d"] (defScope s_still) := ⟨rfl, rfl, rfl, by decide +kernel, rfl, by decide +kernel, by decide +kernel⟩
theorem sc_moved : FnScope N_moved ["one", "spot"] (defScope s_moved) := ⟨rfl, rfl, rfl, by decide +kernel, rfl, by decide +kernel, by decide +kernel⟩
theorem sc_behind : FnScope N_behind ["one", "other"] (defScope s_behind) := ⟨rfl, rfl, rfl, by decide +kernel, rfl, by decide +kernel, by decide +kernel⟩
theorem sc_again : FnScope N_again ["one", "times"] (defScope s_again) := ⟨rfl, rfl, rfl, by decide +kernel, rfl, by decide +kernel, by decide +kernel⟩
theorem sc_span : FnScope N_span ["rows"] (defScope s_span) := ⟨rfl, rfl, rfl, by decide +kernel, rfl, by decide +kernel, by decide +kernel⟩
theorem sc_signs_turned : FnScope N_signs_turned ["rows"] (defScope s_signs_turned) := ⟨rfl, rfl, rfl, by decide +kernel, rfl, by decide +kernel, by decide +kernel⟩
theorem sc_fold_of : FnScope N_fold_of ["rows"] (defScope s_fold_of) := ⟨rfl, rfl, rfl, by decide +kernel, rfl, by decide +kernel, by decide +kernel⟩
theorem sc_slide_of : FnScope N_slide_of ["one"] (defScope s_slide_of) := ⟨rfl, rfl, rfl, by decide +kernel, rfl, by decide +kernel, by decide +kernel⟩
theorem sc_is_nought : FnScope N_is_nought ["spot"] (defScope s_is_nought) := ⟨rfl, rfl, rfl, by decide +kernel, rfl, by decide +kernel, by decide +kernel⟩
theorem sc_Kind___init__ : FnScope N_Kind___init__ ["self", "one"] (defScope s_Kind___init__) := ⟨rfl, rfl, rfl, by decide +kernel, rfl, by decide +kernel, by decide +kernel⟩
theorem sc_Kind_fold : FnScope N_Kind_fold ["self"] (defScope s_Kind_fold) := ⟨rfl, rfl, rfl, by decide +kernel, rfl, by decide +kernel, by decide +kernel⟩
theorem sc_Kind_order : FnScope N_Kind_order ["self"] (defScope s_Kind_order) := ⟨rfl, rfl, rfl, by decide +kernel, rfl, by decide +kernel, by decide +kernel⟩
theorem sc_Kind_slide : FnScope N_Kind_slide ["self"] (defScope s_Kind_slide) := ⟨rfl, rfl, rfl, by decide +kernel, rfl, by decide +kernel, by decide +kernel⟩
theorem sc_Still_word : FnScope N_Still_word ["self"] (defScope s_Still_word) := ⟨rfl, rfl, rfl, by decide +kernel, rfl, by decide +kernel, by decide +kernel⟩
theorem sc_Move_word : FnScope N_Move_word ["self"] (defScope s_Move_word) := ⟨rfl, rfl, rfl, by decide +kernel, rfl, by decide +kernel, by decide +kernel⟩
theorem sc_Turn_word : FnScope N_Turn_word ["self"] (defScope s_Turn_word) := ⟨rfl, rfl, rfl, by decide +kernel, rfl, by decide +kernel, by decide +kernel⟩
theorem sc_Screw_word : FnScope N_Screw_word ["self"] (defScope s_Screw_word) := ⟨rfl, rfl, rfl, by decide +kernel, rfl, by decide +kernel, by decide +kernel⟩
theorem sc_Mirror_word : FnScope N_Mirror_word ["self"] (defScope s_Mirror_word) := ⟨rfl, rfl, rfl, by decide +kernel, rfl, by decide +kernel, by decide +kernel⟩
theorem sc_Slide_word : FnScope N_Slide_word ["self"] (defScope s_Slide_word) := ⟨rfl, rfl, rfl, by decide +kernel, rfl, by decide +kernel, by decide +kernel⟩
theorem sc_Point_word : FnScope N_Point_word ["self"] (defScope s_Point_word) := ⟨rfl, rfl, rfl, by decide +kernel, rfl, by decide +kernel, by decide +kernel⟩
theorem sc_Twist_word : FnScope N_Twist_word ["self"] (defScope s_Twist_word) := ⟨rfl, rfl, rfl, by decide +kernel, rfl, by decide +kernel, by decide +kernel⟩
theorem sc_Endless_word : FnScope N_Endless_word ["self"] (defScope s_Endless_word) := ⟨rfl, rfl, rfl, by decide +kernel, rfl, by decide +kernel, by decide +kernel⟩
theorem sc_kind_of : FnScope N_kind_of ["one"] (defScope s_kind_of) := ⟨rfl, rfl, rfl, by decide +kernel, rfl, by decide +kernel, by decide +kernel⟩
theorem sc_unmirrored : FnScope N_unmirrored ["one", "stays"] (defScope s_unmirrored) := ⟨rfl, rfl, rfl, by decide +kernel, rfl, by decide +kernel, by decide +kernel⟩
theorem sc_mirrored : FnScope N_mirrored ["one", "stays"] (defScope s_mirrored) := ⟨rfl, rfl, rfl, by decide +kernel, rfl, by decide +kernel, by decide +kernel⟩
theorem sc_law_cell_at : FnScope N_law_cell_at ["_law_script", "_law_k"] (defScope s_law_cell_at) := ⟨rfl, rfl, rfl, by decide +kernel, rfl, by decide +kernel, by decide +kernel⟩
theorem sc_law_whole : FnScope N_law_whole ["_law_found"] (defScope s_law_whole) := ⟨rfl, rfl, rfl, by decide +kernel, rfl, by decide +kernel, by decide +kernel⟩
theorem sc_law_shared : FnScope N_law_shared ["_law_part", "_law_number"] (defScope s_law_shared) := ⟨rfl, rfl, rfl, by decide +kernel, rfl, by decide +kernel, by decide +kernel⟩
theorem sc_law_place : FnScope N_law_place ["_law_tops_here", "_law_under"] (defScope s_law_place) := ⟨rfl, rfl, rfl, by decide +kernel, rfl, by decide +kernel, by decide +kernel⟩
theorem sc_law_first : FnScope N_law_first ["_law_cell"] (defScope s_law_first) := ⟨rfl, rfl, rfl, by decide +kernel, rfl, by decide +kernel, by decide +kernel⟩
theorem sc_law_added : FnScope N_law_added ["_law_rows", "_law_cell"] (defScope s_law_added) := ⟨rfl, rfl, rfl, by decide +kernel, rfl, by decide +kernel, by decide +kernel⟩
theorem sc_law_led : FnScope N_law_led ["_law_rows", "_law_tops_here"] (defScope s_law_led) := ⟨rfl, rfl, rfl, by decide +kernel, rfl, by decide +kernel, by decide +kernel⟩
theorem sc_law_tops : FnScope N_law_tops ["_law_rows", "_law_script"] (defScope s_law_tops) := ⟨rfl, rfl, rfl, by decide +kernel, rfl, by decide +kernel, by decide +kernel⟩
theorem sc_law_deed : FnScope N_law_deed ["_law_script"] (defScope s_law_deed) := ⟨rfl, rfl, rfl, by decide +kernel, rfl, by decide +kernel, by decide +kernel⟩
theorem sc_law_times : FnScope N_law_times ["_law_one", "_law_other"] (defScope s_law_times) := ⟨rfl, rfl, rfl, by decide +kernel, rfl, by decide +kernel, by decide +kernel⟩
theorem sc_law_rests : FnScope N_law_rests ["_law_rows"] (defScope s_law_rests) := ⟨rfl, rfl, rfl, by decide +kernel, rfl, by decide +kernel, by decide +kernel⟩
theorem sc_law_span : FnScope N_law_span ["_law_rows"] (defScope s_law_span) := ⟨rfl, rfl, rfl, by decide +kernel, rfl, by decide +kernel, by decide +kernel⟩
theorem sc_law_determinant : FnScope N_law_determinant ["_law_rows"] (defScope s_law_determinant) := ⟨rfl, rfl, rfl, by decide +kernel, rfl, by decide +kernel, by decide +kernel⟩
theorem sc_law_slide : FnScope N_law_slide ["_law_one", "_law_many"] (defScope s_law_slide) := ⟨rfl, rfl, rfl, by decide +kernel, rfl, by decide +kernel, by decide +kernel⟩
theorem sc_law_due : FnScope N_law_due ["_law_one"] (defScope s_law_due) := ⟨rfl, rfl, rfl, by decide +kernel, rfl, by decide +kernel, by decide +kernel⟩
theorem sc_law_classes : FnScope N_law_classes ["_law_kind"] (defScope s_law_classes) := ⟨rfl, rfl, rfl, by decide +kernel, rfl, by decide +kernel, by decide +kernel⟩
theorem sc_law_called : FnScope N_law_called ["_law_word", "_law_one"] (defScope s_law_called) := ⟨rfl, rfl, rfl, by decide +kernel, rfl, by decide +kernel, by decide +kernel⟩
theorem sc_law_slides : FnScope N_law_slides ["_law_found", "_law_due_here"] (defScope s_law_slides) := ⟨rfl, rfl, rfl, by decide +kernel, rfl, by decide +kernel, by decide +kernel⟩
theorem sc_law_told : FnScope N_law_told ["_law_kind", "_law_due_here"] (defScope s_law_told) := ⟨rfl, rfl, rfl, by decide +kernel, rfl, by decide +kernel, by decide +kernel⟩
theorem sc_law : FnScope N_law ["_law_script"] (defScope s_law) := ⟨rfl, rfl, rfl, by decide +kernel, rfl, by decide +kernel, by decide +kernel⟩
structure Adr where
  a_divisor : Addr
  d_divisor : FuncData
  a_place : Addr
  d_place : FuncData
  a_still_rows : Addr
  d_still_rows : FuncData
  a_dot : Addr
  d_dot : FuncData
  a_turned : Addr
  d_turned : FuncData
  a_times : Addr
  d_times : FuncData
  a_without : Addr
  d_without : FuncData
  a_determinant : Addr
  d_determinant : FuncData
  a_joined : Addr
  d_joined : FuncData
  a_deed : Addr
  d_deed : FuncData
  a_still : Addr
  d_still : FuncData
  a_moved : Addr
  d_moved : FuncData
  a_behind : Addr
  d_behind : FuncData
  a_again : Addr
  d_again : FuncData
  a_span : Addr
  d_span : FuncData
  a_signs_turned : Addr
  d_signs_turned : FuncData
  a_fold_of : Addr
  d_fold_of : FuncData
  a_slide_of : Addr
  d_slide_of : FuncData
  a_is_nought : Addr
  d_is_nought : FuncData
  a_Kind___init__ : Addr
  d_Kind___init__ : FuncData
  a_Kind_fold : Addr
  d_Kind_fold : FuncData
  a_Kind_order : Addr
  d_Kind_order : FuncData
  a_Kind_slide : Addr
  d_Kind_slide : FuncData
  a_Still_word : Addr
  d_Still_word : FuncData
  a_Move_word : Addr
  d_Move_word : FuncData
  a_Turn_word : Addr
  d_Turn_word : FuncData
  a_Screw_word : Addr
  d_Screw_word : FuncData
  a_Mirror_word : Addr
  d_Mirror_word : FuncData
  a_Slide_word : Addr
  d_Slide_word : FuncData
  a_Point_word : Addr
  d_Point_word : FuncData
  a_Twist_word : Addr
  d_Twist_word : FuncData
  a_Endless_word : Addr
  d_Endless_word : FuncData
  a_kind_of : Addr
  d_kind_of : FuncData
  a_unmirrored : Addr
  d_unmirrored : FuncData
  a_mirrored : Addr
  d_mirrored : FuncData
  a_law_cell_at : Addr
  d_law_cell_at : FuncData
  a_law_whole : Addr
  d_law_whole : FuncData
  a_law_shared : Addr
  d_law_shared : FuncData
  a_law_place : Addr
  d_law_place : FuncData
  a_law_first : Addr
  d_law_first : FuncData
  a_law_added : Addr
  d_law_added : FuncData
  a_law_led : Addr
  d_law_led : FuncData
  a_law_tops : Addr
  d_law_tops : FuncData
  a_law_deed : Addr
  d_law_deed : FuncData
  a_law_times : Addr
  d_law_times : FuncData
  a_law_rests : Addr
  d_law_rests : FuncData
  a_law_span : Addr
  d_law_span : FuncData
  a_law_determinant : Addr
  d_law_determinant : FuncData
  a_law_slide : Addr
  d_law_slide : FuncData
  a_law_due : Addr
  d_law_due : FuncData
  a_law_classes : Addr
  d_law_classes : FuncData
  a_law_called : Addr
  d_law_called : FuncData
  a_law_slides : Addr
  d_law_slides : FuncData
  a_law_told : Addr
  d_law_told : FuncData
  a_law : Addr
  d_law : FuncData
  a_CrystalError : Addr
  a_NoPlace : Addr
  a_NoDeed : Addr
  a_NoNumber : Addr
  a_Kind : Addr
  a_Still : Addr
  a_Move : Addr
  a_Turn : Addr
  a_Screw : Addr
  a_Mirror : Addr
  a_Slide : Addr
  a_Point : Addr
  a_Twist : Addr
  a_Endless : Addr
structure Txt (K : PySem.W.Frag) (mg : Str → Option Value) (t : Adr) : Prop where
  F_divisor : Fun K "divisor" "divisor" s_divisor t.a_divisor t.d_divisor
  m_divisor : mg "divisor" = some (.ref t.a_divisor)
  b_divisor : Binds K t.d_divisor ["one", "other"] []
  F_place : Fun K "place" "place" s_place t.a_place t.d_place
  m_place : mg "place" = some (.ref t.a_place)
  b_place : Binds K t.d_place ["tops", "under"] []
  F_still_rows : Fun K "still_rows" "still_rows" s_still_rows t.a_still_rows t.d_still_rows
  m_still_rows : mg "still_rows" = some (.ref t.a_still_rows)
  b_still_rows : Binds K t.d_still_rows ["size"] []
  F_dot : Fun K "dot" "dot" s_dot t.a_dot t.d_dot
  m_dot : mg "dot" = some (.ref t.a_dot)
  b_dot : Binds K t.d_dot ["one", "other"] []
  F_turned : Fun K "turned" "turned" s_turned t.a_turned t.d_turned
  m_turned : mg "turned" = some (.ref t.a_turned)
  b_turned : Binds K t.d_turned ["rows"] []
  F_times : Fun K "times" "times" s_times t.a_times t.d_times
  m_times : mg "times" = some (.ref t.a_times)
  b_times : Binds K t.d_times ["one", "other"] []
  F_without : Fun K "without" "without" s_without t.a_without t.d_without
  m_without : mg "without" = some (.ref t.a_without)
  b_without : Binds K t.d_without ["rows", "i", "k"] []
  F_determinant : Fun K "determinant" "determinant" s_determinant t.a_determinant t.d_determinant
  m_determinant : mg "determinant" = some (.ref t.a_determinant)
  b_determinant : Binds K t.d_determinant ["rows"] []
  F_joined : Fun K "joined" "joined" s_joined t.a_joined t.d_joined
  m_joined : mg "joined" = some (.ref t.a_joined)
  b_joined : Binds K t.d_joined ["rows", "spot"] []
  F_deed : Fun K "deed" "deed" s_deed t.a_deed t.d_deed
  m_deed : mg "deed" = some (.ref t.a_deed)
  b_deed : Binds K t.d_deed ["rows", "tops", "under"] []
  F_still : Fun K "still" "still" s_still t.a_still t.d_still
  m_still : mg "still" = some (.ref t.a_still)
  b_still : Binds K t.d_still ["d"] []
  F_moved : Fun K "moved" "moved" s_moved t.a_moved t.d_moved
  m_moved : mg "moved" = some (.ref t.a_moved)
  b_moved : Binds K t.d_moved ["one", "spot"] []
  F_behind : Fun K "behind" "behind" s_behind t.a_behind t.d_behind
  m_behind : mg "behind" = some (.ref t.a_behind)
  b_behind : Binds K t.d_behind ["one", "other"] []
  F_again : Fun K "again" "again" s_again t.a_again t.d_again
  m_again : mg "again" = some (.ref t.a_again)
  b_again : Binds K t.d_again ["one", "times"] []
  F_span : Fun K "span" "span" s_span t.a_span t.d_span
  m_span : mg "span" = some (.ref t.a_span)
  b_span : Binds K t.d_span ["rows"] []
  F_signs_turned : Fun K "signs_turned" "signs_turned" s_signs_turned t.a_signs_turned t.d_signs_turned
  m_signs_turned : mg "signs_turned" = some (.ref t.a_signs_turned)
  b_signs_turned : Binds K t.d_signs_turned ["rows"] []
  F_fold_of : Fun K "fold_of" "fold_of" s_fold_of t.a_fold_of t.d_fold_of
  m_fold_of : mg "fold_of" = some (.ref t.a_fold_of)
  b_fold_of : Binds K t.d_fold_of ["rows"] []
  F_slide_of : Fun K "slide_of" "slide_of" s_slide_of t.a_slide_of t.d_slide_of
  m_slide_of : mg "slide_of" = some (.ref t.a_slide_of)
  b_slide_of : Binds K t.d_slide_of ["one"] []
  F_is_nought : Fun K "is_nought" "is_nought" s_is_nought t.a_is_nought t.d_is_nought
  m_is_nought : mg "is_nought" = some (.ref t.a_is_nought)
  b_is_nought : Binds K t.d_is_nought ["spot"] []
  F_Kind___init__ : Fun K "__init__" "Kind.__init__" s_Kind___init__ t.a_Kind___init__ t.d_Kind___init__
  b_Kind___init__ : Binds K t.d_Kind___init__ ["self", "one"] []
  F_Kind_fold : Fun K "fold" "Kind.fold" s_Kind_fold t.a_Kind_fold t.d_Kind_fold
  b_Kind_fold : Binds K t.d_Kind_fold ["self"] []
  F_Kind_order : Fun K "order" "Kind.order" s_Kind_order t.a_Kind_order t.d_Kind_order
  b_Kind_order : Binds K t.d_Kind_order ["self"] []
  F_Kind_slide : Fun K "slide" "Kind.slide" s_Kind_slide t.a_Kind_slide t.d_Kind_slide
  b_Kind_slide : Binds K t.d_Kind_slide ["self"] []
  F_Still_word : Fun K "word" "Still.word" s_Still_word t.a_Still_word t.d_Still_word
  b_Still_word : Binds K t.d_Still_word ["self"] []
  F_Move_word : Fun K "word" "Move.word" s_Move_word t.a_Move_word t.d_Move_word
  b_Move_word : Binds K t.d_Move_word ["self"] []
  F_Turn_word : Fun K "word" "Turn.word" s_Turn_word t.a_Turn_word t.d_Turn_word
  b_Turn_word : Binds K t.d_Turn_word ["self"] []
  F_Screw_word : Fun K "word" "Screw.word" s_Screw_word t.a_Screw_word t.d_Screw_word
  b_Screw_word : Binds K t.d_Screw_word ["self"] []
  F_Mirror_word : Fun K "word" "Mirror.word" s_Mirror_word t.a_Mirror_word t.d_Mirror_word
  b_Mirror_word : Binds K t.d_Mirror_word ["self"] []
  F_Slide_word : Fun K "word" "Slide.word" s_Slide_word t.a_Slide_word t.d_Slide_word
  b_Slide_word : Binds K t.d_Slide_word ["self"] []
  F_Point_word : Fun K "word" "Point.word" s_Point_word t.a_Point_word t.d_Point_word
  b_Point_word : Binds K t.d_Point_word ["self"] []
  F_Twist_word : Fun K "word" "Twist.word" s_Twist_word t.a_Twist_word t.d_Twist_word
  b_Twist_word : Binds K t.d_Twist_word ["self"] []
  F_Endless_word : Fun K "word" "Endless.word" s_Endless_word t.a_Endless_word t.d_Endless_word
  b_Endless_word : Binds K t.d_Endless_word ["self"] []
  F_kind_of : Fun K "kind_of" "kind_of" s_kind_of t.a_kind_of t.d_kind_of
  m_kind_of : mg "kind_of" = some (.ref t.a_kind_of)
  b_kind_of : Binds K t.d_kind_of ["one"] []
  F_unmirrored : Fun K "unmirrored" "unmirrored" s_unmirrored t.a_unmirrored t.d_unmirrored
  m_unmirrored : mg "unmirrored" = some (.ref t.a_unmirrored)
  b_unmirrored : Binds K t.d_unmirrored ["one", "stays"] []
  F_mirrored : Fun K "mirrored" "mirrored" s_mirrored t.a_mirrored t.d_mirrored
  m_mirrored : mg "mirrored" = some (.ref t.a_mirrored)
  b_mirrored : Binds K t.d_mirrored ["one", "stays"] []
  F_law_cell_at : Fun K "_law_cell_at" "_law_cell_at" s_law_cell_at t.a_law_cell_at t.d_law_cell_at
  m_law_cell_at : mg "_law_cell_at" = some (.ref t.a_law_cell_at)
  b_law_cell_at : Binds K t.d_law_cell_at ["_law_script", "_law_k"] []
  F_law_whole : Fun K "_law_whole" "_law_whole" s_law_whole t.a_law_whole t.d_law_whole
  m_law_whole : mg "_law_whole" = some (.ref t.a_law_whole)
  b_law_whole : Binds K t.d_law_whole ["_law_found"] []
  F_law_shared : Fun K "_law_shared" "_law_shared" s_law_shared t.a_law_shared t.d_law_shared
  m_law_shared : mg "_law_shared" = some (.ref t.a_law_shared)
  b_law_shared : Binds K t.d_law_shared ["_law_part", "_law_number"] []
  F_law_place : Fun K "_law_place" "_law_place" s_law_place t.a_law_place t.d_law_place
  m_law_place : mg "_law_place" = some (.ref t.a_law_place)
  b_law_place : Binds K t.d_law_place ["_law_tops_here", "_law_under"] []
  F_law_first : Fun K "_law_first" "_law_first" s_law_first t.a_law_first t.d_law_first
  m_law_first : mg "_law_first" = some (.ref t.a_law_first)
  b_law_first : Binds K t.d_law_first ["_law_cell"] []
  F_law_added : Fun K "_law_added" "_law_added" s_law_added t.a_law_added t.d_law_added
  m_law_added : mg "_law_added" = some (.ref t.a_law_added)
  b_law_added : Binds K t.d_law_added ["_law_rows", "_law_cell"] []
  F_law_led : Fun K "_law_led" "_law_led" s_law_led t.a_law_led t.d_law_led
  m_law_led : mg "_law_led" = some (.ref t.a_law_led)
  b_law_led : Binds K t.d_law_led ["_law_rows", "_law_tops_here"] []
  F_law_tops : Fun K "_law_tops" "_law_tops" s_law_tops t.a_law_tops t.d_law_tops
  m_law_tops : mg "_law_tops" = some (.ref t.a_law_tops)
  b_law_tops : Binds K t.d_law_tops ["_law_rows", "_law_script"] []
  F_law_deed : Fun K "_law_deed" "_law_deed" s_law_deed t.a_law_deed t.d_law_deed
  m_law_deed : mg "_law_deed" = some (.ref t.a_law_deed)
  b_law_deed : Binds K t.d_law_deed ["_law_script"] []
  F_law_times : Fun K "_law_times" "_law_times" s_law_times t.a_law_times t.d_law_times
  m_law_times : mg "_law_times" = some (.ref t.a_law_times)
  b_law_times : Binds K t.d_law_times ["_law_one", "_law_other"] []
  F_law_rests : Fun K "_law_rests" "_law_rests" s_law_rests t.a_law_rests t.d_law_rests
  m_law_rests : mg "_law_rests" = some (.ref t.a_law_rests)
  b_law_rests : Binds K t.d_law_rests ["_law_rows"] []
  F_law_span : Fun K "_law_span" "_law_span" s_law_span t.a_law_span t.d_law_span
  m_law_span : mg "_law_span" = some (.ref t.a_law_span)
  b_law_span : Binds K t.d_law_span ["_law_rows"] []
  F_law_determinant : Fun K "_law_determinant" "_law_determinant" s_law_determinant t.a_law_determinant t.d_law_determinant
  m_law_determinant : mg "_law_determinant" = some (.ref t.a_law_determinant)
  b_law_determinant : Binds K t.d_law_determinant ["_law_rows"] []
  F_law_slide : Fun K "_law_slide" "_law_slide" s_law_slide t.a_law_slide t.d_law_slide
  m_law_slide : mg "_law_slide" = some (.ref t.a_law_slide)
  b_law_slide : Binds K t.d_law_slide ["_law_one", "_law_many"] []
  F_law_due : Fun K "_law_due" "_law_due" s_law_due t.a_law_due t.d_law_due
  m_law_due : mg "_law_due" = some (.ref t.a_law_due)
  b_law_due : Binds K t.d_law_due ["_law_one"] []
  F_law_classes : Fun K "_law_classes" "_law_classes" s_law_classes t.a_law_classes t.d_law_classes
  m_law_classes : mg "_law_classes" = some (.ref t.a_law_classes)
  b_law_classes : Binds K t.d_law_classes ["_law_kind"] []
  F_law_called : Fun K "_law_called" "_law_called" s_law_called t.a_law_called t.d_law_called
  m_law_called : mg "_law_called" = some (.ref t.a_law_called)
  b_law_called : Binds K t.d_law_called ["_law_word", "_law_one"] []
  F_law_slides : Fun K "_law_slides" "_law_slides" s_law_slides t.a_law_slides t.d_law_slides
  m_law_slides : mg "_law_slides" = some (.ref t.a_law_slides)
  b_law_slides : Binds K t.d_law_slides ["_law_found", "_law_due_here"] []
  F_law_told : Fun K "_law_told" "_law_told" s_law_told t.a_law_told t.d_law_told
  m_law_told : mg "_law_told" = some (.ref t.a_law_told)
  b_law_told : Binds K t.d_law_told ["_law_kind", "_law_due_here"] []
  F_law : Fun K "law" "law" s_law t.a_law t.d_law
  m_law : mg "law" = some (.ref t.a_law)
  b_law : Binds K t.d_law ["_law_script"] []
  z_any : mg "any" = none
  z_sum : mg "sum" = none
  z_zip : mg "zip" = none
  z_enumerate : mg "enumerate" = none
  z_range : mg "range" = none
  z_len : mg "len" = none
  z_abs : mg "abs" = none
  z_isinstance : mg "isinstance" = none
  z_int : mg "int" = none
  z_bool : mg "bool" = none
  z_list : mg "list" = none
  z_tuple : mg "tuple" = none
  z_str : mg "str" = none
  m_CrystalError : mg "CrystalError" = some (.ref t.a_CrystalError)
  m_NoPlace : mg "NoPlace" = some (.ref t.a_NoPlace)
  m_NoDeed : mg "NoDeed" = some (.ref t.a_NoDeed)
  m_NoNumber : mg "NoNumber" = some (.ref t.a_NoNumber)
  m_Kind : mg "Kind" = some (.ref t.a_Kind)
  m_Still : mg "Still" = some (.ref t.a_Still)
  m_Move : mg "Move" = some (.ref t.a_Move)
  m_Turn : mg "Turn" = some (.ref t.a_Turn)
  m_Screw : mg "Screw" = some (.ref t.a_Screw)
  m_Mirror : mg "Mirror" = some (.ref t.a_Mirror)
  m_Slide : mg "Slide" = some (.ref t.a_Slide)
  m_Point : mg "Point" = some (.ref t.a_Point)
  m_Twist : mg "Twist" = some (.ref t.a_Twist)
  m_Endless : mg "Endless" = some (.ref t.a_Endless)
  g_MOST_TIMES : ∃ u, mg "MOST_TIMES" = some u ∧ RelV (.int 200) u
  g_LONGEST_SPAN : ∃ u, mg "LONGEST_SPAN" = some u ∧ RelV (.int 6) u
  k_int : PySem.W.kitOne K (.type "int") (.type "int") = some true
  k_ib : PySem.W.kitOne K (.type "int") (.type "bool") = some false
  k_tt : PySem.W.kitOne K (.type "tuple") (.type "tuple") = some true
  k_ss : PySem.W.kitOne K (.type "str") (.type "str") = some true
  x_NoPlace : PySem.W.excIn K t.a_NoPlace [.type "ValueError", .type "Exception", .type "BaseException", .type "object"] "ValueError.__new__" = true
  x_NoDeed : PySem.W.excIn K t.a_NoDeed [.type "ValueError", .type "Exception", .type "BaseException", .type "object"] "ValueError.__new__" = true
  x_NoNumber : PySem.W.excIn K t.a_NoNumber [.type "ValueError", .type "Exception", .type "BaseException", .type "object"] "ValueError.__new__" = true
  e_cg : PySem.W.specialIn K (.builtin "object.__class__") "__get__" = some (some (.builtin "getset_descriptor.__get__"))
  e_tk : PySem.W.takesIn K (.builtin "object.__class__") = some true
  cl_Still : L2.Cls K t.a_Still
  mk_Still : L2.Mk K t.a_Still t.a_Kind___init__
  no_Still : PySem.W.findIn K (.ref t.a_Still) "one" = some none
  me_Still_word : L2.Meth K t.a_Still "word" t.a_Still_word
  me_Still_fold : L2.Meth K t.a_Still "fold" t.a_Kind_fold
  me_Still_order : L2.Meth K t.a_Still "order" t.a_Kind_order
  me_Still_slide : L2.Meth K t.a_Still "slide" t.a_Kind_slide
  ca_Still : PySem.W.findIn K (.ref t.a_Still) "__class__" = some (some (.builtin "object.__class__"))
  ob_Still : PySem.W.mroIn K t.a_Still (.type "object") = some true
  i_Still_Kind : PySem.W.kitOne K (.ref t.a_Still) (.ref t.a_Kind) = some true
  i_Still_Still : PySem.W.kitOne K (.ref t.a_Still) (.ref t.a_Still) = some true
  i_Still_Move : PySem.W.kitOne K (.ref t.a_Still) (.ref t.a_Move) = some false
  i_Still_Turn : PySem.W.kitOne K (.ref t.a_Still) (.ref t.a_Turn) = some false
  i_Still_Screw : PySem.W.kitOne K (.ref t.a_Still) (.ref t.a_Screw) = some false
  i_Still_Mirror : PySem.W.kitOne K (.ref t.a_Still) (.ref t.a_Mirror) = some false
  i_Still_Slide : PySem.W.kitOne K (.ref t.a_Still) (.ref t.a_Slide) = some false
  i_Still_Point : PySem.W.kitOne K (.ref t.a_Still) (.ref t.a_Point) = some false
  i_Still_Twist : PySem.W.kitOne K (.ref t.a_Still) (.ref t.a_Twist) = some false
  i_Still_Endless : PySem.W.kitOne K (.ref t.a_Still) (.ref t.a_Endless) = some false
  cl_Move : L2.Cls K t.a_Move
  mk_Move : L2.Mk K t.a_Move t.a_Kind___init__
  no_Move : PySem.W.findIn K (.ref t.a_Move) "one" = some none
  me_Move_word : L2.Meth K t.a_Move "word" t.a_Move_word
  me_Move_fold : L2.Meth K t.a_Move "fold" t.a_Kind_fold
  me_Move_order : L2.Meth K t.a_Move "order" t.a_Kind_order
  me_Move_slide : L2.Meth K t.a_Move "slide" t.a_Kind_slide
  ca_Move : PySem.W.findIn K (.ref t.a_Move) "__class__" = some (some (.builtin "object.__class__"))
  ob_Move : PySem.W.mroIn K t.a_Move (.type "object") = some true
  i_Move_Kind : PySem.W.kitOne K (.ref t.a_Move) (.ref t.a_Kind) = some true
  i_Move_Still : PySem.W.kitOne K (.ref t.a_Move) (.ref t.a_Still) = some false
  i_Move_Move : PySem.W.kitOne K (.ref t.a_Move) (.ref t.a_Move) = some true
  i_Move_Turn : PySem.W.kitOne K (.ref t.a_Move) (.ref t.a_Turn) = some false
  i_Move_Screw : PySem.W.kitOne K (.ref t.a_Move) (.ref t.a_Screw) = some false
  i_Move_Mirror : PySem.W.kitOne K (.ref t.a_Move) (.ref t.a_Mirror) = some false
  i_Move_Slide : PySem.W.kitOne K (.ref t.a_Move) (.ref t.a_Slide) = some false
  i_Move_Point : PySem.W.kitOne K (.ref t.a_Move) (.ref t.a_Point) = some false
  i_Move_Twist : PySem.W.kitOne K (.ref t.a_Move) (.ref t.a_Twist) = some false
  i_Move_Endless : PySem.W.kitOne K (.ref t.a_Move) (.ref t.a_Endless) = some false
  cl_Turn : L2.Cls K t.a_Turn
  mk_Turn : L2.Mk K t.a_Turn t.a_Kind___init__
  no_Turn : PySem.W.findIn K (.ref t.a_Turn) "one" = some none
  me_Turn_word : L2.Meth K t.a_Turn "word" t.a_Turn_word
  me_Turn_fold : L2.Meth K t.a_Turn "fold" t.a_Kind_fold
  me_Turn_order : L2.Meth K t.a_Turn "order" t.a_Kind_order
  me_Turn_slide : L2.Meth K t.a_Turn "slide" t.a_Kind_slide
  ca_Turn : PySem.W.findIn K (.ref t.a_Turn) "__class__" = some (some (.builtin "object.__class__"))
  ob_Turn : PySem.W.mroIn K t.a_Turn (.type "object") = some true
  i_Turn_Kind : PySem.W.kitOne K (.ref t.a_Turn) (.ref t.a_Kind) = some true
  i_Turn_Still : PySem.W.kitOne K (.ref t.a_Turn) (.ref t.a_Still) = some false
  i_Turn_Move : PySem.W.kitOne K (.ref t.a_Turn) (.ref t.a_Move) = some false
  i_Turn_Turn : PySem.W.kitOne K (.ref t.a_Turn) (.ref t.a_Turn) = some true
  i_Turn_Screw : PySem.W.kitOne K (.ref t.a_Turn) (.ref t.a_Screw) = some false
  i_Turn_Mirror : PySem.W.kitOne K (.ref t.a_Turn) (.ref t.a_Mirror) = some false
  i_Turn_Slide : PySem.W.kitOne K (.ref t.a_Turn) (.ref t.a_Slide) = some false
  i_Turn_Point : PySem.W.kitOne K (.ref t.a_Turn) (.ref t.a_Point) = some false
  i_Turn_Twist : PySem.W.kitOne K (.ref t.a_Turn) (.ref t.a_Twist) = some false
  i_Turn_Endless : PySem.W.kitOne K (.ref t.a_Turn) (.ref t.a_Endless) = some false
  cl_Screw : L2.Cls K t.a_Screw
  mk_Screw : L2.Mk K t.a_Screw t.a_Kind___init__
  no_Screw : PySem.W.findIn K (.ref t.a_Screw) "one" = some none
  me_Screw_word : L2.Meth K t.a_Screw "word" t.a_Screw_word
  me_Screw_fold : L2.Meth K t.a_Screw "fold" t.a_Kind_fold
  me_Screw_order : L2.Meth K t.a_Screw "order" t.a_Kind_order
  me_Screw_slide : L2.Meth K t.a_Screw "slide" t.a_Kind_slide
  ca_Screw : PySem.W.findIn K (.ref t.a_Screw) "__class__" = some (some (.builtin "object.__class__"))
  ob_Screw : PySem.W.mroIn K t.a_Screw (.type "object") = some true
  i_Screw_Kind : PySem.W.kitOne K (.ref t.a_Screw) (.ref t.a_Kind) = some true
  i_Screw_Still : PySem.W.kitOne K (.ref t.a_Screw) (.ref t.a_Still) = some false
  i_Screw_Move : PySem.W.kitOne K (.ref t.a_Screw) (.ref t.a_Move) = some false
  i_Screw_Turn : PySem.W.kitOne K (.ref t.a_Screw) (.ref t.a_Turn) = some false
  i_Screw_Screw : PySem.W.kitOne K (.ref t.a_Screw) (.ref t.a_Screw) = some true
  i_Screw_Mirror : PySem.W.kitOne K (.ref t.a_Screw) (.ref t.a_Mirror) = some false
  i_Screw_Slide : PySem.W.kitOne K (.ref t.a_Screw) (.ref t.a_Slide) = some false
  i_Screw_Point : PySem.W.kitOne K (.ref t.a_Screw) (.ref t.a_Point) = some false
  i_Screw_Twist : PySem.W.kitOne K (.ref t.a_Screw) (.ref t.a_Twist) = some false
  i_Screw_Endless : PySem.W.kitOne K (.ref t.a_Screw) (.ref t.a_Endless) = some false
  cl_Mirror : L2.Cls K t.a_Mirror
  mk_Mirror : L2.Mk K t.a_Mirror t.a_Kind___init__
  no_Mirror : PySem.W.findIn K (.ref t.a_Mirror) "one" = some none
  me_Mirror_word : L2.Meth K t.a_Mirror "word" t.a_Mirror_word
  me_Mirror_fold : L2.Meth K t.a_Mirror "fold" t.a_Kind_fold
  me_Mirror_order : L2.Meth K t.a_Mirror "order" t.a_Kind_order
  me_Mirror_slide : L2.Meth K t.a_Mirror "slide" t.a_Kind_slide
  ca_Mirror : PySem.W.findIn K (.ref t.a_Mirror) "__class__" = some (some (.builtin "object.__class__"))
  ob_Mirror : PySem.W.mroIn K t.a_Mirror (.type "object") = some true
  i_Mirror_Kind : PySem.W.kitOne K (.ref t.a_Mirror) (.ref t.a_Kind) = some true
  i_Mirror_Still : PySem.W.kitOne K (.ref t.a_Mirror) (.ref t.a_Still) = some false
  i_Mirror_Move : PySem.W.kitOne K (.ref t.a_Mirror) (.ref t.a_Move) = some false
  i_Mirror_Turn : PySem.W.kitOne K (.ref t.a_Mirror) (.ref t.a_Turn) = some false
  i_Mirror_Screw : PySem.W.kitOne K (.ref t.a_Mirror) (.ref t.a_Screw) = some false
  i_Mirror_Mirror : PySem.W.kitOne K (.ref t.a_Mirror) (.ref t.a_Mirror) = some true
  i_Mirror_Slide : PySem.W.kitOne K (.ref t.a_Mirror) (.ref t.a_Slide) = some false
  i_Mirror_Point : PySem.W.kitOne K (.ref t.a_Mirror) (.ref t.a_Point) = some false
  i_Mirror_Twist : PySem.W.kitOne K (.ref t.a_Mirror) (.ref t.a_Twist) = some false
  i_Mirror_Endless : PySem.W.kitOne K (.ref t.a_Mirror) (.ref t.a_Endless) = some false
  cl_Slide : L2.Cls K t.a_Slide
  mk_Slide : L2.Mk K t.a_Slide t.a_Kind___init__
  no_Slide : PySem.W.findIn K (.ref t.a_Slide) "one" = some none
  me_Slide_word : L2.Meth K t.a_Slide "word" t.a_Slide_word
  me_Slide_fold : L2.Meth K t.a_Slide "fold" t.a_Kind_fold
  me_Slide_order : L2.Meth K t.a_Slide "order" t.a_Kind_order
  me_Slide_slide : L2.Meth K t.a_Slide "slide" t.a_Kind_slide
  ca_Slide : PySem.W.findIn K (.ref t.a_Slide) "__class__" = some (some (.builtin "object.__class__"))
  ob_Slide : PySem.W.mroIn K t.a_Slide (.type "object") = some true
  i_Slide_Kind : PySem.W.kitOne K (.ref t.a_Slide) (.ref t.a_Kind) = some true
  i_Slide_Still : PySem.W.kitOne K (.ref t.a_Slide) (.ref t.a_Still) = some false
  i_Slide_Move : PySem.W.kitOne K (.ref t.a_Slide) (.ref t.a_Move) = some false
  i_Slide_Turn : PySem.W.kitOne K (.ref t.a_Slide) (.ref t.a_Turn) = some false
  i_Slide_Screw : PySem.W.kitOne K (.ref t.a_Slide) (.ref t.a_Screw) = some false
  i_Slide_Mirror : PySem.W.kitOne K (.ref t.a_Slide) (.ref t.a_Mirror) = some false
  i_Slide_Slide : PySem.W.kitOne K (.ref t.a_Slide) (.ref t.a_Slide) = some true
  i_Slide_Point : PySem.W.kitOne K (.ref t.a_Slide) (.ref t.a_Point) = some false
  i_Slide_Twist : PySem.W.kitOne K (.ref t.a_Slide) (.ref t.a_Twist) = some false
  i_Slide_Endless : PySem.W.kitOne K (.ref t.a_Slide) (.ref t.a_Endless) = some false
  cl_Point : L2.Cls K t.a_Point
  mk_Point : L2.Mk K t.a_Point t.a_Kind___init__
  no_Point : PySem.W.findIn K (.ref t.a_Point) "one" = some none
  me_Point_word : L2.Meth K t.a_Point "word" t.a_Point_word
  me_Point_fold : L2.Meth K t.a_Point "fold" t.a_Kind_fold
  me_Point_order : L2.Meth K t.a_Point "order" t.a_Kind_order
  me_Point_slide : L2.Meth K t.a_Point "slide" t.a_Kind_slide
  ca_Point : PySem.W.findIn K (.ref t.a_Point) "__class__" = some (some (.builtin "object.__class__"))
  ob_Point : PySem.W.mroIn K t.a_Point (.type "object") = some true
  i_Point_Kind : PySem.W.kitOne K (.ref t.a_Point) (.ref t.a_Kind) = some true
  i_Point_Still : PySem.W.kitOne K (.ref t.a_Point) (.ref t.a_Still) = some false
  i_Point_Move : PySem.W.kitOne K (.ref t.a_Point) (.ref t.a_Move) = some false
  i_Point_Turn : PySem.W.kitOne K (.ref t.a_Point) (.ref t.a_Turn) = some false
  i_Point_Screw : PySem.W.kitOne K (.ref t.a_Point) (.ref t.a_Screw) = some false
  i_Point_Mirror : PySem.W.kitOne K (.ref t.a_Point) (.ref t.a_Mirror) = some false
  i_Point_Slide : PySem.W.kitOne K (.ref t.a_Point) (.ref t.a_Slide) = some false
  i_Point_Point : PySem.W.kitOne K (.ref t.a_Point) (.ref t.a_Point) = some true
  i_Point_Twist : PySem.W.kitOne K (.ref t.a_Point) (.ref t.a_Twist) = some false
  i_Point_Endless : PySem.W.kitOne K (.ref t.a_Point) (.ref t.a_Endless) = some false
  cl_Twist : L2.Cls K t.a_Twist
  mk_Twist : L2.Mk K t.a_Twist t.a_Kind___init__
  no_Twist : PySem.W.findIn K (.ref t.a_Twist) "one" = some none
  me_Twist_word : L2.Meth K t.a_Twist "word" t.a_Twist_word
  me_Twist_fold : L2.Meth K t.a_Twist "fold" t.a_Kind_fold
  me_Twist_order : L2.Meth K t.a_Twist "order" t.a_Kind_order
  me_Twist_slide : L2.Meth K t.a_Twist "slide" t.a_Kind_slide
  ca_Twist : PySem.W.findIn K (.ref t.a_Twist) "__class__" = some (some (.builtin "object.__class__"))
  ob_Twist : PySem.W.mroIn K t.a_Twist (.type "object") = some true
  i_Twist_Kind : PySem.W.kitOne K (.ref t.a_Twist) (.ref t.a_Kind) = some true
  i_Twist_Still : PySem.W.kitOne K (.ref t.a_Twist) (.ref t.a_Still) = some false
  i_Twist_Move : PySem.W.kitOne K (.ref t.a_Twist) (.ref t.a_Move) = some false
  i_Twist_Turn : PySem.W.kitOne K (.ref t.a_Twist) (.ref t.a_Turn) = some false
  i_Twist_Screw : PySem.W.kitOne K (.ref t.a_Twist) (.ref t.a_Screw) = some false
  i_Twist_Mirror : PySem.W.kitOne K (.ref t.a_Twist) (.ref t.a_Mirror) = some false
  i_Twist_Slide : PySem.W.kitOne K (.ref t.a_Twist) (.ref t.a_Slide) = some false
  i_Twist_Point : PySem.W.kitOne K (.ref t.a_Twist) (.ref t.a_Point) = some false
  i_Twist_Twist : PySem.W.kitOne K (.ref t.a_Twist) (.ref t.a_Twist) = some true
  i_Twist_Endless : PySem.W.kitOne K (.ref t.a_Twist) (.ref t.a_Endless) = some false
  cl_Endless : L2.Cls K t.a_Endless
  mk_Endless : L2.Mk K t.a_Endless t.a_Kind___init__
  no_Endless : PySem.W.findIn K (.ref t.a_Endless) "one" = some none
  me_Endless_word : L2.Meth K t.a_Endless "word" t.a_Endless_word
  me_Endless_fold : L2.Meth K t.a_Endless "fold" t.a_Kind_fold
  me_Endless_order : L2.Meth K t.a_Endless "order" t.a_Kind_order
  me_Endless_slide : L2.Meth K t.a_Endless "slide" t.a_Kind_slide
  ca_Endless : PySem.W.findIn K (.ref t.a_Endless) "__class__" = some (some (.builtin "object.__class__"))
  ob_Endless : PySem.W.mroIn K t.a_Endless (.type "object") = some true
  i_Endless_Kind : PySem.W.kitOne K (.ref t.a_Endless) (.ref t.a_Kind) = some true
  i_Endless_Still : PySem.W.kitOne K (.ref t.a_Endless) (.ref t.a_Still) = some false
  i_Endless_Move : PySem.W.kitOne K (.ref t.a_Endless) (.ref t.a_Move) = some false
  i_Endless_Turn : PySem.W.kitOne K (.ref t.a_Endless) (.ref t.a_Turn) = some false
  i_Endless_Screw : PySem.W.kitOne K (.ref t.a_Endless) (.ref t.a_Screw) = some false
  i_Endless_Mirror : PySem.W.kitOne K (.ref t.a_Endless) (.ref t.a_Mirror) = some false
  i_Endless_Slide : PySem.W.kitOne K (.ref t.a_Endless) (.ref t.a_Slide) = some false
  i_Endless_Point : PySem.W.kitOne K (.ref t.a_Endless) (.ref t.a_Point) = some false
  i_Endless_Twist : PySem.W.kitOne K (.ref t.a_Endless) (.ref t.a_Twist) = some false
  i_Endless_Endless : PySem.W.kitOne K (.ref t.a_Endless) (.ref t.a_Endless) = some true
  bl : ∀ (s : Shared) (u : Value), BindsTo s t.d_law ⟨[u], []⟩ [("_law_script", u)]
local macro_rules | `(tactic| walk_at "rd2") => `(tactic| simp only [tSeq, tAsg, gName, tVar, tC, tOp, rd_rI0, rd_rI, rd_rU, tUn, tTest, tB, tIfS, tIf, tAnd, tOr, tNot, tAndV, tOrV, tNotV, tRet, tRetN, tNext, tDrop, tCall, tCallX, tCons, tNil, tCB, tTup, tLst, tPar, tSetC, tBM, tBM0, tSl, tPart, tNoPart, List.getElem?_cons_zero, List.getElem?_cons_succ, Option.some.injEq, exists_eq_left', exists_eq_left, List.set_cons_zero, List.set_cons_succ, List.cons.injEq, V.int.injEq, V.bl.injEq, V.ref.injEq, and_true, true_and, List.append_nil, ne_eq, exists_and_left, and_assoc, ↓reduceIte, Bool.not_true, Bool.not_false, Bool.false_eq_true])
noncomputable def gcdI (a b : Int) : Int := (Int.gcd a b : Int)
noncomputable def absI (u : Int) : Int := if u < 0 then -u else u
noncomputable def gl (u : Int) (ns : List Int) : Int := ns.foldl gcdI (absI u)
theorem absI_nonneg (u : Int) : 0 ≤ absI u := by unfold absI; split <;> omega
theorem absI_dvd {d u : Int} : d ∣ absI u ↔ d ∣ u := by
  unfold absI
  split
  · exact Int.dvd_neg
  · exact Iff.rfl
theorem dvd_foldl {d : Int} : ∀ (ns : List Int) (c : Int), d ∣ ns.foldl gcdI c ↔ d ∣ c ∧ ∀ t ∈ ns, d ∣ t
  | [], c => by simp
  | t :: r, c => by
    rw [List.foldl_cons, dvd_foldl r]
    unfold gcdI
    rw [Int.dvd_coe_gcd_iff]
    constructor
    · rintro ⟨⟨h1, h2⟩, h3⟩
      refine ⟨h1, fun x hx => ?_⟩
      rcases List.mem_cons.mp hx with e | e
      · rw [e]; exact h2
      · exact h3 x e
    · rintro ⟨h1, h2⟩
      exact ⟨⟨h1, h2 t List.mem_cons_self⟩, fun x hx => h2 x (List.mem_cons_of_mem _ hx)⟩
theorem dvd_gl {d u : Int} {ns : List Int} : d ∣ gl u ns ↔ d ∣ u ∧ ∀ t ∈ ns, d ∣ t := by
  unfold gl
  rw [dvd_foldl, absI_dvd]
theorem foldl_nonneg : ∀ (ns : List Int) (c : Int), 0 ≤ c → 0 ≤ ns.foldl gcdI c
  | [], _, h => h
  | t :: r, c, _ => foldl_nonneg r _ (Int.natCast_nonneg _)
theorem gl_nonneg (u : Int) (ns : List Int) : 0 ≤ gl u ns := foldl_nonneg ns _ (absI_nonneg u)
theorem gl_u (u : Int) (ns : List Int) : gl u ns ∣ u := (dvd_gl.mp (Int.dvd_refl _)).1
theorem gl_mem {u t : Int} {ns : List Int} (h : t ∈ ns) : gl u ns ∣ t := (dvd_gl.mp (Int.dvd_refl _)).2 t h
theorem gl_pos {u : Int} (ns : List Int) (h : u ≠ 0) : 0 < gl u ns := by
  have := gl_nonneg u ns
  rcases Int.lt_or_eq_of_le this with q | q
  · exact q
  · obtain ⟨k, e⟩ := gl_u u ns
    rw [← q, Int.zero_mul] at e
    exact absurd e h
theorem gl_snoc (u : Int) (ns : List Int) (t : Int) : gl u (ns ++ [t]) = gcdI (gl u ns) t := by unfold gl; rw [List.foldl_append]; rfl
noncomputable def cs (u : Int) (ns : List Int) : Int := if u < 0 then -(gl u ns) else gl u ns
theorem cs_ne {u : Int} (ns : List Int) (h : u ≠ 0) : cs u ns ≠ 0 := by
  have := gl_pos ns h
  unfold cs
  split <;> omega
theorem cs_dvd {u x : Int} {ns : List Int} (h : gl u ns ∣ x) : cs u ns ∣ x := by
  unfold cs
  split
  · exact Int.neg_dvd.mpr h
  · exact h
theorem fdiv_exact {c x : Int} (hc : c ≠ 0) (h : c ∣ x) : x.fdiv c * c = x := by
  obtain ⟨k, e⟩ := h
  subst e
  rw [Int.mul_comm c k, Int.mul_fdiv_cancel _ hc]
theorem under_pos {u : Int} (ns : List Int) (h : u ≠ 0) : 0 < u.fdiv (cs u ns) := by
  have e := fdiv_exact (cs_ne ns h) (cs_dvd (gl_u u ns))
  have g := gl_pos ns h
  rcases Int.lt_trichotomy (u.fdiv (cs u ns)) 0 with q | q | q
  · exfalso
    unfold cs at e q
    split at e
    · rename_i hu
      rw [if_pos hu] at q
      have := Int.mul_nonneg_of_nonpos_of_nonpos (Int.le_of_lt q) (show -(gl u ns) ≤ 0 by omega)
      omega
    · rename_i hu
      rw [if_neg hu] at q
      have := Int.mul_neg_of_neg_of_pos q g
      omega
  · rw [q, Int.zero_mul] at e
    exact absurd e.symm h
  · exact q
theorem cross {u t : Int} {ns : List Int} (h : u ≠ 0) (ht : t ∈ ns) : t * u.fdiv (cs u ns) = t.fdiv (cs u ns) * u := by
  have e1 := fdiv_exact (cs_ne ns h) (cs_dvd (gl_u u ns))
  have e2 := fdiv_exact (cs_ne ns h) (cs_dvd (gl_mem (u := u) ht))
  generalize u.fdiv (cs u ns) = a at *
  generalize t.fdiv (cs u ns) = b at *
  generalize cs u ns = c at *
  rw [← e2, ← e1, Int.mul_assoc, Int.mul_comm c a]
theorem gl_red {u : Int} {ns : List Int} (h : u ≠ 0) : gl (u.fdiv (cs u ns)) (ns.map fun t => t.fdiv (cs u ns)) = 1 := by
  have hc := cs_ne ns h
  have e1 := fdiv_exact hc (cs_dvd (gl_u u ns))
  have n := gl_nonneg (u.fdiv (cs u ns)) (ns.map fun t => t.fdiv (cs u ns))
  have d := dvd_gl.mp (Int.dvd_refl (gl (u.fdiv (cs u ns)) (ns.map fun t => t.fdiv (cs u ns))))
  generalize gl (u.fdiv (cs u ns)) (ns.map fun t => t.fdiv (cs u ns)) = g at *
  have key : g * cs u ns ∣ gl u ns := by
    refine dvd_gl.mpr ⟨?_, fun t ht => ?_⟩
    · have := Int.mul_dvd_mul d.1 (Int.dvd_refl (cs u ns))
      rw [e1] at this
      exact this
    · have := Int.mul_dvd_mul (d.2 _ (List.mem_map.mpr ⟨t, ht, rfl⟩)) (Int.dvd_refl (cs u ns))
      rw [fdiv_exact hc (cs_dvd (gl_mem (u := u) ht))] at this
      exact this
  have key2 : g * cs u ns ∣ 1 * cs u ns := by
    rw [Int.one_mul]
    unfold cs at key ⊢
    split at key
    · rename_i hu
      rw [if_pos hu]
      exact Int.dvd_neg.mpr key
    · rename_i hu
      rw [if_neg hu]
      exact key
  have : g ∣ 1 := Int.dvd_of_mul_dvd_mul_right hc key2
  have := Int.le_of_dvd (by decide) this
  rcases (show g = 0 ∨ g = 1 by omega) with q | q
  · subst q
    have z := d.1
    rw [Int.zero_dvd] at z
    rw [z, Int.zero_mul] at e1
    exact absurd e1.symm h
  · exact q
theorem cs_one {u : Int} {ns : List Int} (h : 0 < u) (g : gl u ns = 1) : cs u ns = 1 := by
  unfold cs
  rw [if_neg (by omega), g]
theorem red_same {u : Int} {ns : List Int} (h : 0 < u) (g : gl u ns = 1) : (ns.map fun t => t.fdiv (cs u ns)) = ns ∧ u.fdiv (cs u ns) = u := by
  rw [cs_one h g]
  refine ⟨?_, Int.fdiv_one u⟩
  rw [show (fun t : Int => t.fdiv 1) = id from funext fun t => Int.fdiv_one t, List.map_id]
theorem gcd_fmodI (g l : Int) : Int.gcd l (Int.fmod g l) = Int.gcd g l := by
  rw [Int.fmod_def, Int.gcd_sub_mul_left_right, Int.gcd_comm]
theorem absI_gcd (a b : Int) : Int.gcd (if a < 0 then -a else a) (if b < 0 then -b else b) = Int.gcd a b := by
  split <;> split <;> simp
theorem absI_nn (a : Int) : 0 ≤ (if a < 0 then -a else a) := by split <;> omega
theorem gcd_end {g l a b : Int} (h : Int.gcd g l = Int.gcd a b) (hg : 0 ≤ g) (z : l = 0) : g = gcdI a b := by
  rw [z, Int.gcd_zero_right] at h
  unfold gcdI
  rw [← h]
  omega
noncomputable def sp_gcd : Sp := fun vs H Q _ => ∃ a b, vs = [.int a, .int b] ∧ Q (.int (gcdI a b)) H
noncomputable abbrev sp_divisor : Sp := sp_gcd
noncomputable def PlaceAt (H : Hp) (p : Addr) (ns : List Int) (u : Int) : Prop := ∃ q, H p = some (.tup [.ref q, .int u]) ∧ H q = some (.tup (ns.map V.int))
theorem PlaceAt.up {H H' : Hp} {p : Addr} {ns : List Int} {u : Int} (h : PlaceAt H p ns u) (s : Same H H') : PlaceAt H' p ns u := let ⟨q, h1, h2⟩ := h; ⟨q, s _ _ h1, s _ _ h2⟩
noncomputable def small (n : Int) : Prop := n.natAbs < 2 ^ 8990
theorem small_log {c : Int} (h : small c) (z : c ≠ 0) : c.natAbs.log2 < 9000 := Nat.lt_of_lt_of_le ((Nat.log2_lt (by omega)).mpr h) (by decide)
theorem small_dvd {c u : Int} (h : small u) (z : u ≠ 0) (d : c ∣ u) : small c := by
  have := Int.natAbs_dvd_natAbs.mpr d
  have := Nat.le_of_dvd (by omega) this
  unfold small at *
  omega

noncomputable def redT (u : Int) (ns : List Int) : List Int := ns.map fun t => t.fdiv (cs u ns)
noncomputable def redU (u : Int) (ns : List Int) : Int := u.fdiv (cs u ns)
noncomputable def sp_place (K : PySem.W.Frag) (C : Addr) : Sp := fun vs H Q E => ∃ (b : Bool) (a : Addr) (ns : List Int) (u : Int), vs = [.ref a, .int u] ∧ SqB b K H a (ns.map V.int) ∧ ns.length ≤ 100 ∧ small u ∧
  ((u = 0 ∨ ns = []) → E (.ref C) none H) ∧ (u ≠ 0 → ns ≠ [] → ∀ p H', Same H H' → PlaceAt H' p (redT u ns) (redU u ns) → Q (.ref p) H')
theorem take_snoc {α : Type} {ns : List α} {i : Nat} {n : α} (h : ns[i]? = some n) : ns.take (i + 1) = ns.take i ++ [n] := by
  rw [List.take_add_one, h]
  rfl

noncomputable def sp_dot (K : PySem.W.Frag) : Sp := fun vs H Q _ => ∃ (b1 b2 : Bool) (p q : Addr) (ms ns : List Int), vs = [.ref p, .ref q] ∧ SqB b1 K H p (ms.map V.int) ∧ SqB b2 K H q (ns.map V.int) ∧ ms.length = ns.length ∧ ms.length ≤ 1000 ∧
  (∀ (i : Nat) m n, ms[i]? = some m → ns[i]? = some n → IntMulOk m n) ∧ ∀ H', Same H H' → Q (.int (dotI ms ns)) H'
noncomputable def sp_turned (K : PySem.W.Frag) : Sp := fun vs H Q _ => ∃ (b1 b2 : Bool) (a : Addr) (rows : List (List Int)) (w : Nat), vs = [.ref a] ∧ MatB b1 b2 K H a rows ∧ rows ≠ [] ∧ (∀ r ∈ rows, r.length = w) ∧ w ≤ 1000 ∧ rows.length ≤ 1000 ∧
  ∀ r H', H r = none → Same H H' → MatL H' r (turnM w rows) → Q (.ref r) H'
noncomputable def MulOkM (A B : List (List Int)) : Prop := ∀ r ∈ A, ∀ x ∈ r, ∀ r' ∈ B, ∀ y ∈ r', IntMulOk x y
noncomputable def sp_times (K : PySem.W.Frag) : Sp := fun vs H Q _ => ∃ (b1 b2 b3 b4 : Bool) (a b : Addr) (A B : List (List Int)) (w : Nat), vs = [.ref a, .ref b] ∧ MatB b1 b2 K H a A ∧ MatB b3 b4 K H b B ∧ B ≠ [] ∧ (∀ r ∈ B, r.length = w) ∧ (∀ r ∈ A, r.length = B.length) ∧
  w ≤ 1000 ∧ A.length ≤ 1000 ∧ B.length ≤ 1000 ∧ MulOkM A B ∧ ∀ r H', H r = none → Same H H' → MatL H' r (mulM w A B) → Q (.ref r) H'

noncomputable def minorM (i k : Nat) (rows : List (List Int)) : List (List Int) := (rows.eraseIdx i).map fun r => r.eraseIdx k
noncomputable def sg (k : Nat) : Int := if k % 2 = 0 then 1 else -1
noncomputable def altS (f : Nat → Int) : Nat → Int
  | 0 => 0
  | k + 1 => altS f k + sg k * f k
noncomputable def detM : Nat → List (List Int) → Int
  | 0, _ => 1
  | 1, rows => (rows.getD 0 []).getD 0 0
  | n + 2, rows => altS (fun k => (rows.getD 0 []).getD k 0 * detM (n + 1) (minorM 0 k rows)) (n + 2)
noncomputable def Sq (n : Nat) (rows : List (List Int)) : Prop := rows.length = n ∧ ∀ r ∈ rows, r.length = n
noncomputable def BitsM (B : Nat) (rows : List (List Int)) : Prop := ∀ r ∈ rows, ∀ x ∈ r, x.natAbs < 2 ^ B
theorem sg_succ (k : Nat) : -sg k = sg (k + 1) := by
  unfold sg
  by_cases h : k % 2 = 0
  · rw [if_pos h, if_neg (by omega)]
  · rw [if_neg h, if_pos (by omega)]
    rfl
theorem sg_abs (k : Nat) : (sg k).natAbs = 1 := by unfold sg; split <;> rfl
theorem Sq.minor {n i k : Nat} {rows : List (List Int)} (h : Sq (n + 1) rows) (hi : i < n + 1) (hk : k < n + 1) : Sq n (minorM i k rows) := by
  refine ⟨?_, fun r hr => ?_⟩
  · unfold minorM
    rw [List.length_map, List.length_eraseIdx, h.1, if_pos hi]
    rfl
  · obtain ⟨z, hz, rfl⟩ := List.mem_map.mp hr
    have hl := h.2 z (List.mem_of_mem_eraseIdx hz)
    rw [List.length_eraseIdx, hl, if_pos hk]
    rfl
theorem BitsM.minor {B i k : Nat} {rows : List (List Int)} (h : BitsM B rows) : BitsM B (minorM i k rows) := fun r hr x hx => by
  obtain ⟨z, hz, rfl⟩ := List.mem_map.mp hr
  exact h z (List.mem_of_mem_eraseIdx hz) x (List.mem_of_mem_eraseIdx hx)
theorem altS_abs {f : Nat → Int} {M : Nat} : ∀ n : Nat, (∀ k < n, (f k).natAbs ≤ M) → (altS f n).natAbs ≤ n * M
  | 0, _ => by simp [altS]
  | n + 1, h => by
    have h1 := altS_abs n fun k hk => h k (by omega)
    have h2 := h n (by omega)
    show (altS f n + sg n * f n).natAbs ≤ _
    have h3 := Int.natAbs_add_le (altS f n) (sg n * f n)
    rw [Int.natAbs_mul, sg_abs, Nat.one_mul] at h3
    rw [Nat.succ_mul]
    omega
theorem row0 {n : Nat} {rows : List (List Int)} (h : Sq (n + 1) rows) : rows[0]? = some (rows.getD 0 []) ∧ rows.getD 0 [] ∈ rows := by
  have hl : 0 < rows.length := by have := h.1; omega
  have e : rows.getD 0 [] = rows[0] := by simp [hl]
  rw [e]
  exact ⟨by simp [hl], List.getElem_mem hl⟩
theorem det_abs {B : Nat} : ∀ (n : Nat) (rows : List (List Int)), 1 ≤ n → n ≤ 4 → Sq n rows → BitsM B rows → (detM n rows).natAbs ≤ 2 ^ (n * (B + 2))
  | 0, _, h, _, _, _ => by omega
  | 1, rows, _, _, hs, hb => by
    have hr := row0 hs
    have hl : 0 < (rows.getD 0 []).length := by rw [hs.2 _ hr.2]; decide
    have := hb _ hr.2 _ (L2.getD_mem hl)
    show ((rows.getD 0 []).getD 0 0).natAbs ≤ _
    have : 2 ^ B ≤ 2 ^ (1 * (B + 2)) := Nat.pow_le_pow_right (by decide) (by omega)
    omega
  | n + 2, rows, _, h4, hs, hb => by
    have hr := row0 hs
    have key : ∀ k < n + 2, ((rows.getD 0 []).getD k 0 * detM (n + 1) (minorM 0 k rows)).natAbs ≤ 2 ^ B * 2 ^ ((n + 1) * (B + 2)) := fun k hk => by
      have hl : k < (rows.getD 0 []).length := by rw [hs.2 _ hr.2]; exact hk
      have h1 := hb _ hr.2 _ (L2.getD_mem hl)
      have h2 := det_abs (n + 1) (minorM 0 k rows) (by omega) (by omega) (hs.minor (by omega) hk) hb.minor
      rw [Int.natAbs_mul]
      exact Nat.mul_le_mul (Nat.le_of_lt h1) h2
    have := altS_abs (n + 2) key
    have e : 2 ^ ((n + 2) * (B + 2)) = 4 * (2 ^ B * 2 ^ ((n + 1) * (B + 2))) := by
      rw [← Nat.pow_add, show (4 : Nat) = 2 ^ 2 from rfl, ← Nat.pow_add]
      congr 1
      rw [Nat.add_mul, Nat.add_mul]
      omega
    show (altS _ (n + 2)).natAbs ≤ _
    rw [e]
    refine Nat.le_trans this (Nat.mul_le_mul_right _ (by omega))
theorem bits_of {x : Int} {B : Nat} (h : x.natAbs < 2 ^ B) : Builtin.Int.intBits x ≤ B := intBits_le_iff.mpr h
noncomputable def sp_without (K : PySem.W.Frag) : Sp := fun vs H Q _ => ∃ (b1 b2 : Bool) (a : Addr) (rows : List (List Int)) (i k w : Nat), vs = [.ref a, .int i, .int k] ∧ MatB b1 b2 K H a rows ∧ (∀ r ∈ rows, r.length = w) ∧ k < w ∧ w ≤ 1000 ∧ rows.length ≤ 1000 ∧
  ∀ r H', H r = none → Same H H' → MatL H' r (minorM i k rows) → Q (.ref r) H'
noncomputable def sp_determinant (K : PySem.W.Frag) : Nat → Sp
  | 0 => fun _ _ _ _ => False
  | n + 1 => fun vs H Q _ => ∃ (b1 b2 : Bool) (a : Addr) (rows : List (List Int)) (B : Nat), vs = [.ref a] ∧ MatB b1 b2 K H a rows ∧ Sq (n + 1) rows ∧ n ≤ 3 ∧ BitsM B rows ∧ B ≤ 1000000 ∧ ∀ H', Same H H' → Q (.int (detM (n + 1) rows)) H'
section
variable {g : TG} {tt : TOx} {fr : List (Str × Nat)} {σ : St} {a : Addr} {H : Hp} {Q : VK} {K : PySem.W.Frag}
theorem cg_enumI {b : Bool} {l : Addr} {xs : List V} (P : Nat → List V → Hp → Prop) (ha : H a = none) (hS : SqB b K H l xs) (hz : xs.length ≤ 1000) (h0 : P 0 [] (upd H a (.lst [])))
    (hl : ∀ i zs H1, P i zs H1 → zs.length ≤ i) (mono : ∀ i zs H1 H2, P i zs H1 → SameX a H1 H2 → P i zs H2)
    (he : ∀ i x H1 zs, xs[i]? = some x → Same H H1 → H1 a = some (.lst zs) → P i zs H1 → ∀ C : Option V → Hp → Prop,
      (∀ y H2, Same H1 H2 → P (i + 1) (zs ++ [y]) H2 → C (some y) H2) → (∀ H2, Same H1 H2 → P (i + 1) zs H2 → C none H2) → tt (some (.int i) :: some x :: frees fr σ) H1 C)
    (hd : ∀ H1 ys, Same H H1 → H1 a = some (.lst ys) → P xs.length ys H1 → Q (.ref a) H1) :
    CompWG (Ite K b l) (gTup K 2 (gCons (gName 0) (gCons (gName 1) gNil))) tt 2 fr σ a H Q := by
  refine cg_inv xs.length P ha hz h0 hl mono (fun i H1 hi s => ⟨xs, xs[i], hS.up s, by simp [hi]⟩) (fun H1 s => ⟨xs, hS.up s, rfl⟩) ?_ hd
  intro i H1 zs hi s1 ez p os x H3 hos hy C hC1 hC2
  obtain ⟨q, x, rfl, hp, rfl, hx⟩ := hy
  refine ⟨q, [.int i, x], rfl, SqT.of upd_same, rfl, _, [x], rfl, x, [], rfl, rfl, ?_⟩
  have sn : Same H1 (upd H1 q (.tup [.int i, x])) := Same.new hp
  match os, hos with
  | [o, o'], _ =>
    exact ⟨⟨[some (.int i), some x], rfl, rfl⟩, he i x _ zs (hx xs (hS.up s1)) (s1.trans sn) (sn _ _ ez) (mono _ _ _ _ p sn.x) C (fun y H2 s2 r => hC1 y H2 (sn.trans s2) r) fun H2 s2 r => hC2 H2 (sn.trans s2) r⟩
end
theorem SqB.cut {b : Bool} {K : PySem.W.Frag} {H : Hp} {p : Addr} {xs : List V} : SqB b K (upd H p (seqO b xs)) p xs := by
  cases b
  · exact SqB.lst upd_same
  · exact SqB.tup upd_same
theorem erase_take {α : Type} {rows : List α} {i0 t : Nat} {r : α} (e : rows[t]? = some r) : (rows.take (t + 1)).eraseIdx i0 = if t = i0 then (rows.take t).eraseIdx i0 else (rows.take t).eraseIdx i0 ++ [r] := by
  have ht : t < rows.length := (List.getElem?_eq_some_iff.mp e).1
  have hl : (rows.take t).length = t := by rw [List.length_take]; omega
  rw [List.take_add_one, e]
  show (rows.take t ++ [r]).eraseIdx i0 = _
  by_cases h : t = i0
  · rw [if_pos h, List.eraseIdx_append_of_length_le (by omega), hl, h, Nat.sub_self, List.eraseIdx_of_length_le (l := rows.take i0) (by rw [List.length_take]; omega)]
    simp
  · rw [if_neg h]
    by_cases h2 : i0 < t
    · rw [List.eraseIdx_append_of_lt_length (by omega)]
    · rw [List.eraseIdx_append_of_length_le (by omega), hl, List.eraseIdx_of_length_le (l := rows.take t) (by omega)]
      congr 1
      rw [List.eraseIdx_of_length_le]
      simp
      omega

theorem sq1 {rows : List (List Int)} (h : Sq 1 rows) : ∃ a, rows = [[a]] := by
  obtain ⟨hl, hr⟩ := h
  match rows, hl with
  | [r], _ =>
    have := hr r (by simp)
    match r, this with
    | [a], _ => exact ⟨a, rfl⟩
theorem len2 {r : List Int} (h : r.length = 2) : ∃ a b, r = [a, b] := by match r, h with | [a, b], _ => exact ⟨a, b, rfl⟩
theorem len3 {r : List Int} (h : r.length = 3) : ∃ a b c, r = [a, b, c] := by match r, h with | [a, b, c], _ => exact ⟨a, b, c, rfl⟩
theorem sq2 {rows : List (List Int)} (h : Sq 2 rows) : ∃ a b c d, rows = [[a, b], [c, d]] := by
  obtain ⟨hl, hr⟩ := h
  match rows, hl with
  | [r, s], _ =>
    obtain ⟨a, b, rfl⟩ := len2 (hr r (by simp))
    obtain ⟨c, d, rfl⟩ := len2 (hr s (by simp))
    exact ⟨a, b, c, d, rfl⟩
theorem sq3 {rows : List (List Int)} (h : Sq 3 rows) : ∃ a b c d e f g i j, rows = [[a, b, c], [d, e, f], [g, i, j]] := by
  obtain ⟨hl, hr⟩ := h
  match rows, hl with
  | [r, s, t], _ =>
    obtain ⟨a, b, c, rfl⟩ := len3 (hr r (by simp))
    obtain ⟨d, e, f, rfl⟩ := len3 (hr s (by simp))
    obtain ⟨g, i, j, rfl⟩ := len3 (hr t (by simp))
    exact ⟨a, b, c, d, e, f, g, i, j, rfl⟩
noncomputable def idM (d : Nat) : List (List Int) := (List.range d).map fun i => (List.range d).map fun k => if i = k then (1 : Int) else 0
noncomputable def pw (d : Nat) (A : List (List Int)) : Nat → List (List Int)
  | 0 => A
  | k + 1 => mulM d (pw d A k) A
theorem Sq.mul {n : Nat} {A B : List (List Int)} (hA : Sq n A) : Sq n (mulM n A B) := by
  refine ⟨by simp [mulM, hA.1], fun r hr => ?_⟩
  obtain ⟨z, _, rfl⟩ := List.mem_map.mp hr
  simp
theorem Sq.pw {d : Nat} {A : List (List Int)} (h : Sq d A) : ∀ k, Sq d (Cw.pw d A k)
  | 0 => h
  | k + 1 => (Sq.pw h k).mul
theorem idM_sq {d : Nat} : Sq d (idM d) := ⟨by simp [idM], fun r hr => by
  obtain ⟨i, _, rfl⟩ := List.mem_map.mp hr
  simp⟩
theorem mul2 (a b c d a' b' c' d' : Int) : mulM 2 [[a, b], [c, d]] [[a', b'], [c', d']] = [[a * a' + b * c', a * b' + b * d'], [c * a' + d * c', c * b' + d * d']] := by simp [mulM, dotI, colI, List.range, List.range.loop]
theorem mul3 (a b c d e f g i j a' b' c' d' e' f' g' i' j' : Int) : mulM 3 [[a, b, c], [d, e, f], [g, i, j]] [[a', b', c'], [d', e', f'], [g', i', j']] = [[a * a' + (b * d' + c * g'), a * b' + (b * e' + c * i'), a * c' + (b * f' + c * j')], [d * a' + (e * d' + f * g'), d * b' + (e * e' + f * i'), d * c' + (e * f' + f * j')], [g * a' + (i * d' + j * g'), g * b' + (i * e' + j * i'), g * c' + (i * f' + j * j')]] := by
  simp [mulM, dotI, colI, List.range, List.range.loop]
theorem mul_assoc {d : Nat} (hd : d = 2 ∨ d = 3) {A B C : List (List Int)} (hA : Sq d A) (hB : Sq d B) (hC : Sq d C) : mulM d (mulM d A B) C = mulM d A (mulM d B C) := by
  rcases hd with e | e <;> subst e
  · obtain ⟨a, b, c, d, rfl⟩ := sq2 hA
    obtain ⟨a', b', c', d', rfl⟩ := sq2 hB
    obtain ⟨a2, b2, c2, d2, rfl⟩ := sq2 hC
    simp only [mul2, List.cons.injEq, and_true]
    refine ⟨⟨?_, ?_⟩, ?_, ?_⟩ <;> grind
  · obtain ⟨a, b, c, d, e, f, g, i, j, rfl⟩ := sq3 hA
    obtain ⟨a', b', c', d', e', f', g', i', j', rfl⟩ := sq3 hB
    obtain ⟨a2, b2, c2, d2, e2, f2, g2, i2, j2, rfl⟩ := sq3 hC
    simp only [mul3, List.cons.injEq, and_true]
    refine ⟨⟨?_, ?_, ?_⟩, ⟨?_, ?_, ?_⟩, ?_, ?_, ?_⟩ <;> grind
theorem id2 : idM 2 = [[1, 0], [0, 1]] := by decide +kernel
theorem id3 : idM 3 = [[1, 0, 0], [0, 1, 0], [0, 0, 1]] := by decide +kernel
theorem id_mul {d : Nat} (hd : d = 2 ∨ d = 3) {A : List (List Int)} (hA : Sq d A) : mulM d (idM d) A = A ∧ mulM d A (idM d) = A := by
  rcases hd with e | e <;> subst e
  · obtain ⟨a, b, c, d, rfl⟩ := sq2 hA
    rw [id2, mul2, mul2]
    simp
  · obtain ⟨a, b, c, d, e, f, g, i, j, rfl⟩ := sq3 hA
    rw [id3, mul3, mul3]
    simp
noncomputable def Conj (d : Nat) (A B : List (List Int)) : Prop := ∃ P P', Sq d P ∧ Sq d P' ∧ mulM d P' P = idM d ∧ mulM d P P' = idM d ∧ B = mulM d (mulM d P A) P'
theorem Conj.refl {d : Nat} (hd : d = 2 ∨ d = 3) {A : List (List Int)} (hA : Sq d A) : Conj d A A := ⟨idM d, idM d, idM_sq, idM_sq, (id_mul hd idM_sq).1, (id_mul hd idM_sq).1, by rw [(id_mul hd hA).1, (id_mul hd hA).2]⟩
theorem Conj.trans {d : Nat} (hd : d = 2 ∨ d = 3) {A B C : List (List Int)} (hA : Sq d A) (h1 : Conj d A B) (h2 : Conj d B C) : Conj d A C := by
  obtain ⟨P, P', p1, p2, p3, p4, p5⟩ := h1
  obtain ⟨R, R', r1, r2, r3, r4, r5⟩ := h2
  refine ⟨mulM d R P, mulM d P' R', r1.mul, p2.mul, ?_, ?_, ?_⟩
  · rw [mul_assoc hd p2 r2 r1.mul, ← mul_assoc hd r2 r1 p1, r3, (id_mul hd p1).1, p3]
  · rw [mul_assoc hd r1 p1 p2.mul, ← mul_assoc hd p1 p2 r2, p4, (id_mul hd r2).1, r4]
  · subst p5 r5
    rw [← mul_assoc hd r1 p1.mul p2, ← mul_assoc hd r1 p1 hA, mul_assoc hd (r1.mul.mul) p2 r2]
theorem Conj.sq {d : Nat} {A B : List (List Int)} (h : Conj d A B) : Sq d B := by
  obtain ⟨P, P', p1, p2, p3, p4, p5⟩ := h
  rw [p5]
  exact p1.mul.mul
theorem Conj.pw {d : Nat} (hd : d = 2 ∨ d = 3) {A : List (List Int)} (hA : Sq d A) {P P' : List (List Int)} (p1 : Sq d P) (p2 : Sq d P') (p3 : mulM d P' P = idM d) : ∀ k, Cw.pw d (mulM d (mulM d P A) P') k = mulM d (mulM d P (Cw.pw d A k)) P'
  | 0 => rfl
  | k + 1 => by
    have hk := Sq.pw hA k
    show mulM d (Cw.pw d (mulM d (mulM d P A) P') k) (mulM d (mulM d P A) P') = mulM d (mulM d P (mulM d (Cw.pw d A k) A)) P'
    rw [Conj.pw hd hA p1 p2 p3 k]
    rw [mul_assoc hd p1.mul p2 (p1.mul.mul), ← mul_assoc hd p2 p1.mul p2, ← mul_assoc hd p2 p1 hA, p3, (id_mul hd hA).1, ← mul_assoc hd p1.mul hA p2, ← mul_assoc hd p1 hk hA]
theorem right_inv {d : Nat} (hd : d = 2 ∨ d = 3) {P P' : List (List Int)} (p1 : Sq d P) (p2 : Sq d P') (p3 : mulM d P' P = idM d) (X : List (List Int)) (hX : Sq d X) (h : mulM d (mulM d P X) P' = idM d) : X = idM d := by
  have : mulM d (mulM d P' (mulM d (mulM d P X) P')) P = X := by
    rw [← mul_assoc hd p2 p1.mul p2, ← mul_assoc hd p2 p1 hX, p3, (id_mul hd hX).1, mul_assoc hd hX p2 p1, p3, (id_mul hd hX).2]
  rw [h, (id_mul hd p2).2, p3] at this
  exact this.symm
theorem Conj.same {d : Nat} (hd : d = 2 ∨ d = 3) {A B : List (List Int)} (hA : Sq d A) (h : Conj d A B) (k : Nat) : Cw.pw d B k = idM d ↔ Cw.pw d A k = idM d := by
  obtain ⟨P, P', p1, p2, p3, p4, p5⟩ := h
  rw [p5, Conj.pw hd hA p1 p2 p3 k]
  constructor
  · exact right_inv hd p1 p2 p3 _ (Sq.pw hA k)
  · intro e
    rw [e, (id_mul hd p1).2, p4]
theorem dot_abs {B C : Nat} : ∀ (ms ns : List Int), (∀ x ∈ ms, x.natAbs < 2 ^ B) → (∀ y ∈ ns, y.natAbs < 2 ^ C) → (dotI ms ns).natAbs ≤ ms.length * 2 ^ (B + C)
  | [], ns, _, _ => by simp [dotI]
  | m :: ms, [], _, _ => by simp [dotI]
  | m :: ms, n :: ns, h1, h2 => by
    have ih := dot_abs ms ns (fun x hx => h1 x (List.mem_cons_of_mem _ hx)) (fun y hy => h2 y (List.mem_cons_of_mem _ hy))
    have e : dotI (m :: ms) (n :: ns) = m * n + dotI ms ns := by simp [dotI]
    have hm := h1 m List.mem_cons_self
    have hn := h2 n List.mem_cons_self
    have h3 : (m * n).natAbs ≤ 2 ^ (B + C) := by
      rw [Int.natAbs_mul, Nat.pow_add]
      exact Nat.mul_le_mul (Nat.le_of_lt hm) (Nat.le_of_lt hn)
    have h4 := Int.natAbs_add_le (m * n) (dotI ms ns)
    rw [e, List.length_cons, Nat.succ_mul]
    omega
theorem BitsM.mulG {n B C : Nat} {A R : List (List Int)} (hA : BitsM B A) (hR : BitsM C R) (sA : Sq n A) (sR : Sq n R) (hn : n ≤ 4) : BitsM (B + C + 3) (mulM n A R) := fun r hr x hx => by
  obtain ⟨ra, hra, rfl⟩ := List.mem_map.mp hr
  obtain ⟨k, hk, rfl⟩ := List.mem_map.mp hx
  have hk' := List.mem_range.mp hk
  have := dot_abs (B := B) (C := C) ra (colI k R) (hA ra hra) fun y hy => by
    unfold colI at hy
    obtain ⟨rb, hrb, rfl⟩ := List.mem_map.mp hy
    exact hR rb hrb _ (L2.getD_mem (by rw [sR.2 rb hrb]; exact hk'))
  rw [sA.2 ra hra] at this
  have e : 2 ^ (B + C + 3) = 8 * 2 ^ (B + C) := by rw [Nat.pow_add]; omega
  have hp := Nat.two_pow_pos (B + C)
  have : n * 2 ^ (B + C) ≤ 4 * 2 ^ (B + C) := Nat.mul_le_mul_right _ hn
  show (dotI ra (colI k R)).natAbs < _
  omega
theorem BitsM.pw {d B : Nat} (hd : d ≤ 4) {A : List (List Int)} (hA : Sq d A) (hb : BitsM B A) : ∀ k, BitsM ((k + 1) * (B + 3)) (Cw.pw d A k)
  | 0 => fun r hr x hx => Nat.lt_of_lt_of_le (hb r hr x hx) (Nat.pow_le_pow_right (by decide) (by omega))
  | k + 1 => by
    have := (BitsM.pw hd hA hb k).mulG hb (Sq.pw hA k) hA hd
    rw [show (k + 1) * (B + 3) + B + 3 = (k + 1 + 1) * (B + 3) by rw [Nat.succ_mul (k + 1)]; omega] at this
    exact this
theorem mul_ok_bits {A R : List (List Int)} {B C : Nat} (hA : BitsM B A) (hR : BitsM C R) (h : B + C ≤ 134217728) : MulOkM A R := fun r hr x hx r' hr' y hy => PyProof.Rows.mulOk_of_bits (bits_of (hA r hr x hx)) (bits_of (hR r' hr' y hy)) h

noncomputable def sp_still_rows : Sp := fun vs H Q _ => ∃ n : Nat, vs = [.int n] ∧ n ≤ 1000 ∧ ∀ r H', H r = none → Same H H' → MatL H' r (idM n) → Q (.ref r) H'

noncomputable def DeedAt (K : PySem.W.Frag) (H : Hp) (p : Addr) (M : List (List Int)) (ts : List Int) (u : Int) : Prop := ∃ pr pt, H p = some (.tup [.ref pr, .ref pt, .int u]) ∧ MatB true true K H pr M ∧ H pt = some (.tup (ts.map V.int))
theorem DeedAt.up {K : PySem.W.Frag} {H H' : Hp} {p : Addr} {M : List (List Int)} {ts : List Int} {u : Int} (h : DeedAt K H p M ts u) (s : Same H H') : DeedAt K H' p M ts u := let ⟨pr, pt, h1, h2, h3⟩ := h; ⟨pr, pt, s _ _ h1, h2.up s, s _ _ h3⟩
noncomputable def sp_joined (K : PySem.W.Frag) : Sp := fun vs H Q _ => ∃ (b1 b2 : Bool) (a p : Addr) (M : List (List Int)) (ts : List Int) (u : Int), vs = [.ref a, .ref p] ∧ MatB b1 b2 K H a M ∧ PlaceAt H p ts u ∧ M.length ≤ 100 ∧ ∀ q H', Same H H' → DeedAt K H' q M ts u → Q (.ref q) H'
noncomputable def movT (M : List (List Int)) (ts : List Int) (u : Int) (ns : List Int) (v : Int) : List Int := List.zipWith (fun r t => dotI r ns * u + t * v) M ts
noncomputable def BitsL (B : Nat) (ns : List Int) : Prop := ∀ x ∈ ns, x.natAbs < 2 ^ B
structure Fine (d : Nat) (M : List (List Int)) (ts : List Int) (u : Int) : Prop where
  sq : Sq d M
  len : ts.length = d
  pos : 0 < u
  bm : BitsM 200000 M
  bt : BitsL 200000 ts
  bu : u < 2 ^ 1500
noncomputable def sp_moved (K : PySem.W.Frag) : Sp := fun vs H Q _ => ∃ (p q : Addr) (M : List (List Int)) (ts ns : List Int) (u v : Int) (d : Nat), vs = [.ref p, .ref q] ∧ DeedAt K H p M ts u ∧ PlaceAt H q ns v ∧ Fine d M ts u ∧ 1 ≤ d ∧ d ≤ 4 ∧ ns.length = d ∧ BitsL 200000 ns ∧ 0 < v ∧ v < 2 ^ 1500 ∧
  ∀ r H', Same H H' → PlaceAt H' r (redT (u * v) (movT M ts u ns v)) (redU (u * v) (movT M ts u ns v)) → Q (.ref r) H'
noncomputable def sp_behind (K : PySem.W.Frag) : Sp := fun vs H Q _ => ∃ (p q : Addr) (M N : List (List Int)) (ts ns : List Int) (u v : Int) (d : Nat), vs = [.ref p, .ref q] ∧ DeedAt K H p M ts u ∧ DeedAt K H q N ns v ∧ Fine d M ts u ∧ Fine d N ns v ∧ 1 ≤ d ∧ d ≤ 4 ∧
  ∀ r H', Same H H' → DeedAt K H' r (mulM d N M) (redT (v * u) (movT N ns v ts u)) (redU (v * u) (movT N ns v ts u)) → Q (.ref r) H'
theorem bits150 {u : Int} (h1 : 0 < u) (h2 : u < 2 ^ 1500) : u.natAbs < 2 ^ 1500 := by
  have e : ((2 ^ 1500 : Nat) : Int) = (2 : Int) ^ 1500 := by decide +kernel
  omega
theorem small_lt {u : Int} {B : Nat} (h : u.natAbs < 2 ^ B) (hB : B ≤ 8990) : small u := Nat.lt_of_lt_of_le h (Nat.pow_le_pow_right (by decide) hB)
theorem small_prod {u v : Int} (h1 : 0 < u) (h2 : u < 2 ^ 1500) (h3 : 0 < v) (h4 : v < 2 ^ 1500) : small (u * v) ∧ 0 < u * v := by
  refine ⟨small_lt (B := 1500 + 1500) ?_ (by decide), Int.mul_pos h1 h3⟩
  rw [Int.natAbs_mul, Nat.pow_add]
  exact Nat.mul_lt_mul'' (bits150 h1 h2) (bits150 h3 h4)
theorem BitsM.le {B C : Nat} {M : List (List Int)} (h : BitsM B M) (hc : B ≤ C) : BitsM C M := fun r hr x hx => Nat.lt_of_lt_of_le (h r hr x hx) (Nat.pow_le_pow_right (by decide) hc)

noncomputable def SpanIs (d : Nat) (A : List (List Int)) (v : Int) : Prop := (v = 0 ∧ ∀ j < 6, pw d A j ≠ idM d) ∨ ∃ j : Nat, j < 6 ∧ v = (j : Int) + 1 ∧ pw d A j = idM d ∧ ∀ i < j, pw d A i ≠ idM d
noncomputable def sp_span (K : PySem.W.Frag) : Sp := fun vs H Q _ => ∃ (b1 b2 : Bool) (a : Addr) (A : List (List Int)) (d B : Nat), vs = [.ref a] ∧ MatB b1 b2 K H a A ∧ Sq d A ∧ (d = 2 ∨ d = 3) ∧ BitsM B A ∧ B ≤ 1000000 ∧ ∀ v H', Same H H' → SpanIs d A v → Q (.int v) H'

section
variable {P : Program} {w : World} {K : PySem.W.Frag} {mg : Str → Option Value} {base : Heap} {t : Adr}
theorem rd_gcd {a b : Int} {H : Hp} {Q : VK} {E : XK} : sp_gcd [.int a, .int b] H Q E = Q (.int (gcdI a b)) H := propext ⟨fun ⟨_, _, e, q⟩ => by cases e; exact q, fun q => ⟨_, _, rfl, q⟩⟩
theorem ok_divisor (T : Txt K mg t) : FnOk P w K mg base CX0 1 t.a_divisor t.d_divisor ["one", "other"] sp_divisor := by
  refine T.F_divisor.ok sc_divisor (fun vs H Q E h => ?_) (fun cdv A outer s H vs Q E hr h => ?_)
  · obtain ⟨a, b, rfl, _⟩ := h
    rfl
  · obtain ⟨a, b, rfl, k⟩ := h
    refine ⟨_, (pss_cons (ps_set (i := 2) sc_divisor.nd rfl (Or.inl rfl) (pe_callB call_abs rfl T.z_abs (by decide +kernel) (pa_cons (pv 0) pa_nil)))
      (pss_cons (ps_set (i := 3) sc_divisor.nd rfl (Or.inl rfl) (pe_callB call_abs rfl T.z_abs (by decide +kernel) (pa_cons (pv 1) pa_nil)))
      (pss_cons (ps_while PassesOwn.never (pt_cmpR op_neZ (pv 3) pe_int (nomark _))
      (pss_cons (ps_set (i := 4) sc_divisor.nd rfl (Or.inl rfl) (pe_op op_modN (pv 2) (pv 3)))
      (pss_cons (ps_set (i := 2) sc_divisor.nd rfl (Or.inl rfl) (pv 3))
      (pss_one (ps_set (i := 3) sc_divisor.nd rfl (Or.inl rfl) (pv 4))))))
      (pss_one (ps_ret (pv 2)))))), ?_⟩
    show tSeq _ _ _ [some (.int a), some (.int b), none, none, none] H
    walk_at "rd2"
    refine ⟨fun m σ H1 => ∃ g l r, σ = [some (.int a), some (.int b), some (.int g), some (.int l), r] ∧ H1 = H ∧ 0 ≤ g ∧ 0 ≤ l ∧ Int.gcd g l = Int.gcd a b ∧ m = l.toNat,
      ⟨_, _, _, _, rfl, rfl, absI_nn a, absI_nn b, absI_gcd a b, rfl⟩, ?_⟩
    rintro m σ H1 ⟨g, l, r, rfl, rfl, hg, hl, e, rfl⟩
    walk_at "rd2"
    by_cases z : l = 0
    · rw [decide_eq_true z]
      refine iteF ?_
      rw [gcd_end e hg z]
      exact k
    · rw [decide_eq_false z]
      refine iteT ⟨fun σ' H' => σ' = [some (.int a), some (.int b), some (.int l), some (.int (g.fmod l)), some (.int (g.fmod l))] ∧ H' = H1, ?_, z, rfl, rfl⟩
      rintro σ' H' ⟨rfl, rfl⟩
      have l1 := Int.fmod_lt_of_pos g (show 0 < l by omega)
      have l2 := Int.fmod_nonneg_of_pos g (show 0 < l by omega)
      exact ⟨(g.fmod l).toNat, by omega, _, _, _, rfl, rfl, hl, l2, by rw [gcd_fmodI]; exact e, rfl⟩

theorem ok_place (T : Txt K mg t) : FnOk P w K mg base (CX1 P w) 2 t.a_place t.d_place ["tops", "under"] (sp_place K t.a_NoPlace) := by
  have G_divisor : FnOk P w K mg base CX0 1 t.a_divisor t.d_divisor ["one", "other"] sp_divisor := ok_divisor T
  refine T.F_place.okX sc_place (fun vs H Q E h => ?_) (fun cdv A outer s H vs Q E hr h => ?_)
  · obtain ⟨b, a, ns, u, rfl, _⟩ := h
    rfl
  · obtain ⟨b, a, ns, u, rfl, hS, hl, su, hE, hQ⟩ := h
    refine ⟨_, (pss_cons (ps_if (pt_cmpR op_eqZ (pv 1) pe_int (nomark _))
      (pss_one (ps_raise rfl landsN_def rfl T.m_NoPlace T.x_NoPlace PySem.F.excBase_ValueError (pa_cons pe_str pa_nil)))
      pss_nil)
      (pss_cons (ps_if (pt_cmpR op_eqZ (pe_callB call_lenB rfl T.z_len (by decide +kernel) (pa_cons (pv 0) pa_nil)) pe_int (nomark _))
      (pss_one (ps_raise rfl landsN_def rfl T.m_NoPlace T.x_NoPlace PySem.F.excBase_ValueError (pa_cons pe_str pa_nil)))
      pss_nil)
      (pss_cons (ps_set (i := 2) sc_place.nd rfl (Or.inr rfl) (pe_callB call_abs rfl T.z_abs (by decide +kernel) (pa_cons (pv 1) pa_nil)))
      (pss_cons (PS.nox (ps_for PassesOwn.never rfl (pi_seq (pv 0)) (pg_name (i := 3) sc_place.nd rfl (Or.inl rfl))
      (pss_one (ps_set (i := 2) sc_place.nd rfl (Or.inr rfl) (pe_call G_divisor (hr.mono (by omega)) rfl T.m_divisor T.F_divisor.kp T.b_divisor .nil pass0 (pa_cons (pv 2) (pa_cons (pv 3) pa_nil)))))))
      (pss_cons (ps_if (pt_cmpR op_lt (pv 1) pe_int (nomark _))
      (pss_one (ps_set (i := 2) sc_place.nd rfl (Or.inr rfl) (pe_un un_neg (pv 2))))
      pss_nil)
      (pss_one (ps_ret (pe_tup (pa_cons (pe_callTy call_tupB rfl T.z_tuple (by decide +kernel) (pa_cons (pe_compG (xs := ["top"]) (fr := [("common", 2)]) (g := (gName 0)) (tt := (tEl (tOp (rI CDivB fun i j => .int (i.fdiv j)) (tVar 0) (tVar 1)))) (compG_ok (sc := defScope s_place) (N := N_place) rfl rfl (by decide +kernel)) rfl (pi_seq (pv 0)) (fun _ _ _ hE1 => (pg_own (N := ["top", "common"]) (i := 0) hE1 rfl (by decide +kernel))) (fun _ _ _ hE1 => (po_el (pe_op op_fdivB (pv 0) (pv 1))))) pa_nil)) (pa_cons (pe_op op_fdivB (pv 1) (pv 2)) pa_nil)))))))))), ?_⟩
    show tSeq _ _ _ [some (.ref a), some (.int u), none, none] H
    refine st fun N1 e1 => ?_
    simp only [tRaise]
    walk_at "rd2"
    refine ite2 (fun z => ⟨by decide, hE (.inl (of_decide_eq_true z))⟩) (fun z => ?_)
    have hu : u ≠ 0 := fun q => z (decide_eq_true q)
    subst e1
    refine st fun N1 e1 => ?_
    simp only [tRaise]
    walk_at "rd2"
    refine ints_len hS ?_
    walk_at "rd2"
    refine ite2 (fun z => ⟨by decide, hE (.inr ?_)⟩) (fun z => ?_)
    · have := of_decide_eq_true z
      exact List.eq_nil_of_length_eq_zero (by omega)
    have hne : ns ≠ [] := fun q => z (decide_eq_true (by rw [q]; rfl))
    subst e1
    refine st fun N1 e1 => ?_
    walk_at "rd2"
    subst e1
    refine st fun N1 e1 => for_st fun B eB => ?_
    simp only [iSeq]
    walk_at "rd2"
    refine ⟨b, ⟨_, hS⟩, ?_⟩
    refine fr_seq (g := gName 3) (tb := B) (fun i σ H1 => ∃ v3, σ = [some (.ref a), some (.int u), some (.int (gl u (ns.take i))), v3] ∧ H1 = H) ⟨_, rfl, rfl⟩ (fun i σ H1 _ ⟨_, _, e⟩ => e ▸ hS) ?_ ?_
    · rintro i x σ H1 hi ⟨v3, rfl, rfl⟩
      obtain ⟨n, hn, rfl⟩ := ints_at hi
      subst eB
      walk_at "rd2"
      simp only [rd_gcd]
      rw [take_snoc hn, gl_snoc]
      first | trivial | exact ⟨_, rfl, rfl⟩
    · rintro σ H1 ⟨v3, rfl, rfl⟩
      rw [List.length_map, List.take_length]
      subst e1
      refine st fun N2 e2 => ?_
      have key2 : N2 [some (.ref a), some (.int u), some (.int (cs u ns)), v3] H1 := by
        subst e2
        have sc1 : small (cs u ns) := small_dvd su hu (cs_dvd (gl_u u ns))
        have hd : ∀ x, CDivB x (cs u ns) := fun x => ⟨cs_ne ns hu, small_log sc1 (cs_ne ns hu)⟩
        walk_at "rd2"
        refine compE_st fun B eB => ?_
        simp only [iSeq]
        walk_at "rd2"
        refine ⟨b, ⟨_, hS⟩, fun a1 ha1 => cg_seq (fun j y _ => ∃ n, ns[j]? = some n ∧ y = .int (n.fdiv (cs u ns))) ha1 hS (by rw [List.length_map]; omega) (fun _ _ _ _ r _ => r) ?_ ?_⟩
        · intro i x H2 zs hx _ _ Q' hQ'
          obtain ⟨n, hn, rfl⟩ := ints_at hx
          subst eB
          show tOp _ _ _ [some (.int n), some (.int (cs u ns))] H2 Q'
          walk_at "rd2"
          exact ⟨hd n, hQ' _ H2 (Same.refl _) ⟨n, hn, rfl⟩⟩
        · intro H2 ys s1 e1 hly hr2
          have ey : ys = (redT u ns).map V.int := by
            unfold redT
            rw [List.map_map]
            exact list_is (by simpa using hly) hr2
          subst ey
          refine ⟨a1, _, rfl, .inl ⟨SqL.of e1, fun l hl1 => ?_⟩⟩
          walk_at "rd2"
          refine ⟨hd u, (by show 2 ≤ sizeLine; decide), fun p hp => hQ hu hne p _ ((s1.trans (Same.new hl1)).trans (Same.new hp)) ⟨l, upd_same, ?_⟩⟩
          rw [upd_ne (ne_of_none upd_same hp)]
          exact upd_same
      walk_at "rd2"
      unfold cs at key2
      refine ite2 (fun z => ?_) (fun z => ?_)
      · rw [if_pos (of_decide_eq_true z)] at key2
        exact key2
      · rw [if_neg (fun q => z (decide_eq_true q))] at key2
        exact key2
theorem place_ix0 {H : Hp} {p : Addr} {ns : List Int} {u : Int} {Q : VK} (h : PlaceAt H p ns u) (q : ∀ x, H x = some (.tup (ns.map V.int)) → Q (.ref x) H) : rIxB K (.ref p) (.int 0) H Q := let ⟨x, h1, h2⟩ := h; ⟨true, p, _, _, _, rfl, rfl, SqB.tup h1, rfl, q x h2⟩
theorem place_ix1 {H : Hp} {p : Addr} {ns : List Int} {u : Int} {Q : VK} (h : PlaceAt H p ns u) (q : Q (.int u) H) : rIxB K (.ref p) (.int 1) H Q := let ⟨x, h1, h2⟩ := h; ⟨true, p, _, _, _, rfl, rfl, SqB.tup h1, rfl, q⟩
theorem ok_dot (T : Txt K mg t) : FnOk P w K mg base CX0 1 t.a_dot t.d_dot ["one", "other"] (sp_dot K) := by
  refine T.F_dot.ok sc_dot (fun vs H Q E h => ?_) (fun cdv A outer s H vs Q E hr h => ?_)
  · obtain ⟨b1, b2, p, q, ms, ns, rfl, _⟩ := h
    rfl
  · obtain ⟨b1, b2, p, q, ms, ns, rfl, h1, h2, hl, hz, hm, hQ⟩ := h
    refine ⟨_, (pss_one (ps_ret (pe_callB (call_sum rfl) rfl T.z_sum (by decide +kernel) (pa_cons (pe_compG (xs := ["left", "right"]) (fr := []) (g := (gTup K 2 (gCons (gName 0) (gCons (gName 1) gNil)))) (tt := (tEl (tOp (rI (fun i j => IntMulOk i j) fun i j => .int (i * j)) (tVar 0) (tVar 1)))) (compG_ok (sc := defScope s_dot) (N := N_dot) rfl rfl (by decide +kernel)) rfl (pi_zip rfl T.z_zip (pa_cons (pv 0) (pa_cons (pv 1) pa_nil))) (fun _ _ _ hE1 => (pg_tup rfl (pgs_cons (pg_own (N := ["left", "right"]) (i := 0) hE1 rfl (by decide +kernel)) (pgs_cons (pg_own (N := ["left", "right"]) (i := 1) hE1 rfl (by decide +kernel)) pgs_nil)))) (fun _ _ _ hE1 => (po_el (pe_op op_mulB (pv 0) (pv 1))))) pa_nil)))), ?_⟩
    show tRet _ _ [some (.ref p), some (.ref q)] H
    walk_at "rd2"
    refine compE_st fun B eB => ?_
    simp only [iZip]
    walk_at "rd2"
    refine ⟨b1, ⟨_, h1⟩, b2, ⟨_, h2⟩, fun a ha => ?_⟩
    refine cg_zip (fun j y _ => ∃ m n, ms[j]? = some m ∧ ns[j]? = some n ∧ y = .int (m * n)) ha h1 h2 (by simpa using hl) (by simpa using hz) (fun _ _ _ _ r _ => r) ?_ ?_
    · intro i x y H1 zs ex ey s1 ez Q' hQ'
      obtain ⟨m, em, rfl⟩ := ints_at ex
      obtain ⟨n, en, rfl⟩ := ints_at ey
      subst eB
      show tOp _ _ _ [some (.int m), some (.int n)] H1 Q'
      walk_at "rd2"
      exact ⟨hm i m n em en, hQ' _ _ (Same.refl _) ⟨m, n, em, en, rfl⟩⟩
    · intro H1 zs s1 ez hlz hr'
      have ey : zs = (List.zipWith (· * ·) ms ns).map V.int := by
        refine list_is (by simp at hlz ⊢; omega) fun j y e => ?_
        obtain ⟨m, n, em, en, rfl⟩ := hr' j y e
        exact ⟨m * n, by rw [List.getElem?_zipWith, em, en], rfl⟩
      subst ey
      exact ⟨_, rfl, _, SqL.of ez, hQ H1 s1⟩
theorem ok_turned (T : Txt K mg t) : FnOk P w K mg base CX0 1 t.a_turned t.d_turned ["rows"] (sp_turned K) := by
  refine T.F_turned.ok sc_turned (fun vs H Q E h => ?_) (fun cdv A outer s H vs Q E hr h => ?_)
  · obtain ⟨b1, b2, a, rows, w, rfl, _⟩ := h
    rfl
  · obtain ⟨b1, b2, a, rows, w, rfl, hM, hne, hw, hw1, hl1, hQ⟩ := h
    refine ⟨_, (pss_one (ps_ret (pe_compG (xs := ["k"]) (fr := [("rows", 0)]) (g := (gName 0)) (tt := (tEl (tCompG (iSeq K (tVar 1)) (gName 0) (tEl (tOp (rIxB K) (tVar 0) (tVar 1))) 1 [("k", 0)]))) (compG_ok (sc := defScope s_turned) (N := N_turned) rfl rfl (by decide +kernel)) rfl (pi_range1 rfl T.z_range (pa_cons (pe_callB call_lenB rfl T.z_len (by decide +kernel) (pa_cons (pe_ix ix_B (pv 0) pe_int (fun _ _ => rfl)) pa_nil)) pa_nil)) (fun _ _ _ hE1 => (pg_ownC (N := ["k", "rows"]) (i := 0) hE1 rfl (by decide +kernel) rfl)) (fun _ _ _ hE1 => (po_el (pe_compG (xs := ["row"]) (fr := [("k", 0)]) (g := (gName 0)) (tt := (tEl (tOp (rIxB K) (tVar 0) (tVar 1)))) (compG_ok (N := ["k", "rows"]) hE1 rfl (by decide +kernel)) rfl (pi_seq (pv 1)) (fun _ _ _ hE2 => (pg_own (N := ["row", "k"]) (i := 0) hE2 rfl (by decide +kernel))) (fun _ _ _ hE2 => (po_el (pe_ix ix_B (pv 0) (pv 1) (fun _ _ => rfl)))))))))), ?_⟩
    show tRet _ _ [some (.ref a)] H
    walk_at "rd2"
    refine compE_st fun B eB => ?_
    simp only [iRng1]
    walk_at "rd2"
    obtain ⟨r0, e0⟩ : ∃ r0, rows[0]? = some r0 := by cases rows with | nil => exact absurd rfl hne | cons r _ => exact ⟨r, rfl⟩
    have w0 : r0.length = w := hw r0 (List.mem_of_getElem? e0)
    obtain ⟨ps, p, k1, k2, k3, k4⟩ := hM.row e0
    refine ⟨b1, a, _, 0, _, rfl, rfl, k1, atI_at k2 rfl, b2, p, _, rfl, k4, ?_⟩
    rw [List.length_map, w0]
    refine ⟨_, rfl, by omega, by omega, fun a1 ha1 => ?_⟩
    rw [Int.toNat_natCast]
    refine cg_range (RowR a1 fun k => colI k rows) ha1 hw1 (RowR.mono (a := a1)) ?_ ?_
    · intro i H1 zs hi s1 ez Q' hQ'
      subst eB
      show tCompG _ _ _ _ _ [some (.int (0 + (i : Int))), some (.ref a)] H1 Q'
      refine compE_st fun B eB => ?_
      simp only [iSeq]
      walk_at "rd2"
      obtain ⟨xs, x1, x2, x3⟩ := (hM.up s1).walk
      refine ⟨b1, ⟨_, x1⟩, fun a2 ha2 => ?_⟩
      refine cg_seq (fun j y _ => ∃ r, rows[j]? = some r ∧ y = .int (r.getD i 0)) ha2 x1 (by omega) (fun _ _ _ _ r _ => r) ?_ ?_
      · intro j x H2 zs2 ex s2 ez2 Q2 hQ2
        obtain ⟨p, r, rfl, er, hp⟩ := x3 j x ex
        subst eB
        show tOp _ _ _ [some (.ref p), some (.int (0 + (i : Int)))] H2 Q2
        walk_at "rd2"
        have hri : i < r.length := by rw [hw r (List.mem_of_getElem? er)]; exact hi
        exact ⟨b2, p, _, _, _, rfl, rfl, hp.up s2, atI_at (int_at (getD_at hri)) (by omega), hQ2 _ _ (Same.refl _) ⟨r, er, rfl⟩⟩
      · intro H2 ys s2 e2 hly hr2
        have ey : ys = (colI i rows).map V.int := by
          refine list_is (by simp [colI]; omega) fun j y e => ?_
          obtain ⟨r, er, rfl⟩ := hr2 j y e
          exact ⟨r.getD i 0, by unfold colI; rw [List.getElem?_map, er]; rfl, rfl⟩
        subst ey
        exact hQ' _ _ s2 ⟨a2, rfl, Ne.symm (ne_of_none ez ha2), e2⟩
    · intro H1 ys s1 e1 hly hr1
      have := MatL.of e1 hr1
      rw [hly] at this
      exact hQ a1 H1 ha1 s1 this
theorem ok_times (T : Txt K mg t) : FnOk P w K mg base CX0 2 t.a_times t.d_times ["one", "other"] (sp_times K) := by
  have G_turned : FnOk P w K mg base CX0 1 t.a_turned t.d_turned ["rows"] (sp_turned K) := ok_turned T
  have G_dot : FnOk P w K mg base CX0 1 t.a_dot t.d_dot ["one", "other"] (sp_dot K) := ok_dot T
  refine T.F_times.ok sc_times (fun vs H Q E h => ?_) (fun cdv A outer s H vs Q E hr h => ?_)
  · obtain ⟨b1, b2, b3, b4, a, b, A, B, w, rfl, _⟩ := h
    rfl
  · obtain ⟨b1, b2, b3, b4, a, b, MA, MB, w, rfl, hA, hB, hne, hw, hwA, hw1, hlA, hlB, hmul, hQ⟩ := h
    refine ⟨_, (pss_cons (ps_set (i := 2) sc_times.nd rfl (Or.inr rfl) (pe_call G_turned (hr.mono (by omega)) rfl T.m_turned T.F_turned.kp T.b_turned .nil pass0 (pa_cons (pv 1) pa_nil)))
      (pss_one (ps_ret (pe_compG (xs := ["row"]) (fr := [("columns", 2)]) (g := (gName 0)) (tt := (tEl (tCompG (iSeq K (tVar 1)) (gName 0) (tEl (tCall (sp_dot K) [] E0 (tCons (tVar 1) (tCons (tVar 0) tNil)))) 1 [("row", 0)]))) (compG_ok (sc := defScope s_times) (N := N_times) rfl rfl (by decide +kernel)) rfl (pi_seq (pv 0)) (fun _ _ _ hE1 => (pg_ownC (N := ["row", "columns"]) (i := 0) hE1 rfl (by decide +kernel) rfl)) (fun _ _ _ hE1 => (po_el (pe_compG (xs := ["column"]) (fr := [("row", 0)]) (g := (gName 0)) (tt := (tEl (tCall (sp_dot K) [] E0 (tCons (tVar 1) (tCons (tVar 0) tNil))))) (compG_ok (N := ["row", "columns"]) hE1 rfl (by decide +kernel)) rfl (pi_seq (pv 1)) (fun _ _ _ hE2 => (pg_own (N := ["column", "row"]) (i := 0) hE2 rfl (by decide +kernel))) (fun _ _ _ hE2 => (po_el (pe_call G_dot (hr.mono (by omega)) rfl T.m_dot T.F_dot.kp T.b_dot .nil pass0 (pa_cons (pv 1) (pa_cons (pv 0) pa_nil)))))))))))), ?_⟩
    show tSeq _ _ _ [some (.ref a), some (.ref b), none] H
    refine st fun N1 e1 => ?_
    walk_at "rd2"
    refine ⟨b3, b4, b, MB, w, rfl, hB, hne, hw, hw1, hlB, fun c H1 hc s1 hC => ?_⟩
    subst e1
    walk_at "rd2"
    refine compE_st fun B eB => ?_
    simp only [iSeq]
    walk_at "rd2"
    obtain ⟨xs, x1, x2, x3⟩ := (hA.up s1).walk
    refine ⟨b1, ⟨_, x1⟩, fun a1 ha1 => ?_⟩
    refine cg_seq (RowR a1 fun j => (List.range w).map fun k => dotI (MA.getD j []) (colI k MB)) ha1 x1 (by omega) (RowR.mono (a := a1)) ?_ ?_
    · intro i x H2 zs ex s2 ez Q' hQ'
      obtain ⟨p, r, rfl, er, hp⟩ := x3 i x ex
      have erD : MA.getD i [] = r := by rw [List.getD_eq_getElem?_getD, er]; rfl
      have hrl : r.length = MB.length := hwA r (List.mem_of_getElem? er)
      subst eB
      show tCompG _ _ _ _ _ [some (.ref p), some (.ref c)] H2 Q'
      refine compE_st fun B eB => ?_
      simp only [iSeq]
      walk_at "rd2"
      obtain ⟨zs2, z1, z2, z3⟩ := ((hC.up s2).b (K := K)).walk
      refine ⟨false, ⟨_, z1⟩, fun a2 ha2 => ?_⟩
      have hlen : (turnM w MB).length = w := by simp [turnM]
      refine cg_seq (fun j y _ => y = .int (dotI r (colI j MB)) ∧ j < w) ha2 z1 (by omega) (fun _ _ _ _ r _ => r) ?_ ?_
      · intro j y H3 zs3 ey s3 ez3 Q2 hQ2
        obtain ⟨q, col, rfl, ec, hq⟩ := z3 j y ey
        have hj : j < w := by have := (List.getElem?_eq_some_iff.mp ec).1; omega
        have ecol : col = colI j MB := by
          unfold turnM at ec
          rw [List.getElem?_map, List.getElem?_range hj] at ec
          exact (Option.some.inj ec).symm
        subst eB ecol
        show tCall _ _ _ _ [some (.ref q), some (.ref p)] H3 Q2
        walk_at "rd2"
        refine ⟨b2, false, p, q, r, colI j MB, rfl, (hp.up s2).up s3, hq.up s3, by simp [colI, hrl], by omega, fun i2 m n e1 e2 => ?_, fun H4 s4 => hQ2 _ _ s4 ⟨rfl, hj⟩⟩
        unfold colI at e2
        rw [List.getElem?_map] at e2
        cases eb : MB[i2]? with
        | none => rw [eb] at e2; cases e2
        | some rb =>
          rw [eb] at e2
          have e2' : rb.getD j 0 = n := Option.some.inj e2
          subst e2'
          have hrb := List.mem_of_getElem? eb
          exact hmul r (List.mem_of_getElem? er) m (List.mem_of_getElem? e1) rb hrb _ (L2.getD_mem (by rw [hw rb hrb]; exact hj))
      · intro H3 ys s3 e3 hly hr3
        have ey : ys = ((List.range w).map fun k => dotI r (colI k MB)).map V.int := by
          refine list_is (by simp; omega) fun j y e => ?_
          obtain ⟨rfl, hj⟩ := hr3 j y e
          exact ⟨_, by rw [List.getElem?_map, List.getElem?_range hj]; rfl, rfl⟩
        subst ey
        exact hQ' _ _ s3 ⟨a2, rfl, Ne.symm (ne_of_none ez ha2), by dsimp only; rw [erD]; exact e3⟩
    · intro H2 ys s2 e2 hly hr2
      have := MatL.of e2 hr2
      have e : (List.range ys.length).map (fun j => (List.range w).map fun k => dotI (MA.getD j []) (colI k MB)) = mulM w MA MB := by
        rw [hly, x2]
        unfold mulM
        refine List.ext_getElem (by simp) fun i h1 h2 => ?_
        simp at h1
        simp [h1]
      rw [e] at this
      have hn : H a1 = none := by
        cases q : H a1 with
        | none => rfl
        | some o => rw [s1 _ _ q] at ha1; cases ha1
      exact hQ a1 H2 hn (s1.trans s2) this

theorem ok_without (T : Txt K mg t) : FnOk P w K mg base CX0 1 t.a_without t.d_without ["rows", "i", "k"] (sp_without K) := by
  refine T.F_without.ok sc_without (fun vs H Q E h => ?_) (fun cdv A outer s H vs Q E hr h => ?_)
  · obtain ⟨b1, b2, a, rows, i, k, w, rfl, _⟩ := h
    rfl
  · obtain ⟨b1, b2, a, rows, i0, k, w, rfl, hM, hw, hk, hw1, hl1, hQ⟩ := h
    refine ⟨_, (pss_one (ps_ret (pe_compG (xs := ["at", "row"]) (fr := [("i", 1), ("k", 2)]) (g := (gTup K 2 (gCons (gName 0) (gCons (gName 1) gNil)))) (tt := (tElIf (tTest (tOp (rI0 fun i j => .bl (!decide (i = j))) (tVar 0) (tVar 2))) (tOp rCat (tCB (rListB K) (tCons (tSl (rSlB K) (tVar 1) tNoPart (tPart (tVar 3))) tNil)) (tCB (rListB K) (tCons (tSl (rSlB K) (tVar 1) (tPart (tOp (rI0 fun i j => .int (i + j)) (tVar 3) (tC (.int 1)))) tNoPart) tNil))))) (compG_ok (sc := defScope s_without) (N := N_without) rfl rfl (by decide +kernel)) rfl (pi_enum rfl T.z_enumerate (pa_cons (pv 0) pa_nil)) (fun _ _ _ hE1 => (pg_tup rfl (pgs_cons (pg_own (N := ["at", "row", "i", "k"]) (i := 0) hE1 rfl (by decide +kernel)) (pgs_cons (pg_own (N := ["at", "row", "i", "k"]) (i := 1) hE1 rfl (by decide +kernel)) pgs_nil)))) (fun _ _ _ hE1 => (po_if (pt_cmpR op_neZ (pv 0) (pv 2) (nomark _)) (pe_op op_cat (pe_callTy call_listB rfl T.z_list (by decide +kernel) (pa_cons (pe_slice sl_B (pv 1) po_none (po_some (pv 3))) pa_nil)) (pe_callTy call_listB rfl T.z_list (by decide +kernel) (pa_cons (pe_slice sl_B (pv 1) (po_some (pe_op op_add (pv 3) pe_int)) po_none) pa_nil)))))))), ?_⟩
    show tRet _ _ [some (.ref a), some (.int i0), some (.int k)] H
    walk_at "rd2"
    refine compI_st fun C0 B0 eC eB => ?_
    simp only [iEnum]
    walk_at "rd2"
    obtain ⟨xs, x1, x2, x3⟩ := hM.walk
    refine ⟨b1, ⟨_, x1⟩, fun a1 ha1 => ?_⟩
    refine cg_enumI (fun t zs H1 => RefRows a1 H1 zs (((rows.take t).eraseIdx i0).map fun (r : List Int) => r.eraseIdx k)) ha1 x1 (by omega) RefRows.nil ?_ (fun _ _ _ _ r s => r.mono s) ?_ ?_
    · intro i zs H1 p
      rw [p.len, List.length_map, List.length_eraseIdx]
      have := List.length_take_le i rows
      split <;> omega
    · intro i x H1 zs ex s1 ez p C hC1 hC2
      obtain ⟨q0, r, rfl, er, hp⟩ := x3 i x ex
      have hrw : r.length = w := hw r (List.mem_of_getElem? er)
      replace hp := hp.up s1
      rw [erase_take er] at hC1 hC2
      subst eC eB
      show tElIf _ _ [some (.int i), some (.ref q0), some (.int i0), some (.int k)] H1 C
      simp only [tElIf]
      walk_at "rd2"
      by_cases z : i = i0
      · subst z
        rw [if_pos rfl] at hC2
        rw [decide_eq_true rfl]
        exact hC2 H1 (Same.refl _) p
      · rw [if_neg z] at hC1
        rw [decide_eq_false (show ¬ (i : Int) = i0 by omega)]
        refine iteT ?_
        refine ⟨b2, q0, _, rfl, hp, fun _ => by rw [List.length_map, HT.sIx_none, HT.sIx_nat]; omega, fun q1 hq1 => ?_⟩
        have sq1 : SqB b2 K (upd H1 q1 (seqO b2 (cutV (r.map V.int) none (some (k : Int))))) q1 (cutV (r.map V.int) none (some (k : Int))) := SqB.cut
        have s2 : Same H1 (upd H1 q1 (seqO b2 (cutV (r.map V.int) none (some (k : Int))))) := Same.new hq1
        generalize upd H1 q1 _ = H2 at sq1 s2
        rw [cut_to (by omega)] at sq1
        refine ⟨b2, q1, _, rfl, sq1, fun q2 hq2 => ?_⟩
        have e2 : (upd H2 q2 (.lst ((r.take k).map V.int))) q2 = some (.lst ((r.take k).map V.int)) := upd_same
        have s3 : Same H2 (upd H2 q2 (.lst ((r.take k).map V.int))) := Same.new hq2
        generalize upd H2 q2 _ = H3 at e2 s3
        refine ⟨b2, q0, _, rfl, (hp.up s2).up s3, fun _ => by rw [List.length_map, HT.sIx_none, show (k : Int) + 1 = ((k + 1 : Nat) : Int) by omega, HT.sIx_nat]; omega, fun q3 hq3 => ?_⟩
        have sq3 : SqB b2 K (upd H3 q3 (seqO b2 (cutV (r.map V.int) (some ((k : Int) + 1)) none))) q3 (cutV (r.map V.int) (some ((k : Int) + 1)) none) := SqB.cut
        have s4 : Same H3 (upd H3 q3 (seqO b2 (cutV (r.map V.int) (some ((k : Int) + 1)) none))) := Same.new hq3
        generalize upd H3 q3 _ = H4 at sq3 s4
        rw [show (k : Int) + 1 = ((k + 1 : Nat) : Int) by omega, cut_from (by omega)] at sq3
        refine ⟨b2, q3, _, rfl, sq3, fun q4 hq4 => ?_⟩
        have s5 : Same H4 (upd H4 q4 (.lst ((r.drop (k + 1)).map V.int))) := Same.new hq4
        have e4 : (upd H4 q4 (.lst ((r.drop (k + 1)).map V.int))) q4 = some (.lst ((r.drop (k + 1)).map V.int)) := upd_same
        generalize upd H4 q4 _ = H5 at e4 s5
        refine ⟨q2, q4, _, _, rfl, rfl, s5 _ _ (s4 _ _ e2), e4, by rw [List.length_map, List.length_map, List.length_take, List.length_drop]; exact Nat.le_of_lt (small1000 (by omega)), fun q5 hq5 => ?_⟩
        have s15 : Same H1 (upd H5 q5 (.lst ((r.take k).map V.int ++ (r.drop (k + 1)).map V.int))) := (((s2.trans s3).trans s4).trans s5).trans (Same.new hq5)
        refine hC1 _ _ s15 ?_
        rw [List.map_append]
        refine (p.mono s15.x).snoc (fun e => ?_) ?_
        · subst e
          rw [s5 _ _ (s4 _ _ (s3 _ _ (s2 _ _ ez)))] at hq5
          cases hq5
        · rw [upd_same]; dsimp only; rw [List.eraseIdx_eq_take_drop_succ, List.map_append]
    · intro H1 ys s1 e1 p
      rw [x2, List.take_length] at p
      exact hQ a1 H1 ha1 s1 (RefRows.mat e1 p)
theorem ok_determinant (T : Txt K mg t) : ∀ n : Nat, FnOk P w K mg base CX0 (n + 1) t.a_determinant t.d_determinant ["rows"] (sp_determinant K n)
  | 0 => ⟨fun _ _ _ _ h => h.elim, fun _ _ _ _ _ _ _ _ _ _ _ _ _ h => h.elim⟩
  | n + 1 => by
    have G_determinant : FnOk P w K mg base CX0 (n + 1) t.a_determinant t.d_determinant ["rows"] (sp_determinant K n) := ok_determinant T n
    have G_without : FnOk P w K mg base CX0 1 t.a_without t.d_without ["rows", "i", "k"] (sp_without K) := ok_without T
    refine T.F_determinant.ok sc_determinant (fun vs H Q E h => ?_) (fun cdv A outer s H vs Q E hr h => ?_)
    · obtain ⟨b1, b2, a, rows, B, rfl, _⟩ := h
      rfl
    · obtain ⟨b1, b2, a, rows, B, rfl, hM, hs, hn, hb, hB, hQ⟩ := h
      refine ⟨_, (pss_cons (ps_if (pt_cmpR op_eqZ (pe_callB call_lenB rfl T.z_len (by decide +kernel) (pa_cons (pv 0) pa_nil)) pe_int (nomark _))
      (pss_one (ps_ret (pe_ix ix_B (pe_ix ix_B (pv 0) pe_int (fun _ _ => rfl)) pe_int (fun _ _ => rfl))))
      pss_nil)
      (pss_cons (ps_set (i := 1) sc_determinant.nd rfl (Or.inl rfl) pe_int)
      (pss_cons (ps_set (i := 2) sc_determinant.nd rfl (Or.inl rfl) pe_int)
      (pss_cons (ps_for PassesOwn.never rfl (pi_enum rfl T.z_enumerate (pa_cons (pe_ix ix_B (pv 0) pe_int (fun _ _ => rfl)) pa_nil)) (pg_tup rfl (pgs_cons (pg_name (i := 3) sc_determinant.nd rfl (Or.inl rfl)) (pgs_cons (pg_name (i := 4) sc_determinant.nd rfl (Or.inl rfl)) pgs_nil)))
      (pss_cons (ps_if (pt_cmpR op_neZ (pv 4) pe_int (nomark _))
      (pss_one (ps_aug (i := 1) sc_determinant.nd rfl (Or.inl rfl) (pe_op op_mulB (pe_op op_mulB (pv 2) (pv 4)) (pe_call G_determinant (hr.mono (by omega)) rfl T.m_determinant T.F_determinant.kp T.b_determinant .nil pass0 (pa_cons (pe_call G_without (hr.mono (by omega)) rfl T.m_without T.F_without.kp T.b_without .nil pass0 (pa_cons (pv 0) (pa_cons pe_int (pa_cons (pv 3) pa_nil)))) pa_nil))) ip_add))
      pss_nil)
      (pss_one (ps_set (i := 2) sc_determinant.nd rfl (Or.inl rfl) (pe_un un_neg (pv 2))))))
      (pss_one (ps_ret (pv 1))))))), ?_⟩
      show tSeq _ _ _ [some (.ref a), none, none, none, none] H
      obtain ⟨e0, m0⟩ := row0 hs
      have hl0 : (rows.getD 0 []).length = n + 1 := hs.2 _ m0
      refine st fun N1 e1 => ?_
      walk_at "rd2"
      refine mat_len hM ?_
      walk_at "rd2"
      rw [hs.1]
      by_cases z : n = 0
      · subst z
        rw [decide_eq_true (by rfl)]
        exact iteT (mat_ix hM e0 (getD_at (k := 0) (by omega)) rfl rfl (hQ H (Same.refl _)))
      · rw [decide_eq_false (show ¬ ((n + 1 : Nat) : Int) = 1 by omega)]
        refine iteF ?_
        obtain ⟨n, rfl⟩ : ∃ m, n = m + 1 := ⟨n - 1, by omega⟩
        subst e1
        refine st fun N1 e1 => ?_
        walk_at "rd2"
        subst e1
        refine st fun N1 e1 => ?_
        walk_at "rd2"
        subst e1
        refine st fun N1 e1 => for_st fun B0 eB => ?_
        simp only [iEnum]
        walk_at "rd2"
        refine mat_row hM e0 rfl fun p hp => ⟨b2, _, rfl, ⟨_, hp⟩, ?_⟩
        generalize hf : (fun k => (rows.getD 0 []).getD k 0 * detM (n + 1) (minorM 0 k rows)) = f
        refine fr_enum (nx := N1) (rt := Q) (fun k σ H1 => ∃ v3 v4, σ = [some (.ref a), some (.int (altS f k)), some (.int (sg k)), v3, v4] ∧ Same H H1) ⟨_, _, rfl, Same.refl _⟩ (fun _ _ _ _ ⟨_, _, _, s1⟩ => hp.up s1) ?_ ?_
        · rintro k x q σ H1 ex ⟨v3, v4, rfl, s1⟩ hq
          obtain ⟨x, ex', rfl⟩ := ints_at ex
          have hk : k < n + 2 := by have := (List.getElem?_eq_some_iff.mp ex').1; omega
          refine ⟨q, [.int k, .int x], rfl, SqT.of upd_same, rfl, _, _, rfl, _, _, rfl, rfl, ?_⟩
          replace s1 := s1.trans (Same.new (o := .tup [.int k, .int x]) hq)
          generalize upd H1 q (.tup [.int k, .int x]) = H2 at s1
          subst eB
          show tSeq _ _ _ [some (.ref a), some (.int (altS f k)), some (.int (sg k)), some (.int k), some (.int x)] H2
          refine st fun N2 e2 => ?_
          have key : ∀ H3 (tot : Int), Same H H3 → tot = altS f (k + 1) → N2 [some (.ref a), some (.int tot), some (.int (sg k)), some (.int k), some (.int x)] H3 := by
            intro H3 tot s3 et
            subst e2 et
            walk_at "rd2"
            rw [sg_succ]
            exact ⟨rfl, s3⟩
          walk_at "rd2"
          have hx0 : (rows.getD 0 []).getD k 0 = x := getD_of ex'
          have hfk : f k = x * detM (n + 1) (minorM 0 k rows) := by rw [← hf]; dsimp only; rw [hx0]
          have hsm := hs.minor (i := 0) (k := k) (by omega) hk
          have hbm : BitsM B (minorM 0 k rows) := hb.minor
          by_cases zx : x = 0
          · rw [decide_eq_true zx]
            refine iteF (key H2 _ s1 ?_)
            show _ = altS f k + sg k * f k
            rw [hfk, zx]
            simp
          · rw [decide_eq_false zx]
            refine iteT ?_
            simp only [tAug, ipI]
            walk_at "rd2"
            refine ⟨IntMulOk.of_left (by unfold sg; split <;> decide), b1, b2, a, rows, 0, k, _, rfl, hM.up s1, hs.2, hk, by omega, by rw [hs.1]; omega, fun r H3 _ s3 hR => ?_⟩
            refine ⟨false, false, r, _, B, rfl, hR.b, hsm, by omega, hbm, hB, fun H4 s4 => ?_⟩
            walk_at "rd2"
            have hxb := hb _ m0 x (by rw [← hx0]; exact L2.getD_mem (by omega))
            have hdb := det_abs (n + 1) _ (by omega) (by omega) hsm hbm
            refine ⟨PyProof.Rows.mulOk_of_bits (m := B + 1) (n := (n + 1) * (B + 2) + 1) (bits_of ?_) (bits_of ?_) ?_, ?_⟩
            · rw [Int.natAbs_mul, sg_abs, Nat.one_mul, Nat.pow_succ]; omega
            · rw [Nat.pow_succ]; have := Nat.two_pow_pos ((n + 1) * (B + 2)); omega
            · have : (n + 1) * (B + 2) ≤ 4 * 1000002 := Nat.mul_le_mul (by omega) (by omega)
              omega
            · refine key H4 _ ((s1.trans s3).trans s4) ?_
              show _ = altS f k + sg k * f k
              rw [hfk, Int.mul_assoc]
        · rintro σ H1 ⟨v3, v4, rfl, s1⟩
          subst e1
          walk_at "rd2"
          rw [List.length_map, hl0]
          have : altS f (n + 2) = detM (n + 2) rows := by rw [← hf]; rfl
          rw [this]
          exact hQ H1 s1

theorem ok_still_rows (T : Txt K mg t) : FnOk P w K mg base CX0 1 t.a_still_rows t.d_still_rows ["size"] sp_still_rows := by
  refine T.F_still_rows.ok sc_still_rows (fun vs H Q E h => ?_) (fun cdv A outer s H vs Q E hr h => ?_)
  · obtain ⟨n, rfl, _⟩ := h
    rfl
  · obtain ⟨n, rfl, hn, hQ⟩ := h
    refine ⟨_, (pss_one (ps_ret (pe_compG (xs := ["i"]) (fr := [("size", 0)]) (g := (gName 0)) (tt := (tEl (tCompG (iRng1 (tCons (tVar 1) tNil)) (gName 0) (tEl (tIf (tTest (tOp (rI0 fun i j => .bl (decide (i = j))) (tVar 1) (tVar 0))) (tC (.int 1)) (tC (.int 0)))) 1 [("i", 0)]))) (compG_ok (sc := defScope s_still_rows) (N := N_still_rows) rfl rfl (by decide +kernel)) rfl (pi_range1 rfl T.z_range (pa_cons (pv 0) pa_nil)) (fun _ _ _ hE1 => (pg_ownC (N := ["i", "size"]) (i := 0) hE1 rfl (by decide +kernel) rfl)) (fun _ _ _ hE1 => (po_el (pe_compG (xs := ["k"]) (fr := [("i", 0)]) (g := (gName 0)) (tt := (tEl (tIf (tTest (tOp (rI0 fun i j => .bl (decide (i = j))) (tVar 1) (tVar 0))) (tC (.int 1)) (tC (.int 0))))) (compG_ok (N := ["i", "size"]) hE1 rfl (by decide +kernel)) rfl (pi_range1 rfl T.z_range (pa_cons (pv 1) pa_nil)) (fun _ _ _ hE2 => (pg_own (N := ["k", "i"]) (i := 0) hE2 rfl (by decide +kernel))) (fun _ _ _ hE2 => (po_el (pe_ifExp (pt_cmpR op_eqZ (pv 1) (pv 0) (nomark _)) pe_int pe_int))))))))), ?_⟩
    show tRet _ _ [some (.int n)] H
    walk_at "rd2"
    refine compE_st fun B eB => ?_
    simp only [iRng1]
    walk_at "rd2"
    refine ⟨by omega, by omega, fun m0 hm0 => ?_⟩
    rw [Int.toNat_natCast]
    refine cg_range (RowR m0 fun i => (List.range n).map fun k => if i = k then (1 : Int) else 0) hm0 hn (RowR.mono (a := m0)) ?_ ?_
    · intro i H2 zs hi s2 ez Q' hQ'
      subst eB
      show tCompG _ _ _ _ _ [some (.int (0 + (i : Int))), some (.int n)] H2 Q'
      refine compE_st fun B eB => ?_
      simp only [iRng1]
      walk_at "rd2"
      refine ⟨by omega, by omega, fun a2 ha2 => ?_⟩
      rw [Int.toNat_natCast]
      refine cg_range (fun k y _ => k < n ∧ y = .int (if i = k then 1 else 0)) ha2 hn (fun _ _ _ _ r _ => r) ?_ ?_
      · intro k H3 zs3 hk s3 ez3 Q2 hQ2
        subst eB
        show tIf _ _ _ [some (.int (0 + (k : Int))), some (.int (0 + (i : Int)))] H3 Q2
        walk_at "rd2"
        by_cases z : i = k
        · rw [decide_eq_true (by omega)]
          exact iteT (hQ2 _ _ (Same.refl _) ⟨hk, by rw [if_pos z]⟩)
        · rw [decide_eq_false (by omega)]
          exact iteF (hQ2 _ _ (Same.refl _) ⟨hk, by rw [if_neg z]⟩)
      · intro H3 ys s3 e3 hly hr3
        have ey : ys = ((List.range n).map fun k => if i = k then (1 : Int) else 0).map V.int := by
          refine list_is (by simpa using hly) fun j y e => ?_
          obtain ⟨hj, rfl⟩ := hr3 j y e
          exact ⟨_, by rw [List.getElem?_map, List.getElem?_range hj]; rfl, rfl⟩
        subst ey
        exact hQ' _ _ s3 ⟨a2, rfl, Ne.symm (ne_of_none ez ha2), e3⟩
    · intro H2 ys s2 e2 hly hr2
      have hM0 := MatL.of e2 hr2
      rw [hly] at hM0
      exact hQ m0 H2 hm0 s2 hM0

theorem deed_ix0 {H : Hp} {p : Addr} {M : List (List Int)} {ts : List Int} {u : Int} {Q : VK} (h : DeedAt K H p M ts u) (q : ∀ x, MatB true true K H x M → Q (.ref x) H) : rIxB K (.ref p) (.int 0) H Q := let ⟨x, y, h1, h2, h3⟩ := h; ⟨true, p, _, _, _, rfl, rfl, SqB.tup h1, rfl, q x h2⟩
theorem deed_ix1 {H : Hp} {p : Addr} {M : List (List Int)} {ts : List Int} {u : Int} {Q : VK} (h : DeedAt K H p M ts u) (q : ∀ x, H x = some (.tup (ts.map V.int)) → Q (.ref x) H) : rIxB K (.ref p) (.int 1) H Q := let ⟨x, y, h1, h2, h3⟩ := h; ⟨true, p, _, _, _, rfl, rfl, SqB.tup h1, rfl, q y h3⟩
theorem deed_ix2 {H : Hp} {p : Addr} {M : List (List Int)} {ts : List Int} {u : Int} {Q : VK} (h : DeedAt K H p M ts u) (q : Q (.int u) H) : rIxB K (.ref p) (.int 2) H Q := let ⟨x, y, h1, h2, h3⟩ := h; ⟨true, p, _, _, _, rfl, rfl, SqB.tup h1, rfl, q⟩
theorem copy_tupB {H : Hp} {a a1 : Addr} {M : List (List Int)} {σ : St} {Q : VK} {b1 b2 : Bool} (hM : MatB b1 b2 K H a M) (hl : M.length ≤ 1000) (ha1 : H a1 = none)
    (hQ : ∀ H1 zs, Same H H1 → H1 a1 = some (.lst zs) → (∀ l, H1 l = none → MatB true true K (upd H1 l (.tup zs)) l M) → Q (.ref a1) H1) : CompWG (Its K b1 a) (gName 0) (tEl (tCB (rTupB K) (tCons (tVar 0) tNil))) 1 [] σ a1 H Q := by
  cases b2 with
  | false =>
    refine copy_tup hM hl ha1 fun H1 s1 hT => ?_
    obtain ⟨zs, hz, _⟩ := id hT
    refine hQ H1 _ s1 hz fun l hl1 => ?_
    obtain ⟨zs', hz', hB⟩ := hT.tuple (K := K) hl1
    rw [hz] at hz'
    cases hz'
    exact hB
  | true =>
    obtain ⟨xs, x1, x2, x3⟩ := hM.walk
    refine cg_seq (fun j y _ => ∃ p r, y = .ref p ∧ M[j]? = some r ∧ SqB true K H p (r.map V.int)) ha1 x1 (by omega) (fun _ _ _ _ r _ => r) ?_ ?_
    · intro i x H1 zs ex s1 ez Q' hQ'
      obtain ⟨p, r, rfl, er, hp⟩ := x3 i x ex
      exact ⟨_, rfl, p, _, rfl, .inr ⟨hp.up s1, hQ' _ _ (Same.refl _) ⟨p, r, rfl, er, hp⟩⟩⟩
    · intro H1 ys s1 e1 hly hr1
      have hps : ∃ ps : List Addr, ys = ps.map V.ref := by
        clear e1 hly
        have : ∀ (zs : List V), (∀ (j : Nat) y, zs[j]? = some y → ∃ p : Addr, y = .ref p) → ∃ ps : List Addr, zs = ps.map V.ref := by
          intro zs
          induction zs with
          | nil => intro _; exact ⟨[], rfl⟩
          | cons z r ih =>
            intro hz
            obtain ⟨p, e⟩ := hz 0 z rfl
            obtain ⟨ps, e2⟩ := ih fun j y q => hz (j + 1) y (by simpa using q)
            exact ⟨p :: ps, by rw [e, e2]; rfl⟩
        exact this ys fun j y e => let ⟨p, r, e1, _⟩ := hr1 j y e; ⟨p, e1⟩
      obtain ⟨ps, rfl⟩ := hps
      refine hQ H1 _ s1 e1 fun l hl1 => ⟨ps, SqB.tup upd_same, by simp at hly; omega, fun i p r e2 e3 => ?_⟩
      obtain ⟨p', r', e4, e5, e6⟩ := hr1 i (.ref p) (by simp [e2])
      cases e4
      rw [e3] at e5
      cases e5
      exact e6.up (s1.trans (Same.new hl1))
theorem ok_joined (T : Txt K mg t) : FnOk P w K mg base CX0 1 t.a_joined t.d_joined ["rows", "spot"] (sp_joined K) := by
  refine T.F_joined.ok sc_joined (fun vs H Q E h => ?_) (fun cdv A outer s H vs Q E hr h => ?_)
  · obtain ⟨b1, b2, a, p, M, ts, u, rfl, _⟩ := h
    rfl
  · obtain ⟨b1, b2, a, p, M, ts, u, rfl, hM, hP, hl, hQ⟩ := h
    refine ⟨_, (pss_one (ps_ret (pe_tup (pa_cons (pe_callTy call_tupB rfl T.z_tuple (by decide +kernel) (pa_cons (pe_compG (xs := ["row"]) (fr := []) (g := (gName 0)) (tt := (tEl (tCB (rTupB K) (tCons (tVar 0) tNil)))) (compG_ok (sc := defScope s_joined) (N := N_joined) rfl rfl (by decide +kernel)) rfl (pi_seq (pv 0)) (fun _ _ _ hE1 => (pg_own (N := ["row"]) (i := 0) hE1 rfl (by decide +kernel))) (fun _ _ _ hE1 => (po_el (pe_callTy call_tupB rfl T.z_tuple (by decide +kernel) (pa_cons (pv 0) pa_nil))))) pa_nil)) (pa_cons (pe_ix ix_B (pv 1) pe_int (fun _ _ => rfl)) (pa_cons (pe_ix ix_B (pv 1) pe_int (fun _ _ => rfl)) pa_nil)))))), ?_⟩
    show tRet _ _ [some (.ref a), some (.ref p)] H
    walk_at "rd2"
    refine compE_st fun B eB => ?_
    simp only [iSeq]
    walk_at "rd2"
    obtain ⟨xs, x1, _⟩ := hM.walk
    refine ⟨b1, ⟨_, x1⟩, fun a1 ha1 => ?_⟩
    subst eB
    refine copy_tupB hM (by omega) ha1 fun H1 zs s1 hz hB => ?_
    refine ⟨a1, _, rfl, .inl ⟨SqL.of hz, fun l hl1 => ?_⟩⟩
    have s2 : Same H (upd H1 l (.tup zs)) := s1.trans (Same.new hl1)
    replace hB := hB l hl1
    generalize upd H1 l (.tup zs) = H2 at s2 hB
    refine place_ix0 (hP.up s2) fun x hx => place_ix1 (hP.up s2) ⟨(by show 3 ≤ sizeLine; decide), fun q hq => hQ q _ (s2.trans (Same.new hq)) ⟨l, x, upd_same, hB.up (Same.new hq), Same.new hq _ _ hx⟩⟩
theorem ok_moved (T : Txt K mg t) : FnOk P w K mg base CX0 3 t.a_moved t.d_moved ["one", "spot"] (sp_moved K) := by
  have G_dot : FnOk P w K mg base CX0 1 t.a_dot t.d_dot ["one", "other"] (sp_dot K) := ok_dot T
  have G_place : FnOk P w K mg base (CX1 P w) 2 t.a_place t.d_place ["tops", "under"] (sp_place K t.a_NoPlace) := ok_place T
  refine T.F_moved.ok sc_moved (fun vs H Q E h => ?_) (fun cdv A outer s H vs Q E hr h => ?_)
  · obtain ⟨p, q, M, ts, ns, u, v, d, rfl, _⟩ := h
    rfl
  · obtain ⟨p, q, M, ts, ns, u, v, d, rfl, hD, hP, fi, hd1, hd4, hnl, bn, hv, hv2, hQ⟩ := h
    refine ⟨_, (pss_cons (ps_setCG (i := 2) (xs := ["row", "top"]) (fr := [("one", 0), ("spot", 1)]) (g := (gTup K 2 (gCons (gName 0) (gCons (gName 1) gNil)))) (tt := (tEl (tOp (rI0 fun i j => .int (i + j)) (tOp (rI (fun i j => IntMulOk i j) fun i j => .int (i * j)) (tCall (sp_dot K) [] E0 (tCons (tVar 0) (tCons (tOp (rIxB K) (tVar 3) (tC (.int 0))) tNil))) (tOp (rIxB K) (tVar 2) (tC (.int 2)))) (tOp (rI (fun i j => IntMulOk i j) fun i j => .int (i * j)) (tVar 1) (tOp (rIxB K) (tVar 3) (tC (.int 1))))))) (compG_ok (sc := defScope s_moved) (N := N_moved) rfl rfl (by decide +kernel)) rfl sc_moved.nd rfl rfl (pi_zip rfl T.z_zip (pa_cons (pe_ix ix_B (pv 0) pe_int (fun _ _ => rfl)) (pa_cons (pe_ix ix_B (pv 0) pe_int (fun _ _ => rfl)) pa_nil))) (fun _ _ _ hE1 => (pg_tup rfl (pgs_cons (pg_own (N := ["row", "top", "one", "spot"]) (i := 0) hE1 rfl (by decide +kernel)) (pgs_cons (pg_own (N := ["row", "top", "one", "spot"]) (i := 1) hE1 rfl (by decide +kernel)) pgs_nil)))) (fun _ _ _ hE1 => (po_el (pe_op op_add (pe_op op_mulB (pe_call G_dot (hr.mono (by omega)) rfl T.m_dot T.F_dot.kp T.b_dot .nil pass0 (pa_cons (pv 0) (pa_cons (pe_ix ix_B (pv 3) pe_int (fun _ _ => rfl)) pa_nil))) (pe_ix ix_B (pv 2) pe_int (fun _ _ => rfl))) (pe_op op_mulB (pv 1) (pe_ix ix_B (pv 3) pe_int (fun _ _ => rfl)))))))
      (pss_one (ps_ret (pe_call G_place (hr.mono (by omega)) rfl T.m_place T.F_place.kp T.b_place .nil passes1 (pa_cons (pv 2) (pa_cons (pe_op op_mulB (pe_ix ix_B (pv 0) pe_int (fun _ _ => rfl)) (pe_ix ix_B (pv 1) pe_int (fun _ _ => rfl))) pa_nil)))))), ?_⟩
    show tSeq _ _ _ [some (.ref p), some (.ref q), none] H
    refine st fun N1 e1 => ?_
    walk_at "rd2"
    refine compE_st fun B eB => ?_
    simp only [iZip]
    walk_at "rd2"
    refine deed_ix0 hD fun x hx => deed_ix1 hD fun y hy => ?_
    obtain ⟨xs, x1, x2, x3⟩ := hx.walk
    refine ⟨true, true, x, rfl, y, rfl, ⟨_, x1⟩, ⟨_, SqB.tup hy⟩, fun a1 ha1 => ?_⟩
    have hraw : ∀ (i : Nat) (r : List Int) (tt : Int), M[i]? = some r → ts[i]? = some tt → (movT M ts u ns v)[i]? = some (dotI r ns * u + tt * v) := fun i r tt e1 e2 => by
      unfold movT
      rw [List.getElem?_zipWith, e1, e2]
    refine cg_zip (fun j z _ => ∃ n, (movT M ts u ns v)[j]? = some n ∧ z = .int n) ha1 x1 (SqB.tup hy) (by rw [x2, fi.sq.1, List.length_map, fi.len]) (by rw [x2, fi.sq.1]; omega) (fun _ _ _ _ r _ => r) ?_ ?_
    · intro i zr zt H1 zs er et s1 ez Q' hQ'
      obtain ⟨pr, r, rfl, er2, hp⟩ := x3 i zr er
      obtain ⟨tt, et2, rfl⟩ := ints_at et
      have hrl : r.length = d := fi.sq.2 r (List.mem_of_getElem? er2)
      have br := fi.bm r (List.mem_of_getElem? er2)
      subst eB
      show tOp _ _ _ [some (.ref pr), some (.int tt), some (.ref p), some (.ref q)] H1 Q'
      walk_at "rd2"
      refine place_ix0 (hP.up s1) fun z hz => ?_
      refine ⟨true, true, pr, z, r, ns, rfl, hp.up s1, SqB.tup hz, by omega, by omega, fun i2 m n e1 e2 => PyProof.Rows.mulOk_of_bits (bits_of (br m (List.mem_of_getElem? e1))) (bits_of (bn n (List.mem_of_getElem? e2))) (by decide), fun H2 s2 => ?_⟩
      refine deed_ix2 (hD.up (s1.trans s2)) ?_
      walk_at "rd2"
      have hda := dot_abs r ns br bn
      have hdb : (dotI r ns).natAbs < 2 ^ 400010 := by
        have : r.length * 2 ^ (200000 + 200000) ≤ 4 * 2 ^ (200000 + 200000) := Nat.mul_le_mul_right _ (by omega)
        have e : (2 : Nat) ^ 400010 = 1024 * 2 ^ (200000 + 200000) := by rw [show (400010 : Nat) = 10 + (200000 + 200000) from rfl, Nat.pow_add]
        have := Nat.two_pow_pos (200000 + 200000)
        omega
      refine ⟨PyProof.Rows.mulOk_of_bits (bits_of hdb) (bits_of (bits150 fi.pos fi.bu)) (by decide), ?_⟩
      refine place_ix1 (hP.up (s1.trans s2)) ?_
      walk_at "rd2"
      refine ⟨PyProof.Rows.mulOk_of_bits (bits_of (fi.bt tt (List.mem_of_getElem? et2))) (bits_of (bits150 hv hv2)) (by decide), ?_⟩
      exact hQ' _ _ s2 ⟨_, hraw i r tt er2 et2, rfl⟩
    · intro H1 zs s1 ez1 hlz hr1
      have hml : (movT M ts u ns v).length = d := by unfold movT; rw [List.length_zipWith, fi.sq.1, fi.len]; omega
      have ey : zs = (movT M ts u ns v).map V.int := list_is (by rw [hlz, x2, fi.sq.1, hml]) hr1
      subst ey
      subst e1
      walk_at "rd2"
      refine deed_ix2 (hD.up s1) ?_
      refine place_ix1 (hP.up s1) ?_
      walk_at "rd2"
      have hsp := small_prod fi.pos fi.bu hv hv2
      refine ⟨PyProof.Rows.mulOk_of_bits (bits_of (bits150 fi.pos fi.bu)) (bits_of (bits150 hv hv2)) (by decide), ?_⟩
      refine ⟨false, a1, _, _, rfl, SqB.lst ez1, by omega, hsp.1, fun z => ?_, fun _ _ r H2 s2 hR => hQ r H2 (s1.trans s2) hR⟩
      rcases z with z | z
      · omega
      · rw [z] at hml; simp at hml; omega
theorem ok_behind (T : Txt K mg t) : FnOk P w K mg base CX0 4 t.a_behind t.d_behind ["one", "other"] (sp_behind K) := by
  have G_dot : FnOk P w K mg base CX0 1 t.a_dot t.d_dot ["one", "other"] (sp_dot K) := ok_dot T
  have G_turned : FnOk P w K mg base CX0 1 t.a_turned t.d_turned ["rows"] (sp_turned K) := ok_turned T
  have G_moved : FnOk P w K mg base CX0 3 t.a_moved t.d_moved ["one", "spot"] (sp_moved K) := ok_moved T
  have G_joined : FnOk P w K mg base CX0 1 t.a_joined t.d_joined ["rows", "spot"] (sp_joined K) := ok_joined T
  refine T.F_behind.ok sc_behind (fun vs H Q E h => ?_) (fun cdv A outer s H vs Q E hr h => ?_)
  · obtain ⟨p, q, M, N, ts, ns, u, v, d, rfl, _⟩ := h
    rfl
  · obtain ⟨p, q, M, N, ts, ns, u, v, d, rfl, hD, hE, f1, f2, hd1, hd4, hQ⟩ := h
    refine ⟨_, (pss_cons (ps_set (i := 2) sc_behind.nd rfl (Or.inr rfl) (pe_call G_turned (hr.mono (by omega)) rfl T.m_turned T.F_turned.kp T.b_turned .nil pass0 (pa_cons (pe_ix ix_B (pv 0) pe_int (fun _ _ => rfl)) pa_nil)))
      (pss_cons (ps_setCG (i := 3) (xs := ["row"]) (fr := [("columns", 2)]) (g := (gName 0)) (tt := (tEl (tCompG (iSeq K (tVar 1)) (gName 0) (tEl (tCall (sp_dot K) [] E0 (tCons (tVar 1) (tCons (tVar 0) tNil)))) 1 [("row", 0)]))) (compG_ok (sc := defScope s_behind) (N := N_behind) rfl rfl (by decide +kernel)) rfl sc_behind.nd rfl rfl (pi_seq (pe_ix ix_B (pv 1) pe_int (fun _ _ => rfl))) (fun _ _ _ hE1 => (pg_ownC (N := ["row", "columns"]) (i := 0) hE1 rfl (by decide +kernel) rfl)) (fun _ _ _ hE1 => (po_el (pe_compG (xs := ["column"]) (fr := [("row", 0)]) (g := (gName 0)) (tt := (tEl (tCall (sp_dot K) [] E0 (tCons (tVar 1) (tCons (tVar 0) tNil))))) (compG_ok (N := ["row", "columns"]) hE1 rfl (by decide +kernel)) rfl (pi_seq (pv 1)) (fun _ _ _ hE2 => (pg_own (N := ["column", "row"]) (i := 0) hE2 rfl (by decide +kernel))) (fun _ _ _ hE2 => (po_el (pe_call G_dot (hr.mono (by omega)) rfl T.m_dot T.F_dot.kp T.b_dot .nil pass0 (pa_cons (pv 1) (pa_cons (pv 0) pa_nil)))))))))
      (pss_one (ps_ret (pe_call G_joined (hr.mono (by omega)) rfl T.m_joined T.F_joined.kp T.b_joined .nil pass0 (pa_cons (pv 3) (pa_cons (pe_call G_moved (hr.mono (by omega)) rfl T.m_moved T.F_moved.kp T.b_moved .nil pass0 (pa_cons (pv 1) (pa_cons (pe_tup (pa_cons (pe_ix ix_B (pv 0) pe_int (fun _ _ => rfl)) (pa_cons (pe_ix ix_B (pv 0) pe_int (fun _ _ => rfl)) pa_nil))) pa_nil))) pa_nil))))))), ?_⟩
    show tSeq _ _ _ [some (.ref p), some (.ref q), none, none] H
    refine st fun N1 e1 => ?_
    walk_at "rd2"
    have hne : M ≠ [] := fun z => by have := f1.sq.1; rw [z] at this; simp at this; omega
    refine deed_ix0 hD fun x hx => ⟨true, true, x, M, d, rfl, hx, hne, f1.sq.2, by omega, by rw [f1.sq.1]; omega, fun c H1 hc s1 hC => ?_⟩
    subst e1
    refine st fun N1 e1 => ?_
    walk_at "rd2"
    refine compE_st fun B eB => ?_
    simp only [iSeq]
    walk_at "rd2"
    refine deed_ix0 (hE.up s1) fun y hy => ?_
    obtain ⟨xs, x1, x2, x3⟩ := hy.walk
    refine ⟨true, y, rfl, ⟨_, x1⟩, fun a1 ha1 => ?_⟩
    refine cg_seq (RowR a1 fun j => (List.range d).map fun k => dotI (N.getD j []) (colI k M)) ha1 x1 (by rw [x2, f2.sq.1]; omega) (RowR.mono (a := a1)) ?_ ?_
    · intro i x H2 zs ex s2 ez Q' hQ'
      obtain ⟨pr, r, rfl, er, hp⟩ := x3 i x ex
      have erD : N.getD i [] = r := by rw [List.getD_eq_getElem?_getD, er]; rfl
      have hrl : r.length = d := f2.sq.2 r (List.mem_of_getElem? er)
      have br := f2.bm r (List.mem_of_getElem? er)
      subst eB
      show tCompG _ _ _ _ _ [some (.ref pr), some (.ref c)] H2 Q'
      refine compE_st fun B eB => ?_
      simp only [iSeq]
      walk_at "rd2"
      obtain ⟨zs2, z1, z2, z3⟩ := ((hC.up s2).b (K := K)).walk
      refine ⟨false, ⟨_, z1⟩, fun a2 ha2 => ?_⟩
      have hlen : (turnM d M).length = d := by simp [turnM]
      refine cg_seq (fun j y _ => y = .int (dotI r (colI j M)) ∧ j < d) ha2 z1 (by omega) (fun _ _ _ _ r _ => r) ?_ ?_
      · intro j y H3 zs3 ey s3 ez3 Q2 hQ2
        obtain ⟨q2, col, rfl, ec, hq⟩ := z3 j y ey
        have hj : j < d := by have := (List.getElem?_eq_some_iff.mp ec).1; omega
        have ecol : col = colI j M := by
          unfold turnM at ec
          rw [List.getElem?_map, List.getElem?_range hj] at ec
          exact (Option.some.inj ec).symm
        subst eB ecol
        show tCall _ _ _ _ [some (.ref q2), some (.ref pr)] H3 Q2
        walk_at "rd2"
        refine ⟨true, false, pr, q2, r, colI j M, rfl, (hp.up s2).up s3, hq.up s3, by simp [colI, hrl, f1.sq.1], by omega, fun i2 m n e1 e2 => ?_, fun H4 s4 => hQ2 _ _ s4 ⟨rfl, hj⟩⟩
        unfold colI at e2
        rw [List.getElem?_map] at e2
        cases eb : M[i2]? with
        | none => rw [eb] at e2; cases e2
        | some rb =>
          rw [eb] at e2
          have e2' : rb.getD j 0 = n := Option.some.inj e2
          subst e2'
          have hrb := List.mem_of_getElem? eb
          exact PyProof.Rows.mulOk_of_bits (bits_of (br m (List.mem_of_getElem? e1))) (bits_of (f1.bm rb hrb _ (L2.getD_mem (by rw [f1.sq.2 rb hrb]; exact hj)))) (by decide)
      · intro H3 ys s3 e3 hly hr3
        have ey : ys = ((List.range d).map fun k => dotI r (colI k M)).map V.int := by
          refine list_is (by simp; omega) fun j y e => ?_
          obtain ⟨rfl, hj⟩ := hr3 j y e
          exact ⟨_, by rw [List.getElem?_map, List.getElem?_range hj]; rfl, rfl⟩
        subst ey
        exact hQ' _ _ s3 ⟨a2, rfl, Ne.symm (ne_of_none ez ha2), by dsimp only; rw [erD]; exact e3⟩
    · intro H2 ys s2 e2 hly hr2
      have hR := MatL.of e2 hr2
      have e : (List.range ys.length).map (fun j => (List.range d).map fun k => dotI (N.getD j []) (colI k M)) = mulM d N M := by
        rw [hly, x2]
        unfold mulM
        refine List.ext_getElem (by simp) fun i h1 h2 => ?_
        simp at h1
        simp [h1]
      rw [e] at hR
      have s02 := s1.trans s2
      subst e1
      walk_at "rd2"
      refine deed_ix1 (hD.up s02) fun z hz => deed_ix2 (hD.up s02) ⟨(by show 2 ≤ sizeLine; decide), fun l hl1 => ?_⟩
      have s3 : Same H2 (upd H2 l (.tup [.ref z, .int u])) := Same.new hl1
      refine ⟨q, l, N, ns, ts, v, u, d, rfl, (hE.up s02).up s3, ⟨z, upd_same, s3 _ _ hz⟩, f2, hd1, hd4, f1.len, f1.bt, f1.pos, f1.bu, fun r H4 s4 hP => ?_⟩
      exact ⟨false, false, a1, r, _, _, _, rfl, ((hR.up s3).up s4).b, hP, by simp [mulM, f2.sq.1]; omega, fun q' H5 s5 hq => hQ q' H5 (((s02.trans s3).trans s4).trans s5) hq⟩

noncomputable def GoodDeed (rows : List (List Int)) (tops : List Int) (u : Int) : Prop := (rows.length = 2 ∨ rows.length = 3) ∧ (∀ r ∈ rows, r.length = rows.length) ∧ tops.length = rows.length ∧ u ≠ 0 ∧ (detM rows.length rows = 1 ∨ detM rows.length rows = -1)
noncomputable def sp_deed (K : PySem.W.Frag) (C : Addr) : Sp := fun vs H Q E => ∃ (b1 b2 b3 : Bool) (a p : Addr) (rows : List (List Int)) (tops : List Int) (u : Int) (B : Nat), vs = [.ref a, .ref p, .int u] ∧ MatB b1 b2 K H a rows ∧ SqB b3 K H p (tops.map V.int) ∧ rows.length ≤ 100 ∧ tops.length ≤ 100 ∧ BitsM B rows ∧ B ≤ 1000000 ∧ small u ∧
  (¬ GoodDeed rows tops u → ∀ H', Same H H' → E (.ref C) none H') ∧ (GoodDeed rows tops u → ∀ q H', Same H H' → DeedAt K H' q rows (redT u tops) (redU u tops) → Q (.ref q) H')
theorem inV2 (L x y : Int) : inV (.int L) [.int x, .int y] = decide (L = x ∨ L = y) := by
  have e : inV (.int L) [.int x, .int y] = (eqV (.int x) (.int L) || (eqV (.int y) (.int L) || false)) := rfl
  have f : ∀ a b : Int, eqV (.int a) (.int b) = decide (a = b) := fun a b => by
    first | rfl | (unfold eqV; rfl) | (simp only [eqV]; by_cases h : a = b <;> simp [h])
  rw [e, f, f, Bool.or_false]
  by_cases h1 : x = L
  · rw [decide_eq_true h1, decide_eq_true (p := L = x ∨ L = y) (Or.inl h1.symm)]; rfl
  · rw [decide_eq_false h1]
    by_cases h2 : y = L
    · rw [decide_eq_true h2, decide_eq_true (p := L = x ∨ L = y) (Or.inr h2.symm)]; rfl
    · rw [decide_eq_false h2, decide_eq_false (p := L = x ∨ L = y) (by omega)]; rfl
theorem sp_det_mk {H : Hp} {Q : VK} {E : XK} {b1 b2 : Bool} {a : Addr} {rows : List (List Int)} {n B : Nat} (h1 : 1 ≤ n) (h3 : n ≤ 4) (hM : MatB b1 b2 K H a rows) (sq : Sq n rows) (hb : BitsM B rows) (hB : B ≤ 1000000) (q : ∀ H', Same H H' → Q (.int (detM n rows)) H') : sp_determinant K n [.ref a] H Q E := by
  match n, h1, h3, sq, q with
  | m + 1, _, h3, sq, q => exact ⟨b1, b2, a, rows, B, rfl, hM, sq, by omega, hb, hB, q⟩
theorem ok_deed (T : Txt K mg t) : FnOk P w K mg base (CX1 P w) 6 t.a_deed t.d_deed ["rows", "tops", "under"] (sp_deed K t.a_NoDeed) := by
  have G_place : FnOk P w K mg base (CX1 P w) 2 t.a_place t.d_place ["tops", "under"] (sp_place K t.a_NoPlace) := ok_place T
  have G_joined : FnOk P w K mg base CX0 1 t.a_joined t.d_joined ["rows", "spot"] (sp_joined K) := ok_joined T
  refine T.F_deed.okX sc_deed (fun vs H Q E h => ?_) (fun cdv A outer s H vs Q E hr h => ?_)
  · obtain ⟨b1, b2, b3, a, p, rows, tops, u, B, rfl, _⟩ := h
    rfl
  · obtain ⟨b1, b2, b3, a, p, rows, tops, u, B, rfl, hM, hS, hl1, hl2, hB, hB1, su, hE, hQ⟩ := h
    obtain ⟨n, hn3, hn⟩ : ∃ n : Nat, n ≤ 3 ∧ ((rows.length = 2 ∨ rows.length = 3) → n = rows.length) := by
      by_cases z : rows.length = 2 ∨ rows.length = 3
      · exact ⟨rows.length, by omega, fun _ => rfl⟩
      · exact ⟨0, by omega, fun h => absurd h z⟩
    have G_determinant : FnOk P w K mg base CX0 (n + 1) t.a_determinant t.d_determinant ["rows"] (sp_determinant K n) := ok_determinant T n
    refine ⟨_, (pss_cons (ps_set (i := 3) sc_deed.nd rfl (Or.inr rfl) (pe_callB call_lenB rfl T.z_len (by decide +kernel) (pa_cons (pv 0) pa_nil)))
      (pss_cons (ps_if (pt_cmpR op_notIn_seq (pv 3) (pe_tup (pa_cons pe_int (pa_cons pe_int pa_nil))) rfl)
      (pss_one (ps_raise rfl landsN_def rfl T.m_NoDeed T.x_NoDeed PySem.F.excBase_ValueError (pa_cons pe_str pa_nil)))
      pss_nil)
      (pss_cons (ps_if (PW.pt (pw_or (pt_val (pe_callB (call_any rfl) rfl T.z_any (by decide +kernel) (pa_cons (pe_compG (xs := ["row"]) (fr := [("axes", 3)]) (g := (gName 0)) (tt := (tEl (tOp (rI0 fun i j => .bl (!decide (i = j))) (tCB (rLenB K) (tCons (tVar 0) tNil)) (tVar 1)))) (compG_ok (sc := defScope s_deed) (N := N_deed) rfl rfl (by decide +kernel)) rfl (pi_seq (pv 0)) (fun _ _ _ hE1 => (pg_own (N := ["row", "axes"]) (i := 0) hE1 rfl (by decide +kernel))) (fun _ _ _ hE1 => (po_el (pe_cmpR op_neZ (pe_callB call_lenB rfl T.z_len (by decide +kernel) (pa_cons (pv 0) pa_nil)) (pv 1) (nomark _))))) pa_nil))) (pw_or1 (pt_cmpR op_neZ (pe_callB call_lenB rfl T.z_len (by decide +kernel) (pa_cons (pv 1) pa_nil)) (pv 3) (nomark _)))))
      (pss_one (ps_raise rfl landsN_def rfl T.m_NoDeed T.x_NoDeed PySem.F.excBase_ValueError (pa_cons pe_str pa_nil)))
      pss_nil)
      (pss_cons (ps_if (pt_cmpR op_eqZ (pv 2) pe_int (nomark _))
      (pss_one (ps_raise rfl landsN_def rfl T.m_NoDeed T.x_NoDeed PySem.F.excBase_ValueError (pa_cons pe_str pa_nil)))
      pss_nil)
      (pss_cons (ps_if (pt_cmpR op_notIn_seq (pe_call G_determinant (hr.mono (by omega)) rfl T.m_determinant T.F_determinant.kp T.b_determinant .nil pass0 (pa_cons (pv 0) pa_nil)) (pe_tup (pa_cons pe_int (pa_cons (pe_un un_neg pe_int) pa_nil))) rfl)
      (pss_one (ps_raise rfl landsN_def rfl T.m_NoDeed T.x_NoDeed PySem.F.excBase_ValueError (pa_cons pe_str pa_nil)))
      pss_nil)
      (pss_one (ps_ret (pe_call G_joined (hr.mono (by omega)) rfl T.m_joined T.F_joined.kp T.b_joined .nil pass0 (pa_cons (pv 0) (pa_cons (pe_call G_place (hr.mono (by omega)) rfl T.m_place T.F_place.kp T.b_place .nil passes1 (pa_cons (pv 1) (pa_cons (pv 2) pa_nil))) pa_nil)))))))))), ?_⟩
    show tSeq _ _ _ [some (.ref a), some (.ref p), some (.int u), none] H
    refine st fun N1 e1 => ?_
    walk_at "rd2"
    refine mat_len hM ?_
    subst e1
    refine st fun N1 e1 => ?_
    simp only [tRaise]
    walk_at "rd2"
    refine ⟨by show 2 ≤ sizeLine; decide, fun p1 hp1 => ?_⟩
    have s1 : Same H (upd H p1 (.tup [.int 2, .int 3])) := Same.new hp1
    refine ⟨p1, _, rfl, .inr (SqT.of upd_same), rfl, rfl, _, rfl, ?_⟩
    generalize upd H p1 (.tup [.int 2, .int 3]) = H1 at s1
    rw [inV2]
    by_cases hax : rows.length = 2 ∨ rows.length = 3
    case neg =>
      rw [decide_eq_false (by omega)]
      refine iteT ?_
      simp only [tRaise]
      walk_at "rd2"
      exact ⟨by decide, hE (fun g => hax g.1) _ s1⟩
    rw [decide_eq_true (by omega)]
    refine iteF ?_
    replace hn := hn hax
    subst hn
    subst e1
    refine st fun N1 e1 => ?_
    walk_at "rd2"
    refine compE_st fun C eC => ?_
    simp only [iSeq]
    walk_at "rd2"
    obtain ⟨xs, x1, x2, x3⟩ := (hM.up s1).walk
    refine ⟨b1, ⟨_, x1⟩, fun a1 ha1 => ?_⟩
    refine cg_seq (fun j y _ => ∃ r, rows[j]? = some r ∧ y = .bl (!decide (r.length = rows.length))) ha1 x1 (by omega) (fun _ _ _ _ r _ => r) ?_ ?_
    · intro i x H2 zs ex s2 ez Q' hQ'
      obtain ⟨pr, rr, rfl, er, hp⟩ := x3 i x ex
      subst eC
      show tOp _ _ _ [some (.ref pr), some (.int rows.length)] H2 Q'
      walk_at "rd2"
      refine ints_len (hp.up s2) ?_
      try walk_at "rd2"
      refine hQ' _ _ (Same.refl _) ⟨rr, er, ?_⟩
      by_cases z : rr.length = rows.length
      · rw [decide_eq_true z, decide_eq_true (by omega)]
      · rw [decide_eq_false z, decide_eq_false (by omega)]
    · intro H2 ys s2 e2 hly hr2
      have ey : ys = (rows.map fun r => !decide (r.length = rows.length)).map V.bl := by
        rw [List.map_map]
        exact list_is (by omega) hr2
      subst ey
      refine ⟨a1, rfl, _, SqL.of e2, ?_⟩
      try walk_at "rd2"
      have s02 := s1.trans s2
      by_cases hsq : ∀ r ∈ rows, r.length = rows.length
      case neg =>
        have hany : (rows.map fun r => !decide (r.length = rows.length)).any id = true := by
          rw [List.any_eq_true]
          obtain ⟨r, hr⟩ := Classical.not_forall.mp hsq
          obtain ⟨hr1, hr2⟩ := Classical.not_imp.mp hr
          exact ⟨true, List.mem_map.mpr ⟨r, hr1, by rw [decide_eq_false hr2]; rfl⟩, rfl⟩
        rw [hany]
        refine iteT ?_
        simp only [tRaise]
        walk_at "rd2"
        exact ⟨by decide, hE (fun g => hsq g.2.1) _ s02⟩
      have hany : (rows.map fun r => !decide (r.length = rows.length)).any id = false := by
        rw [List.any_eq_false]
        intro b hb
        obtain ⟨r, hr, rfl⟩ := List.mem_map.mp hb
        rw [decide_eq_true (hsq r hr)]
        decide
      rw [hany]
      refine iteF ?_
      refine ints_len (hS.up s02) ?_
      try walk_at "rd2"
      by_cases htl : tops.length = rows.length
      case neg =>
        rw [decide_eq_false (by omega)]
        refine iteT ?_
        simp only [tRaise]
        walk_at "rd2"
        exact ⟨by decide, hE (fun g => htl g.2.2.1) _ s02⟩
      rw [decide_eq_true (by omega)]
      refine iteF ?_
      subst e1
      refine st fun N1 e1 => ?_
      simp only [tRaise]
      walk_at "rd2"
      refine ite2 (fun z => ⟨by decide, hE (fun g => g.2.2.2.1 (of_decide_eq_true z)) _ s02⟩) (fun z => ?_)
      have hu : u ≠ 0 := fun q => z (decide_eq_true q)
      subst e1
      refine st fun N1 e1 => ?_
      walk_at "rd2"
      refine sp_det_mk (by omega) (by omega) (hM.up s02) ⟨rfl, hsq⟩ hB hB1 fun H3 s3 => ?_
      try walk_at "rd2"
      refine ⟨by show 2 ≤ sizeLine; decide, fun p2 hp2 => ?_⟩
      have s4 : Same H3 (upd H3 p2 (.tup [.int 1, .int (-1)])) := Same.new hp2
      refine ⟨p2, _, rfl, .inr (SqT.of upd_same), rfl, rfl, _, rfl, ?_⟩
      generalize upd H3 p2 (.tup [.int 1, .int (-1)]) = H4 at s4
      have s04 := (s02.trans s3).trans s4
      rw [inV2]
      by_cases hdt : detM rows.length rows = 1 ∨ detM rows.length rows = -1
      case neg =>
        rw [decide_eq_false hdt]
        refine iteT ?_
        simp only [tRaise]
        walk_at "rd2"
        exact ⟨by decide, hE (fun g => hdt g.2.2.2.2) _ s04⟩
      rw [decide_eq_true hdt]
      refine iteF ?_
      subst e1
      walk_at "rd2"
      refine ⟨b3, p, tops, u, rfl, hS.up s04, hl2, su, fun z => ?_, fun _ _ sp H5 s5 hP => ⟨b1, b2, a, sp, rows, _, _, rfl, hM.up (s04.trans s5), hP, hl1, fun q H6 s6 hq => hQ ⟨hax, hsq, htl, hu, hdt⟩ q H6 ((s04.trans s5).trans s6) hq⟩⟩
      rcases z with z | z
      · exact absurd z hu
      · rw [z] at htl
        simp at htl
        omega
noncomputable def sp_still (K : PySem.W.Frag) : Sp := fun vs H Q _ => ∃ d : Nat, vs = [.int d] ∧ (d = 2 ∨ d = 3) ∧ ∀ q H', Same H H' → DeedAt K H' q (idM d) (List.replicate d 0) 1 → Q (.ref q) H'
theorem gl_one (ns : List Int) : gl 1 ns = 1 := Int.eq_one_of_dvd_one (gl_nonneg 1 ns) (gl_u 1 ns)
theorem good_still {d : Nat} (hd : d = 2 ∨ d = 3) : GoodDeed (idM d) (List.replicate d 0) 1 ∧ BitsM 1 (idM d) := by
  rcases hd with rfl | rfl
  · exact ⟨⟨.inl rfl, by decide, by decide, by decide, .inl (by decide)⟩, by intro r hr x hx; revert r x; decide⟩
  · exact ⟨⟨.inr rfl, by decide, by decide, by decide, .inl (by decide)⟩, by intro r hr x hx; revert r x; decide⟩
theorem small_one : small 1 := small_lt (B := 1) (by decide) (by decide)
theorem ok_still (T : Txt K mg t) : FnOk P w K mg base CX0 8 t.a_still t.d_still ["d"] (sp_still K) := by
  have G_deed : FnOk P w K mg base (CX1 P w) 6 t.a_deed t.d_deed ["rows", "tops", "under"] (sp_deed K t.a_NoDeed) := ok_deed T
  have G_still_rows : FnOk P w K mg base CX0 1 t.a_still_rows t.d_still_rows ["size"] sp_still_rows := ok_still_rows T
  refine T.F_still.ok sc_still (fun vs H Q E h => ?_) (fun cdv A outer s H vs Q E hr h => ?_)
  · obtain ⟨d, rfl, _⟩ := h
    rfl
  · obtain ⟨d, rfl, hd, hQ⟩ := h
    refine ⟨_, (pss_one (ps_ret (pe_call G_deed (hr.mono (by omega)) rfl T.m_deed T.F_deed.kp T.b_deed .nil passes1 (pa_cons (pe_call G_still_rows (hr.mono (by omega)) rfl T.m_still_rows T.F_still_rows.kp T.b_still_rows .nil pass0 (pa_cons (pv 0) pa_nil)) (pa_cons (pe_op op_rep (pe_lst (pa_cons pe_int pa_nil)) (pv 0)) (pa_cons pe_int pa_nil)))))), ?_⟩
    show tRet _ _ [some (.int d)] H
    walk_at "rd2"
    refine ⟨d, rfl, by omega, fun r H1 _ s1 hR => ?_⟩
    try walk_at "rd2"
    refine ⟨by show 1 ≤ sizeLine; decide, fun l hl => ?_⟩
    have s2 : Same H1 (upd H1 l (.lst [.int 0])) := Same.new hl
    have el : (upd H1 l (.lst [.int 0])) l = some (.lst [.int 0]) := upd_same
    generalize upd H1 l (.lst [.int 0]) = H2 at s2 el
    refine ⟨l, d, _, rfl, rfl, el, by omega, by omega, ?_, fun l2 hl2 => ?_⟩
    · rw [Int.toNat_natCast]
      show 1 * d ≤ sizeLine
      have : 3 ≤ sizeLine := by decide
      omega
    have s3 : Same H2 (upd H2 l2 (.lst (List.replicate (d : Int).toNat [V.int 0]).flatten)) := Same.new hl2
    have e3 : (upd H2 l2 (.lst (List.replicate (d : Int).toNat [V.int 0]).flatten)) l2 = some (.lst ((List.replicate d (0 : Int)).map V.int)) := by
      rw [upd_same, Int.toNat_natCast]
      rcases hd with rfl | rfl <;> rfl
    generalize upd H2 l2 (.lst (List.replicate (d : Int).toNat [V.int 0]).flatten) = H3 at s3 e3
    obtain ⟨g, gb⟩ := good_still hd
    have hrs := red_same (u := 1) (by decide) (gl_one (List.replicate d 0))
    have e1 : redT 1 (List.replicate d 0) = List.replicate d 0 := hrs.1
    have e2 : redU 1 (List.replicate d 0) = 1 := hrs.2
    refine ⟨false, false, false, r, l2, idM d, List.replicate d 0, 1, 1, rfl, ((hR.up s2).up s3).b, SqB.lst e3, by simp [idM]; omega, by simp; omega, gb, by decide, small_one, fun n => absurd g n, fun _ q H4 s4 hq => ?_⟩
    rw [e1, e2] at hq
    exact hQ q H4 ((s1.trans (s2.trans s3)).trans s4) hq
theorem ok_span (T : Txt K mg t) : FnOk P w K mg base CX0 3 t.a_span t.d_span ["rows"] (sp_span K) := by
  have G_still_rows : FnOk P w K mg base CX0 1 t.a_still_rows t.d_still_rows ["size"] sp_still_rows := ok_still_rows T
  have G_times : FnOk P w K mg base CX0 2 t.a_times t.d_times ["one", "other"] (sp_times K) := ok_times T
  refine T.F_span.ok sc_span (fun vs H Q E h => ?_) (fun cdv A outer s H vs Q E hr h => ?_)
  · obtain ⟨b1, b2, a, MA, d, B, rfl, _⟩ := h
    rfl
  · obtain ⟨b1, b2, a, MA, d, B, rfl, hA, sA, hd, hb, hB, hQ⟩ := h
    have hu := hr.units
    have hd3 : d ≤ 3 := by omega
    refine ⟨_, (pss_cons (ps_set (i := 1) sc_span.nd rfl (Or.inl rfl) (pe_call G_still_rows (hr.mono (by omega)) rfl T.m_still_rows T.F_still_rows.kp T.b_still_rows .nil pass0 (pa_cons (pe_callB call_lenB rfl T.z_len (by decide +kernel) (pa_cons (pv 0) pa_nil)) pa_nil)))
      (pss_cons (ps_setCG (i := 2) (xs := ["row"]) (fr := []) (g := (gName 0)) (tt := (tEl (tCB (rListB K) (tCons (tVar 0) tNil)))) (compG_ok (sc := defScope s_span) (N := N_span) rfl rfl (by decide +kernel)) rfl sc_span.nd rfl rfl (pi_seq (pv 0)) (fun _ _ _ hE1 => (pg_own (N := ["row"]) (i := 0) hE1 rfl (by decide +kernel))) (fun _ _ _ hE1 => (po_el (pe_callTy call_listB rfl T.z_list (by decide +kernel) (pa_cons (pv 0) pa_nil)))))
      (pss_cons (ps_for PassesOwn.never rfl (pi_range2 rfl T.z_range (pa_cons pe_int (pa_cons (pe_op op_add (pe_globE (v := (.int 6)) rfl T.g_LONGEST_SPAN) pe_int) pa_nil))) (pg_name (i := 3) sc_span.nd rfl (Or.inl rfl))
      (pss_cons (ps_if (pt_cmpR (op_eqD hu) (pv 2) (pv 1) (nomark _))
      (pss_one (ps_ret (pv 3)))
      pss_nil)
      (pss_one (ps_set (i := 2) sc_span.nd rfl (Or.inl rfl) (pe_call G_times (hr.mono (by omega)) rfl T.m_times T.F_times.kp T.b_times .nil pass0 (pa_cons (pv 2) (pa_cons (pv 0) pa_nil)))))))
      (pss_one (ps_ret pe_int))))), ?_⟩
    show tSeq _ _ _ [some (.ref a), none, none, none] H
    refine st fun N1 e1 => ?_
    walk_at "rd2"
    refine mat_len hA ?_
    rw [sA.1]
    refine ⟨d, rfl, by omega, fun s0 H1 hs0 s1 hI => ?_⟩
    subst e1
    refine st fun N1 e1 => ?_
    walk_at "rd2"
    refine compE_st fun B0 eB => ?_
    simp only [iSeq]
    walk_at "rd2"
    obtain ⟨xs, x1, _⟩ := (hA.up s1).walk
    refine ⟨b1, ⟨_, x1⟩, fun r0 hr0 => ?_⟩
    subst eB
    refine copy_list (hA.up s1) (by rw [sA.1]; omega) hr0 fun H2 s2 hR => ?_
    subst e1
    refine st fun N1 e1 => for_st fun B0 eB => ?_
    simp only [iRng2]
    walk_at "rd2"
    refine ⟨by omega, by omega, by omega, by omega, ?_⟩
    rw [show ((6 : Int) + 1 - 1).toNat = 6 from rfl]
    refine fr_range (g := gName 3) (tb := B0) (fun i σ H3 => ∃ r v3, σ = [some (.ref a), some (.ref s0), some (.ref r), v3] ∧ Same H2 H3 ∧ MatL H3 r (pw d MA i) ∧ ∀ j < i, pw d MA j ≠ idM d) ⟨_, _, rfl, Same.refl _, hR, fun j hj => by omega⟩ ?_ ?_
    · rintro i σ H3 hi ⟨r, v3, rfl, s3, hP, hno⟩
      have hI3 := (hI.up s2).up s3
      have s03 := (s1.trans s2).trans s3
      subst eB
      show tSeq _ _ _ [some (.ref a), some (.ref s0), some (.ref r), some (.int (1 + (i : Int)))] H3
      refine st fun N2 e2 => ?_
      walk_at "rd2"
      refine eqD_of 2 (by decide) (Dt.matB (hP.b (K := K))) (Dt.matB (hI3.b (K := K))) (iT_mat _ _ 0 _) (iT_mat _ _ 0 _) (b := decide (pw d MA i = idM d)) (by rw [matD_inj, decide_eq_true_eq]) ?_
      walk_at "rd2"
      refine ite2 (fun z => ?_) (fun z => ?_)
      · refine hQ _ _ s03 (.inr ⟨i, hi, by omega, of_decide_eq_true z, hno⟩)
      · have hne : pw d MA i ≠ idM d := fun e => z (decide_eq_true e)
        subst e2
        walk_at "rd2"
        have bP := BitsM.pw (by omega) sA hb i
        have w1 : (i + 1) * (B + 3) ≤ 7 * 1000003 := Nat.mul_le_mul (by omega) (by omega)
        have hne0 : MA ≠ [] := fun z => by have := sA.1; rw [z] at this; simp at this; omega
        refine ⟨false, false, b1, b2, r, a, _, MA, d, rfl, hP.b, hA.up s03, hne0, sA.2, fun z hz => by rw [(Sq.pw sA i).2 z hz, sA.1], by omega, by rw [(Sq.pw sA i).1]; omega, by rw [sA.1]; omega, mul_ok_bits bP hb (by omega), fun r2 H4 _ s4 hR2 => ?_⟩
        refine ⟨_, rfl, s3.trans s4, hR2, fun j hj => ?_⟩
        by_cases e : j = i
        · rw [e]; exact hne
        · exact hno j (by omega)
    · rintro σ H3 ⟨r, v3, rfl, s3, hP, hno⟩
      subst e1
      walk_at "rd2"
      exact hQ _ _ ((s1.trans s2).trans s3) (.inl ⟨rfl, hno⟩)

noncomputable def menu2 : List (List (List Int)) := [[[1, 0], [0, 1]], [[-1, 0], [0, -1]], [[0, -1], [1, 0]], [[0, -1], [1, -1]], [[1, -1], [1, 0]], [[-1, 0], [0, 1]], [[0, 1], [1, 0]], [[1, 1], [0, 1]], [[2, 1], [1, 1]], [[1, 1], [1, 0]], [[0, 1], [1, 3]], [[-1, 1], [0, -1]]]
noncomputable def menu3 : List (List (List Int)) := [[[1, 0, 0], [0, 1, 0], [0, 0, 1]], [[-1, 0, 0], [0, -1, 0], [0, 0, 1]], [[0, -1, 0], [1, -1, 0], [0, 0, 1]], [[0, -1, 0], [1, 0, 0], [0, 0, 1]], [[1, -1, 0], [1, 0, 0], [0, 0, 1]], [[0, 0, 1], [1, 0, 0], [0, 1, 0]],
  [[0, 1, 0], [1, 0, 0], [0, 0, -1]], [[0, 0, -1], [0, 1, 0], [1, 0, 0]], [[-1, 0, 1], [0, -1, 1], [0, 0, 1]], [[1, 0, 0], [0, 1, 1], [0, 0, 1]], [[0, 0, 1], [1, 0, 1], [0, 1, 0]], [[0, 1, 0], [0, 1, -1], [-1, 1, 0]], [[-1, 1, 0], [0, -1, 0], [0, 0, 1]], [[0, 0, 1], [1, 0, 0], [0, 1, 1]], [[0, 0, 1], [1, 0, 0], [0, 1, 2]]]
noncomputable def negM (M : List (List Int)) : List (List Int) := M.map fun r => r.map fun x => -x
noncomputable def menu : List (List (List Int)) := menu2 ++ menu3 ++ menu3.map negM
noncomputable def firstI (d : Nat) (A : List (List Int)) : Nat → List (List Int) → Nat → Option Nat
  | 0, _, _ => none
  | f + 1, X, k => if X = idM d then some k else firstI d A f (mulM d X A) (k + 1)
theorem first_none {d : Nat} {A : List (List Int)} : ∀ (f k : Nat), firstI d A f (pw d A k) k = none → ∀ j, k ≤ j → j < k + f → pw d A j ≠ idM d
  | 0, k, _, j, h1, h2 => by omega
  | f + 1, k, h, j, h1, h2 => by
    unfold firstI at h
    split at h
    · cases h
    · rename_i hne
      by_cases e : j = k
      · rw [e]; exact hne
      · exact first_none f (k + 1) h j (by omega) (by omega)
theorem first_some {d : Nat} {A : List (List Int)} {m : Nat} : ∀ (f k : Nat), firstI d A f (pw d A k) k = some m → k ≤ m ∧ m < k + f ∧ pw d A m = idM d ∧ ∀ j, k ≤ j → j < m → pw d A j ≠ idM d
  | 0, k, h => by cases h
  | f + 1, k, h => by
    unfold firstI at h
    split at h
    · rename_i he
      cases h
      exact ⟨Nat.le_refl _, by omega, he, fun j h1 h2 => by omega⟩
    · rename_i hne
      obtain ⟨q1, q2, q3, q4⟩ := first_some f (k + 1) h
      refine ⟨by omega, by omega, q3, fun j h1 h2 => ?_⟩
      by_cases e : j = k
      · rw [e]; exact hne
      · exact q4 j (by omega) h2
noncomputable def menuOk (M : List (List Int)) : Bool := decide (M.length = 2 ∨ M.length = 3) && M.all (fun r => decide (r.length = M.length) && r.all fun x => decide (x.natAbs < 4)) && decide (firstI M.length M 6 M 0 ≠ some 4) && (decide (firstI M.length M 6 M 0 ≠ none) || decide (firstI M.length M 60 M 0 = none))
theorem menu_ok : ∀ M ∈ menu, menuOk M = true := by decide +kernel
theorem menu_sq {M : List (List Int)} (h : M ∈ menu) : (M.length = 2 ∨ M.length = 3) ∧ Sq M.length M ∧ BitsM 2 M := by
  have := menu_ok M h
  simp only [menuOk, Bool.and_eq_true, decide_eq_true_eq, List.all_eq_true] at this
  obtain ⟨⟨⟨h1, h2⟩, _⟩, _⟩ := this
  exact ⟨h1, ⟨rfl, fun r hr => (h2 r hr).1⟩, fun r hr x hx => (h2 r hr).2 x hx⟩
noncomputable def mixI (d : Nat) (x y : List Int) (m : Int) (k : Nat) : List Int := (List.range d).map fun t => if t < k then x.getD t 0 + m * y.getD t 0 else x.getD t 0
noncomputable def colO (i j : Nat) (m : Int) (r : List Int) : List Int := r.set j (r.getD j 0 - m * r.getD i 0)
noncomputable def colT (d i j : Nat) (m : Int) (B : List (List Int)) (t : Nat) : List (List Int) := (List.range d).map fun s => if s < t then colO i j m (B.getD s []) else B.getD s []
theorem range_set {α : Type} {d k : Nat} {f : Nat → α} {v : α} : ((List.range d).map f).set k v = (List.range d).map fun t => if t = k then v else f t := by
  refine List.ext_getElem (by simp) fun i h1 h2 => ?_
  simp at h1
  rw [List.getElem_set]
  by_cases e : k = i
  · subst e; simp
  · rw [if_neg e]; simp [Ne.symm e]
theorem mix_zero {d : Nat} {x y : List Int} {m : Int} (h : x.length = d) : mixI d x y m 0 = x := by
  unfold mixI
  refine List.ext_getElem (by simp [h]) fun i h1 h2 => ?_
  simp at h1
  simp [h2]
theorem mix_succ {d k : Nat} {x y : List Int} {m : Int} : (mixI d x y m k).set k (x.getD k 0 + m * y.getD k 0) = mixI d x y m (k + 1) := by
  unfold mixI
  rw [range_set]
  refine List.map_congr_left fun t _ => ?_
  by_cases e : t = k
  · subst e; simp
  · rw [if_neg e]
    by_cases h : t < k
    · rw [if_pos h, if_pos (by omega)]
    · rw [if_neg h, if_neg (by omega)]
theorem col_zero {d i j : Nat} {m : Int} {B : List (List Int)} (h : B.length = d) : colT d i j m B 0 = B := by
  unfold colT
  refine List.ext_getElem (by simp [h]) fun i h1 h2 => ?_
  simp at h1
  simp [h2]
theorem col_succ {d i j t : Nat} {m : Int} {B : List (List Int)} : (colT d i j m B t).set t (colO i j m (B.getD t [])) = colT d i j m B (t + 1) := by
  unfold colT
  rw [range_set]
  refine List.map_congr_left fun s _ => ?_
  by_cases e : s = t
  · subst e; simp
  · rw [if_neg e]
    by_cases h : s < t
    · rw [if_pos h, if_pos (by omega)]
    · rw [if_neg h, if_neg (by omega)]
noncomputable def stepM (d i j : Nat) (m : Int) (A : List (List Int)) : List (List Int) := colT d i j m (A.set i (mixI d (A.getD i []) (A.getD j []) m d)) d
theorem step_conj {d i j : Nat} {m : Int} (hd : d = 2 ∨ d = 3) (hi : i < d) (hj : j < d) (hij : i ≠ j) {A : List (List Int)} (hA : Sq d A) : Conj d A (stepM d i j m A) := by
  rcases hd with e | e <;> subst e
  · obtain ⟨a, b, c, d, rfl⟩ := sq2 hA
    rcases (show (i = 0 ∧ j = 1) ∨ (i = 1 ∧ j = 0) by omega) with ⟨e1, e2⟩ | ⟨e1, e2⟩ <;> subst e1 e2
    · refine ⟨[[1, m], [0, 1]], [[1, -m], [0, 1]], ⟨rfl, by simp⟩, ⟨rfl, by simp⟩, by rw [mul2, id2]; simp; omega, by rw [mul2, id2]; simp; omega, ?_⟩
      rw [mul2, mul2]
      simp [stepM, colT, colO, mixI, List.range, List.range.loop]
      grind
    · refine ⟨[[1, 0], [m, 1]], [[1, 0], [-m, 1]], ⟨rfl, by simp⟩, ⟨rfl, by simp⟩, by rw [mul2, id2]; simp; omega, by rw [mul2, id2]; simp; omega, ?_⟩
      rw [mul2, mul2]
      simp [stepM, colT, colO, mixI, List.range, List.range.loop]
      grind
  · obtain ⟨a, b, c, d, e, f, g, h, k, rfl⟩ := sq3 hA
    rcases (show (i = 0 ∧ j = 1) ∨ (i = 0 ∧ j = 2) ∨ (i = 1 ∧ j = 0) ∨ (i = 1 ∧ j = 2) ∨ (i = 2 ∧ j = 0) ∨ (i = 2 ∧ j = 1) by omega) with ⟨e1, e2⟩ | ⟨e1, e2⟩ | ⟨e1, e2⟩ | ⟨e1, e2⟩ | ⟨e1, e2⟩ | ⟨e1, e2⟩ <;> subst e1 e2
    · refine ⟨[[1, m, 0], [0, 1, 0], [0, 0, 1]], [[1, -m, 0], [0, 1, 0], [0, 0, 1]], ⟨rfl, by simp⟩, ⟨rfl, by simp⟩, by rw [mul3, id3]; simp; try omega, by rw [mul3, id3]; simp; try omega, ?_⟩
      rw [mul3, mul3]; simp [stepM, colT, colO, mixI, List.range, List.range.loop]; grind
    · refine ⟨[[1, 0, m], [0, 1, 0], [0, 0, 1]], [[1, 0, -m], [0, 1, 0], [0, 0, 1]], ⟨rfl, by simp⟩, ⟨rfl, by simp⟩, by rw [mul3, id3]; simp; try omega, by rw [mul3, id3]; simp; try omega, ?_⟩
      rw [mul3, mul3]; simp [stepM, colT, colO, mixI, List.range, List.range.loop]; grind
    · refine ⟨[[1, 0, 0], [m, 1, 0], [0, 0, 1]], [[1, 0, 0], [-m, 1, 0], [0, 0, 1]], ⟨rfl, by simp⟩, ⟨rfl, by simp⟩, by rw [mul3, id3]; simp; try omega, by rw [mul3, id3]; simp; try omega, ?_⟩
      rw [mul3, mul3]; simp [stepM, colT, colO, mixI, List.range, List.range.loop]; grind
    · refine ⟨[[1, 0, 0], [0, 1, m], [0, 0, 1]], [[1, 0, 0], [0, 1, -m], [0, 0, 1]], ⟨rfl, by simp⟩, ⟨rfl, by simp⟩, by rw [mul3, id3]; simp; try omega, by rw [mul3, id3]; simp; try omega, ?_⟩
      rw [mul3, mul3]; simp [stepM, colT, colO, mixI, List.range, List.range.loop]; grind
    · refine ⟨[[1, 0, 0], [0, 1, 0], [m, 0, 1]], [[1, 0, 0], [0, 1, 0], [-m, 0, 1]], ⟨rfl, by simp⟩, ⟨rfl, by simp⟩, by rw [mul3, id3]; simp; try omega, by rw [mul3, id3]; simp; try omega, ?_⟩
      rw [mul3, mul3]; simp [stepM, colT, colO, mixI, List.range, List.range.loop]; grind
    · refine ⟨[[1, 0, 0], [0, 1, 0], [0, m, 1]], [[1, 0, 0], [0, 1, 0], [0, -m, 1]], ⟨rfl, by simp⟩, ⟨rfl, by simp⟩, by rw [mul3, id3]; simp; try omega, by rw [mul3, id3]; simp; try omega, ?_⟩
      rw [mul3, mul3]; simp [stepM, colT, colO, mixI, List.range, List.range.loop]; grind
theorem atI_ints {ns : List Int} {k : Int} (h0 : 0 ≤ k) (h1 : k < ns.length) : atI (ns.map V.int) k = some (.int (ns.getD k.toNat 0)) := by
  obtain ⟨j, rfl⟩ := Int.eq_ofNat_of_zero_le h0
  exact atI_at (int_at (getD_at (by omega))) rfl
noncomputable def sp_law_cell_at (K : PySem.W.Frag) : Sp := fun vs H Q _ => ∃ (p : Addr) (ns : List Int) (k : Int), vs = [.ref p, .int k] ∧ SqL K H p (ns.map V.int) ∧ 0 ≤ k ∧ Q (.int (ns.getD k.toNat 0)) H
noncomputable def sp_law_whole : Sp := fun vs H Q _ => ∃ i, vs = [.int i] ∧ Q (.bl true) H
noncomputable def sp_law_first (K : PySem.W.Frag) : Sp := fun vs H Q _ => ∃ c : Int, vs = [.int c] ∧ ∀ r H' M, Same H H' → MatL H' r M → M ∈ menu → Q (.ref r) H'
theorem ok_law_cell_at (T : Txt K mg t) : FnOk P w K mg base CX0 1 t.a_law_cell_at t.d_law_cell_at ["_law_script", "_law_k"] (sp_law_cell_at K) := by
  refine T.F_law_cell_at.ok sc_law_cell_at (fun vs H Q E h => ?_) (fun cdv A outer s H vs Q E hr h => ?_)
  · obtain ⟨p, ns, k, rfl, _⟩ := h
    rfl
  · obtain ⟨p, ns, k, rfl, hS, h0, q⟩ := h
    refine ⟨_, (pss_cons (ps_if (pt_cmpR op_lt (pv 1) (pe_callB call_lenB rfl T.z_len (by decide +kernel) (pa_cons (pv 0) pa_nil)) (nomark _))
      (pss_one (ps_ret (pe_ix ix_B (pv 0) (pv 1) (fun _ _ => rfl))))
      pss_nil)
      (pss_one (ps_ret pe_int))), ?_⟩
    show tSeq _ _ _ [some (.ref p), some (.int k)] H
    walk_at "rd2"
    refine ints_len (b := false) hS ?_
    walk_at "rd2"
    by_cases z : k < ns.length
    · rw [decide_eq_true z]
      exact iteT ⟨false, p, _, _, _, rfl, rfl, hS, atI_ints h0 z, q⟩
    · rw [decide_eq_false z]
      refine iteF ?_
      have e : ns.getD k.toNat 0 = 0 := by
        rw [List.getD_eq_getElem?_getD, List.getElem?_eq_none (by omega)]
        rfl
      rw [e] at q
      exact q
theorem ok_law_whole (T : Txt K mg t) : FnOk P w K mg base CX0 1 t.a_law_whole t.d_law_whole ["_law_found"] sp_law_whole := by
  refine T.F_law_whole.ok sc_law_whole (fun vs H Q E h => ?_) (fun cdv A outer s H vs Q E hr h => ?_)
  · obtain ⟨i, rfl, _⟩ := h
    rfl
  · obtain ⟨i, rfl, q⟩ := h
    refine ⟨_, (pss_one (ps_ret (pe_and (pe_callB call_isi rfl T.z_isinstance (by decide +kernel) (pa_cons (pv 0) (pa_cons (pe_bltn (v := .ty "int") rfl T.z_int (by decide +kernel) rfl) pa_nil))) (pe_one (pe_not (pe_callB call_isi rfl T.z_isinstance (by decide +kernel) (pa_cons (pv 0) (pa_cons (pe_bltn (v := .ty "bool") rfl T.z_bool (by decide +kernel) rfl) pa_nil)))))))), ?_⟩
    show tRet _ _ [some (.int i)] H
    walk_at "rd2"
    refine ⟨_, _, _, _, rfl, .ty (.int i), rfl, T.k_int, ?_⟩
    walk_at "rd2"
    refine ⟨_, _, _, _, rfl, .ty (.int i), rfl, T.k_ib, ?_⟩
    walk_at "rd2"
    exact q
theorem pow_mix {a b m : Int} {B : Nat} (ha : a.natAbs < 2 ^ B) (hb : b.natAbs < 2 ^ B) (hm : m.natAbs < 2 ^ 20) : (a + m * b).natAbs < 2 ^ (B + 21) ∧ (a - m * b).natAbs < 2 ^ (B + 21) := by
  have h1 : (m * b).natAbs ≤ 2 ^ 20 * 2 ^ B := by rw [Int.natAbs_mul]; exact Nat.mul_le_mul (Nat.le_of_lt hm) (Nat.le_of_lt hb)
  have h2 := Int.natAbs_add_le a (m * b)
  have h3 := Int.natAbs_sub_le a (m * b)
  have e : 2 ^ (B + 21) = 2097152 * 2 ^ B := by rw [Nat.pow_add]; omega
  have hp := Nat.two_pow_pos B
  have e20 : (2 : Nat) ^ 20 = 1048576 := rfl
  rw [e20] at h1
  constructor <;> omega
theorem mix_bits {d k B : Nat} {x y : List Int} {m : Int} (hx : x.length = d) (hy : y.length = d) (bx : ∀ z ∈ x, z.natAbs < 2 ^ B) (by' : ∀ z ∈ y, z.natAbs < 2 ^ B) (hm : m.natAbs < 2 ^ 20) : ∀ z ∈ mixI d x y m k, z.natAbs < 2 ^ (B + 21) := fun z hz => by
  obtain ⟨t, ht, rfl⟩ := List.mem_map.mp hz
  have htd := List.mem_range.mp ht
  have h1 := bx _ (L2.getD_mem (show t < x.length by omega))
  have h2 := by' _ (L2.getD_mem (show t < y.length by omega))
  split
  · exact (pow_mix h1 h2 hm).1
  · exact Nat.lt_of_lt_of_le h1 (Nat.pow_le_pow_right (by decide) (by omega))
theorem step_bits {d i j B : Nat} {m : Int} {R : List (List Int)} (sR : Sq d R) (hi : i < d) (hj : j < d) (bR : BitsM (B + 21) R) (hm : m.natAbs < 2 ^ 20) : BitsM (B + 44) (colT d i j m R d) := fun r hr x hx => by
  obtain ⟨s, hs, rfl⟩ := List.mem_map.mp hr
  have hsd := List.mem_range.mp hs
  rw [if_pos hsd] at hx
  have hm' : R.getD s [] ∈ R := by rw [show R.getD s [] = R[s]'(by have := sR.1; omega) by have := sR.1; simp [show s < R.length by omega]]; exact List.getElem_mem _
  have hl := sR.2 _ hm'
  have hup : ∀ z : Int, z.natAbs < 2 ^ (B + 21 + 21) → z.natAbs < 2 ^ (B + 44) := fun z h => Nat.lt_of_lt_of_le h (Nat.pow_le_pow_right (by decide) (by omega))
  rcases List.mem_or_eq_of_mem_set hx with h | h
  · exact Nat.lt_of_lt_of_le (bR _ hm' x h) (Nat.pow_le_pow_right (by decide) (by omega))
  · rw [h]
    exact hup _ (pow_mix (bR _ hm' _ (L2.getD_mem (by omega))) (bR _ hm' _ (L2.getD_mem (by omega))) hm).2
theorem ixN_nat {n k : Nat} (h : k < n) : ixN n (k : Int) = some k := by
  unfold ixN
  rw [if_pos (by omega), if_pos (by omega)]
  simp
theorem gcdI_mul (a b v : Int) (hv : 0 < v) : gcdI (a * v) (b * v) = gcdI a b * v := by
  unfold gcdI
  rw [Int.gcd_mul_right]
  have : ((v.natAbs : Nat) : Int) = v := by omega
  rw [Int.natCast_mul, this]
theorem gl_mul {u v : Int} (hv : 0 < v) (ts : List Int) : gl (u * v) (ts.map (· * v)) = gl u ts * v := by
  have h0 : ∀ (ts : List Int) (a : Int), (ts.map (· * v)).foldl gcdI (a * v) = ts.foldl gcdI a * v := by
    intro ts
    induction ts with
    | nil => intro a; rfl
    | cons t r ih => intro a; rw [List.map_cons, List.foldl_cons, List.foldl_cons, gcdI_mul _ _ _ hv, ih]
  unfold gl
  have : absI (u * v) = absI u * v := by
    unfold absI
    rcases Int.lt_or_le u 0 with l | l
    · have h2 : u * v < 0 := Int.mul_neg_of_neg_of_pos l hv
      rw [if_pos l, if_pos h2, Int.neg_mul]
    · have h2 : 0 ≤ u * v := Int.mul_nonneg l (Int.le_of_lt hv)
      rw [if_neg (by omega), if_neg (by omega)]
  rw [this, h0]
theorem low_dvd {u v : Int} {ts ns : List Int} (hv : 0 < v) (gu : gl u ts = 1) (hl : ts.length = ns.length) (h : ∀ (i : Nat) (x y : Int), ts[i]? = some x → ns[i]? = some y → x * v = y * u) : u ∣ v := by
  have e := gl_mul (u := u) hv ts
  rw [gu, Int.one_mul] at e
  rw [← e]
  refine dvd_gl.mpr ⟨Int.dvd_mul_right u v, fun t ht => ?_⟩
  obtain ⟨x, hx, rfl⟩ := List.mem_map.mp ht
  obtain ⟨i, hi, ei⟩ := List.getElem_of_mem hx
  have hi2 : i < ns.length := by omega
  have := h i x ns[i] (by simp [hi, ei]) (by simp [hi2])
  show u ∣ x * v
  rw [this]
  exact Int.dvd_mul_left _ _
theorem low_uniq {u v : Int} {ts ns : List Int} (hu : 0 < u) (hv : 0 < v) (gu : gl u ts = 1) (gv : gl v ns = 1) (hl : ts.length = ns.length) (h : ∀ (i : Nat) (x y : Int), ts[i]? = some x → ns[i]? = some y → x * v = y * u) : ts = ns ∧ u = v := by
  have h1 := low_dvd hv gu hl h
  have h2 := low_dvd hu gv hl.symm fun i x y e1 e2 => (h i y x e2 e1).symm
  have e : u = v := Int.dvd_antisymm (by omega) (by omega) h1 h2
  subst e
  refine ⟨List.ext_getElem hl fun i h1 h2 => ?_, rfl⟩
  exact Int.eq_of_mul_eq_mul_right (by omega) (h i _ _ (by simp [h1]) (by simp [h2]))
theorem red_cross {u : Int} {ns : List Int} (h : u ≠ 0) {i : Nat} {x y : Int} (e1 : ns[i]? = some x) (e2 : (redT u ns)[i]? = some y) : x * redU u ns = y * u := by
  unfold redT at e2
  rw [List.getElem?_map, e1] at e2
  cases e2
  exact cross h (List.mem_of_getElem? e1)
theorem red_eq {p w : Int} {xs ys : List Int} (hp : 0 < p) (hw : 0 < w) (hl : xs.length = ys.length) (h : ∀ (i : Nat) (x y : Int), xs[i]? = some x → ys[i]? = some y → x * w = y * p) : redT p xs = redT w ys ∧ redU p xs = redU w ys := by
  have p0 : p ≠ 0 := by omega
  have w0 : w ≠ 0 := by omega
  refine low_uniq (under_pos xs p0) (under_pos ys w0) (gl_red p0) (gl_red w0) (by simp [redT, hl]) fun i a b ea eb => ?_
  have hi : i < xs.length := by have := (List.getElem?_eq_some_iff.mp ea).1; simpa [redT] using this
  have hi2 : i < ys.length := by omega
  have k1 := red_cross p0 (i := i) (x := xs[i]) (by simp [hi]) ea
  have k2 := red_cross w0 (i := i) (x := ys[i]) (by simp [hi2]) eb
  have k3 := h i xs[i] ys[i] (by simp [hi]) (by simp [hi2])
  have c1 : (a * redU w ys) * (p * w) = (b * redU p xs) * (p * w) := by
    have : (a * redU w ys) * (p * w) = (a * p) * (redU w ys * w) := by grind
    rw [this, ← k1]
    have : (b * redU p xs) * (p * w) = (b * w) * (redU p xs * p) := by grind
    rw [this, ← k2]
    have : xs[i] * redU p xs * (redU w ys * w) = (xs[i] * w) * (redU p xs * redU w ys) := by grind
    rw [this, k3]
    grind
  exact Int.eq_of_mul_eq_mul_right (Int.mul_ne_zero p0 w0) c1
theorem dot_scale {c k : Int} : ∀ (r xs ys : List Int), xs.length = ys.length → (∀ (i : Nat) (x y : Int), xs[i]? = some x → ys[i]? = some y → x * c = y * k) → dotI r xs * c = dotI r ys * k
  | [], xs, ys, _, _ => by simp [dotI]
  | a :: r, [], ys, hl, _ => by
    have : ys = [] := List.eq_nil_of_length_eq_zero hl.symm
    subst this; simp [dotI]
  | a :: r, x :: xs, [], hl, _ => by simp at hl
  | a :: r, x :: xs, y :: ys, hl, h => by
    have ih := dot_scale r xs ys (by simpa using hl) fun i p q e1 e2 => h (i + 1) p q (by simpa using e1) (by simpa using e2)
    have h0 := h 0 x y rfl rfl
    have e1 : dotI (a :: r) (x :: xs) = a * x + dotI r xs := by simp [dotI]
    have e2 : dotI (a :: r) (y :: ys) = a * y + dotI r ys := by simp [dotI]
    rw [e1, e2, Int.add_mul, Int.add_mul, ih, Int.mul_assoc, h0, Int.mul_assoc]
noncomputable def affT (N : List (List Int)) (T S : List Int) : List Int := List.zipWith (fun r s => dotI r T + s) N S
theorem cmp_nf {w : Int} {N : List (List Int)} {T S : List Int} (hw : 0 < w) :
    redT (redU w S * redU w T) (movT N (redT w S) (redU w S) (redT w T) (redU w T)) = redT w (affT N T S) ∧ redU (redU w S * redU w T) (movT N (redT w S) (redU w S) (redT w T) (redU w T)) = redU w (affT N T S) := by
  have w0 : w ≠ 0 := by omega
  have hu : 0 < redU w T := under_pos T w0
  have hv : 0 < redU w S := under_pos S w0
  refine red_eq (Int.mul_pos hv hu) hw (by simp [movT, affT, redT]) fun i x y ex ey => ?_
  unfold movT at ex
  unfold affT at ey
  rw [List.getElem?_zipWith] at ex ey
  cases en : N[i]? with
  | none => rw [en] at ex; cases ex
  | some r =>
    rw [en] at ex ey
    cases es : S[i]? with
    | none => rw [es] at ey; cases ey
    | some s =>
      rw [es] at ey
      cases et : (redT w S)[i]? with
      | none => rw [et] at ex; cases ex
      | some s' =>
        rw [et] at ex
        cases ex
        cases ey
        have k1 := red_cross w0 es et
        have k2 : dotI r (redT w T) * w = dotI r T * redU w T := dot_scale r _ _ (by simp [redT]) fun j a b e1 e2 => (red_cross w0 e2 e1).symm
        have : (dotI r (redT w T) * redU w S + s' * redU w T) * w = (dotI r (redT w T) * w) * redU w S + (s' * w) * redU w T := by grind
        rw [this, k2, ← k1]
        grind

theorem v2 {T : List Int} (h : T.length = 2) : ∃ a b, T = [a, b] := by
  match T, h with
  | [a, b], _ => exact ⟨a, b, rfl⟩
theorem v3 {T : List Int} (h : T.length = 3) : ∃ a b c, T = [a, b, c] := by
  match T, h with
  | [a, b, c], _ => exact ⟨a, b, c, rfl⟩
theorem aff2 (a b c d x y p q : Int) : affT [[a, b], [c, d]] [x, y] [p, q] = [a * x + b * y + p, c * x + d * y + q] := by simp [affT, dotI]
theorem aff3 (a b c d e f g i j x y z p q r : Int) : affT [[a, b, c], [d, e, f], [g, i, j]] [x, y, z] [p, q, r] = [a * x + (b * y + c * z) + p, d * x + (e * y + f * z) + q, g * x + (i * y + j * z) + r] := by simp [affT, dotI]
structure Af (d : Nat) (M : List (List Int)) (T : List Int) : Prop where
  sq : Sq d M
  len : T.length = d
theorem affT_len {d : Nat} {N : List (List Int)} {T S : List Int} (h : Sq d N) (hs : S.length = d) : (affT N T S).length = d := by simp [affT, h.1, hs]
theorem aff_assoc {d : Nat} (hd : d = 2 ∨ d = 3) {M N Z : List (List Int)} {T S R : List Int} (h1 : Af d M T) (h2 : Af d N S) (h3 : Af d Z R) : affT Z (affT N T S) R = affT (mulM d Z N) T (affT Z S R) := by
  rcases hd with rfl | rfl
  · obtain ⟨a, b, c, e, rfl⟩ := sq2 h2.sq
    obtain ⟨a', b', c', e', rfl⟩ := sq2 h3.sq
    obtain ⟨x, y, rfl⟩ := v2 h1.len
    obtain ⟨p, q, rfl⟩ := v2 h2.len
    obtain ⟨p', q', rfl⟩ := v2 h3.len
    rw [aff2, aff2, aff2, mul2, aff2]
    simp only [List.cons.injEq, and_true]
    constructor <;> grind
  · obtain ⟨a, b, c, e, f, g, i, j, k, rfl⟩ := sq3 h2.sq
    obtain ⟨a', b', c', e', f', g', i', j', k', rfl⟩ := sq3 h3.sq
    obtain ⟨x, y, z, rfl⟩ := v3 h1.len
    obtain ⟨p, q, r, rfl⟩ := v3 h2.len
    obtain ⟨p', q', r', rfl⟩ := v3 h3.len
    rw [aff3, aff3, aff3, mul3, aff3]
    simp only [List.cons.injEq, and_true]
    refine ⟨?_, ?_, ?_⟩ <;> grind
theorem aff_id {d : Nat} (hd : d = 2 ∨ d = 3) {M : List (List Int)} {T : List Int} (h : Af d M T) : affT M (List.replicate d 0) T = T ∧ affT (idM d) T (List.replicate d 0) = T := by
  rcases hd with rfl | rfl
  · obtain ⟨a, b, c, e, rfl⟩ := sq2 h.sq
    obtain ⟨x, y, rfl⟩ := v2 h.len
    rw [id2, show List.replicate 2 (0 : Int) = [0, 0] from rfl, aff2, aff2]
    simp
  · obtain ⟨a, b, c, e, f, g, i, j, k, rfl⟩ := sq3 h.sq
    obtain ⟨x, y, z, rfl⟩ := v3 h.len
    rw [id3, show List.replicate 3 (0 : Int) = [0, 0, 0] from rfl, aff3, aff3]
    simp
theorem det2 (a b c d : Int) : detM 2 [[a, b], [c, d]] = a * d - b * c := by
  simp [detM, altS, minorM, sg]
  try grind
theorem det3 (a b c d e f g i j : Int) : detM 3 [[a, b, c], [d, e, f], [g, i, j]] = (b * f - c * e) * g + (c * d - a * f) * i + (a * e - b * d) * j := by
  simp [detM, altS, minorM, sg]
  try grind
noncomputable abbrev AP := List (List Int) × List Int
noncomputable def aff (d : Nat) (x y : AP) : AP := (mulM d y.1 x.1, affT y.1 x.2 y.2)
noncomputable def idA (d : Nat) : AP := (idM d, List.replicate d 0)
theorem idA_af {d : Nat} : Af d (idA d).1 (idA d).2 := ⟨idM_sq, by simp [idA]⟩
theorem aff_af {d : Nat} {x y : AP} (hy : Af d y.1 y.2) : Af d (aff d x y).1 (aff d x y).2 := ⟨hy.sq.mul, affT_len hy.sq hy.len⟩
theorem affA_assoc {d : Nat} (hd : d = 2 ∨ d = 3) {x y z : AP} (hx : Af d x.1 x.2) (hy : Af d y.1 y.2) (hz : Af d z.1 z.2) : aff d (aff d x y) z = aff d x (aff d y z) := by
  show (mulM d z.1 (mulM d y.1 x.1), affT z.1 (affT y.1 x.2 y.2) z.2) = (mulM d (mulM d z.1 y.1) x.1, affT (mulM d z.1 y.1) x.2 (affT z.1 y.2 z.2))
  rw [mul_assoc hd hz.sq hy.sq hx.sq, aff_assoc hd hx hy hz]
theorem affA_id {d : Nat} (hd : d = 2 ∨ d = 3) {x : AP} (hx : Af d x.1 x.2) : aff d x (idA d) = x ∧ aff d (idA d) x = x := by
  constructor
  · show (mulM d (idM d) x.1, affT (idM d) x.2 (List.replicate d 0)) = x
    rw [(id_mul hd hx.sq).1, (aff_id hd hx).2]
  · show (mulM d x.1 (idM d), affT x.1 (List.replicate d 0) x.2) = x
    rw [(id_mul hd hx.sq).2, (aff_id hd hx).1]
noncomputable def pwA (d : Nat) (x : AP) : Nat → AP
  | 0 => idA d
  | k + 1 => aff d (pwA d x k) x
theorem pwA_af {d : Nat} {x : AP} (h : Af d x.1 x.2) : ∀ k, Af d (pwA d x k).1 (pwA d x k).2
  | 0 => idA_af
  | k + 1 => aff_af h
theorem pwA_add {d : Nat} (hd : d = 2 ∨ d = 3) {x : AP} (h : Af d x.1 x.2) (a : Nat) : ∀ b, aff d (pwA d x a) (pwA d x b) = pwA d x (a + b)
  | 0 => (affA_id hd (pwA_af h a)).1
  | b + 1 => by
    show aff d (pwA d x a) (aff d (pwA d x b) x) = aff d (pwA d x (a + b)) x
    rw [← affA_assoc hd (pwA_af h a) (pwA_af h b) h, pwA_add hd h a b]
theorem pwA_one {d : Nat} (hd : d = 2 ∨ d = 3) {x : AP} (h : Af d x.1 x.2) : pwA d x 1 = x := (affA_id hd h).2
theorem fdiv_abs {x c : Int} (hc : c ≠ 0) (h : c ∣ x) : (x.fdiv c).natAbs ≤ x.natAbs := by
  have e : x.fdiv c * c = x := fdiv_exact hc h
  have : x.natAbs = (x.fdiv c).natAbs * c.natAbs := by rw [← Int.natAbs_mul, e]
  rw [this]
  exact Nat.le_mul_of_pos_right _ (by omega)
theorem redT_bits {w : Int} {ts : List Int} {B : Nat} (hw : w ≠ 0) (h : BitsL B ts) : BitsL B (redT w ts) := fun x hx => by
  obtain ⟨t, ht, rfl⟩ := List.mem_map.mp hx
  exact Nat.lt_of_le_of_lt (fdiv_abs (cs_ne ts hw) (cs_dvd (gl_mem ht))) (h t ht)
theorem redU_le {w : Int} (ts : List Int) (hw : 0 < w) : 0 < redU w ts ∧ redU w ts ≤ w := by
  have h1 : 0 < redU w ts := under_pos ts (by omega)
  have h2 := fdiv_abs (x := w) (cs_ne ts (by omega)) (cs_dvd (gl_u w ts))
  have h3 : (redU w ts).natAbs ≤ w.natAbs := h2
  exact ⟨h1, by omega⟩
theorem aff_bits {d B C D : Nat} {N : List (List Int)} {T S : List Int} (sN : Sq d N) (hd : d ≤ 3) (hN : BitsM B N) (hT : BitsL C T) (hS : BitsL D S) (hD : D ≤ B + C) : BitsL (B + C + 3) (affT N T S) := fun x hx => by
  obtain ⟨i, hi, rfl⟩ := List.getElem_of_mem hx
  unfold affT at hi ⊢
  rw [List.length_zipWith] at hi
  rw [List.getElem_zipWith]
  have h1 := dot_abs (N[i]'(by omega)) T (hN _ (List.getElem_mem _)) hT
  have h2 := hS _ (List.getElem_mem (l := S) (n := i) (by omega))
  have h3 := Int.natAbs_add_le (dotI (N[i]'(by omega)) T) (S[i]'(by omega))
  have h4 : (N[i]'(by omega)).length = d := sN.2 _ (List.getElem_mem _)
  rw [h4] at h1
  have h5 : 2 ^ D ≤ 2 ^ (B + C) := Nat.pow_le_pow_right (by decide) hD
  have h6 : d * 2 ^ (B + C) ≤ 3 * 2 ^ (B + C) := Nat.mul_le_mul_right _ hd
  have h7 : 2 ^ (B + C + 3) = 8 * 2 ^ (B + C) := by rw [Nat.pow_add]; omega
  have h8 := Nat.two_pow_pos (B + C)
  omega
theorem pwA_bits {d B : Nat} (hd : d = 2 ∨ d = 3) {x : AP} (h : Af d x.1 x.2) (h1 : BitsM B x.1) (h2 : BitsL B x.2) : ∀ k, BitsM ((k + 1) * (B + 3)) (pwA d x k).1 ∧ BitsL ((k + 1) * (B + 3)) (pwA d x k).2
  | 0 => by
    have hp : 1 < 2 ^ ((0 + 1) * (B + 3)) := Nat.one_lt_two_pow (by omega)
    refine ⟨fun r hr y hy => ?_, fun y hy => ?_⟩
    · obtain ⟨i, _, rfl⟩ := List.mem_map.mp hr
      obtain ⟨k, _, rfl⟩ := List.mem_map.mp hy
      split
      · exact hp
      · exact Nat.lt_of_lt_of_le (by decide) (Nat.le_of_lt hp)
    · rw [List.eq_of_mem_replicate hy]
      exact Nat.lt_of_lt_of_le (by decide) (Nat.le_of_lt hp)
  | k + 1 => by
    obtain ⟨i1, i2⟩ := pwA_bits hd h h1 h2 k
    have ha := pwA_af h k
    have e : (k + 1 + 1) * (B + 3) = B + (k + 1) * (B + 3) + 3 := by rw [Nat.succ_mul]; omega
    rw [e]
    exact ⟨h1.mulG i1 h.sq ha.sq (by omega), aff_bits h.sq (by omega) h1 i2 h2 (by omega)⟩
noncomputable def deedD (M : List (List Int)) (ts : List Int) (u : Int) : PyData := .tuple [matD true true M, intsD true ts, .int u]
theorem Dt.deed {K : PySem.W.Frag} {H : Hp} {p : Addr} {M : List (List Int)} {ts : List Int} {u : Int} (h : DeedAt K H p M ts u) : Dt K H (.ref p) (deedD M ts u) := by
  obtain ⟨pr, pt, h1, h2, h3⟩ := h
  exact .tup (SqT.of h1) (.cons (Dt.matB h2) (.cons (Dt.intsB (SqB.tup h3)) (.cons (.int u) .nil)))
theorem dvs (x y : Int) (h1 : y ≠ 0) (h2 : y.natAbs < 1073741824) : CDivB x y := ⟨h1, Nat.lt_of_lt_of_le ((Nat.log2_lt (by omega)).mpr (show y.natAbs < 2 ^ 30 from h2)) (by decide)⟩
theorem fms (x y : Int) (h : 0 < y) : 0 ≤ x.fmod y ∧ x.fmod y < y := ⟨Int.fmod_nonneg_of_pos x h, Int.fmod_lt_of_pos x h⟩
noncomputable def NfAt (K : PySem.W.Frag) (H : Hp) (r : Addr) (u : Int) (x : AP) : Prop := DeedAt K H r x.1 (redT u x.2) (redU u x.2)
theorem NfAt.up {H H' : Hp} {r : Addr} {u : Int} {x : AP} (h : NfAt K H r u x) (s : Same H H') : NfAt K H' r u x := DeedAt.up h s
theorem nf_behind {H : Hp} {r : Addr} {d : Nat} {w : Int} {x y : AP} (hw : 0 < w) (h : DeedAt K H r (mulM d y.1 x.1) (redT (redU w y.2 * redU w x.2) (movT y.1 (redT w y.2) (redU w y.2) (redT w x.2) (redU w x.2))) (redU (redU w y.2 * redU w x.2) (movT y.1 (redT w y.2) (redU w y.2) (redT w x.2) (redU w x.2)))) : NfAt K H r w (aff d x y) := by
  rw [(cmp_nf hw).1, (cmp_nf hw).2] at h
  exact h
theorem nf_of {H : Hp} {r : Addr} {M : List (List Int)} {ts : List Int} {u : Int} (h : DeedAt K H r M ts u) (h0 : 0 < u) (g : gl u ts = 1) : NfAt K H r u (M, ts) := by
  have hrs := red_same h0 g
  have e1 : redT u ts = ts := hrs.1
  have e2 : redU u ts = u := hrs.2
  unfold NfAt
  rw [e1, e2]
  exact h
theorem red_zero {u : Int} (h0 : 0 < u) (d : Nat) : redT u (List.replicate d 0) = List.replicate d 0 ∧ redU u (List.replicate d 0) = 1 := by
  have h1 := red_eq (p := u) (w := 1) (xs := List.replicate d 0) (ys := List.replicate d 0) h0 (by decide) rfl fun i x y e1 e2 => by
    rw [List.eq_of_mem_replicate (List.mem_of_getElem? e1), List.eq_of_mem_replicate (List.mem_of_getElem? e2)]
    simp
  have hrs := red_same (u := 1) (by decide) (gl_one (List.replicate d 0))
  have e1 : redT 1 (List.replicate d 0) = List.replicate d 0 := hrs.1
  have e2 : redU 1 (List.replicate d 0) = 1 := hrs.2
  rw [h1.1, h1.2, e1, e2]
  exact ⟨rfl, rfl⟩
theorem nf_id {H : Hp} {r : Addr} {d : Nat} {u : Int} (h0 : 0 < u) : NfAt K H r u (idA d) ↔ DeedAt K H r (idM d) (List.replicate d 0) 1 := by
  unfold NfAt idA
  rw [(red_zero h0 d).1, (red_zero h0 d).2]
theorem BitsL.le {B C : Nat} {ts : List Int} (h : BitsL B ts) (hc : B ≤ C) : BitsL C ts := fun x hx => Nat.lt_of_lt_of_le (h x hx) (Nat.pow_le_pow_right (by decide) hc)
noncomputable def mv (M : List (List Int)) (v : List Int) : List Int := M.map fun r => dotI r v
noncomputable def va (v w : List Int) : List Int := List.zipWith (· + ·) v w
noncomputable def addM (A B : List (List Int)) : List (List Int) := List.zipWith va A B
noncomputable def zeroM (d : Nat) : List (List Int) := List.replicate d (List.replicate d 0)
noncomputable def sumM (d : Nat) (A : List (List Int)) : Nat → List (List Int)
  | 0 => zeroM d
  | n + 1 => addM (mulM d A (sumM d A n)) (idM d)
theorem mv_len {d : Nat} {A : List (List Int)} {v : List Int} (h : Sq d A) : (mv A v).length = d := by unfold mv; rw [List.length_map]; exact h.1
theorem mv2 (a b c e x y : Int) : mv [[a, b], [c, e]] [x, y] = [a * x + b * y, c * x + e * y] := by simp [mv, dotI]
theorem mv3 (a b c a' b' c' a'' b'' c'' x y z : Int) : mv [[a, b, c], [a', b', c'], [a'', b'', c'']] [x, y, z] = [a * x + (b * y + c * z), a' * x + (b' * y + c' * z), a'' * x + (b'' * y + c'' * z)] := by simp [mv, dotI]
theorem va2 (a b c e : Int) : va [a, b] [c, e] = [a + c, b + e] := rfl
theorem va3 (a b c x y z : Int) : va [a, b, c] [x, y, z] = [a + x, b + y, c + z] := rfl
theorem mv_mul {d : Nat} (hd : d = 2 ∨ d = 3) {A B : List (List Int)} (hA : Sq d A) (hB : Sq d B) {v : List Int} (hv : v.length = d) : mv (mulM d A B) v = mv A (mv B v) := by
  rcases hd with rfl | rfl
  · obtain ⟨a, b, c, e, rfl⟩ := sq2 hA
    obtain ⟨a', b', c', e', rfl⟩ := sq2 hB
    obtain ⟨x, y, rfl⟩ := v2 hv
    rw [mul2, mv2, mv2, mv2]
    simp only [List.cons.injEq, and_true]
    refine ⟨?_, ?_⟩ <;> grind
  · obtain ⟨a1, a2, a3, a4, a5, a6, a7, a8, a9, rfl⟩ := sq3 hA
    obtain ⟨b1, b2, b3, b4, b5, b6, b7, b8, b9, rfl⟩ := sq3 hB
    obtain ⟨x, y, z, rfl⟩ := v3 hv
    rw [mul3, mv3, mv3, mv3]
    simp only [List.cons.injEq, and_true]
    refine ⟨?_, ?_, ?_⟩ <;> grind
theorem mv_add {d : Nat} (hd : d = 2 ∨ d = 3) {A : List (List Int)} (hA : Sq d A) {v w : List Int} (hv : v.length = d) (hw : w.length = d) : mv A (va v w) = va (mv A v) (mv A w) := by
  rcases hd with rfl | rfl
  · obtain ⟨a, b, c, e, rfl⟩ := sq2 hA
    obtain ⟨x, y, rfl⟩ := v2 hv
    obtain ⟨x', y', rfl⟩ := v2 hw
    rw [va2, mv2, mv2, mv2, va2]
    simp only [List.cons.injEq, and_true]
    refine ⟨?_, ?_⟩ <;> grind
  · obtain ⟨a1, a2, a3, a4, a5, a6, a7, a8, a9, rfl⟩ := sq3 hA
    obtain ⟨x, y, z, rfl⟩ := v3 hv
    obtain ⟨x', y', z', rfl⟩ := v3 hw
    rw [va3, mv3, mv3, mv3, va3]
    simp only [List.cons.injEq, and_true]
    refine ⟨?_, ?_, ?_⟩ <;> grind
theorem mv_addM {d : Nat} (hd : d = 2 ∨ d = 3) {A B : List (List Int)} (hA : Sq d A) (hB : Sq d B) {v : List Int} (hv : v.length = d) : mv (addM A B) v = va (mv A v) (mv B v) := by
  rcases hd with rfl | rfl
  · obtain ⟨a, b, c, e, rfl⟩ := sq2 hA
    obtain ⟨a', b', c', e', rfl⟩ := sq2 hB
    obtain ⟨x, y, rfl⟩ := v2 hv
    show mv [[a + a', b + b'], [c + c', e + e']] [x, y] = _
    rw [mv2, mv2, mv2, va2]
    simp only [List.cons.injEq, and_true]
    refine ⟨?_, ?_⟩ <;> grind
  · obtain ⟨a1, a2, a3, a4, a5, a6, a7, a8, a9, rfl⟩ := sq3 hA
    obtain ⟨b1, b2, b3, b4, b5, b6, b7, b8, b9, rfl⟩ := sq3 hB
    obtain ⟨x, y, z, rfl⟩ := v3 hv
    show mv [[a1 + b1, a2 + b2, a3 + b3], [a4 + b4, a5 + b5, a6 + b6], [a7 + b7, a8 + b8, a9 + b9]] [x, y, z] = _
    rw [mv3, mv3, mv3, va3]
    simp only [List.cons.injEq, and_true]
    refine ⟨?_, ?_, ?_⟩ <;> grind
theorem mv_id {d : Nat} (hd : d = 2 ∨ d = 3) {v : List Int} (hv : v.length = d) : mv (idM d) v = v := by
  rcases hd with rfl | rfl
  · obtain ⟨x, y, rfl⟩ := v2 hv
    rw [id2, mv2]; simp
  · obtain ⟨x, y, z, rfl⟩ := v3 hv
    rw [id3, mv3]; simp
theorem mv_zeroM {d : Nat} (hd : d = 2 ∨ d = 3) {v : List Int} (hv : v.length = d) : mv (zeroM d) v = List.replicate d 0 := by
  rcases hd with rfl | rfl
  · obtain ⟨x, y, rfl⟩ := v2 hv
    show mv [[0, 0], [0, 0]] [x, y] = [0, 0]
    rw [mv2]; simp
  · obtain ⟨x, y, z, rfl⟩ := v3 hv
    show mv [[0, 0, 0], [0, 0, 0], [0, 0, 0]] [x, y, z] = [0, 0, 0]
    rw [mv3]; simp
theorem mv_zero {d : Nat} (hd : d = 2 ∨ d = 3) {A : List (List Int)} (hA : Sq d A) : mv A (List.replicate d 0) = List.replicate d 0 := by
  rcases hd with rfl | rfl
  · obtain ⟨a, b, c, e, rfl⟩ := sq2 hA
    show mv [[a, b], [c, e]] [0, 0] = [0, 0]
    rw [mv2]; simp
  · obtain ⟨a1, a2, a3, a4, a5, a6, a7, a8, a9, rfl⟩ := sq3 hA
    show mv [[a1, a2, a3], [a4, a5, a6], [a7, a8, a9]] [0, 0, 0] = [0, 0, 0]
    rw [mv3]; simp
theorem aff_is (N : List (List Int)) (T S : List Int) : affT N T S = va (mv N T) S := by
  unfold affT va mv
  rw [List.zipWith_map_left]
theorem addM_sq {d : Nat} {A B : List (List Int)} (hA : Sq d A) (hB : Sq d B) : Sq d (addM A B) := by
  refine ⟨by unfold addM; rw [List.length_zipWith, hA.1, hB.1]; omega, fun r hr => ?_⟩
  unfold addM at hr
  obtain ⟨i, hi, rfl⟩ := List.getElem_of_mem hr
  rw [List.getElem_zipWith]
  unfold va
  rw [List.length_zipWith, hA.2 _ (List.getElem_mem _), hB.2 _ (List.getElem_mem _)]
  omega
theorem zeroM_sq (d : Nat) : Sq d (zeroM d) := ⟨by simp [zeroM], fun r hr => by rw [List.eq_of_mem_replicate hr]; simp⟩
theorem sumM_sq {d : Nat} {A : List (List Int)} (hA : Sq d A) : ∀ n, Sq d (sumM d A n)
  | 0 => zeroM_sq d
  | n + 1 => addM_sq hA.mul idM_sq
theorem pw_sum {d : Nat} (hd : d = 2 ∨ d = 3) {A : List (List Int)} (hA : Sq d A) {ts : List Int} (ht : ts.length = d) : ∀ n, (pwA d (A, ts) n).2 = mv (sumM d A n) ts
  | 0 => (mv_zeroM hd ht).symm
  | n + 1 => by
    show affT A (pwA d (A, ts) n).2 ts = mv (addM (mulM d A (sumM d A n)) (idM d)) ts
    rw [pw_sum hd hA ht n, aff_is, mv_addM hd hA.mul idM_sq ht, mv_mul hd hA (sumM_sq hA n) ht, mv_id hd ht]
theorem pw_conj {d : Nat} (hd : d = 2 ∨ d = 3) {A P P' : List (List Int)} (hA : Sq d A) (hP : Sq d P) (hP' : Sq d P') (e1 : mulM d P' P = idM d) (e2 : mulM d P P' = idM d) {ts : List Int} (ht : ts.length = d) :
    ∀ n, (pwA d (mulM d (mulM d P A) P', ts) n).2 = mv P (pwA d (A, mv P' ts) n).2
  | 0 => (mv_zero hd hP).symm
  | n + 1 => by
    have af := (pwA_af (x := (A, mv P' ts)) ⟨hA, mv_len hP'⟩ n).len
    show affT (mulM d (mulM d P A) P') (pwA d (mulM d (mulM d P A) P', ts) n).2 ts = mv P (affT A (pwA d (A, mv P' ts) n).2 (mv P' ts))
    rw [pw_conj hd hA hP hP' e1 e2 ht n, aff_is, aff_is]
    generalize (pwA d (A, mv P' ts) n).2 = w at af
    have af' : w.length = d := af
    rw [mv_add hd hP (mv_len hA) (mv_len hP'), ← mv_mul hd hP hP' ht, e2, mv_id hd ht]
    rw [mv_mul hd hP.mul hP' (mv_len hP), mv_mul hd hP hA (mv_len hP'), ← mv_mul hd hP' hP af', e1, mv_id hd af']
noncomputable def spn (d : Nat) (A : List (List Int)) : Int := match firstI d A 6 A 0 with
  | some k => (k : Int) + 1
  | none => 0
theorem span_of (d : Nat) (A : List (List Int)) : SpanIs d A (spn d A) := by
  unfold spn
  have e0 : pw d A 0 = A := rfl
  cases e : firstI d A 6 A 0 with
  | none => exact .inl ⟨rfl, fun j hj => first_none (d := d) (A := A) 6 0 (by rw [e0]; exact e) j (by omega) (by omega)⟩
  | some m =>
    obtain ⟨_, q2, q3, q4⟩ := first_some (d := d) (A := A) 6 0 (by rw [e0]; exact e)
    exact .inr ⟨m, by omega, rfl, q3, fun i hi => q4 i (by omega) hi⟩
theorem span_uniq {d : Nat} {A : List (List Int)} {v w : Int} (h1 : SpanIs d A v) (h2 : SpanIs d A w) : v = w := by
  rcases h1 with ⟨rfl, a⟩ | ⟨j, hj, rfl, a1, a2⟩
  · rcases h2 with ⟨rfl, _⟩ | ⟨k, hk, rfl, b1, _⟩
    · rfl
    · exact absurd b1 (a k hk)
  · rcases h2 with ⟨rfl, b⟩ | ⟨k, hk, rfl, b1, b2⟩
    · exact absurd a1 (b j hj)
    · have n1 : ¬ j < k := fun z => b2 j z a1
      have n2 : ¬ k < j := fun z => a2 k z b1
      omega
theorem span_is {d : Nat} {A : List (List Int)} {v : Int} (h : SpanIs d A v) : v = spn d A := span_uniq h (span_of d A)
theorem spn_range (d : Nat) (A : List (List Int)) : 0 ≤ spn d A ∧ spn d A ≤ 6 := by
  rcases span_of d A with ⟨e, _⟩ | ⟨j, hj, e, _⟩ <;> rw [e] <;> omega
theorem spn_conj {d : Nat} (hd : d = 2 ∨ d = 3) {A B : List (List Int)} (hA : Sq d A) (h : Conj d A B) : spn d B = spn d A := by
  have tr := h.same hd hA
  refine span_uniq (span_of d B) ?_
  rcases span_of d A with ⟨e, a⟩ | ⟨j, hj, e, a1, a2⟩
  · rw [e]
    exact .inl ⟨rfl, fun j hj z => a j hj ((tr j).mp z)⟩
  · rw [e]
    exact .inr ⟨j, hj, rfl, (tr j).mpr a1, fun i hi z => a2 i hi ((tr i).mp z)⟩
theorem neg_sq {d : Nat} {A : List (List Int)} (h : Sq d A) : Sq d (negM A) := ⟨by unfold negM; rw [List.length_map]; exact h.1, fun r hr => by
  obtain ⟨s, hs, rfl⟩ := List.mem_map.mp hr
  rw [List.length_map]
  exact h.2 s hs⟩
theorem neg_conj {d : Nat} (hd : d = 2 ∨ d = 3) {A B : List (List Int)} (hA : Sq d A) (h : Conj d A B) : Conj d (negM A) (negM B) := by
  obtain ⟨P, P', h1, h2, h3, h4, rfl⟩ := h
  refine ⟨P, P', h1, h2, h3, h4, ?_⟩
  clear h3 h4
  rcases hd with rfl | rfl
  · obtain ⟨a, b, c, e, rfl⟩ := sq2 hA
    obtain ⟨p1, p2, p3, p4, rfl⟩ := sq2 h1
    obtain ⟨q1, q2, q3, q4, rfl⟩ := sq2 h2
    show negM (mulM 2 (mulM 2 _ _) _) = mulM 2 (mulM 2 _ [[-a, -b], [-c, -e]]) _
    rw [mul2, mul2, mul2, mul2]
    simp only [negM, List.map_cons, List.map_nil, List.cons.injEq, and_true]
    refine ⟨⟨?_, ?_⟩, ?_, ?_⟩ <;> grind
  · obtain ⟨a1, a2, a3, a4, a5, a6, a7, a8, a9, rfl⟩ := sq3 hA
    obtain ⟨p1, p2, p3, p4, p5, p6, p7, p8, p9, rfl⟩ := sq3 h1
    obtain ⟨q1, q2, q3, q4, q5, q6, q7, q8, q9, rfl⟩ := sq3 h2
    show negM (mulM 3 (mulM 3 _ _) _) = mulM 3 (mulM 3 _ [[-a1, -a2, -a3], [-a4, -a5, -a6], [-a7, -a8, -a9]]) _
    rw [mul3, mul3, mul3, mul3]
    simp only [negM, List.map_cons, List.map_nil, List.cons.injEq, and_true]
    refine ⟨⟨?_, ?_, ?_⟩, ⟨?_, ?_, ?_⟩, ?_, ?_, ?_⟩ <;> grind
theorem det_mulP {d : Nat} (hd : d = 2 ∨ d = 3) {M N : List (List Int)} (hM : Sq d M) (hN : Sq d N) : detM d (mulM d N M) = detM d N * detM d M := by
  rcases hd with rfl | rfl
  · obtain ⟨a, b, c, e, rfl⟩ := sq2 hM
    obtain ⟨a', b', c', e', rfl⟩ := sq2 hN
    rw [mul2, det2, det2, det2]
    grind
  · obtain ⟨a1, a2, a3, a4, a5, a6, a7, a8, a9, rfl⟩ := sq3 hM
    obtain ⟨b1, b2, b3, b4, b5, b6, b7, b8, b9, rfl⟩ := sq3 hN
    rw [mul3, det3, det3, det3]
    grind
theorem det_id {d : Nat} (hd : d = 2 ∨ d = 3) : detM d (idM d) = 1 := by
  rcases hd with rfl | rfl
  · rw [id2, det2]; decide
  · rw [id3, det3]; decide
theorem det_conj {d : Nat} (hd : d = 2 ∨ d = 3) {A B : List (List Int)} (hA : Sq d A) (h : Conj d A B) : detM d B = detM d A := by
  obtain ⟨P, P', h1, h2, h3, h4, rfl⟩ := h
  have e : detM d P * detM d P' = 1 := by rw [← det_mulP hd h2 h1, h4, det_id hd]
  rw [det_mulP hd h2 h1.mul, det_mulP hd hA h1]
  have : detM d P * detM d A * detM d P' = (detM d P * detM d P') * detM d A := by grind
  rw [this, e, Int.one_mul]
noncomputable def NiceB (d : Nat) (A : List (List Int)) : Bool := !(decide (detM d A = -1) && (decide (spn d A ≠ 0) && (decide (spn d (negM A) = 1) || decide (2 < spn d (negM A))))) || decide (sumM d A (spn d A).toNat = zeroM d)
noncomputable def Nice (d : Nat) (M : List (List Int)) : Prop := detM d M = -1 → spn d M ≠ 0 → (spn d (negM M) = 1 ∨ 2 < spn d (negM M)) → ∀ ts : List Int, ts.length = d → (pwA d (M, ts) (spn d M).toNat).2 = List.replicate d 0
theorem menu_nice : ∀ M ∈ menu, (NiceB M.length M && (decide (detM M.length M = 1) || decide (detM M.length M = -1))) = true := by decide +kernel
theorem nice_of {M A : List (List Int)} (h : M ∈ menu) (hc : Conj M.length M A) : Nice M.length A ∧ (detM M.length A = 1 ∨ detM M.length A = -1) := by
  obtain ⟨hd, sM, _⟩ := menu_sq h
  have hm := menu_nice M h
  simp only [Bool.and_eq_true, Bool.or_eq_true, decide_eq_true_eq] at hm
  obtain ⟨hn, hdt⟩ := hm
  refine ⟨fun h1 h2 h3 ts ht => ?_, by rw [det_conj hd sM hc]; exact hdt⟩
  rw [det_conj hd sM hc] at h1
  rw [spn_conj hd sM hc] at h2 ⊢
  rw [spn_conj hd (neg_sq sM) (neg_conj hd sM hc)] at h3
  unfold NiceB at hn
  have hz : sumM M.length M (spn M.length M).toNat = zeroM M.length := by
    rcases (Bool.or_eq_true _ _).mp hn with q | q
    · exfalso
      rw [decide_eq_true h1, decide_eq_true h2] at q
      rcases h3 with h3 | h3
      · rw [decide_eq_true h3] at q; simp at q
      · rw [decide_eq_true h3] at q; simp at q
    · exact of_decide_eq_true q
  obtain ⟨P, P', p1, p2, p3, p4, rfl⟩ := hc
  rw [pw_conj hd sM p1 p2 p3 p4 ht, pw_sum hd sM (mv_len p2), hz, mv_zeroM hd (mv_len p2), mv_zero hd p1]
theorem menu_endl : ∀ M ∈ menu, (!decide (spn M.length M = 0) || decide (spn M.length (negM M) = 0)) = true := by decide +kernel
theorem endl_of {M A : List (List Int)} (h : M ∈ menu) (hc : Conj M.length M A) : spn M.length A = 0 → spn M.length (negM A) = 0 := by
  obtain ⟨hd, sM, _⟩ := menu_sq h
  intro z
  rw [spn_conj hd sM hc] at z
  rw [spn_conj hd (neg_sq sM) (neg_conj hd sM hc)]
  have hm := menu_endl M h
  rw [decide_eq_true z] at hm
  exact of_decide_eq_true hm
structure Kd (d : Nat) (M : List (List Int)) (ts : List Int) (u : Int) : Prop where
  hd : d = 2 ∨ d = 3
  af : Af d M ts
  bm : BitsM 1700 M
  bt : BitsL 1700 ts
  pos : 0 < u
  bu : u < 2 ^ 71
  low : gl u ts = 1
  det : detM d M = 1 ∨ detM d M = -1
  nice : Nice d M
  endl : spn d M = 0 → spn d (negM M) = 0
noncomputable def farT (d : Nat) (M : List (List Int)) (ts : List Int) : List Int := (pwA d (M, ts) (spn d M).toNat).2
noncomputable def staysB (d : Nat) (M : List (List Int)) (ts : List Int) : Bool := decide (farT d M ts = List.replicate d 0)
noncomputable def foldN (d : Nat) (M : List (List Int)) : Int := spn d (if detM d M = 1 then M else negM M)
noncomputable def orderN (d : Nat) (M : List (List Int)) (ts : List Int) : Int := if spn d M ≠ 0 ∧ staysB d M ts = true then spn d M else 0
noncomputable def wix (d : Nat) (M : List (List Int)) (ts : List Int) : Nat :=
  if spn d M = 0 then 8 else if detM d M = 1 then (if spn d M = 1 then (if staysB d M ts = true then 0 else 1) else (if staysB d M ts = true then 2 else 3))
  else if spn d (negM M) = 1 then 6 else if 2 < spn d (negM M) then 7 else if staysB d M ts = true then 4 else 5
noncomputable def words : List Str := ["still", "move", "turn", "screw", "mirror", "slide", "point", "twist", "endless"]
noncomputable def nineA (t : Adr) : List Addr := [t.a_Still, t.a_Move, t.a_Turn, t.a_Screw, t.a_Mirror, t.a_Slide, t.a_Point, t.a_Twist, t.a_Endless]
noncomputable def KindC (t : Adr) (C : Addr) : Prop := ∃ i, i < 9 ∧ (nineA t)[i]? = some C
noncomputable def flds (p : Addr) : List (Str × V) := putF "one" (.ref p) []
theorem flds_one (p : Addr) : (flds p).lookup ("one" : Str) = some (.ref p) := by
  unfold flds
  rw [lookup_putF, if_pos rfl]
theorem flds_no (p : Addr) {m : Str} (h : ¬ m = "one") : (flds p).lookup m = none := by
  unfold flds
  rw [lookup_putF, if_neg h]
  rfl
noncomputable def KindAt (H : Hp) (a C p : Addr) : Prop := ∃ dx, H a = some (.ins C dx (flds p))
theorem KindAt.up {H H' : Hp} {a C p : Addr} (h : KindAt H a C p) (s : Same H H') : KindAt H' a C p := let ⟨dx, e⟩ := h; ⟨dx, s _ _ e⟩
noncomputable def SlideAt (H : Hp) (v : V) (d : Nat) (M : List (List Int)) (ts : List Int) (u : Int) : Prop :=
  (spn d M = 0 ∧ v = .non) ∨ (spn d M ≠ 0 ∧ ∃ r, v = .ref r ∧ PlaceAt H r (redT (u * spn d M) (farT d M ts)) (redU (u * spn d M) (farT d M ts)))
theorem SlideAt.up {H H' : Hp} {v : V} {d : Nat} {M : List (List Int)} {ts : List Int} {u : Int} (h : SlideAt H v d M ts u) (s : Same H H') : SlideAt H' v d M ts u := by
  rcases h with h | ⟨h, r, e, p⟩
  · exact .inl h
  · exact .inr ⟨h, r, e, p.up s⟩
noncomputable def sp_again (K : PySem.W.Frag) (C : Addr) : Sp := fun vs H Q _ => ∃ (p : Addr) (M : List (List Int)) (ts : List Int) (u : Int) (n : Nat) (d : Nat), vs = [.ref p, .int n] ∧ DeedAt K H p M ts u ∧ Kd d M ts u ∧ n ≤ 6 ∧ ∀ r H', Same H H' → NfAt K H' r u (pwA d (M, ts) n) → Q (.ref r) H'
noncomputable def sp_signs_turned (K : PySem.W.Frag) : Sp := fun vs H Q _ => ∃ (b1 b2 : Bool) (a : Addr) (A : List (List Int)) (d : Nat), vs = [.ref a] ∧ MatB b1 b2 K H a A ∧ Sq d A ∧ d ≤ 4 ∧ ∀ r H', Same H H' → MatL H' r (negM A) → Q (.ref r) H'
noncomputable def sp_fold_of (K : PySem.W.Frag) : Sp := fun vs H Q _ => ∃ (b1 b2 : Bool) (a : Addr) (A : List (List Int)) (d : Nat), vs = [.ref a] ∧ MatB b1 b2 K H a A ∧ Sq d A ∧ (d = 2 ∨ d = 3) ∧ BitsM 1700 A ∧ ∀ H', Same H H' → Q (.int (foldN d A)) H'
noncomputable def sp_slide_of (K : PySem.W.Frag) : Sp := fun vs H Q _ => ∃ (p : Addr) (M : List (List Int)) (ts : List Int) (u : Int) (d : Nat), vs = [.ref p] ∧ DeedAt K H p M ts u ∧ Kd d M ts u ∧ ∀ v H', Same H H' → SlideAt H' v d M ts u → Q v H'
noncomputable def sp_is_nought : Sp := fun vs H Q _ => ∃ (p : Addr) (ns : List Int) (v : Int), vs = [.ref p] ∧ PlaceAt H p ns v ∧ Q (.bl (!((ns.map fun n => n != 0).any id))) H
noncomputable def sp_Kind_init (t : Adr) : Sp := fun vs H Q _ => ∃ (x C dx p : Addr), vs = [.ref x, .ref p] ∧ H x = some (.ins C dx []) ∧ KindC t C ∧ Q .non (upd H x (.ins C dx (flds p)))
noncomputable def OfKind (K : PySem.W.Frag) (H : Hp) (a C p : Addr) (M : List (List Int)) (ts : List Int) (u : Int) (d : Nat) : Prop := KindAt H a C p ∧ DeedAt K H p M ts u ∧ Kd d M ts u
theorem OfKind.up {K : PySem.W.Frag} {H H' : Hp} {a C p : Addr} {M : List (List Int)} {ts : List Int} {u : Int} {d : Nat} (h : OfKind K H a C p M ts u d) (s : Same H H') : OfKind K H' a C p M ts u d := ⟨h.1.up s, h.2.1.up s, h.2.2⟩
noncomputable def sp_Kind_fold (K : PySem.W.Frag) (t : Adr) (C : Addr) : Sp := fun vs H Q _ => ∃ (a p : Addr) (M : List (List Int)) (ts : List Int) (u : Int) (d : Nat), vs = [.ref a] ∧ KindC t C ∧ OfKind K H a C p M ts u d ∧ ∀ H', Same H H' → Q (.int (foldN d M)) H'
noncomputable def sp_Kind_slide (K : PySem.W.Frag) (t : Adr) (C : Addr) : Sp := fun vs H Q _ => ∃ (a p : Addr) (M : List (List Int)) (ts : List Int) (u : Int) (d : Nat), vs = [.ref a] ∧ KindC t C ∧ OfKind K H a C p M ts u d ∧ ∀ v H', Same H H' → SlideAt H' v d M ts u → Q v H'
noncomputable def sp_Kind_order (K : PySem.W.Frag) (t : Adr) (C : Addr) : Sp := fun vs H Q _ => ∃ (a p : Addr) (M : List (List Int)) (ts : List Int) (u : Int) (d : Nat), vs = [.ref a] ∧ KindC t C ∧ OfKind K H a C p M ts u d ∧ ∀ H', Same H H' → Q (.int (orderN d M ts)) H'
noncomputable def sp_word (t : Adr) (C : Addr) : Sp := fun vs H Q _ => ∃ a, vs = [.ref a] ∧ ∀ i, i < 9 → (nineA t)[i]? = some C → Q (.str (words.getD i "")) H
noncomputable def sp_mk (K : PySem.W.Frag) (t : Adr) (f : Nat → List (List Int) → List Int → Bool → Prop) : Sp := fun vs H Q _ => ∃ (p : Addr) (z : Bool) (M : List (List Int)) (ts : List Int) (u : Int) (d : Nat), vs = [.ref p, .bl z] ∧ DeedAt K H p M ts u ∧ Kd d M ts u ∧ spn d M ≠ 0 ∧ z = staysB d M ts ∧ f d M ts z ∧ ∀ a C H', Same H H' → (nineA t)[wix d M ts]? = some C → KindAt H' a C p → Q (.ref a) H'
noncomputable abbrev sp_unmirrored (K : PySem.W.Frag) (t : Adr) : Sp := sp_mk K t fun d M _ _ => detM d M = 1
noncomputable abbrev sp_mirrored (K : PySem.W.Frag) (t : Adr) : Sp := sp_mk K t fun d M _ _ => ¬ detM d M = 1
noncomputable def sp_kind_of (K : PySem.W.Frag) (t : Adr) : Sp := fun vs H Q _ => ∃ (p : Addr) (M : List (List Int)) (ts : List Int) (u : Int) (d : Nat), vs = [.ref p] ∧ DeedAt K H p M ts u ∧ Kd d M ts u ∧ ∀ a C H', Same H H' → (nineA t)[wix d M ts]? = some C → KindAt H' a C p → Q (.ref a) H'
noncomputable def sp_law_shared : Sp := fun vs H Q _ => ∃ a b : Int, vs = [.int a, .int b] ∧ 0 ≤ a ∧ Q (.int (gcdI a b)) H
noncomputable def sp_law_place (K : PySem.W.Frag) : Sp := fun vs H Q _ => ∃ (a : Addr) (ns : List Int) (u : Int), vs = [.ref a, .int u] ∧ SqL K H a (ns.map V.int) ∧ ns.length ≤ 100 ∧ 0 < u ∧ small u ∧ ∀ p H', Same H H' → PlaceAt H' p (redT u ns) (redU u ns) → Q (.ref p) H'
noncomputable def sp_law_added (K : PySem.W.Frag) : Sp := fun vs H Q _ => ∃ (a : Addr) (A : List (List Int)) (c : Int) (d B : Nat), vs = [.ref a, .int c] ∧ MatL H a A ∧ Sq d A ∧ (d = 2 ∨ d = 3) ∧ BitsM B A ∧ B ≤ 100000 ∧ ∀ r H' A', Same H H' → MatL H' r A' → Conj d A A' → BitsM (B + 44) A' → Q (.ref r) H'
noncomputable def sp_law_led (K : PySem.W.Frag) : Sp := fun vs H Q _ => ∃ (b1 b2 b3 : Bool) (a l : Addr) (A : List (List Int)) (ns : List Int) (d : Nat), vs = [.ref a, .ref l] ∧ MatB b1 b2 K H a A ∧ SqB b3 K H l (ns.map V.int) ∧ Sq d A ∧ (d = 2 ∨ d = 3) ∧ ns.length = d ∧ BitsM 1700 A ∧ BitsL 20000 ns ∧ ∀ r H', Same H H' → H r = none → H' r = some (.lst ((mv A ns).map V.int)) → Q (.ref r) H'
noncomputable def sp_law_tops (K : PySem.W.Frag) : Sp := fun vs H Q _ => ∃ (a l : Addr) (A : List (List Int)) (ns : List Int) (d : Nat), vs = [.ref a, .ref l] ∧ MatL H a A ∧ SqL K H l (ns.map V.int) ∧ (∀ m ∈ ns, Builtin.Int.intBits m ≤ 1048576) ∧ Sq d A ∧ (d = 2 ∨ d = 3) ∧ BitsM 1400 A ∧ ∀ r H' ts, Same H H' → H' r = some (.lst (ts.map V.int)) → ts.length = d → BitsL 1700 ts → Q (.ref r) H'
noncomputable def sp_law_deed (K : PySem.W.Frag) : Sp := fun vs H Q _ => ∃ (a : Addr) (ns : List Int), vs = [.ref a] ∧ SqL K H a (ns.map V.int) ∧ ns.length ≤ 63 ∧ (∀ m ∈ ns, Builtin.Int.intBits m ≤ 1048576) ∧ ∀ q M ts u d H', Same H H' → DeedAt K H' q M ts u → Kd d M ts u → Q (.ref q) H'
noncomputable def sp_law_times (K : PySem.W.Frag) : Sp := fun vs H Q _ => ∃ (b1 b2 b3 b4 : Bool) (a b : Addr) (A B : List (List Int)) (d : Nat), vs = [.ref a, .ref b] ∧ MatB b1 b2 K H a A ∧ MatB b3 b4 K H b B ∧ Sq d A ∧ Sq d B ∧ 1 ≤ d ∧ d ≤ 4 ∧ MulOkM A B ∧ ∀ r H', Same H H' → MatL H' r (mulM d A B) → Q (.ref r) H'
noncomputable def sp_law_rests (K : PySem.W.Frag) : Sp := fun vs H Q _ => ∃ (b1 b2 : Bool) (a : Addr) (A : List (List Int)) (d : Nat), vs = [.ref a] ∧ MatB b1 b2 K H a A ∧ Sq d A ∧ d ≤ 4 ∧ Q (.bl (decide (A = idM d))) H
noncomputable def sp_law_span (K : PySem.W.Frag) : Sp := fun vs H Q _ => ∃ (b1 b2 : Bool) (a : Addr) (A : List (List Int)) (d : Nat), vs = [.ref a] ∧ MatB b1 b2 K H a A ∧ Sq d A ∧ (d = 2 ∨ d = 3) ∧ BitsM 1700 A ∧ ∀ H', Same H H' → Q (.int (spn d A)) H'
noncomputable def sp_law_determinant (K : PySem.W.Frag) : Sp := fun vs H Q _ => ∃ (b1 b2 : Bool) (a : Addr) (A : List (List Int)) (d : Nat), vs = [.ref a] ∧ MatB b1 b2 K H a A ∧ Sq d A ∧ (d = 2 ∨ d = 3) ∧ BitsM 1700 A ∧ Q (.int (detM d A)) H
noncomputable def sp_law_slide (K : PySem.W.Frag) : Sp := fun vs H Q _ => ∃ (p : Addr) (M : List (List Int)) (ts : List Int) (u : Int) (d : Nat), vs = [.ref p, .int (spn d M)] ∧ DeedAt K H p M ts u ∧ Kd d M ts u ∧ spn d M ≠ 0 ∧ ∀ r H', Same H H' → PlaceAt H' r (redT (u * spn d M) (farT d M ts)) (redU (u * spn d M) (farT d M ts)) → Q (.ref r) H'
noncomputable def DueAt (H : Hp) (q : Addr) (d : Nat) (M : List (List Int)) (ts : List Int) (u : Int) : Prop := ∃ v, H q = some (.tup [.str (words.getD (wix d M ts) ""), .int (foldN d M), .int (orderN d M ts), v]) ∧ SlideAt H v d M ts u
theorem DueAt.up {H H' : Hp} {q : Addr} {d : Nat} {M : List (List Int)} {ts : List Int} {u : Int} (h : DueAt H q d M ts u) (s : Same H H') : DueAt H' q d M ts u := let ⟨v, e, sl⟩ := h; ⟨v, s _ _ e, sl.up s⟩
noncomputable def sp_law_due (K : PySem.W.Frag) : Sp := fun vs H Q _ => ∃ (p : Addr) (M : List (List Int)) (ts : List Int) (u : Int) (d : Nat), vs = [.ref p] ∧ DeedAt K H p M ts u ∧ Kd d M ts u ∧ ∀ q H', Same H H' → DueAt H' q d M ts u → Q (.ref q) H'
noncomputable def isB (i : Nat) : List Bool := (List.range 9).map fun j => decide (j = i)
noncomputable def sp_law_classes (K : PySem.W.Frag) (t : Adr) : Sp := fun vs H Q _ => ∃ (a C dx : Addr) (fs : List (Str × V)) (i : Nat), vs = [.ref a] ∧ H a = some (.ins C dx fs) ∧ i < 9 ∧ (nineA t)[i]? = some C ∧ ∀ l H', Same H H' → H' l = some (.lst ((isB i).map V.bl)) → Q (.ref l) H'
noncomputable def sp_law_called (K : PySem.W.Frag) (t : Adr) : Sp := fun vs H Q _ => ∃ (p : Addr) (i : Nat), vs = [.str (words.getD i ""), .ref p] ∧ i < 9 ∧ ∀ a C H', Same H H' → (nineA t)[i]? = some C → KindAt H' a C p → Q (.ref a) H'
noncomputable def sp_law_slides (K : PySem.W.Frag) : Sp := fun vs H Q _ => ∃ (v w : V) (M : List (List Int)) (ts : List Int) (u : Int) (d : Nat), vs = [v, w] ∧ SlideAt H v d M ts u ∧ SlideAt H w d M ts u ∧ Kd d M ts u ∧ ∀ H', Same H H' → Q (.bl true) H'
noncomputable def sp_law_told (K : PySem.W.Frag) (t : Adr) : Sp := fun vs H Q _ => ∃ (a C p q : Addr) (M : List (List Int)) (ts : List Int) (u : Int) (d : Nat), vs = [.ref a, .ref q] ∧ (nineA t)[wix d M ts]? = some C ∧ OfKind K H a C p M ts u d ∧ DueAt H q d M ts u ∧ ∀ H', Same H H' → Q (.bl true) H'
theorem wix_lt (d : Nat) (M : List (List Int)) (ts : List Int) : wix d M ts < 9 := by
  unfold wix
  repeat' split
  all_goals omega
theorem nine_ind {t : Adr} {C : Addr} {p : Addr → Prop} (h : KindC t C) (h0 : p t.a_Still) (h1 : p t.a_Move) (h2 : p t.a_Turn) (h3 : p t.a_Screw) (h4 : p t.a_Mirror) (h5 : p t.a_Slide) (h6 : p t.a_Point) (h7 : p t.a_Twist) (h8 : p t.a_Endless) : p C := by
  obtain ⟨i, hi, e⟩ := h
  match i, hi, e with
  | 0, _, e => cases e; exact h0
  | 1, _, e => cases e; exact h1
  | 2, _, e => cases e; exact h2
  | 3, _, e => cases e; exact h3
  | 4, _, e => cases e; exact h4
  | 5, _, e => cases e; exact h5
  | 6, _, e => cases e; exact h6
  | 7, _, e => cases e; exact h7
  | 8, _, e => cases e; exact h8
theorem kc_cl (T : Txt K mg t) {C : Addr} (h : KindC t C) : Cls K C := nine_ind (p := fun C => Cls K C) h T.cl_Still T.cl_Move T.cl_Turn T.cl_Screw T.cl_Mirror T.cl_Slide T.cl_Point T.cl_Twist T.cl_Endless
theorem kc_no (T : Txt K mg t) {C : Addr} (h : KindC t C) : NoAttr K C "one" := nine_ind (p := fun C => NoAttr K C "one") h T.no_Still T.no_Move T.no_Turn T.no_Screw T.no_Mirror T.no_Slide T.no_Point T.no_Twist T.no_Endless
theorem kc_ty (T : Txt K mg t) {C a dx : Addr} {fs : List (Str × V)} {H : Hp} (h : KindC t C) (e : H a = some (.ins C dx fs)) : TyX K H (.ref a) (.ref C) := .ty (.ins e (kc_cl T h) (nine_ind (p := fun C => PySem.W.findIn K (.ref C) "__class__" = some (some (.builtin "object.__class__"))) h T.ca_Still T.ca_Move T.ca_Turn T.ca_Screw T.ca_Mirror T.ca_Slide T.ca_Point T.ca_Twist T.ca_Endless) T.e_cg T.e_tk (nine_ind (p := fun C => PySem.W.mroIn K C (.type "object") = some true) h T.ob_Still T.ob_Move T.ob_Turn T.ob_Screw T.ob_Mirror T.ob_Slide T.ob_Point T.ob_Twist T.ob_Endless))
theorem kc_kind (T : Txt K mg t) {C : Addr} (h : KindC t C) : PySem.W.kitOne K (.ref C) (.ref t.a_Kind) = some true := nine_ind (p := fun C => PySem.W.kitOne K (.ref C) (.ref t.a_Kind) = some true) h T.i_Still_Kind T.i_Move_Kind T.i_Turn_Kind T.i_Screw_Kind T.i_Mirror_Kind T.i_Slide_Kind T.i_Point_Kind T.i_Twist_Kind T.i_Endless_Kind
theorem kc_is (T : Txt K mg t) {C D : Addr} {i j : Nat} (hi : i < 9) (hj : j < 9) (h1 : (nineA t)[i]? = some C) (h2 : (nineA t)[j]? = some D) : PySem.W.kitOne K (.ref C) (.ref D) = some (decide (j = i)) := by
  match i, hi, h1 with
  | 0, _, h1 =>
    cases h1
    match j, hj, h2 with
    | 0, _, h2 => cases h2; exact T.i_Still_Still
    | 1, _, h2 => cases h2; exact T.i_Still_Move
    | 2, _, h2 => cases h2; exact T.i_Still_Turn
    | 3, _, h2 => cases h2; exact T.i_Still_Screw
    | 4, _, h2 => cases h2; exact T.i_Still_Mirror
    | 5, _, h2 => cases h2; exact T.i_Still_Slide
    | 6, _, h2 => cases h2; exact T.i_Still_Point
    | 7, _, h2 => cases h2; exact T.i_Still_Twist
    | 8, _, h2 => cases h2; exact T.i_Still_Endless
  | 1, _, h1 =>
    cases h1
    match j, hj, h2 with
    | 0, _, h2 => cases h2; exact T.i_Move_Still
    | 1, _, h2 => cases h2; exact T.i_Move_Move
    | 2, _, h2 => cases h2; exact T.i_Move_Turn
    | 3, _, h2 => cases h2; exact T.i_Move_Screw
    | 4, _, h2 => cases h2; exact T.i_Move_Mirror
    | 5, _, h2 => cases h2; exact T.i_Move_Slide
    | 6, _, h2 => cases h2; exact T.i_Move_Point
    | 7, _, h2 => cases h2; exact T.i_Move_Twist
    | 8, _, h2 => cases h2; exact T.i_Move_Endless
  | 2, _, h1 =>
    cases h1
    match j, hj, h2 with
    | 0, _, h2 => cases h2; exact T.i_Turn_Still
    | 1, _, h2 => cases h2; exact T.i_Turn_Move
    | 2, _, h2 => cases h2; exact T.i_Turn_Turn
    | 3, _, h2 => cases h2; exact T.i_Turn_Screw
    | 4, _, h2 => cases h2; exact T.i_Turn_Mirror
    | 5, _, h2 => cases h2; exact T.i_Turn_Slide
    | 6, _, h2 => cases h2; exact T.i_Turn_Point
    | 7, _, h2 => cases h2; exact T.i_Turn_Twist
    | 8, _, h2 => cases h2; exact T.i_Turn_Endless
  | 3, _, h1 =>
    cases h1
    match j, hj, h2 with
    | 0, _, h2 => cases h2; exact T.i_Screw_Still
    | 1, _, h2 => cases h2; exact T.i_Screw_Move
    | 2, _, h2 => cases h2; exact T.i_Screw_Turn
    | 3, _, h2 => cases h2; exact T.i_Screw_Screw
    | 4, _, h2 => cases h2; exact T.i_Screw_Mirror
    | 5, _, h2 => cases h2; exact T.i_Screw_Slide
    | 6, _, h2 => cases h2; exact T.i_Screw_Point
    | 7, _, h2 => cases h2; exact T.i_Screw_Twist
    | 8, _, h2 => cases h2; exact T.i_Screw_Endless
  | 4, _, h1 =>
    cases h1
    match j, hj, h2 with
    | 0, _, h2 => cases h2; exact T.i_Mirror_Still
    | 1, _, h2 => cases h2; exact T.i_Mirror_Move
    | 2, _, h2 => cases h2; exact T.i_Mirror_Turn
    | 3, _, h2 => cases h2; exact T.i_Mirror_Screw
    | 4, _, h2 => cases h2; exact T.i_Mirror_Mirror
    | 5, _, h2 => cases h2; exact T.i_Mirror_Slide
    | 6, _, h2 => cases h2; exact T.i_Mirror_Point
    | 7, _, h2 => cases h2; exact T.i_Mirror_Twist
    | 8, _, h2 => cases h2; exact T.i_Mirror_Endless
  | 5, _, h1 =>
    cases h1
    match j, hj, h2 with
    | 0, _, h2 => cases h2; exact T.i_Slide_Still
    | 1, _, h2 => cases h2; exact T.i_Slide_Move
    | 2, _, h2 => cases h2; exact T.i_Slide_Turn
    | 3, _, h2 => cases h2; exact T.i_Slide_Screw
    | 4, _, h2 => cases h2; exact T.i_Slide_Mirror
    | 5, _, h2 => cases h2; exact T.i_Slide_Slide
    | 6, _, h2 => cases h2; exact T.i_Slide_Point
    | 7, _, h2 => cases h2; exact T.i_Slide_Twist
    | 8, _, h2 => cases h2; exact T.i_Slide_Endless
  | 6, _, h1 =>
    cases h1
    match j, hj, h2 with
    | 0, _, h2 => cases h2; exact T.i_Point_Still
    | 1, _, h2 => cases h2; exact T.i_Point_Move
    | 2, _, h2 => cases h2; exact T.i_Point_Turn
    | 3, _, h2 => cases h2; exact T.i_Point_Screw
    | 4, _, h2 => cases h2; exact T.i_Point_Mirror
    | 5, _, h2 => cases h2; exact T.i_Point_Slide
    | 6, _, h2 => cases h2; exact T.i_Point_Point
    | 7, _, h2 => cases h2; exact T.i_Point_Twist
    | 8, _, h2 => cases h2; exact T.i_Point_Endless
  | 7, _, h1 =>
    cases h1
    match j, hj, h2 with
    | 0, _, h2 => cases h2; exact T.i_Twist_Still
    | 1, _, h2 => cases h2; exact T.i_Twist_Move
    | 2, _, h2 => cases h2; exact T.i_Twist_Turn
    | 3, _, h2 => cases h2; exact T.i_Twist_Screw
    | 4, _, h2 => cases h2; exact T.i_Twist_Mirror
    | 5, _, h2 => cases h2; exact T.i_Twist_Slide
    | 6, _, h2 => cases h2; exact T.i_Twist_Point
    | 7, _, h2 => cases h2; exact T.i_Twist_Twist
    | 8, _, h2 => cases h2; exact T.i_Twist_Endless
  | 8, _, h1 =>
    cases h1
    match j, hj, h2 with
    | 0, _, h2 => cases h2; exact T.i_Endless_Still
    | 1, _, h2 => cases h2; exact T.i_Endless_Move
    | 2, _, h2 => cases h2; exact T.i_Endless_Turn
    | 3, _, h2 => cases h2; exact T.i_Endless_Screw
    | 4, _, h2 => cases h2; exact T.i_Endless_Mirror
    | 5, _, h2 => cases h2; exact T.i_Endless_Slide
    | 6, _, h2 => cases h2; exact T.i_Endless_Point
    | 7, _, h2 => cases h2; exact T.i_Endless_Twist
    | 8, _, h2 => cases h2; exact T.i_Endless_Endless
theorem nine_inj (T : Txt K mg t) {C : Addr} {i j : Nat} (hi : i < 9) (hj : j < 9) (h1 : (nineA t)[i]? = some C) (h2 : (nineA t)[j]? = some C) : i = j := by
  have a := kc_is T hi hj h1 h2
  have b := kc_is T hi hi h1 h1
  rw [a] at b
  by_cases e : j = i
  · exact e.symm
  · rw [decide_eq_false e, decide_eq_true rfl] at b
    cases b
theorem redT_zero {w : Int} {S : List Int} {d : Nat} (hw : 0 < w) (hl : S.length = d) : (redT w S).any (fun n => n != 0) = false ↔ S = List.replicate d 0 := by
  constructor
  · intro h
    refine List.eq_replicate_iff.mpr ⟨hl, fun x hx => ?_⟩
    obtain ⟨i, hi, rfl⟩ := List.getElem_of_mem hx
    have hr : i < (redT w S).length := by unfold redT; rw [List.length_map]; exact hi
    have e := red_cross (u := w) (ns := S) (by omega) (i := i) (x := S[i]) (y := (redT w S)[i]) (by simp [hi]) (by simp [hr])
    have z := List.any_eq_false.mp h _ (List.getElem_mem hr)
    have z0 : (redT w S)[i] = 0 := by simpa using z
    rw [z0, Int.zero_mul] at e
    have up := redU_le S hw
    rcases Int.mul_eq_zero.mp e with q | q
    · exact q
    · omega
  · intro h
    rw [h, (red_zero hw d).1]
    refine List.any_eq_false.mpr fun x hx => ?_
    rw [List.eq_of_mem_replicate hx]
    decide
theorem nought_is {d : Nat} {M : List (List Int)} {ts : List Int} {u : Int} (kd : Kd d M ts u) (z : spn d M ≠ 0) : (!(((redT (u * spn d M) (farT d M ts)).map fun n => n != 0).any id)) = staysB d M ts := by
  have sr := spn_range d M
  have hw : 0 < u * spn d M := Int.mul_pos kd.pos (by omega)
  have hl : (farT d M ts).length = d := (pwA_af (x := (M, ts)) kd.af _).len
  have k := redT_zero hw hl
  unfold staysB
  rw [List.any_map]
  show (!((redT (u * spn d M) (farT d M ts)).any fun n => n != 0)) = _
  cases e : (redT (u * spn d M) (farT d M ts)).any fun n => n != 0 with
  | false => rw [decide_eq_true (k.mp e)]; rfl
  | true => rw [decide_eq_false (fun q => by rw [k.mpr q] at e; cases e)]; rfl
theorem same_made {H : Hp} {x dx : Addr} {o o' : HO} {q : HO} (h1 : H x = none) (h2 : H dx = none) (h3 : dx ≠ x) : Same H (upd (upd (upd H dx q) x o) x o') := fun b u e => by
  have b1 : b ≠ x := ne_of_none e h1
  have b2 : b ≠ dx := ne_of_none e h2
  rw [upd_ne b1, upd_ne b1, upd_ne b2]
  exact e
theorem ok_Kind___init__ (T : Txt K mg t) : FnOk P w K mg base CX0 1 t.a_Kind___init__ t.d_Kind___init__ ["self", "one"] (sp_Kind_init t) := by
  refine T.F_Kind___init__.ok sc_Kind___init__ (fun vs H Q E h => ?_) (fun cdv A outer s H vs Q E hr h => ?_)
  · obtain ⟨x, C, dx, p, rfl, _⟩ := h
    rfl
  · obtain ⟨x, C, dx, p, rfl, hx, hC, hQ⟩ := h
    refine ⟨_, (pss_one (ps_fld (pv 0) (pv 1) rfl)), ?_⟩
    exact ⟨_, rfl, _, rfl, x, C, dx, [], rfl, hx, kc_cl T hC, kc_no T hC, by show 0 < 1000; decide, hQ⟩
theorem ok_Still_word (T : Txt K mg t) : FnOk P w K mg base CX0 1 t.a_Still_word t.d_Still_word ["self"] (sp_word t t.a_Still) := by
  refine T.F_Still_word.ok sc_Still_word (fun vs H Q E h => ?_) (fun cdv A outer s H vs Q E hr h => ?_)
  · obtain ⟨a, rfl, _⟩ := h
    rfl
  · obtain ⟨a, rfl, h⟩ := h
    refine ⟨_, (pss_one (ps_ret pe_str)), ?_⟩
    exact h 0 (by decide) rfl
theorem ok_Move_word (T : Txt K mg t) : FnOk P w K mg base CX0 1 t.a_Move_word t.d_Move_word ["self"] (sp_word t t.a_Move) := by
  refine T.F_Move_word.ok sc_Move_word (fun vs H Q E h => ?_) (fun cdv A outer s H vs Q E hr h => ?_)
  · obtain ⟨a, rfl, _⟩ := h
    rfl
  · obtain ⟨a, rfl, h⟩ := h
    refine ⟨_, (pss_one (ps_ret pe_str)), ?_⟩
    exact h 1 (by decide) rfl
theorem ok_Turn_word (T : Txt K mg t) : FnOk P w K mg base CX0 1 t.a_Turn_word t.d_Turn_word ["self"] (sp_word t t.a_Turn) := by
  refine T.F_Turn_word.ok sc_Turn_word (fun vs H Q E h => ?_) (fun cdv A outer s H vs Q E hr h => ?_)
  · obtain ⟨a, rfl, _⟩ := h
    rfl
  · obtain ⟨a, rfl, h⟩ := h
    refine ⟨_, (pss_one (ps_ret pe_str)), ?_⟩
    exact h 2 (by decide) rfl
theorem ok_Screw_word (T : Txt K mg t) : FnOk P w K mg base CX0 1 t.a_Screw_word t.d_Screw_word ["self"] (sp_word t t.a_Screw) := by
  refine T.F_Screw_word.ok sc_Screw_word (fun vs H Q E h => ?_) (fun cdv A outer s H vs Q E hr h => ?_)
  · obtain ⟨a, rfl, _⟩ := h
    rfl
  · obtain ⟨a, rfl, h⟩ := h
    refine ⟨_, (pss_one (ps_ret pe_str)), ?_⟩
    exact h 3 (by decide) rfl
theorem ok_Mirror_word (T : Txt K mg t) : FnOk P w K mg base CX0 1 t.a_Mirror_word t.d_Mirror_word ["self"] (sp_word t t.a_Mirror) := by
  refine T.F_Mirror_word.ok sc_Mirror_word (fun vs H Q E h => ?_) (fun cdv A outer s H vs Q E hr h => ?_)
  · obtain ⟨a, rfl, _⟩ := h
    rfl
  · obtain ⟨a, rfl, h⟩ := h
    refine ⟨_, (pss_one (ps_ret pe_str)), ?_⟩
    exact h 4 (by decide) rfl
theorem ok_Slide_word (T : Txt K mg t) : FnOk P w K mg base CX0 1 t.a_Slide_word t.d_Slide_word ["self"] (sp_word t t.a_Slide) := by
  refine T.F_Slide_word.ok sc_Slide_word (fun vs H Q E h => ?_) (fun cdv A outer s H vs Q E hr h => ?_)
  · obtain ⟨a, rfl, _⟩ := h
    rfl
  · obtain ⟨a, rfl, h⟩ := h
    refine ⟨_, (pss_one (ps_ret pe_str)), ?_⟩
    exact h 5 (by decide) rfl
theorem ok_Point_word (T : Txt K mg t) : FnOk P w K mg base CX0 1 t.a_Point_word t.d_Point_word ["self"] (sp_word t t.a_Point) := by
  refine T.F_Point_word.ok sc_Point_word (fun vs H Q E h => ?_) (fun cdv A outer s H vs Q E hr h => ?_)
  · obtain ⟨a, rfl, _⟩ := h
    rfl
  · obtain ⟨a, rfl, h⟩ := h
    refine ⟨_, (pss_one (ps_ret pe_str)), ?_⟩
    exact h 6 (by decide) rfl
theorem ok_Twist_word (T : Txt K mg t) : FnOk P w K mg base CX0 1 t.a_Twist_word t.d_Twist_word ["self"] (sp_word t t.a_Twist) := by
  refine T.F_Twist_word.ok sc_Twist_word (fun vs H Q E h => ?_) (fun cdv A outer s H vs Q E hr h => ?_)
  · obtain ⟨a, rfl, _⟩ := h
    rfl
  · obtain ⟨a, rfl, h⟩ := h
    refine ⟨_, (pss_one (ps_ret pe_str)), ?_⟩
    exact h 7 (by decide) rfl
theorem ok_Endless_word (T : Txt K mg t) : FnOk P w K mg base CX0 1 t.a_Endless_word t.d_Endless_word ["self"] (sp_word t t.a_Endless) := by
  refine T.F_Endless_word.ok sc_Endless_word (fun vs H Q E h => ?_) (fun cdv A outer s H vs Q E hr h => ?_)
  · obtain ⟨a, rfl, _⟩ := h
    rfl
  · obtain ⟨a, rfl, h⟩ := h
    refine ⟨_, (pss_one (ps_ret pe_str)), ?_⟩
    exact h 8 (by decide) rfl
theorem D_word (T : Txt K mg t) : ∀ C, KindC t C → MethD P w K mg base 1 "word" (sp_word t) C := fun C h => nine_ind (p := fun C => MethD P w K mg base 1 "word" (sp_word t) C) h ⟨T.cl_Still, _, _, _, T.me_Still_word, ok_Still_word T, T.b_Still_word⟩ ⟨T.cl_Move, _, _, _, T.me_Move_word, ok_Move_word T, T.b_Move_word⟩ ⟨T.cl_Turn, _, _, _, T.me_Turn_word, ok_Turn_word T, T.b_Turn_word⟩ ⟨T.cl_Screw, _, _, _, T.me_Screw_word, ok_Screw_word T, T.b_Screw_word⟩ ⟨T.cl_Mirror, _, _, _, T.me_Mirror_word, ok_Mirror_word T, T.b_Mirror_word⟩ ⟨T.cl_Slide, _, _, _, T.me_Slide_word, ok_Slide_word T, T.b_Slide_word⟩ ⟨T.cl_Point, _, _, _, T.me_Point_word, ok_Point_word T, T.b_Point_word⟩ ⟨T.cl_Twist, _, _, _, T.me_Twist_word, ok_Twist_word T, T.b_Twist_word⟩ ⟨T.cl_Endless, _, _, _, T.me_Endless_word, ok_Endless_word T, T.b_Endless_word⟩
structure Bas (d : Nat) (x : AP) : Prop where
  af : Af d x.1 x.2
  bm : BitsM 1700 x.1
  bt : BitsL 1700 x.2
theorem fine_pw {d : Nat} (hd : d = 2 ∨ d = 3) {x : AP} (h : Bas d x) {u : Int} (h0 : 0 < u) (hu : u < 2 ^ 71) {k : Nat} (hk : k ≤ 100) : Fine d (pwA d x k).1 (redT u (pwA d x k).2) (redU u (pwA d x k).2) := by
  have ha := pwA_af h.af k
  have hb := pwA_bits hd h.af h.bm h.bt k
  have hru := redU_le (pwA d x k).2 h0
  have hk2 : (k + 1) * (1700 + 3) ≤ 200000 := Nat.le_trans (Nat.mul_le_mul_right _ (show k + 1 ≤ 101 by omega)) (by decide)
  have e : (2 : Int) ^ 71 < 2 ^ 1500 := by decide +kernel
  exact ⟨ha.sq, by unfold redT; rw [List.length_map]; exact ha.len, hru.1, hb.1.le hk2, redT_bits (by omega) (hb.2.le hk2), by omega⟩
theorem ok_again (T : Txt K mg t) : FnOk P w K mg base (CX1 P w) 10 t.a_again t.d_again ["one", "times"] (sp_again K t.a_NoNumber) := by
  have G_still : FnOk P w K mg base CX0 8 t.a_still t.d_still ["d"] (sp_still K) := ok_still T
  have G_behind : FnOk P w K mg base CX0 4 t.a_behind t.d_behind ["one", "other"] (sp_behind K) := ok_behind T
  refine T.F_again.okX sc_again (fun vs H Q E h => ?_) (fun cdv A outer s H vs Q E hr h => ?_)
  · obtain ⟨p, M, ts, u, n, d, rfl, _⟩ := h
    rfl
  · obtain ⟨p, M, ts, u, n, d, rfl, hD, dr, hn6, hQ⟩ := h
    have hd := dr.hd
    refine ⟨_, (pss_cons (ps_if (PW.pt (pw_or (pt_cmpR op_lt (pv 1) (pe_un un_neg (pe_globE (v := (.int 200)) rfl T.g_MOST_TIMES)) (nomark _)) (pw_or1 (pt_cmpR op_gt (pv 1) (pe_globE (v := (.int 200)) rfl T.g_MOST_TIMES) (nomark _)))))
      (pss_one (ps_raise rfl landsN_def rfl T.m_NoNumber T.x_NoNumber PySem.F.excBase_ValueError (pa_cons pe_str pa_nil)))
      pss_nil)
      (pss_cons (ps_set (i := 2) sc_again.nd rfl (Or.inl rfl) (pe_ifExp (pt_cmpR op_ge (pv 1) pe_int (nomark _)) (pv 0) pe_never))
      (pss_cons (ps_set (i := 3) sc_again.nd rfl (Or.inl rfl) (pe_callB call_abs rfl T.z_abs (by decide +kernel) (pa_cons (pv 1) pa_nil)))
      (pss_cons (ps_set (i := 4) sc_again.nd rfl (Or.inl rfl) (pe_call G_still (hr.mono (by omega)) rfl T.m_still T.F_still.kp T.b_still .nil pass0 (pa_cons (pe_callB call_lenB rfl T.z_len (by decide +kernel) (pa_cons (pe_ix ix_B (pv 0) pe_int (fun _ _ => rfl)) pa_nil)) pa_nil)))
      (pss_cons (PS.nox (ps_while PassesOwn.never (pt_cmpR op_gt (pv 3) pe_int (nomark _))
      (pss_cons (ps_if (pt_cmpR op_eqZ (pe_op op_modN (pv 3) pe_int) pe_int (nomark _))
      (pss_one (ps_set (i := 4) sc_again.nd rfl (Or.inl rfl) (pe_call G_behind (hr.mono (by omega)) rfl T.m_behind T.F_behind.kp T.b_behind .nil pass0 (pa_cons (pv 4) (pa_cons (pv 2) pa_nil)))))
      pss_nil)
      (pss_cons (ps_set (i := 3) sc_again.nd rfl (Or.inl rfl) (pe_op op_fdivB (pv 3) pe_int))
      (pss_one (ps_if (pt_cmpR op_gt (pv 3) pe_int (nomark _))
      (pss_one (ps_set (i := 2) sc_again.nd rfl (Or.inl rfl) (pe_call G_behind (hr.mono (by omega)) rfl T.m_behind T.F_behind.kp T.b_behind .nil pass0 (pa_cons (pv 2) (pa_cons (pv 2) pa_nil)))))
      pss_nil))))))
      (pss_one (ps_ret (pv 4)))))))), ?_⟩
    show tSeq _ _ _ [some (.ref p), some (.int n), none, none, none] H
    have u150 := dr.bu
    refine st fun N1 e1 => ?_
    simp only [tRaise]
    walk_at "rd2"
    rw [decide_eq_false (show ¬ (n : Int) < -200 by omega), decide_eq_false (show ¬ (200 : Int) < n by omega)]
    refine iteF (iteF ?_)
    subst e1
    refine st fun N1 e1 => ?_
    have key : ∀ (b : AP) (sp : Addr) (H1 : Hp), Same H H1 → NfAt K H1 sp u b → b = (M, ts) → N1 [some (.ref p), some (.int n), some (.ref sp), none, none] H1 := by
      intro b sp H1 s1 hsp eb
      rw [← eb] at hQ
      have hb : Bas d b := by rw [eb]; exact ⟨dr.af, dr.bm, dr.bt⟩
      subst e1
      refine st fun N2 e2 => ?_
      walk_at "rd2"
      rw [show (if (n : Int) < 0 then -(n : Int) else (n : Int)) = ((n : Nat) : Int) by split <;> omega]
      obtain ⟨m, em⟩ : ∃ m : Nat, m = n := ⟨n, rfl⟩
      rw [← em] at hn6 hQ
      subst e2
      refine st fun N2 e2 => ?_
      walk_at "rd2"
      refine deed_ix0 (hD.up s1) fun x hx => mat_len hx ?_
      try walk_at "rd2"
      rw [dr.af.sq.1]
      refine ⟨d, rfl, hd, fun q H2 s2 hq => ?_⟩
      have hq' := (nf_id (K := K) dr.pos).mpr hq
      subst e2
      refine st fun N2 e2 => while_st fun B eB => ?_
      refine ⟨fun c σ H3 => ∃ (sp dp : Addr) (l x e : Nat), σ = [some (.ref p), some (.int n), some (.ref sp), some (.int l), some (.ref dp)] ∧ Same H H3 ∧ NfAt K H3 sp u (pwA d b x) ∧ NfAt K H3 dp u (pwA d b e) ∧ e + l * x = m ∧ x ≤ 100 ∧ l = c,
        ⟨m, sp, q, m, 1, 0, by rw [em], s1.trans s2, by rw [pwA_one hd hb.af]; exact hsp.up s2, hq', by omega, by decide, rfl⟩, ?_⟩
      clear hq' hq hsp
      rintro c σ H3 ⟨sp, dp, l, x, e, rfl, s3, h1, h2, hm2, hx100, rfl⟩
      walk_at "rd2"
      by_cases hl : l = 0
      · subst hl
        rw [decide_eq_false (by decide)]
        refine iteF ?_
        subst e2
        walk_at "rd2"
        have : e = m := by omega
        subst this
        exact hQ dp H3 s3 h2
      rw [decide_eq_true (show (0 : Int) < l by omega)]
      have hlx : x ≤ l * x := Nat.le_mul_of_pos_left _ (by omega)
      refine iteT ⟨fun σ' H' => ∃ (sp dp : Addr) (l' x e : Nat), σ' = [some (.ref p), some (.int n), some (.ref sp), some (.int l'), some (.ref dp)] ∧ Same H H' ∧ NfAt K H' sp u (pwA d b x) ∧ NfAt K H' dp u (pwA d b e) ∧ e + l' * x = m ∧ x ≤ 100 ∧ l' < l, ?_, ?_⟩
      · rintro σ' H' ⟨sp, dp, l', x, e, rfl, s', k1, k2, k3, k4, k5⟩
        exact ⟨l', k5, sp, dp, l', rfl, s', x, k1, e, k2, k3, k4, rfl⟩
      subst eB
      refine st fun N3 e3 => ?_
      have key3 : ∀ (dp : Addr) (e' : Nat) (H4 : Hp), Same H3 H4 → NfAt K H4 dp u (pwA d b e') → e' + (l / 2) * (2 * x) = m → N3 [some (.ref p), some (.int n), some (.ref sp), some (.int l), some (.ref dp)] H4 := by
        intro dp e' H4 s4 h2 hm3
        subst e3
        refine st fun N4 e4 => ?_
        walk_at "rd2"
        refine ⟨dvs _ 2 (by decide) (by decide), ?_⟩
        have el : (l : Int).fdiv 2 = ((l / 2 : Nat) : Int) := by
          rw [Int.fdiv_eq_ediv_of_nonneg _ (by decide)]; omega
        rw [el]
        subst e4
        walk_at "rd2"
        by_cases hl2 : l / 2 = 0
        · rw [decide_eq_false (by omega)]
          refine iteF ?_
          rw [hl2, Nat.zero_mul] at hm3
          exact ⟨dp, l / 2, rfl, rfl, s3.trans s4, x, h1.up s4, e', h2, by rw [hl2, Nat.zero_mul]; omega, hx100, by omega⟩
        · rw [decide_eq_true (by omega)]
          refine iteT ?_
          have hx2 : 2 * x ≤ (l / 2) * (2 * x) := Nat.le_mul_of_pos_left _ (by omega)
          have f1 := fine_pw hd hb dr.pos u150 hx100
          refine ⟨sp, sp, _, _, _, _, _, _, d, rfl, h1.up s4, h1.up s4, f1, f1, by omega, by omega, fun r H5 s5 hr5 => ?_⟩
          have hr5' := nf_behind dr.pos hr5
          rw [pwA_add hd hb.af] at hr5'
          exact ⟨r, rfl, dp, l / 2, rfl, rfl, (s3.trans s4).trans s5, x + x, hr5', e', h2.up s5, by rw [← hm3]; congr 1; congr 1; omega, by omega, by omega⟩
      walk_at "rd2"
      refine ⟨by decide, ?_⟩
      have em : (l : Int).fmod 2 = ((l % 2 : Nat) : Int) := by
        rw [Int.fmod_eq_emod_of_nonneg _ (by decide)]; omega
      rw [em]
      have hdiv : l = 2 * (l / 2) + l % 2 := by omega
      have hmul : l * x = (l / 2) * (2 * x) + (l % 2) * x := by
        rw [← Nat.mul_assoc, Nat.mul_comm (l / 2) 2, ← Nat.add_mul, ← hdiv]
      by_cases ho : l % 2 = 1
      · rw [decide_eq_true (by omega)]
        refine iteT ?_
        rw [ho, Nat.one_mul] at hmul
        have f1 := fine_pw hd hb dr.pos u150 hx100
        have f2 := fine_pw hd hb dr.pos u150 (show e ≤ 100 by omega)
        refine ⟨dp, sp, _, _, _, _, _, _, d, rfl, h2, h1, f2, f1, by omega, by omega, fun r H5 s5 hr5 => ?_⟩
        have hr5' := nf_behind dr.pos hr5
        rw [pwA_add hd hb.af] at hr5'
        exact key3 r (e + x) H5 s5 hr5' (by omega)
      · rw [decide_eq_false (by omega)]
        refine iteF ?_
        rw [show l % 2 = 0 by omega, Nat.zero_mul] at hmul
        exact key3 dp e H3 (Same.refl _) h2 (by omega)
    walk_at "rd2"
    rw [decide_eq_true (show (0 : Int) ≤ n by omega)]
    exact iteT (key (M, ts) p H (Same.refl _) (nf_of hD dr.pos dr.low) rfl)
theorem ok_signs_turned (T : Txt K mg t) : FnOk P w K mg base CX0 1 t.a_signs_turned t.d_signs_turned ["rows"] (sp_signs_turned K) := by
  refine T.F_signs_turned.ok sc_signs_turned (fun vs H Q E h => ?_) (fun cdv A outer s H vs Q E hr h => ?_)
  · obtain ⟨b1, b2, a, A, d, rfl, _⟩ := h
    rfl
  · obtain ⟨b1, b2, a, MA, d, rfl, hA, sA, hd, hQ⟩ := h
    refine ⟨_, (pss_one (ps_ret (pe_compG (xs := ["row"]) (fr := []) (g := (gName 0)) (tt := (tEl (tCompG (iSeq K (tVar 0)) (gName 0) (tEl (tUn (rU fun i => .int (-i)) (tVar 0))) 1 []))) (compG_ok (sc := defScope s_signs_turned) (N := N_signs_turned) rfl rfl (by decide +kernel)) rfl (pi_seq (pv 0)) (fun _ _ _ hE1 => (pg_own (N := ["row"]) (i := 0) hE1 rfl (by decide +kernel))) (fun _ _ _ hE1 => (po_el (pe_compG (xs := ["number"]) (fr := []) (g := (gName 0)) (tt := (tEl (tUn (rU fun i => .int (-i)) (tVar 0)))) (compG_ok (N := ["row"]) hE1 rfl (by decide +kernel)) rfl (pi_seq (pv 0)) (fun _ _ _ hE2 => (pg_own (N := ["number"]) (i := 0) hE2 rfl (by decide +kernel))) (fun _ _ _ hE2 => (po_el (pe_un un_neg (pv 0)))))))))), ?_⟩
    show tRet _ _ [some (.ref a)] H
    walk_at "rd2"
    refine compE_st fun B eB => ?_
    simp only [iSeq]
    walk_at "rd2"
    obtain ⟨xs, x1, x2, x3⟩ := hA.walk
    refine ⟨b1, ⟨_, x1⟩, fun a1 ha1 => ?_⟩
    refine cg_seq (RowR a1 fun i => (MA.getD i []).map fun n => -n) ha1 x1 (by rw [x2, sA.1]; omega) (RowR.mono (a := a1)) ?_ ?_
    · intro i x H2 zs ex s2 ez Q' hQ'
      obtain ⟨p, r, rfl, er, hp⟩ := x3 i x ex
      subst eB
      show tCompG _ _ _ _ _ [some (.ref p)] H2 Q'
      refine compE_st fun B eB => ?_
      simp only [iSeq]
      walk_at "rd2"
      refine ⟨b2, ⟨_, hp.up s2⟩, fun a2 ha2 => ?_⟩
      refine cg_seq (fun k z _ => ∃ n, r[k]? = some n ∧ z = .int (-n)) ha2 (hp.up s2) (by rw [List.length_map, sA.2 r (List.mem_of_getElem? er)]; omega) (fun _ _ _ _ r _ => r) ?_ ?_
      · intro k z H3 zs3 ez2 s3 _ Q2 hQ2
        obtain ⟨n, en, rfl⟩ := ints_at ez2
        subst eB
        show tUn _ _ [some (.int n)] H3 Q2
        walk_at "rd2"
        exact hQ2 _ _ (Same.refl _) ⟨n, en, rfl⟩
      · intro H3 ys s3 e3 hly hr3
        have ey : ys = (r.map fun n => -n).map V.int := by
          refine list_is (by simpa using hly) fun k z e => ?_
          obtain ⟨n, en, rfl⟩ := hr3 k z e
          exact ⟨-n, by rw [List.getElem?_map, en]; rfl, rfl⟩
        subst ey
        have e5 : (MA.getD i []).map (fun n => -n) = r.map fun n => -n := by rw [List.getD_eq_getElem?_getD, er]; rfl
        exact hQ' _ _ s3 ⟨a2, rfl, Ne.symm (ne_of_none ez ha2), by show H3 a2 = some (.lst (((MA.getD i []).map fun n => -n).map V.int)); rw [e5]; exact e3⟩
    · intro H2 ys s2 e2 hly hr2
      have hM0 := MatL.of e2 hr2
      rw [hly, x2] at hM0
      have e6 : (List.range MA.length).map (fun i => (MA.getD i []).map fun n => -n) = negM MA := by
        unfold negM
        refine List.ext_getElem (by simp) fun i h1 h2 => ?_
        simp at h1
        simp [List.getD_eq_getElem?_getD, h1]
      rw [e6] at hM0
      exact hQ a1 H2 s2 hM0
theorem neg_bits {B : Nat} {A : List (List Int)} (h : BitsM B A) : BitsM B (negM A) := fun r hr x hx => by
  obtain ⟨s, hs, rfl⟩ := List.mem_map.mp hr
  obtain ⟨y, hy, rfl⟩ := List.mem_map.mp hx
  rw [Int.natAbs_neg]
  exact h s hs y hy
theorem ok_fold_of (T : Txt K mg t) : FnOk P w K mg base CX0 5 t.a_fold_of t.d_fold_of ["rows"] (sp_fold_of K) := by
  have G_span : FnOk P w K mg base CX0 3 t.a_span t.d_span ["rows"] (sp_span K) := ok_span T
  have G_signs_turned : FnOk P w K mg base CX0 1 t.a_signs_turned t.d_signs_turned ["rows"] (sp_signs_turned K) := ok_signs_turned T
  refine T.F_fold_of.ok sc_fold_of (fun vs H Q E h => ?_) (fun cdv A outer s H vs Q E hr h => ?_)
  · obtain ⟨b1, b2, a, A, d, rfl, _⟩ := h
    rfl
  · obtain ⟨b1, b2, a, MA, d, rfl, hA, sA, hd, hb, hQ⟩ := h
    have G_determinant : FnOk P w K mg base CX0 (d + 1) t.a_determinant t.d_determinant ["rows"] (sp_determinant K d) := ok_determinant T d
    obtain ⟨n, en⟩ : ∃ n, n = d := ⟨d, rfl⟩
    rw [← en] at G_determinant
    have hn3 : n ≤ 3 := by omega
    refine ⟨_, (pss_one (ps_ret (pe_ifExp (pt_cmpR op_eqZ (pe_call G_determinant (hr.mono (by omega)) rfl T.m_determinant T.F_determinant.kp T.b_determinant .nil pass0 (pa_cons (pv 0) pa_nil)) pe_int (nomark _)) (pe_call G_span (hr.mono (by omega)) rfl T.m_span T.F_span.kp T.b_span .nil pass0 (pa_cons (pv 0) pa_nil)) (pe_call G_span (hr.mono (by omega)) rfl T.m_span T.F_span.kp T.b_span .nil pass0 (pa_cons (pe_call G_signs_turned (hr.mono (by omega)) rfl T.m_signs_turned T.F_signs_turned.kp T.b_signs_turned .nil pass0 (pa_cons (pv 0) pa_nil)) pa_nil))))), ?_⟩
    show tRet _ _ [some (.ref a)] H
    walk_at "rd2"
    subst en
    refine sp_det_mk (by omega) (by omega) hA sA hb (by decide) fun H1 s1 => ?_
    unfold foldN at hQ
    try walk_at "rd2"
    by_cases z : detM n MA = 1
    · rw [if_pos z] at hQ
      rw [decide_eq_true z]
      exact iteT ⟨b1, b2, a, MA, n, 1700, rfl, hA.up s1, sA, hd, hb, by decide, fun v H2 s2 hv => by rw [span_is hv]; exact hQ H2 (s1.trans s2)⟩
    · rw [if_neg z] at hQ
      rw [decide_eq_false z]
      refine iteF ⟨b1, b2, a, MA, n, rfl, hA.up s1, sA, by omega, fun r H2 s2 hR => ?_⟩
      exact ⟨false, false, r, negM MA, n, 1700, rfl, hR.b, neg_sq sA, hd, neg_bits hb, by decide, fun v H3 s3 hv => by rw [span_is hv]; exact hQ H3 ((s1.trans s2).trans s3)⟩
theorem ok_is_nought (T : Txt K mg t) : FnOk P w K mg base CX0 1 t.a_is_nought t.d_is_nought ["spot"] sp_is_nought := by
  refine T.F_is_nought.ok sc_is_nought (fun vs H Q E h => ?_) (fun cdv A outer s H vs Q E hr h => ?_)
  · obtain ⟨p, ns, v, rfl, _⟩ := h
    rfl
  · obtain ⟨p, ns, v, rfl, hP, hQ⟩ := h
    refine ⟨_, (pss_one (ps_ret (pe_not (pe_callB (call_anyI rfl) rfl T.z_any (by decide +kernel) (pa_cons (pe_ix ix_B (pv 0) pe_int (fun _ _ => rfl)) pa_nil))))), ?_⟩
    show tRet _ _ [some (.ref p)] H
    walk_at "rd2"
    refine place_ix0 hP fun x hx => ⟨x, rfl, ns, SqT.of hx, ?_⟩
    try walk_at "rd2"
    exact hQ
theorem ok_slide_of (T : Txt K mg t) : FnOk P w K mg base CX0 11 t.a_slide_of t.d_slide_of ["one"] (sp_slide_of K) := by
  have G_span : FnOk P w K mg base CX0 3 t.a_span t.d_span ["rows"] (sp_span K) := ok_span T
  have G_again : FnOk P w K mg base (CX1 P w) 10 t.a_again t.d_again ["one", "times"] (sp_again K t.a_NoNumber) := ok_again T
  have G_place : FnOk P w K mg base (CX1 P w) 2 t.a_place t.d_place ["tops", "under"] (sp_place K t.a_NoPlace) := ok_place T
  refine T.F_slide_of.ok sc_slide_of (fun vs H Q E h => ?_) (fun cdv A outer s H vs Q E hr h => ?_)
  · obtain ⟨p, M, ts, u, d, rfl, _⟩ := h
    rfl
  · obtain ⟨p, M, ts, u, d, rfl, hD, kd, hQ⟩ := h
    refine ⟨_, (pss_cons (ps_set (i := 1) sc_slide_of.nd rfl (Or.inl rfl) (pe_call G_span (hr.mono (by omega)) rfl T.m_span T.F_span.kp T.b_span .nil pass0 (pa_cons (pe_ix ix_B (pv 0) pe_int (fun _ _ => rfl)) pa_nil)))
      (pss_cons (ps_if (pt_cmpR op_eqZ (pv 1) pe_int (nomark _))
      (pss_one (ps_ret pe_non))
      pss_nil)
      (pss_cons (ps_set (i := 2) sc_slide_of.nd rfl (Or.inl rfl) (pe_call G_again (hr.mono (by omega)) rfl T.m_again T.F_again.kp T.b_again .nil passes1 (pa_cons (pv 0) (pa_cons (pv 1) pa_nil))))
      (pss_one (ps_ret (pe_call G_place (hr.mono (by omega)) rfl T.m_place T.F_place.kp T.b_place .nil passes1 (pa_cons (pe_ix ix_B (pv 2) pe_int (fun _ _ => rfl)) (pa_cons (pe_op op_mulB (pe_ix ix_B (pv 2) pe_int (fun _ _ => rfl)) (pv 1)) pa_nil)))))))), ?_⟩
    show tSeq _ _ _ [some (.ref p), none, none] H
    refine st fun N1 e1 => ?_
    walk_at "rd2"
    refine deed_ix0 hD fun x hx => ⟨true, true, x, M, d, 1700, rfl, hx, kd.af.sq, kd.hd, kd.bm, by decide, fun v H1 s1 hv => ?_⟩
    have ev := span_is hv
    subst ev
    have sr := spn_range d M
    subst e1
    refine st fun N1 e1 => ?_
    walk_at "rd2"
    by_cases z : spn d M = 0
    · rw [decide_eq_true z]
      exact iteT (hQ .non H1 s1 (.inl ⟨z, rfl⟩))
    · rw [decide_eq_false z]
      refine iteF ?_
      subst e1
      refine st fun N1 e1 => ?_
      walk_at "rd2"
      obtain ⟨n, en⟩ := Int.eq_ofNat_of_zero_le sr.1
      have hQ2 := fun (r : Addr) (H' : Hp) (s' : Same H H') (hp : PlaceAt H' r (redT (u * n) (pwA d (M, ts) n).2) (redU (u * n) (pwA d (M, ts) n).2)) => hQ (.ref r) H' s' (.inr ⟨z, r, rfl, by unfold farT; rw [en, Int.toNat_natCast]; exact hp⟩)
      rw [en] at sr z ⊢
      refine ⟨p, M, ts, u, n, d, rfl, hD.up s1, kd, by omega, fun r H2 s2 hN => ?_⟩
      have hN' : DeedAt K H2 r (pwA d (M, ts) n).1 (redT u (pwA d (M, ts) n).2) (redU u (pwA d (M, ts) n).2) := hN
      have ru := redU_le (pwA d (M, ts) n).2 kd.pos
      have al := (pwA_af (x := (M, ts)) kd.af n).len
      have dd := kd.hd
      generalize (pwA d (M, ts) n).2 = S at *
      subst e1
      walk_at "rd2"
      refine deed_ix1 hN' fun y hy => deed_ix2 hN' ?_
      try walk_at "rd2"
      have bu := kd.bu
      have sw : small (redU u S * n) := by
        have h6 : redU u S * (n : Int) ≤ 2 ^ 71 * 6 := Int.mul_le_mul (by omega) (by omega) (by omega) (by decide)
        have h7 : 0 ≤ redU u S * (n : Int) := Int.mul_nonneg (by omega) (by omega)
        unfold small
        have h8 : ((redU u S * (n : Int)).natAbs : Int) = redU u S * n := Int.natAbs_of_nonneg h7
        have this : (redU u S * (n : Int)).natAbs < 2 ^ 80 := by
          have e80 : (2 : Int) ^ 71 * 6 < ((2 ^ 80 : Nat) : Int) := by decide
          exact Int.ofNat_lt.mp (by rw [h8]; exact Int.lt_of_le_of_lt h6 e80)
        exact Nat.lt_of_lt_of_le this (Nat.pow_le_pow_right (by decide) (by decide))
      have nz : redU u S * (n : Int) ≠ 0 := Int.mul_ne_zero (by omega) (by omega)
      refine ⟨IntMulOk.of_right (intBits_le_iff.mpr (by omega)), true, y, redT u S, redU u S * n, rfl, SqB.tup hy, by unfold redT; rw [List.length_map]; omega, sw, fun z => ?_, fun _ _ r3 H3 s3 hP => ?_⟩
      · rcases z with z | z
        · exact absurd z nz
        · have := congrArg List.length z
          unfold redT at this
          rw [List.length_map, show S.length = d from al] at this
          have : d = 0 := this
          omega
      · have re := red_eq (p := redU u S * n) (w := u * n) (xs := redT u S) (ys := S) (Int.mul_pos (by omega) (by omega)) (Int.mul_pos kd.pos (by omega)) (by unfold redT; rw [List.length_map]) fun i x y ex ey => by
          have := red_cross (u := u) (ns := S) (by have := kd.pos; omega) ey ex
          calc x * (u * n) = (x * u) * n := by rw [Int.mul_assoc]
            _ = (y * redU u S) * n := by rw [this]
            _ = y * (redU u S * n) := by rw [Int.mul_assoc]
        rw [re.1, re.2] at hP
        exact hQ2 r3 H3 ((s1.trans s2).trans s3) hP
theorem D_fold_of {T : Txt K mg t} (F : ∀ C, KindC t C → FnOk P w K mg base CX0 6 t.a_Kind_fold t.d_Kind_fold ["self"] (sp_Kind_fold K t C)) : ∀ C, KindC t C → MethD P w K mg base 6 "fold" (sp_Kind_fold K t) C := fun C h => nine_ind (p := fun C => KindC t C → MethD P w K mg base 6 "fold" (sp_Kind_fold K t) C) h (fun h => ⟨T.cl_Still, _, _, _, T.me_Still_fold, F _ h, T.b_Kind_fold⟩) (fun h => ⟨T.cl_Move, _, _, _, T.me_Move_fold, F _ h, T.b_Kind_fold⟩) (fun h => ⟨T.cl_Turn, _, _, _, T.me_Turn_fold, F _ h, T.b_Kind_fold⟩) (fun h => ⟨T.cl_Screw, _, _, _, T.me_Screw_fold, F _ h, T.b_Kind_fold⟩) (fun h => ⟨T.cl_Mirror, _, _, _, T.me_Mirror_fold, F _ h, T.b_Kind_fold⟩) (fun h => ⟨T.cl_Slide, _, _, _, T.me_Slide_fold, F _ h, T.b_Kind_fold⟩) (fun h => ⟨T.cl_Point, _, _, _, T.me_Point_fold, F _ h, T.b_Kind_fold⟩) (fun h => ⟨T.cl_Twist, _, _, _, T.me_Twist_fold, F _ h, T.b_Kind_fold⟩) (fun h => ⟨T.cl_Endless, _, _, _, T.me_Endless_fold, F _ h, T.b_Kind_fold⟩) h
theorem D_slide_of {T : Txt K mg t} (F : ∀ C, KindC t C → FnOk P w K mg base CX0 12 t.a_Kind_slide t.d_Kind_slide ["self"] (sp_Kind_slide K t C)) : ∀ C, KindC t C → MethD P w K mg base 12 "slide" (sp_Kind_slide K t) C := fun C h => nine_ind (p := fun C => KindC t C → MethD P w K mg base 12 "slide" (sp_Kind_slide K t) C) h (fun h => ⟨T.cl_Still, _, _, _, T.me_Still_slide, F _ h, T.b_Kind_slide⟩) (fun h => ⟨T.cl_Move, _, _, _, T.me_Move_slide, F _ h, T.b_Kind_slide⟩) (fun h => ⟨T.cl_Turn, _, _, _, T.me_Turn_slide, F _ h, T.b_Kind_slide⟩) (fun h => ⟨T.cl_Screw, _, _, _, T.me_Screw_slide, F _ h, T.b_Kind_slide⟩) (fun h => ⟨T.cl_Mirror, _, _, _, T.me_Mirror_slide, F _ h, T.b_Kind_slide⟩) (fun h => ⟨T.cl_Slide, _, _, _, T.me_Slide_slide, F _ h, T.b_Kind_slide⟩) (fun h => ⟨T.cl_Point, _, _, _, T.me_Point_slide, F _ h, T.b_Kind_slide⟩) (fun h => ⟨T.cl_Twist, _, _, _, T.me_Twist_slide, F _ h, T.b_Kind_slide⟩) (fun h => ⟨T.cl_Endless, _, _, _, T.me_Endless_slide, F _ h, T.b_Kind_slide⟩) h
theorem D_order_of {T : Txt K mg t} (F : ∀ C, KindC t C → FnOk P w K mg base CX0 13 t.a_Kind_order t.d_Kind_order ["self"] (sp_Kind_order K t C)) : ∀ C, KindC t C → MethD P w K mg base 13 "order" (sp_Kind_order K t) C := fun C h => nine_ind (p := fun C => KindC t C → MethD P w K mg base 13 "order" (sp_Kind_order K t) C) h (fun h => ⟨T.cl_Still, _, _, _, T.me_Still_order, F _ h, T.b_Kind_order⟩) (fun h => ⟨T.cl_Move, _, _, _, T.me_Move_order, F _ h, T.b_Kind_order⟩) (fun h => ⟨T.cl_Turn, _, _, _, T.me_Turn_order, F _ h, T.b_Kind_order⟩) (fun h => ⟨T.cl_Screw, _, _, _, T.me_Screw_order, F _ h, T.b_Kind_order⟩) (fun h => ⟨T.cl_Mirror, _, _, _, T.me_Mirror_order, F _ h, T.b_Kind_order⟩) (fun h => ⟨T.cl_Slide, _, _, _, T.me_Slide_order, F _ h, T.b_Kind_order⟩) (fun h => ⟨T.cl_Point, _, _, _, T.me_Point_order, F _ h, T.b_Kind_order⟩) (fun h => ⟨T.cl_Twist, _, _, _, T.me_Twist_order, F _ h, T.b_Kind_order⟩) (fun h => ⟨T.cl_Endless, _, _, _, T.me_Endless_order, F _ h, T.b_Kind_order⟩) h
theorem ok_Kind_fold (T : Txt K mg t) : ∀ C, KindC t C → FnOk P w K mg base CX0 6 t.a_Kind_fold t.d_Kind_fold ["self"] (sp_Kind_fold K t C) := by
  intro C hC0
  have G_fold_of : FnOk P w K mg base CX0 5 t.a_fold_of t.d_fold_of ["rows"] (sp_fold_of K) := ok_fold_of T
  refine T.F_Kind_fold.ok sc_Kind_fold (fun vs H Q E h => ?_) (fun cdv A outer s H vs Q E hr h => ?_)
  · obtain ⟨a, p, M, ts, u, d, rfl, _⟩ := h
    rfl
  · obtain ⟨a, p, M, ts, u, d, rfl, hC, ⟨⟨dx, hk⟩, hD, kd⟩, hQ⟩ := h
    refine ⟨_, (pss_one (ps_ret (pe_call G_fold_of (hr.mono (by omega)) rfl T.m_fold_of T.F_fold_of.kp T.b_fold_of .nil pass0 (pa_cons (pe_ix ix_B (pe_fld (pv 0) rfl) pe_int (fun _ _ => rfl)) pa_nil)))), ?_⟩
    show tRet _ _ [some (.ref a)] H
    walk_at "rd2"
    refine ⟨_, rfl, a, C, dx, _, _, rfl, hk, kc_cl T hC, kc_no T hC, flds_one p, ?_⟩
    exact deed_ix0 hD fun x hx => ⟨true, true, x, M, d, rfl, hx, kd.af.sq, kd.hd, kd.bm, fun H' s' => hQ H' s'⟩
theorem D_fold (T : Txt K mg t) : ∀ C, KindC t C → MethD P w K mg base 6 "fold" (sp_Kind_fold K t) C := D_fold_of (T := T) (ok_Kind_fold T)
theorem ok_Kind_slide (T : Txt K mg t) : ∀ C, KindC t C → FnOk P w K mg base CX0 12 t.a_Kind_slide t.d_Kind_slide ["self"] (sp_Kind_slide K t C) := by
  intro C hC0
  have G_slide_of : FnOk P w K mg base CX0 11 t.a_slide_of t.d_slide_of ["one"] (sp_slide_of K) := ok_slide_of T
  refine T.F_Kind_slide.ok sc_Kind_slide (fun vs H Q E h => ?_) (fun cdv A outer s H vs Q E hr h => ?_)
  · obtain ⟨a, p, M, ts, u, d, rfl, _⟩ := h
    rfl
  · obtain ⟨a, p, M, ts, u, d, rfl, hC, ⟨⟨dx, hk⟩, hD, kd⟩, hQ⟩ := h
    refine ⟨_, (pss_one (ps_ret (pe_call G_slide_of (hr.mono (by omega)) rfl T.m_slide_of T.F_slide_of.kp T.b_slide_of .nil pass0 (pa_cons (pe_fld (pv 0) rfl) pa_nil)))), ?_⟩
    show tRet _ _ [some (.ref a)] H
    walk_at "rd2"
    exact ⟨_, rfl, a, C, dx, _, _, rfl, hk, kc_cl T hC, kc_no T hC, flds_one p, p, M, ts, u, d, rfl, hD, kd, hQ⟩
theorem D_slide (T : Txt K mg t) : ∀ C, KindC t C → MethD P w K mg base 12 "slide" (sp_Kind_slide K t) C := D_slide_of (T := T) (ok_Kind_slide T)
theorem ok_Kind_order (T : Txt K mg t) : ∀ C, KindC t C → FnOk P w K mg base CX0 13 t.a_Kind_order t.d_Kind_order ["self"] (sp_Kind_order K t C) := by
  intro C hC0
  have G_span : FnOk P w K mg base CX0 3 t.a_span t.d_span ["rows"] (sp_span K) := ok_span T
  have G_is_nought : FnOk P w K mg base CX0 1 t.a_is_nought t.d_is_nought ["spot"] sp_is_nought := ok_is_nought T
  refine T.F_Kind_order.ok sc_Kind_order (fun vs H Q E h => ?_) (fun cdv A outer s H vs Q E hr h => ?_)
  · obtain ⟨a, p, M, ts, u, d, rfl, _⟩ := h
    rfl
  · obtain ⟨a, p, M, ts, u, d, rfl, hC, ⟨⟨dx, hk⟩, hD, kd⟩, hQ⟩ := h
    refine ⟨_, (pss_cons (ps_set (i := 1) sc_Kind_order.nd rfl (Or.inl rfl) (pe_methD0 (Fm := KindC t) (pv 0) (D_slide T) (hr.mono (by omega))))
      (pss_one (ps_ret (pe_ifExp (PW.pt (pw_and (pt_cmpR op_notN (pv 1) pe_non (nomark _)) (pw_and1 (pt_val (pe_call G_is_nought (hr.mono (by omega)) rfl T.m_is_nought T.F_is_nought.kp T.b_is_nought .nil pass0 (pa_cons (pv 1) pa_nil)))))) (pe_call G_span (hr.mono (by omega)) rfl T.m_span T.F_span.kp T.b_span .nil pass0 (pa_cons (pe_ix ix_B (pe_fld (pv 0) rfl) pe_int (fun _ _ => rfl)) pa_nil)) pe_int)))), ?_⟩
    show tSeq _ _ _ [some (.ref a), none] H
    refine st fun N1 e1 => ?_
    walk_at "rd2"
    refine ⟨_, rfl, a, C, dx, _, rfl, hk, hC, flds_no p (by decide +kernel), a, p, M, ts, u, d, rfl, hC, ⟨⟨dx, hk⟩, hD, kd⟩, fun v H1 s1 hv => ?_⟩
    unfold orderN at hQ
    subst e1
    walk_at "rd2"
    rcases hv with ⟨z, rfl⟩ | ⟨z, r, rfl, hP⟩
    · rw [if_neg (fun q => q.1 z)] at hQ
      rw [decide_eq_true rfl]
      exact iteF (hQ H1 s1)
    · rw [decide_eq_false (fun q => by cases q)]
      refine iteT ⟨r, _, _, rfl, hP, ?_⟩
      rw [nought_is kd z]
      cases hz : staysB d M ts with
      | true =>
        rw [if_pos ⟨z, hz⟩] at hQ
        refine ⟨_, rfl, iteT ?_⟩
        refine ⟨_, rfl, a, C, dx, _, _, rfl, s1 _ _ hk, kc_cl T hC, kc_no T hC, flds_one p, ?_⟩
        exact deed_ix0 (hD.up s1) fun x hx => ⟨true, true, x, M, d, 1700, rfl, hx, kd.af.sq, kd.hd, kd.bm, by decide, fun v H' s' hv => by rw [span_is hv]; exact hQ H' (s1.trans s')⟩
      | false =>
        rw [if_neg (fun q => by rw [hz] at q; exact absurd q.2 (by decide))] at hQ
        exact ⟨_, rfl, iteF (hQ H1 s1)⟩
theorem D_order (T : Txt K mg t) : ∀ C, KindC t C → MethD P w K mg base 13 "order" (sp_Kind_order K t) C := D_order_of (T := T) (ok_Kind_order T)
theorem ok_unmirrored (T : Txt K mg t) : FnOk P w K mg base CX0 6 t.a_unmirrored t.d_unmirrored ["one", "stays"] (sp_unmirrored K t) := by
  have G_fold_of : FnOk P w K mg base CX0 5 t.a_fold_of t.d_fold_of ["rows"] (sp_fold_of K) := ok_fold_of T
  have G_Kind___init__ : FnOk P w K mg base CX0 1 t.a_Kind___init__ t.d_Kind___init__ ["self", "one"] (sp_Kind_init t) := ok_Kind___init__ T
  refine T.F_unmirrored.ok sc_unmirrored (fun vs H Q E h => ?_) (fun cdv A outer s H vs Q E hr h => ?_)
  · obtain ⟨p, z, M, ts, u, d, rfl, _⟩ := h
    rfl
  · obtain ⟨p, z, M, ts, u, d, rfl, hD, kd, hs, ez, hdt, hQ⟩ := h
    refine ⟨_, (pss_cons (ps_if (pt_cmpR op_eqZ (pe_call G_fold_of (hr.mono (by omega)) rfl T.m_fold_of T.F_fold_of.kp T.b_fold_of .nil pass0 (pa_cons (pe_ix ix_B (pv 0) pe_int (fun _ _ => rfl)) pa_nil)) pe_int (nomark _))
      (pss_one (ps_ret (pe_ifExp (pt_val (pv 1)) (pe_make (C := t.a_Still) (T.mk_Still) G_Kind___init__ (hr.mono (by omega)) rfl T.m_Still T.b_Kind___init__ .nil pass0 (pa_cons (pv 0) pa_nil)) (pe_make (C := t.a_Move) (T.mk_Move) G_Kind___init__ (hr.mono (by omega)) rfl T.m_Move T.b_Kind___init__ .nil pass0 (pa_cons (pv 0) pa_nil)))))
      pss_nil)
      (pss_one (ps_ret (pe_ifExp (pt_val (pv 1)) (pe_make (C := t.a_Turn) (T.mk_Turn) G_Kind___init__ (hr.mono (by omega)) rfl T.m_Turn T.b_Kind___init__ .nil pass0 (pa_cons (pv 0) pa_nil)) (pe_make (C := t.a_Screw) (T.mk_Screw) G_Kind___init__ (hr.mono (by omega)) rfl T.m_Screw T.b_Kind___init__ .nil pass0 (pa_cons (pv 0) pa_nil)))))), ?_⟩
    show tSeq _ _ _ [some (.ref p), some (.bl z)] H
    refine st fun N1 e1 => ?_
    walk_at "rd2"
    refine deed_ix0 hD fun x hx => ⟨true, true, x, M, d, rfl, hx, kd.af.sq, kd.hd, kd.bm, fun H1 s1 => ?_⟩
    have ef : foldN d M = spn d M := by unfold foldN; rw [if_pos hdt]
    rw [ef]
    have ew : wix d M ts = if spn d M = 1 then (if staysB d M ts = true then 0 else 1) else (if staysB d M ts = true then 2 else 3) := by unfold wix; rw [if_neg hs, if_pos hdt]
    rw [ew, ← ez] at hQ
    have mk : ∀ (C : Addr) (i : Nat), i < 9 → (nineA t)[i]? = some C → (∀ a H', Same H H' → KindAt H' a C p → Q (.ref a) H') → ∀ x dx, H1 x = none → H1 dx = none → dx ≠ x → sp_Kind_init t [.ref x, .ref p] (upd (upd H1 dx (.own x)) x (.ins C dx [])) (fun v H2 => v = .non ∧ Q (.ref x) H2) E0 := fun C i hi hC q x dx h1 h2 h3 =>
      ⟨x, C, dx, p, rfl, upd_same, ⟨i, hi, hC⟩, rfl, q x _ (s1.trans (same_made h1 h2 h3)) ⟨dx, upd_same⟩⟩
    try walk_at "rd2"
    by_cases k1 : spn d M = 1
    · rw [decide_eq_true k1]
      rw [if_pos k1] at hQ
      refine iteT ?_
      cases z with
      | true => exact iteT ⟨_, rfl, mk _ 0 (by decide) rfl fun a H' s' ha => hQ a _ H' s' rfl ha⟩
      | false => exact iteF ⟨_, rfl, mk _ 1 (by decide) rfl fun a H' s' ha => hQ a _ H' s' rfl ha⟩
    · rw [decide_eq_false k1]
      rw [if_neg k1] at hQ
      refine iteF ?_
      subst e1
      walk_at "rd2"
      cases z with
      | true => exact iteT ⟨_, rfl, mk _ 2 (by decide) rfl fun a H' s' ha => hQ a _ H' s' rfl ha⟩
      | false => exact iteF ⟨_, rfl, mk _ 3 (by decide) rfl fun a H' s' ha => hQ a _ H' s' rfl ha⟩
theorem ok_mirrored (T : Txt K mg t) : FnOk P w K mg base CX0 6 t.a_mirrored t.d_mirrored ["one", "stays"] (sp_mirrored K t) := by
  have G_fold_of : FnOk P w K mg base CX0 5 t.a_fold_of t.d_fold_of ["rows"] (sp_fold_of K) := ok_fold_of T
  have G_Kind___init__ : FnOk P w K mg base CX0 1 t.a_Kind___init__ t.d_Kind___init__ ["self", "one"] (sp_Kind_init t) := ok_Kind___init__ T
  refine T.F_mirrored.ok sc_mirrored (fun vs H Q E h => ?_) (fun cdv A outer s H vs Q E hr h => ?_)
  · obtain ⟨p, z, M, ts, u, d, rfl, _⟩ := h
    rfl
  · obtain ⟨p, z, M, ts, u, d, rfl, hD, kd, hs, ez, hdt, hQ⟩ := h
    refine ⟨_, (pss_cons (ps_set (i := 2) sc_mirrored.nd rfl (Or.inl rfl) (pe_call G_fold_of (hr.mono (by omega)) rfl T.m_fold_of T.F_fold_of.kp T.b_fold_of .nil pass0 (pa_cons (pe_ix ix_B (pv 0) pe_int (fun _ _ => rfl)) pa_nil)))
      (pss_cons (ps_if (pt_cmpR op_eqZ (pv 2) pe_int (nomark _))
      (pss_one (ps_ret (pe_make (C := t.a_Point) (T.mk_Point) G_Kind___init__ (hr.mono (by omega)) rfl T.m_Point T.b_Kind___init__ .nil pass0 (pa_cons (pv 0) pa_nil))))
      pss_nil)
      (pss_cons (ps_if (pt_cmpR op_gt (pv 2) pe_int (nomark _))
      (pss_one (ps_ret (pe_make (C := t.a_Twist) (T.mk_Twist) G_Kind___init__ (hr.mono (by omega)) rfl T.m_Twist T.b_Kind___init__ .nil pass0 (pa_cons (pv 0) pa_nil))))
      pss_nil)
      (pss_one (ps_ret (pe_ifExp (pt_val (pv 1)) (pe_make (C := t.a_Mirror) (T.mk_Mirror) G_Kind___init__ (hr.mono (by omega)) rfl T.m_Mirror T.b_Kind___init__ .nil pass0 (pa_cons (pv 0) pa_nil)) (pe_make (C := t.a_Slide) (T.mk_Slide) G_Kind___init__ (hr.mono (by omega)) rfl T.m_Slide T.b_Kind___init__ .nil pass0 (pa_cons (pv 0) pa_nil)))))))), ?_⟩
    show tSeq _ _ _ [some (.ref p), some (.bl z), none] H
    refine st fun N1 e1 => ?_
    walk_at "rd2"
    refine deed_ix0 hD fun x hx => ⟨true, true, x, M, d, rfl, hx, kd.af.sq, kd.hd, kd.bm, fun H1 s1 => ?_⟩
    have ef : foldN d M = spn d (negM M) := by unfold foldN; rw [if_neg hdt]
    rw [ef]
    have ew : wix d M ts = if spn d (negM M) = 1 then 6 else if 2 < spn d (negM M) then 7 else if staysB d M ts = true then 4 else 5 := by unfold wix; rw [if_neg hs, if_neg hdt]
    rw [ew, ← ez] at hQ
    have mk : ∀ (C : Addr) (i : Nat), i < 9 → (nineA t)[i]? = some C → (∀ a H', Same H H' → KindAt H' a C p → Q (.ref a) H') → ∀ x dx, H1 x = none → H1 dx = none → dx ≠ x → sp_Kind_init t [.ref x, .ref p] (upd (upd H1 dx (.own x)) x (.ins C dx [])) (fun v H2 => v = .non ∧ Q (.ref x) H2) E0 := fun C i hi hC q x dx h1 h2 h3 =>
      ⟨x, C, dx, p, rfl, upd_same, ⟨i, hi, hC⟩, rfl, q x _ (s1.trans (same_made h1 h2 h3)) ⟨dx, upd_same⟩⟩
    subst e1
    refine st fun N1 e1 => ?_
    walk_at "rd2"
    by_cases k1 : spn d (negM M) = 1
    · rw [decide_eq_true k1]
      rw [if_pos k1] at hQ
      exact iteT ⟨_, rfl, mk _ 6 (by decide) rfl fun a H' s' ha => hQ a _ H' s' rfl ha⟩
    rw [decide_eq_false k1]
    rw [if_neg k1] at hQ
    refine iteF ?_
    subst e1
    refine st fun N1 e1 => ?_
    walk_at "rd2"
    by_cases k2 : 2 < spn d (negM M)
    · rw [decide_eq_true k2]
      rw [if_pos k2] at hQ
      exact iteT ⟨_, rfl, mk _ 7 (by decide) rfl fun a H' s' ha => hQ a _ H' s' rfl ha⟩
    rw [decide_eq_false k2]
    rw [if_neg k2] at hQ
    refine iteF ?_
    subst e1
    walk_at "rd2"
    cases z with
    | true => exact iteT ⟨_, rfl, mk _ 4 (by decide) rfl fun a H' s' ha => hQ a _ H' s' rfl ha⟩
    | false => exact iteF ⟨_, rfl, mk _ 5 (by decide) rfl fun a H' s' ha => hQ a _ H' s' rfl ha⟩
theorem ok_kind_of (T : Txt K mg t) : FnOk P w K mg base CX0 12 t.a_kind_of t.d_kind_of ["one"] (sp_kind_of K t) := by
  have G_slide_of : FnOk P w K mg base CX0 11 t.a_slide_of t.d_slide_of ["one"] (sp_slide_of K) := ok_slide_of T
  have G_is_nought : FnOk P w K mg base CX0 1 t.a_is_nought t.d_is_nought ["spot"] sp_is_nought := ok_is_nought T
  have G_unmirrored : FnOk P w K mg base CX0 6 t.a_unmirrored t.d_unmirrored ["one", "stays"] (sp_unmirrored K t) := ok_unmirrored T
  have G_mirrored : FnOk P w K mg base CX0 6 t.a_mirrored t.d_mirrored ["one", "stays"] (sp_mirrored K t) := ok_mirrored T
  have G_Kind___init__ : FnOk P w K mg base CX0 1 t.a_Kind___init__ t.d_Kind___init__ ["self", "one"] (sp_Kind_init t) := ok_Kind___init__ T
  refine T.F_kind_of.ok sc_kind_of (fun vs H Q E h => ?_) (fun cdv A outer s H vs Q E hr h => ?_)
  · obtain ⟨p, M, ts, u, d, rfl, _⟩ := h
    rfl
  · obtain ⟨p, M, ts, u, d, rfl, hD, kd, hQ⟩ := h
    have G_determinant : FnOk P w K mg base CX0 (d + 1) t.a_determinant t.d_determinant ["rows"] (sp_determinant K d) := ok_determinant T d
    obtain ⟨n, en⟩ : ∃ n, n = d := ⟨d, rfl⟩
    rw [← en] at G_determinant
    have hn3 : n ≤ 3 := by have := kd.hd; omega
    refine ⟨_, (pss_cons (ps_set (i := 1) sc_kind_of.nd rfl (Or.inl rfl) (pe_call G_slide_of (hr.mono (by omega)) rfl T.m_slide_of T.F_slide_of.kp T.b_slide_of .nil pass0 (pa_cons (pv 0) pa_nil)))
      (pss_cons (ps_if (pt_cmpR op_isN (pv 1) pe_non (nomark _))
      (pss_one (ps_ret (pe_make (C := t.a_Endless) (T.mk_Endless) G_Kind___init__ (hr.mono (by omega)) rfl T.m_Endless T.b_Kind___init__ .nil pass0 (pa_cons (pv 0) pa_nil))))
      pss_nil)
      (pss_cons (ps_if (pt_cmpR op_eqZ (pe_call G_determinant (hr.mono (by omega)) rfl T.m_determinant T.F_determinant.kp T.b_determinant .nil pass0 (pa_cons (pe_ix ix_B (pv 0) pe_int (fun _ _ => rfl)) pa_nil)) pe_int (nomark _))
      (pss_one (ps_ret (pe_call G_unmirrored (hr.mono (by omega)) rfl T.m_unmirrored T.F_unmirrored.kp T.b_unmirrored .nil pass0 (pa_cons (pv 0) (pa_cons (pe_call G_is_nought (hr.mono (by omega)) rfl T.m_is_nought T.F_is_nought.kp T.b_is_nought .nil pass0 (pa_cons (pv 1) pa_nil)) pa_nil)))))
      pss_nil)
      (pss_one (ps_ret (pe_call G_mirrored (hr.mono (by omega)) rfl T.m_mirrored T.F_mirrored.kp T.b_mirrored .nil pass0 (pa_cons (pv 0) (pa_cons (pe_call G_is_nought (hr.mono (by omega)) rfl T.m_is_nought T.F_is_nought.kp T.b_is_nought .nil pass0 (pa_cons (pv 1) pa_nil)) pa_nil)))))))), ?_⟩
    show tSeq _ _ _ [some (.ref p), none] H
    refine st fun N1 e1 => ?_
    walk_at "rd2"
    subst en
    refine ⟨p, M, ts, u, n, rfl, hD, kd, fun v H1 s1 hv => ?_⟩
    subst e1
    refine st fun N1 e1 => ?_
    walk_at "rd2"
    rcases hv with ⟨z, rfl⟩ | ⟨z, r, rfl, hP⟩
    · rw [decide_eq_true rfl]
      refine iteT ⟨_, rfl, fun x dx h1 h2 h3 => ?_⟩
      have ew : wix n M ts = 8 := by unfold wix; rw [if_pos z]
      rw [ew] at hQ
      exact ⟨x, _, dx, p, rfl, upd_same, ⟨8, by decide, rfl⟩, rfl, hQ x _ _ (s1.trans (same_made h1 h2 h3)) rfl ⟨dx, upd_same⟩⟩
    · rw [decide_eq_false (fun q => by cases q)]
      refine iteF ?_
      subst e1
      refine st fun N1 e1 => ?_
      walk_at "rd2"
      refine deed_ix0 (hD.up s1) fun x hx => sp_det_mk (by have := kd.hd; omega) (by omega) hx kd.af.sq kd.bm (by decide) fun H2 s2 => ?_
      try walk_at "rd2"
      by_cases k1 : detM n M = 1
      · rw [decide_eq_true k1]
        refine iteT ⟨r, _, _, rfl, hP.up s2, ?_⟩
        rw [nought_is kd z]
        exact ⟨p, _, M, ts, u, n, rfl, (hD.up s1).up s2, kd, z, rfl, k1, fun a C H' s' => hQ a C H' ((s1.trans s2).trans s')⟩
      · rw [decide_eq_false k1]
        refine iteF ?_
        subst e1
        walk_at "rd2"
        refine ⟨r, _, _, rfl, hP.up s2, ?_⟩
        rw [nought_is kd z]
        exact ⟨p, _, M, ts, u, n, rfl, (hD.up s1).up s2, kd, z, rfl, k1, fun a C H' s' => hQ a C H' ((s1.trans s2).trans s')⟩
theorem gcd_fm (a b : Int) : gcdI (b.fmod a) a = gcdI a b := by
  unfold gcdI
  have := gcd_fmodI b a
  rw [Int.gcd_comm, this, Int.gcd_comm]
theorem ok_law_shared (T : Txt K mg t) : FnOk P w K mg base CX0 1 t.a_law_shared t.d_law_shared ["_law_part", "_law_number"] sp_law_shared := by
  refine T.F_law_shared.ok sc_law_shared (fun vs H Q E h => ?_) (fun cdv A outer s H vs Q E hr h => ?_)
  · obtain ⟨a, b, rfl, _⟩ := h
    rfl
  · obtain ⟨a, b, rfl, sa, hQ⟩ := h
    refine ⟨_, (pss_cons (ps_while PassesOwn.never (pt_cmpR op_neZ (pv 0) pe_int (nomark _))
      (pss_one (ps_par (i := 0) (j := 1) rfl sc_law_shared.nd rfl rfl (by decide) rfl rfl (pa_cons (pe_op op_modN (pv 1) (pv 0)) (pa_cons (pv 0) pa_nil)) rfl)))
      (pss_one (ps_ret (pe_callB call_abs rfl T.z_abs (by decide +kernel) (pa_cons (pv 1) pa_nil))))), ?_⟩
    show tSeq _ _ _ [some (.int a), some (.int b)] H
    refine st fun N1 e1 => while_st fun B eB => ?_
    refine ⟨fun m σ H1 => ∃ x y, σ = [some (.int x), some (.int y)] ∧ H1 = H ∧ gcdI x y = gcdI a b ∧ 0 ≤ x ∧ m = x.natAbs, ⟨_, a, b, rfl, rfl, rfl, sa, rfl⟩, ?_⟩
    rintro m σ H1 ⟨x, y, rfl, rfl, e, hx0, rfl⟩
    walk_at "rd2"
    by_cases z : x = 0
    · rw [decide_eq_true z]
      refine iteF ?_
      subst e1
      walk_at "rd2"
      have e2 : (if y < 0 then -y else y) = gcdI a b := by
        rw [← e, z]
        unfold gcdI
        rw [Int.gcd_zero_left]
        split <;> omega
      rw [e2]
      exact hQ
    · rw [decide_eq_false z]
      refine iteT ⟨fun σ' H' => σ' = [some (.int (y.fmod x)), some (.int x)] ∧ H' = H1, ?_, ?_⟩
      · rintro σ' H' ⟨rfl, rfl⟩
        have h1 := Int.fmod_nonneg_of_pos y (show 0 < x by omega)
        have h2 := Int.fmod_lt_of_pos y (show 0 < x by omega)
        exact ⟨(y.fmod x).natAbs, by omega, _, _, rfl, rfl, by rw [gcd_fm]; exact e, h1, rfl⟩
      · subst eB
        walk_at "rd2"
        exact z
theorem ok_law_rests (T : Txt K mg t) : FnOk P w K mg base CX0 1 t.a_law_rests t.d_law_rests ["_law_rows"] (sp_law_rests K) := by
  refine T.F_law_rests.ok sc_law_rests (fun vs H Q E h => ?_) (fun cdv A outer s H vs Q E hr h => ?_)
  · obtain ⟨b1, b2, a, A, d, rfl, _⟩ := h
    rfl
  · obtain ⟨b1, b2, a, MA, d, rfl, hA, sA, hd, q⟩ := h
    refine ⟨_, (pss_cons (ps_for PassesOwn.never rfl (pi_range1 rfl T.z_range (pa_cons (pe_callB call_lenB rfl T.z_len (by decide +kernel) (pa_cons (pv 0) pa_nil)) pa_nil)) (pg_name (i := 1) sc_law_rests.nd rfl (Or.inl rfl))
      (pss_one (ps_for PassesOwn.never rfl (pi_range1 rfl T.z_range (pa_cons (pe_callB call_lenB rfl T.z_len (by decide +kernel) (pa_cons (pv 0) pa_nil)) pa_nil)) (pg_name (i := 2) sc_law_rests.nd rfl (Or.inl rfl))
      (pss_one (ps_if (pt_cmpR op_neZ (pe_ix ix_B (pe_ix ix_B (pv 0) (pv 1) (fun _ _ => rfl)) (pv 2) (fun _ _ => rfl)) (pe_callTy call_int1 rfl T.z_int (by decide +kernel) (pa_cons (pe_cmpR op_eqZ (pv 1) (pv 2) (nomark _)) pa_nil)) (nomark _))
      (pss_one (ps_ret pe_bl))
      pss_nil)))))
      (pss_one (ps_ret pe_bl))), ?_⟩
    show tSeq _ _ _ [some (.ref a), none, none] H
    have hid : ∀ (i k : Nat), i < d → k < d → (idM d).getD i [] = (List.range d).map (fun k => if i = k then (1 : Int) else 0) ∧ ((idM d).getD i []).getD k 0 = if i = k then 1 else 0 := fun i k hi hk => by
      have e : (idM d).getD i [] = (List.range d).map (fun k => if i = k then (1 : Int) else 0) := by unfold idM; simp [hi]
      exact ⟨e, by rw [e]; simp [hk]⟩
    refine st fun N1 e1 => for_st fun B eB => ?_
    simp only [iRng1]
    walk_at "rd2"
    refine mat_len hA ⟨_, rfl, by rw [sA.1]; omega, by rw [sA.1]; omega, ?_⟩
    rw [Int.toNat_natCast, sA.1]
    refine fr_range (g := gName 1) (tb := B) (fun i σ H1 => ∃ v1 v2, σ = [some (.ref a), v1, v2] ∧ H1 = H ∧ ∀ j < i, ∀ k < d, (MA.getD j []).getD k 0 = if j = k then 1 else 0) ⟨_, _, rfl, rfl, fun j hj => by omega⟩ ?_ ?_
    · rintro i σ H1 hi ⟨v1, v2, rfl, rfl, hprev⟩
      have er : MA[i]? = some (MA.getD i []) := by have := sA.1; simp [show i < MA.length by omega]
      have hrl : (MA.getD i []).length = d := sA.2 _ (List.mem_of_getElem? er)
      subst eB
      show tFor _ _ _ _ [some (.ref a), some (.int (0 + (i : Int))), v2] H1
      refine for_st fun B eB => ?_
      simp only [iRng1]
      walk_at "rd2"
      refine mat_len hA ⟨_, rfl, by rw [sA.1]; omega, by rw [sA.1]; omega, ?_⟩
      rw [Int.toNat_natCast, sA.1]
      refine fr_range (g := gName 2) (tb := B) (fun k σ H2 => ∃ v2, σ = [some (.ref a), some (.int (0 + (i : Int))), v2] ∧ H2 = H1 ∧ ∀ m < k, (MA.getD i []).getD m 0 = if i = m then 1 else 0) ⟨_, rfl, rfl, fun m hm => by omega⟩ ?_ ?_
      · rintro k σ H2 hk ⟨v2, rfl, rfl, hrow⟩
        subst eB
        show tIfS _ _ _ _ [some (.ref a), some (.int (0 + (i : Int))), some (.int (0 + (k : Int)))] H2
        walk_at "rd2"
        refine mat_ix hA er (getD_at (k := k) (by omega)) (by omega) (by omega) ?_
        walk_at "rd2"
        refine .inr ?_
        have eik : (if decide (0 + (i : Int) = 0 + (k : Int)) = true then (1 : Int) else 0) = if i = k then 1 else 0 := by
          by_cases z : i = k
          · rw [if_pos z, if_pos (decide_eq_true (by omega))]
          · rw [if_neg z, if_neg (by rw [decide_eq_true_eq]; omega)]
        rw [eik]
        by_cases z : (MA.getD i []).getD k 0 = if i = k then 1 else 0
        · rw [decide_eq_true z]
          refine iteF fun m hm => ?_
          by_cases e : m = k
          · rw [e]; exact z
          · exact hrow m (by omega)
        · rw [decide_eq_false z]
          refine iteT ?_
          have : decide (MA = idM d) = false := decide_eq_false fun e => z (by rw [e]; exact (hid i k hi hk).2)
          rw [this] at q
          exact q
      · rintro σ H2 ⟨v2, rfl, rfl, hrow⟩
        refine ⟨_, _, rfl, rfl, fun j hj k hk => ?_⟩
        by_cases e : j = i
        · rw [e]; exact hrow k hk
        · exact hprev j (by omega) k hk
    · rintro σ H1 ⟨v1, v2, rfl, rfl, hall⟩
      subst e1
      walk_at "rd2"
      have : MA = idM d := by
        refine List.ext_getElem (by rw [sA.1]; simp [idM]) fun j h1 h2 => ?_
        have hjd : j < d := by have := sA.1; omega
        have ej : MA[j] = MA.getD j [] := by simp [h1]
        have ei : (idM d)[j] = (idM d).getD j [] := by simp [h2]
        have hl1 : MA[j].length = d := sA.2 _ (List.getElem_mem h1)
        refine List.ext_getElem (by rw [hl1]; simp [idM]) fun k h3 h4 => ?_
        have hkd : k < d := by omega
        have e1 : MA[j][k] = (MA.getD j []).getD k 0 := by simp [h1, h3]
        have e2 : (idM d)[j][k] = ((idM d).getD j []).getD k 0 := by simp [h2, h4]
        rw [e1, e2, hall j hjd k hkd, (hid j k hjd hkd).2]
      rw [decide_eq_true this] at q
      exact q
theorem ok_law_times (T : Txt K mg t) : FnOk P w K mg base CX0 1 t.a_law_times t.d_law_times ["_law_one", "_law_other"] (sp_law_times K) := by
  refine T.F_law_times.ok sc_law_times (fun vs H Q E h => ?_) (fun cdv A outer s H vs Q E hr h => ?_)
  · obtain ⟨b1, b2, b3, b4, a, b, A, B, d, rfl, _⟩ := h
    rfl
  · obtain ⟨b1, b2, b3, b4, a, b, MA, MB, d, rfl, hA, hB, sA, sB, hd1, hd, hmul, q⟩ := h
    refine ⟨_, (pss_cons (ps_set (i := 2) sc_law_times.nd rfl (Or.inl rfl) (pe_lst pa_nil))
      (pss_cons (ps_for PassesOwn.never rfl (pi_seq (pv 0)) (pg_name (i := 3) sc_law_times.nd rfl (Or.inr rfl))
      (pss_one (ps_expr (pe_bm PySem.F.plainAttrs_list PySem.F.slot_list_append PySem.F.type_list_append mt_append (pv 2) (pa_cons (pe_compG (xs := ["_law_j"]) (fr := [("_law_other", 1), ("_law_row", 3)]) (g := (gName 0)) (tt := (tEl (tCB (fun xs H Q => ∃ (p : Addr) (ns : List Int), xs = [.ref p] ∧ SqL K H p (ns.map V.int) ∧ Q (.int ns.sum) H) (tCons (tCompG (iRng1 (tCons (tCB (rLenB K) (tCons (tVar 2) tNil)) tNil)) (gName 0) (tEl (tOp (rI (fun i j => IntMulOk i j) fun i j => .int (i * j)) (tOp (rIxB K) (tVar 3) (tVar 0)) (tOp (rIxB K) (tOp (rIxB K) (tVar 2) (tVar 0)) (tVar 1)))) 1 [("_law_j", 0), ("_law_other", 1), ("_law_row", 2)]) tNil)))) (compG_ok (sc := defScope s_law_times) (N := N_law_times) rfl rfl (by decide +kernel)) rfl (pi_range1 rfl T.z_range (pa_cons (pe_callB call_lenB rfl T.z_len (by decide +kernel) (pa_cons (pv 3) pa_nil)) pa_nil)) (fun _ _ _ hE1 => (pg_ownC (N := ["_law_j", "_law_other", "_law_row"]) (i := 0) hE1 rfl (by decide +kernel) rfl)) (fun _ _ _ hE1 => (po_el (pe_callB (call_sum rfl) rfl T.z_sum (by decide +kernel) (pa_cons (pe_compG (xs := ["_law_k"]) (fr := [("_law_j", 0), ("_law_other", 1), ("_law_row", 2)]) (g := (gName 0)) (tt := (tEl (tOp (rI (fun i j => IntMulOk i j) fun i j => .int (i * j)) (tOp (rIxB K) (tVar 3) (tVar 0)) (tOp (rIxB K) (tOp (rIxB K) (tVar 2) (tVar 0)) (tVar 1))))) (compG_ok (N := ["_law_j", "_law_other", "_law_row"]) hE1 rfl (by decide +kernel)) rfl (pi_range1 rfl T.z_range (pa_cons (pe_callB call_lenB rfl T.z_len (by decide +kernel) (pa_cons (pv 2) pa_nil)) pa_nil)) (fun _ _ _ hE2 => (pg_own (N := ["_law_k", "_law_j", "_law_other", "_law_row"]) (i := 0) hE2 rfl (by decide +kernel))) (fun _ _ _ hE2 => (po_el (pe_op op_mulB (pe_ix ix_B (pv 3) (pv 0) (fun _ _ => rfl)) (pe_ix ix_B (pe_ix ix_B (pv 2) (pv 0) (fun _ _ => rfl)) (pv 1) (fun _ _ => rfl)))))) pa_nil))))) pa_nil)))))
      (pss_one (ps_ret (pv 2))))), ?_⟩
    show tSeq _ _ _ [some (.ref a), some (.ref b), none, none] H
    refine st fun N1 e1 => ?_
    walk_at "rd2"
    refine ⟨Nat.zero_le _, fun m hm => ?_⟩
    subst e1
    refine st fun N1 e1 => for_st fun B0 eB => ?_
    simp only [iSeq]
    walk_at "rd2"
    have s0 : Same H (upd H m (.lst [])) := Same.new hm
    obtain ⟨xs, x1, x2, x3⟩ := hA.walk
    refine ⟨b1, ⟨_, x1.up s0⟩, ?_⟩
    refine fr_seq (g := gName 3) (tb := B0) (fun i σ H1 => ∃ v3, σ = [some (.ref a), some (.ref b), some (.ref m), v3] ∧ Same H H1 ∧ MatL H1 m ((mulM d MA MB).take i)) ⟨_, rfl, s0, RefRows.mat upd_same RefRows.nil⟩ (fun _ _ _ _ ⟨_, _, s2, _⟩ => x1.up s2) ?_ ?_
    · rintro i x σ H1 ex ⟨v3, rfl, s1, hM⟩
      obtain ⟨p, r, rfl, er, hp⟩ := x3 i x ex
      have hrl : r.length = d := sA.2 r (List.mem_of_getElem? er)
      have eM := mulM_at (w := d) (B := MB) er
      have hid : i < d := by have := (List.getElem?_eq_some_iff.mp er).1; have := sA.1; omega
      subst eB
      show tDrop _ _ [some (.ref a), some (.ref b), some (.ref m), some (.ref p)] H1
      walk_at "rd2"
      obtain ⟨zs0, hm0, _⟩ := hM.refs
      refine ⟨.inl ⟨rfl, _, SqL.of hm0⟩, ?_⟩
      refine compE_st fun B0 eB => ?_
      simp only [iRng1]
      walk_at "rd2"
      refine ints_len (hp.up s1) ⟨_, rfl, by omega, by omega, fun a1 ha1 => ?_⟩
      rw [Int.toNat_natCast, hrl]
      refine cg_range (fun j y _ => j < d ∧ y = .int (dotI r (colI j MB))) ha1 (by omega) (fun _ _ _ _ r _ => r) ?_ ?_
      · intro j H2 zs hj s2 ez Q' hQ'
        subst eB
        show tCB _ _ [some (.int (0 + (j : Int))), some (.ref b), some (.ref p)] H2 Q'
        walk_at "rd2"
        refine compE_st fun B0 eB => ?_
        simp only [iRng1]
        walk_at "rd2"
        refine ints_len ((hp.up s1).up s2) ⟨_, rfl, by omega, by omega, fun a2 ha2 => ?_⟩
        rw [Int.toNat_natCast, hrl]
        refine cg_range (fun k y _ => ∃ x, (List.zipWith (· * ·) r (colI j MB))[k]? = some x ∧ y = .int x) ha2 (by omega) (fun _ _ _ _ r _ => r) ?_ ?_
        · intro k H3 zs3 hk s3 ez3 Q2 hQ2
          have eb : MB[k]? = some (MB.getD k []) := by have := sB.1; simp [show k < MB.length by omega]
          have hbl : (MB.getD k []).length = d := sB.2 _ (List.mem_of_getElem? eb)
          have hkr : k < r.length := by omega
          subst eB
          show tOp _ _ _ [some (.int (0 + (k : Int))), some (.int (0 + (j : Int))), some (.ref b), some (.ref p)] H3 Q2
          walk_at "rd2"
          refine ⟨b2, p, _, _, _, rfl, rfl, ((hp.up s1).up s2).up s3, atI_at (int_at (getD_at hkr)) (by omega), ?_⟩
          refine mat_ix (((hB.up s1).up s2).up s3) eb (getD_at (k := j) (by omega)) (by omega) (by omega) ?_
          walk_at "rd2"
          refine ⟨hmul r (List.mem_of_getElem? er) _ (L2.getD_mem hkr) _ (List.mem_of_getElem? eb) _ (L2.getD_mem (by omega)), hQ2 _ _ (Same.refl _) ⟨_, ?_, rfl⟩⟩
          have ec : (colI j MB)[k]? = some ((MB.getD k []).getD j 0) := by unfold colI; rw [List.getElem?_map, eb]; rfl
          rw [List.getElem?_zipWith, L2.getD_at hkr, ec]
        · intro H3 ys s3 e3 hly hr3
          have ey : ys = (List.zipWith (· * ·) r (colI j MB)).map V.int := by
            refine list_is (by have := sB.1; simp [colI]; omega) fun k y e => ?_
            obtain ⟨x, ex, rfl⟩ := hr3 k y e
            exact ⟨x, ex, rfl⟩
          subst ey
          exact ⟨a2, rfl, _, SqL.of e3, hQ' _ _ s3 ⟨hj, rfl⟩⟩
      · intro H2 ys s2 e2 hly hr2
        have ey : ys = ((List.range d).map fun k => dotI r (colI k MB)).map V.int := by
          refine list_is (by simpa using hly) fun j y e => ?_
          obtain ⟨hj, rfl⟩ := hr2 j y e
          exact ⟨_, by rw [List.getElem?_map, List.getElem?_range hj]; rfl, rfl⟩
        subst ey
        have ne : a1 ≠ m := Ne.symm (ne_of_none hm0 ha1)
        obtain ⟨zs, z1, z2, z3⟩ := (hM.up s2).app e2 ne
        refine ⟨m, zs, _, rfl, rfl, z1, small1000 (by rw [z2, List.length_take]; omega), ?_⟩
        have et : (mulM d MA MB).take (i + 1) = (mulM d MA MB).take i ++ [(List.range d).map fun k => dotI r (colI k MB)] := by rw [List.take_add_one, eM]; rfl
        rw [et]
        exact ⟨Same.over hm (s1.trans s2), z3⟩
    · rintro σ H1 ⟨v3, rfl, s1, hM⟩
      subst e1
      walk_at "rd2"
      rw [List.take_of_length_le (by rw [x2]; simp [mulM])] at hM
      exact q m H1 s1 hM
@[irreducible] noncomputable def S_first_0 : Stmt := (defBody s_law_first).getD 0 (.Pass ⟨0, 0, 0, 0⟩)
@[irreducible] noncomputable def S_first_1 : Stmt := (defBody s_law_first).getD 1 (.Pass ⟨0, 0, 0, 0⟩)
@[irreducible] noncomputable def S_first_2 : Stmt := (defBody s_law_first).getD 2 (.Pass ⟨0, 0, 0, 0⟩)
@[reducible] noncomputable def S_first_3 : Stmt := (defBody s_law_first).getD 3 (.Pass ⟨0, 0, 0, 0⟩)
@[irreducible] noncomputable def S_first_4 : Stmt := (defBody s_law_first).getD 4 (.Pass ⟨0, 0, 0, 0⟩)
@[irreducible] noncomputable def S_first_5 : Stmt := (defBody s_law_first).getD 5 (.Pass ⟨0, 0, 0, 0⟩)
@[irreducible] noncomputable def S_first_6 : Stmt := (defBody s_law_first).getD 6 (.Pass ⟨0, 0, 0, 0⟩)
@[irreducible] noncomputable def S_first_7 : Stmt := (defBody s_law_first).getD 7 (.Pass ⟨0, 0, 0, 0⟩)
@[irreducible] noncomputable def S_first_8 : Stmt := (defBody s_law_first).getD 8 (.Pass ⟨0, 0, 0, 0⟩)
@[irreducible] noncomputable def S_first_9 : Stmt := (defBody s_law_first).getD 9 (.Pass ⟨0, 0, 0, 0⟩)
@[irreducible] noncomputable def S_first_10 : Stmt := (defBody s_law_first).getD 10 (.Pass ⟨0, 0, 0, 0⟩)
@[irreducible] noncomputable def S_first_11 : Stmt := (defBody s_law_first).getD 11 (.Pass ⟨0, 0, 0, 0⟩)
@[reducible] noncomputable def S_first_12 : Stmt := (defBody s_law_first).getD 12 (.Pass ⟨0, 0, 0, 0⟩)
@[reducible] noncomputable def S_first_13 : Stmt := (defBody s_law_first).getD 13 (.Pass ⟨0, 0, 0, 0⟩)
@[reducible] noncomputable def S_first_14 : Stmt := (defBody s_law_first).getD 14 (.Pass ⟨0, 0, 0, 0⟩)
theorem B_first : defBody s_law_first = [S_first_0, S_first_1, S_first_2, S_first_3, S_first_4, S_first_5, S_first_6, S_first_7, S_first_8, S_first_9, S_first_10, S_first_11, S_first_12, S_first_13, S_first_14] := by kernel_rfl
theorem PSs_cast {X : Cx} {b b2 : List Stmt} {u : TS} (h : b = b2) (p : PSs X b2 u) : PSs X b u := by rw [h]; exact p
theorem ok_law_first (T : Txt K mg t) : FnOk P w K mg base CX0 1 t.a_law_first t.d_law_first ["_law_cell"] (sp_law_first K) := by
  refine T.F_law_first.ok sc_law_first (fun vs H Q E h => ?_) (fun cdv A outer s H vs Q E hr h => ?_)
  · obtain ⟨c, rfl, _⟩ := h
    rfl
  · obtain ⟨c, rfl, q⟩ := h
    refine ⟨_, (PSs_cast B_first (pss_cons (ps_setLit (i := 1) (x := "_law_plane") (Ms := [[[1, 0], [0, 1]], [[-1, 0], [0, -1]], [[0, -1], [1, 0]], [[0, -1], [1, -1]], [[1, -1], [1, 0]]]) (by decide +kernel) sc_law_first.nd rfl rfl)
      (pss_cons (ps_setCat (i := 1) (j := 1) (y := "_law_plane") (x := "_law_plane") (Ms := [[[-1, 0], [0, 1]], [[0, 1], [1, 0]], [[1, 1], [0, 1]], [[2, 1], [1, 1]], [[1, 1], [1, 0]]]) (by decide +kernel) sc_law_first.nd rfl rfl rfl (Or.inl rfl) (by decide) (by decide))
      (pss_cons (ps_setCat (i := 1) (j := 1) (y := "_law_plane") (x := "_law_plane") (Ms := [[[0, 1], [1, 3]], [[-1, 1], [0, -1]]]) (by decide +kernel) sc_law_first.nd rfl rfl rfl (Or.inl rfl) (by decide) (by decide))
      (pss_cons (ps_if (pt_cmpR op_eqZ (pe_op op_modN (pv 0) pe_int) pe_int (nomark _))
      (pss_one (ps_ret (pe_ix ix_B (pv 1) (pe_op op_modN (pe_op op_fdivB (pv 0) pe_int) pe_int) (fun _ _ => rfl))))
      pss_nil)
      (pss_cons (ps_setLit (i := 2) (x := "_law_space") (Ms := [[[1, 0, 0], [0, 1, 0], [0, 0, 1]], [[-1, 0, 0], [0, -1, 0], [0, 0, 1]]]) (by decide +kernel) sc_law_first.nd rfl rfl)
      (pss_cons (ps_setCat (i := 2) (j := 2) (y := "_law_space") (x := "_law_space") (Ms := [[[0, -1, 0], [1, -1, 0], [0, 0, 1]], [[0, -1, 0], [1, 0, 0], [0, 0, 1]]]) (by decide +kernel) sc_law_first.nd rfl rfl rfl (Or.inl rfl) (by decide) (by decide))
      (pss_cons (ps_setCat (i := 2) (j := 2) (y := "_law_space") (x := "_law_space") (Ms := [[[1, -1, 0], [1, 0, 0], [0, 0, 1]], [[0, 0, 1], [1, 0, 0], [0, 1, 0]]]) (by decide +kernel) sc_law_first.nd rfl rfl rfl (Or.inl rfl) (by decide) (by decide))
      (pss_cons (ps_setCat (i := 2) (j := 2) (y := "_law_space") (x := "_law_space") (Ms := [[[0, 1, 0], [1, 0, 0], [0, 0, -1]], [[0, 0, -1], [0, 1, 0], [1, 0, 0]]]) (by decide +kernel) sc_law_first.nd rfl rfl rfl (Or.inl rfl) (by decide) (by decide))
      (pss_cons (ps_setCat (i := 2) (j := 2) (y := "_law_space") (x := "_law_space") (Ms := [[[-1, 0, 1], [0, -1, 1], [0, 0, 1]], [[1, 0, 0], [0, 1, 1], [0, 0, 1]]]) (by decide +kernel) sc_law_first.nd rfl rfl rfl (Or.inl rfl) (by decide) (by decide))
      (pss_cons (ps_setCat (i := 2) (j := 2) (y := "_law_space") (x := "_law_space") (Ms := [[[0, 0, 1], [1, 0, 1], [0, 1, 0]], [[0, 1, 0], [0, 1, -1], [-1, 1, 0]]]) (by decide +kernel) sc_law_first.nd rfl rfl rfl (Or.inl rfl) (by decide) (by decide))
      (pss_cons (ps_setCat (i := 2) (j := 2) (y := "_law_space") (x := "_law_space") (Ms := [[[-1, 1, 0], [0, -1, 0], [0, 0, 1]], [[0, 0, 1], [1, 0, 0], [0, 1, 1]]]) (by decide +kernel) sc_law_first.nd rfl rfl rfl (Or.inl rfl) (by decide) (by decide))
      (pss_cons (ps_setCat (i := 2) (j := 2) (y := "_law_space") (x := "_law_space") (Ms := [[[0, 0, 1], [1, 0, 0], [0, 1, 2]]]) (by decide +kernel) sc_law_first.nd rfl rfl rfl (Or.inl rfl) (by decide) (by decide))
      (pss_cons (ps_set (i := 3) sc_law_first.nd rfl (Or.inl rfl) (pe_ix ix_B (pv 2) (pe_op op_modN (pe_op op_fdivB (pv 0) pe_int) pe_int) (fun _ _ => rfl)))
      (pss_cons (ps_if (pt_cmpR op_eqZ (pe_op op_modN (pe_op op_fdivB (pv 0) pe_int) pe_int) pe_int (nomark _))
      (pss_one (ps_ret (pe_compG (xs := ["_law_row"]) (fr := []) (g := (gName 0)) (tt := (tEl (tCompG (iSeq K (tVar 0)) (gName 0) (tEl (tUn (rU fun i => .int (-i)) (tVar 0))) 1 []))) (compG_ok (sc := defScope s_law_first) (N := N_law_first) rfl rfl (by decide +kernel)) rfl (pi_seq (pv 3)) (fun _ _ _ hE1 => (pg_own (N := ["_law_row"]) (i := 0) hE1 rfl (by decide +kernel))) (fun _ _ _ hE1 => (po_el (pe_compG (xs := ["_law_number"]) (fr := []) (g := (gName 0)) (tt := (tEl (tUn (rU fun i => .int (-i)) (tVar 0)))) (compG_ok (N := ["_law_row"]) hE1 rfl (by decide +kernel)) rfl (pi_seq (pv 0)) (fun _ _ _ hE2 => (pg_own (N := ["_law_number"]) (i := 0) hE2 rfl (by decide +kernel))) (fun _ _ _ hE2 => (po_el (pe_un un_neg (pv 0))))))))))
      pss_nil)
      (pss_one (ps_ret (pv 3)))))))))))))))))), ?_⟩
    show tSeq _ _ _ [some (.int c), none, none, none] H
    have dv : ∀ x y : Int, y ≠ 0 → y.natAbs < 1073741824 → CDivB x y := fun x y h1 h2 => ⟨h1, Nat.lt_of_lt_of_le ((Nat.log2_lt (by omega)).mpr (show y.natAbs < 2 ^ 30 from h2)) (by decide)⟩
    have fm : ∀ (x y : Int), 0 < y → 0 ≤ x.fmod y ∧ x.fmod y < y := fun x y h => ⟨Int.fmod_nonneg_of_pos x h, Int.fmod_lt_of_pos x h⟩
    refine st fun N1 e1 => ?_
    refine fun p0 Hp0 sp0 hp0 => ?_
    show N1 [some (.int c), some (.ref p0), none, none] Hp0
    subst e1
    refine st fun N1 e1 => ?_
    refine ⟨_, rfl, fun xp1 Gp1 tp1 gp1 => Mats.cat (hp0.up tp1) gp1 (by decide) fun p1 Hp1 up1 hp1 => ?_⟩
    have sp1 : Same H Hp1 := (sp0.trans tp1).trans up1
    show N1 [some (.int c), some (.ref p1), none, none] Hp1
    subst e1
    refine st fun N1 e1 => ?_
    refine ⟨_, rfl, fun xp2 Gp2 tp2 gp2 => Mats.cat (hp1.up tp2) gp2 (by decide) fun p2 Hp2 up2 hp2 => ?_⟩
    have sp2 : Same H Hp2 := (sp1.trans tp2).trans up2
    show N1 [some (.int c), some (.ref p2), none, none] Hp2
    subst e1
    have m2 : ∀ (i : Nat) (M : List (List Int)), menu2[i]? = some M → M ∈ menu := fun i M e => List.mem_append_left _ (List.mem_append_left _ (List.mem_of_getElem? e))
    refine st fun N1 e1 => ?_
    walk_at "rd2"
    refine ⟨by decide, ite2 (fun _ => ?_) (fun _ => ?_)⟩
    · refine ⟨dv c 2 (by decide) (by decide), by decide, ?_⟩
      have f1 := fm (c.fdiv 2) 12 (by decide)
      generalize (c.fdiv 2).fmod 12 = k at f1
      have hk : k.toNat < menu2.length := by show _ < 12; omega
      exact Mats.at (Ms := menu2) (i := k.toNat) (M := menu2[k.toNat]) hp2 (by simp [hk]) (by omega) fun r hr => q r _ _ sp2 hr (m2 k.toNat _ (by simp [hk]))
    subst e1
    refine st fun N1 e1 => ?_
    refine fun w0 Hw0 sw0 hw0 => ?_
    show N1 [some (.int c), some (.ref p2), some (.ref w0), none] Hw0
    subst e1
    refine st fun N1 e1 => ?_
    refine ⟨_, rfl, fun xw1 Gw1 tw1 gw1 => Mats.cat (hw0.up tw1) gw1 (by decide) fun w1 Hw1 uw1 hw1 => ?_⟩
    have sw1 : Same Hp2 Hw1 := (sw0.trans tw1).trans uw1
    show N1 [some (.int c), some (.ref p2), some (.ref w1), none] Hw1
    subst e1
    refine st fun N1 e1 => ?_
    refine ⟨_, rfl, fun xw2 Gw2 tw2 gw2 => Mats.cat (hw1.up tw2) gw2 (by decide) fun w2 Hw2 uw2 hw2 => ?_⟩
    have sw2 : Same Hp2 Hw2 := (sw1.trans tw2).trans uw2
    show N1 [some (.int c), some (.ref p2), some (.ref w2), none] Hw2
    subst e1
    refine st fun N1 e1 => ?_
    refine ⟨_, rfl, fun xw3 Gw3 tw3 gw3 => Mats.cat (hw2.up tw3) gw3 (by decide) fun w3 Hw3 uw3 hw3 => ?_⟩
    have sw3 : Same Hp2 Hw3 := (sw2.trans tw3).trans uw3
    show N1 [some (.int c), some (.ref p2), some (.ref w3), none] Hw3
    subst e1
    refine st fun N1 e1 => ?_
    refine ⟨_, rfl, fun xw4 Gw4 tw4 gw4 => Mats.cat (hw3.up tw4) gw4 (by decide) fun w4 Hw4 uw4 hw4 => ?_⟩
    have sw4 : Same Hp2 Hw4 := (sw3.trans tw4).trans uw4
    show N1 [some (.int c), some (.ref p2), some (.ref w4), none] Hw4
    subst e1
    refine st fun N1 e1 => ?_
    refine ⟨_, rfl, fun xw5 Gw5 tw5 gw5 => Mats.cat (hw4.up tw5) gw5 (by decide) fun w5 Hw5 uw5 hw5 => ?_⟩
    have sw5 : Same Hp2 Hw5 := (sw4.trans tw5).trans uw5
    show N1 [some (.int c), some (.ref p2), some (.ref w5), none] Hw5
    subst e1
    refine st fun N1 e1 => ?_
    refine ⟨_, rfl, fun xw6 Gw6 tw6 gw6 => Mats.cat (hw5.up tw6) gw6 (by decide) fun w6 Hw6 uw6 hw6 => ?_⟩
    have sw6 : Same Hp2 Hw6 := (sw5.trans tw6).trans uw6
    show N1 [some (.int c), some (.ref p2), some (.ref w6), none] Hw6
    subst e1
    refine st fun N1 e1 => ?_
    refine ⟨_, rfl, fun xw7 Gw7 tw7 gw7 => Mats.cat (hw6.up tw7) gw7 (by decide) fun w7 Hw7 uw7 hw7 => ?_⟩
    have sw7 : Same Hp2 Hw7 := (sw6.trans tw7).trans uw7
    show N1 [some (.int c), some (.ref p2), some (.ref w7), none] Hw7
    subst e1
    have m3 : ∀ (i : Nat) (M : List (List Int)), menu3[i]? = some M → M ∈ menu ∧ negM M ∈ menu := fun i M e => ⟨List.mem_append_left _ (List.mem_append_right _ (List.mem_of_getElem? e)), List.mem_append_right _ (List.mem_map.mpr ⟨M, List.mem_of_getElem? e, rfl⟩)⟩
    have sl : Same H Hw7 := sp2.trans sw7
    refine st fun N1 e1 => ?_
    walk_at "rd2"
    refine ⟨dv c 4 (by decide) (by decide), by decide, ?_⟩
    have f1 := fm (c.fdiv 4) 15 (by decide)
    generalize (c.fdiv 4).fmod 15 = k at f1
    have hk : k.toNat < menu3.length := by show _ < 15; omega
    refine Mats.at (Ms := menu3) (i := k.toNat) (M := menu3[k.toNat]) hw7 (by simp [hk]) (by omega) fun r hr0 => ?_
    obtain ⟨mm1, mm2⟩ := m3 k.toNat menu3[k.toNat] (by simp [hk])
    generalize menu3[k.toNat] = M at hr0 mm1 mm2
    obtain ⟨_, sqM, _⟩ := menu_sq mm1
    have hMl : M.length ≤ 1000 := by rcases (menu_sq mm1).1 with e | e <;> omega
    subst e1
    refine st fun N1 e1 => ?_
    walk_at "rd2"
    refine ⟨dv c 2 (by decide) (by decide), by decide, ite2 (fun _ => ?_) (fun _ => ?_)⟩
    · refine compE_st fun B eB => ?_
      simp only [iSeq]
      walk_at "rd2"
      obtain ⟨xs, x1, x2, x3⟩ := (hr0.b (K := K)).walk
      refine ⟨false, ⟨_, x1⟩, fun a1 ha1 => ?_⟩
      refine cg_seq (RowR a1 fun j => (M.getD j []).map fun x => -x) ha1 x1 (by omega) (RowR.mono (a := a1)) ?_ ?_
      · intro i x H2 zs ex s2 ez Q' hQ'
        obtain ⟨p, rr, rfl, er, hp⟩ := x3 i x ex
        have hrl : rr.length ≤ 1000 := by rw [sqM.2 rr (List.mem_of_getElem? er)]; exact hMl
        subst eB
        show tCompG _ _ _ _ _ [some (.ref p)] H2 Q'
        refine compE_st fun B eB => ?_
        simp only [iSeq]
        walk_at "rd2"
        refine ⟨false, ⟨_, hp.up s2⟩, fun a2 ha2 => ?_⟩
        refine cg_seq (fun j y _ => ∃ x, rr[j]? = some x ∧ y = .int (-x)) ha2 (hp.up s2) (by rw [List.length_map]; exact hrl) (fun _ _ _ _ r _ => r) ?_ ?_
        · intro j y H3 zs3 ey s3 ez3 Q2 hQ2
          obtain ⟨x, ex, rfl⟩ := ints_at ey
          subst eB
          show tUn _ _ [some (.int x)] H3 Q2
          walk_at "rd2"
          exact hQ2 _ _ (Same.refl _) ⟨x, ex, rfl⟩
        · intro H3 ys s3 e3 hly hr3
          have ey : ys = (rr.map fun x => -x).map V.int := by
            refine list_is (by simpa using hly) fun j y e => ?_
            obtain ⟨x, ex, rfl⟩ := hr3 j y e
            exact ⟨-x, by rw [List.getElem?_map, ex]; rfl, rfl⟩
          subst ey
          refine hQ' _ _ s3 ⟨a2, rfl, Ne.symm (ne_of_none ez ha2), ?_⟩
          dsimp only
          rw [List.getD_eq_getElem?_getD, er]
          exact e3
      · intro H2 ys s2 e2 hly hr2
        have := MatL.of e2 hr2
        have e : (List.range ys.length).map (fun j => (M.getD j []).map fun x => -x) = negM M := by
          rw [hly, x2]
          unfold negM
          refine List.ext_getElem (by simp) fun i h1 h2 => ?_
          simp at h1
          simp [h1]
        rw [e] at this
        exact q a1 H2 _ (sl.trans s2) this mm2
    · subst e1
      walk_at "rd2"
      exact q r _ M sl hr0 mm1

theorem ok_law_added (T : Txt K mg t) : FnOk P w K mg base CX0 1 t.a_law_added t.d_law_added ["_law_rows", "_law_cell"] (sp_law_added K) := by
  refine T.F_law_added.ok sc_law_added (fun vs H Q E h => ?_) (fun cdv A outer s H vs Q E hr h => ?_)
  · obtain ⟨a, A, c, d, B, rfl, _⟩ := h
    rfl
  · obtain ⟨a, MA, c, d, B, rfl, hA, sA, hd, hb, hB, q⟩ := h
    refine ⟨_, (pss_cons (ps_set (i := 2) sc_law_added.nd rfl (Or.inl rfl) (pe_callB call_lenB rfl T.z_len (by decide +kernel) (pa_cons (pv 0) pa_nil)))
      (pss_cons (ps_set (i := 3) sc_law_added.nd rfl (Or.inl rfl) (pe_op op_modN (pv 1) (pv 2)))
      (pss_cons (ps_set (i := 4) sc_law_added.nd rfl (Or.inl rfl) (pe_op op_modN (pe_op op_add (pe_op op_add (pv 3) pe_int) (pe_op op_modN (pe_op op_fdivB (pv 1) (pv 2)) (pe_op op_sub (pv 2) pe_int))) (pv 2)))
      (pss_cons (ps_set (i := 5) sc_law_added.nd rfl (Or.inl rfl) (pe_op op_sub (pe_op op_modN (pe_op op_add (pe_op op_fdivB (pv 1) (pe_op op_mulB (pv 2) (pe_op op_sub (pv 2) pe_int))) pe_int) pe_int) pe_int))
      (pss_cons (ps_setCG (i := 6) (xs := ["_law_row"]) (fr := []) (g := (gName 0)) (tt := (tEl (tCB (rListB K) (tCons (tVar 0) tNil)))) (compG_ok (sc := defScope s_law_added) (N := N_law_added) rfl rfl (by decide +kernel)) rfl sc_law_added.nd rfl rfl (pi_seq (pv 0)) (fun _ _ _ hE1 => (pg_own (N := ["_law_row"]) (i := 0) hE1 rfl (by decide +kernel))) (fun _ _ _ hE1 => (po_el (pe_callTy call_listB rfl T.z_list (by decide +kernel) (pa_cons (pv 0) pa_nil)))))
      (pss_cons (ps_for PassesOwn.never rfl (pi_range1 rfl T.z_range (pa_cons (pv 2) pa_nil)) (pg_name (i := 7) sc_law_added.nd rfl (Or.inl rfl))
      (pss_one (ps_asg (pe_op op_add (pe_ix ix_B (pe_ix ix_B (pv 6) (pv 3) (fun _ _ => rfl)) (pv 7) (fun _ _ => rfl)) (pe_op op_mulB (pv 5) (pe_ix ix_B (pe_ix ix_B (pv 6) (pv 4) (fun _ _ => rfl)) (pv 7) (fun _ _ => rfl)))) (pg_sub (pe_ix ix_B (pv 6) (pv 3) (fun _ _ => rfl)) (pv 7) set_list))))
      (pss_cons (ps_for PassesOwn.never rfl (pi_seq (pv 6)) (pg_name (i := 8) sc_law_added.nd rfl (Or.inl rfl))
      (pss_one (ps_asg (pe_op op_sub (pe_ix ix_B (pv 8) (pv 4) (fun _ _ => rfl)) (pe_op op_mulB (pv 5) (pe_ix ix_B (pv 8) (pv 3) (fun _ _ => rfl)))) (pg_sub (pv 8) (pv 4) set_list))))
      (pss_one (ps_ret (pv 6)))))))))), ?_⟩
    show tSeq _ _ _ [some (.ref a), some (.int c), none, none, none, none, none, none, none] H
    have dv : ∀ x y : Int, y ≠ 0 → y.natAbs < 1073741824 → CDivB x y := fun x y h1 h2 => ⟨h1, Nat.lt_of_lt_of_le ((Nat.log2_lt (by omega)).mpr (show y.natAbs < 2 ^ 30 from h2)) (by decide)⟩
    have fm : ∀ (x y : Int), 0 < y → 0 ≤ x.fmod y ∧ x.fmod y < y := fun x y h => ⟨Int.fmod_nonneg_of_pos x h, Int.fmod_lt_of_pos x h⟩
    refine st fun N1 e1 => ?_
    walk_at "rd2"
    refine mat_len (hA.b (K := K)) ?_
    rw [sA.1]
    subst e1
    refine st fun N1 e1 => ?_
    walk_at "rd2"
    refine ⟨by omega, ?_⟩
    have fi := fm c d (by omega)
    obtain ⟨i, ei⟩ := Int.eq_ofNat_of_zero_le fi.1
    rw [ei] at fi ⊢
    subst e1
    refine st fun N1 e1 => ?_
    walk_at "rd2"
    refine ⟨dv c d (by omega) (by omega), by omega, by omega, ?_⟩
    have fj0 := fm (c.fdiv d) ((d : Int) - 1) (by omega)
    have fj := fm ((i : Int) + 1 + (c.fdiv d).fmod ((d : Int) - 1)) d (by omega)
    have hij : (i : Int) ≠ ((i : Int) + 1 + (c.fdiv d).fmod ((d : Int) - 1)).fmod d := by
      generalize (c.fdiv d).fmod ((d : Int) - 1) = z at fj0 fj
      rw [Int.fmod_eq_emod_of_nonneg _ (by omega)] at fj ⊢
      rcases hd with e | e <;> subst e <;> omega
    generalize ((i : Int) + 1 + (c.fdiv d).fmod ((d : Int) - 1)).fmod d = jz at fj hij
    obtain ⟨j, ej⟩ := Int.eq_ofNat_of_zero_le fj.1
    subst ej
    have hi : i < d := by omega
    have hj : j < d := by omega
    have hne : i ≠ j := fun e => hij (by rw [e])
    subst e1
    refine st fun N1 e1 => ?_
    walk_at "rd2"
    have hdd : (d : Int) * ((d : Int) - 1) ≠ 0 ∧ ((d : Int) * ((d : Int) - 1)).natAbs < 1073741824 := by rcases hd with e | e <;> subst e <;> decide
    refine ⟨IntMulOk.of_left (intBits_le_64 (by omega) (by omega)), dv c _ hdd.1 hdd.2, by decide, ?_⟩
    have fq := fm (c.fdiv ((d : Int) * ((d : Int) - 1)) + 3) 7 (by decide)
    generalize hmz : (c.fdiv ((d : Int) * ((d : Int) - 1)) + 3).fmod 7 - 3 = mz
    have hmz1 : mz.natAbs < 2 ^ 20 := by have : (2 : Nat) ^ 20 = 1048576 := rfl; omega
    subst e1
    refine st fun N1 e1 => ?_
    walk_at "rd2"
    refine compE_st fun B0 eB => ?_
    simp only [iSeq]
    walk_at "rd2"
    obtain ⟨zsA, hzA, _⟩ := hA.refs
    refine ⟨false, ⟨_, SqB.lst hzA⟩, fun r hr0 => ?_⟩
    subst eB
    refine copy_listD (hA.b (K := K)) (by rw [sA.1]; omega) hr0 fun H1 s1 hD => ?_
    have eri : MA[i]? = some (MA.getD i []) := by have := sA.1; simp [show i < MA.length by omega]
    have erj : MA[j]? = some (MA.getD j []) := by have := sA.1; simp [show j < MA.length by omega]
    generalize hx : MA.getD i [] = x at eri
    generalize hy : MA.getD j [] = y at erj
    have hxl : x.length = d := sA.2 x (List.mem_of_getElem? eri)
    have hyl : y.length = d := sA.2 y (List.mem_of_getElem? erj)
    have bx : ∀ z ∈ x, z.natAbs < 2 ^ B := hb x (List.mem_of_getElem? eri)
    have by' : ∀ z ∈ y, z.natAbs < 2 ^ B := hb y (List.mem_of_getElem? erj)
    subst e1
    refine st fun N1 e1 => for_st fun B0 eB => ?_
    simp only [iRng1]
    walk_at "rd2"
    refine ⟨by omega, by omega, ?_⟩
    rw [Int.toNat_natCast]
    have hset0 : MA.set i (mixI d x y mz 0) = MA := by
      rw [mix_zero hxl]
      refine List.ext_getElem (by simp) fun s h1 h2 => ?_
      rw [List.getElem_set]
      split
      · rename_i e
        subst e
        have := List.getElem?_eq_some_iff.mp eri
        exact this.2.symm
      · rfl
    refine fr_range (g := gName 7) (tb := B0) (fun k σ H2 => ∃ v8 v9, σ = [some (.ref a), some (.int c), some (.int d), some (.int i), some (.int j), some (.int mz), some (.ref r), v8, v9] ∧ Same H H2 ∧ MatD H H2 r (MA.set i (mixI d x y mz k))) ⟨_, _, rfl, s1, by rw [hset0]; exact hD⟩ ?_ ?_
    · rintro k σ H2 hk ⟨v8, v9, rfl, s2, hM⟩
      have ei2 : (MA.set i (mixI d x y mz k))[i]? = some (mixI d x y mz k) := by rw [List.getElem?_set_self (by have := sA.1; omega)]
      have ej2 : (MA.set i (mixI d x y mz k))[j]? = some y := by rw [List.getElem?_set_ne hne]; exact erj
      have emk : (mixI d x y mz k)[k]? = some (x.getD k 0) := by unfold mixI; rw [List.getElem?_map, List.getElem?_range hk]; simp
      have hML : MatB false false K H2 r (MA.set i (mixI d x y mz k)) := hM.l.b
      obtain ⟨zs, p, z1, z2, z3, _, z4, z5, z6⟩ := hM.row ei2
      subst eB
      show tAsg _ _ _ [some (.ref a), some (.int c), some (.int d), some (.int i), some (.int j), some (.int mz), some (.ref r), some (.int (0 + (k : Int))), v9] H2
      simp only [tAsg, gSub, rSetL]
      walk_at "rd2"
      refine mat_ix hML ei2 emk rfl (by omega) ?_
      refine mat_ix hML ej2 (getD_at (k := k) (by omega)) rfl (by omega) ?_
      walk_at "rd2"
      refine ⟨PyProof.Rows.mulOk_of_bits (bits_of hmz1) (bits_of (by' _ (L2.getD_mem (by omega)))) (by omega), ?_⟩
      refine ⟨false, r, _, _, _, rfl, rfl, SqB.lst z1, atI_at z2 rfl, ?_⟩
      refine ⟨p, rfl, _, z5, k, ?_, ?_⟩
      · rw [Int.zero_add]
        exact ixN_nat (by rw [List.length_map]; unfold mixI; simpa using hk)
      · have hnew := z6 (mixI d x y mz (k + 1))
        rw [List.set_set] at hnew
        have e : ((mixI d x y mz k).map V.int).set k (.int (x.getD k 0 + mz * y.getD k 0)) = (mixI d x y mz (k + 1)).map V.int := by rw [← mix_succ, List.map_set]
        rw [e]
        exact ⟨Same.over z4 s2, hnew⟩
    · rintro σ H2 ⟨v8, v9, rfl, s2, hM⟩
      have hil : i < MA.length := by have := sA.1; omega
      generalize hR : MA.set i (mixI d x y mz d) = R at hM
      have sR : Sq d R := by
        rw [← hR]
        refine ⟨by simp [sA.1], fun z hz => ?_⟩
        rcases List.mem_or_eq_of_mem_set hz with h | h
        · exact sA.2 z h
        · rw [h]; simp [mixI]
      have bR : BitsM (B + 21) R := by
        rw [← hR]
        intro z hz
        rcases List.mem_or_eq_of_mem_set hz with h | h
        · exact fun u hu => Nat.lt_of_lt_of_le (hb z h u hu) (Nat.pow_le_pow_right (by decide) (by omega))
        · rw [h]; exact mix_bits hxl hyl bx by' hmz1
      obtain ⟨zs, hzs⟩ : ∃ zs, H2 r = some (.lst zs) := let ⟨ps, h, _⟩ := hM; ⟨_, h⟩
      have hzl : zs.length = d := by
        obtain ⟨ps, h, hl, _⟩ := hM
        rw [hzs] at h
        cases h
        rw [List.length_map, hl, sR.1]
      subst e1
      refine st fun N1 e1 => for_st fun B0 eB => ?_
      simp only [iSeq]
      walk_at "rd2"
      refine ⟨false, ⟨_, SqB.lst hzs⟩, ?_⟩
      refine fr_seq (g := gName 8) (tb := B0) (fun u σ H3 => ∃ v9, σ = [some (.ref a), some (.int c), some (.int d), some (.int i), some (.int j), some (.int mz), some (.ref r), v8, v9] ∧ Same H H3 ∧ MatD H H3 r (colT d i j mz R u) ∧ H3 r = some (.lst zs)) ⟨_, rfl, s2, by rw [col_zero sR.1]; exact hM, hzs⟩ (fun _ _ _ _ ⟨_, _, _, _, h⟩ => SqB.lst h) ?_ ?_
      · rintro u x0 σ H3 ex ⟨v9, rfl, s3, hC, hr3⟩
        have hud : u < d := by have := (List.getElem?_eq_some_iff.mp ex).1; omega
        have eu : (colT d i j mz R u)[u]? = some (R.getD u []) := by unfold colT; rw [List.getElem?_map, List.getElem?_range hud]; simp
        have hul : (R.getD u []).length = d := sR.2 _ (by rw [show R.getD u [] = R[u]'(by have := sR.1; omega) by have := sR.1; simp [show u < R.length by omega]]; exact List.getElem_mem _)
        have hum : R.getD u [] ∈ R := by rw [show R.getD u [] = R[u]'(by have := sR.1; omega) by have := sR.1; simp [show u < R.length by omega]]; exact List.getElem_mem _
        obtain ⟨zs', p, z1, z2, z3, zne, z4, z5, z6⟩ := hC.row eu
        rw [hr3] at z1
        cases z1
        rw [ex] at z2
        cases z2
        generalize hrt : R.getD u [] = rt at eu hul hum z5
        subst eB
        show tAsg _ _ _ [some (.ref a), some (.int c), some (.int d), some (.int i), some (.int j), some (.int mz), some (.ref r), v8, some (.ref p)] H3
        simp only [tAsg, gSub, rSetL]
        walk_at "rd2"
        refine ⟨false, p, _, _, _, rfl, rfl, SqB.lst z5, atI_at (int_at (getD_at (k := j) (by omega))) rfl, false, p, _, _, _, rfl, rfl, SqB.lst z5, atI_at (int_at (getD_at (k := i) (by omega))) rfl, ?_⟩
        walk_at "rd2"
        refine ⟨PyProof.Rows.mulOk_of_bits (bits_of hmz1) (bits_of (bR rt hum _ (L2.getD_mem (by omega)))) (by omega), ?_⟩
        refine ⟨_, z5, j, ixN_nat (by rw [List.length_map]; omega), ?_⟩
        have hnew := z6 (colO i j mz rt)
        rw [← hrt, col_succ] at hnew
        rw [hrt] at hnew
        have e : (rt.map V.int).set j (.int (rt.getD j 0 - mz * rt.getD i 0)) = (colO i j mz rt).map V.int := by unfold colO; rw [List.map_set]
        rw [e]
        refine ⟨Same.over z4 s3, hnew, ?_⟩
        rw [upd_ne (Ne.symm zne)]
        exact hr3
      · rintro σ H3 ⟨v9, rfl, s3, hC, hr3⟩
        rw [hzl] at hC
        subst e1
        walk_at "rd2"
        have e : colT d i j mz R d = stepM d i j mz MA := by unfold stepM; rw [hx, hy, hR]
        refine q r H3 _ s3 hC.l ?_ (step_bits sR hi hj bR hmz1)
        rw [e]
        exact step_conj hd hi hj hne sA
theorem gl_take {u : Int} (hu : 0 < u) (ns : List Int) {i : Nat} {n : Int} (h : ns[i]? = some n) : gl u (ns.take (i + 1)) = gcdI (gl u (ns.take i)) n := by
  unfold gl
  rw [take_snoc h, List.foldl_append]
  rfl
theorem ok_law_place (T : Txt K mg t) : FnOk P w K mg base CX0 2 t.a_law_place t.d_law_place ["_law_tops_here", "_law_under"] (sp_law_place K) := by
  have G_law_shared : FnOk P w K mg base CX0 1 t.a_law_shared t.d_law_shared ["_law_part", "_law_number"] sp_law_shared := ok_law_shared T
  refine T.F_law_place.ok sc_law_place (fun vs H Q E h => ?_) (fun cdv A outer s H vs Q E hr h => ?_)
  · obtain ⟨a, ns, u, rfl, _⟩ := h
    rfl
  · obtain ⟨a, ns, u, rfl, hS, hl, hu, su, hQ⟩ := h
    refine ⟨_, (pss_cons (ps_set (i := 2) sc_law_place.nd rfl (Or.inr rfl) (pv 1))
      (pss_cons (ps_for PassesOwn.never rfl (pi_seq (pv 0)) (pg_name (i := 3) sc_law_place.nd rfl (Or.inl rfl))
      (pss_one (ps_set (i := 2) sc_law_place.nd rfl (Or.inr rfl) (pe_call G_law_shared (hr.mono (by omega)) rfl T.m_law_shared T.F_law_shared.kp T.b_law_shared .nil pass0 (pa_cons (pv 2) (pa_cons (pv 3) pa_nil))))))
      (pss_one (ps_ret (pe_tup (pa_cons (pe_callTy call_tupB rfl T.z_tuple (by decide +kernel) (pa_cons (pe_compG (xs := ["_law_top"]) (fr := [("_law_by", 2)]) (g := (gName 0)) (tt := (tEl (tOp (rI CDivB fun i j => .int (i.fdiv j)) (tVar 0) (tVar 1)))) (compG_ok (sc := defScope s_law_place) (N := N_law_place) rfl rfl (by decide +kernel)) rfl (pi_seq (pv 0)) (fun _ _ _ hE1 => (pg_own (N := ["_law_top", "_law_by"]) (i := 0) hE1 rfl (by decide +kernel))) (fun _ _ _ hE1 => (po_el (pe_op op_fdivB (pv 0) (pv 1))))) pa_nil)) (pa_cons (pe_op op_fdivB (pv 1) (pv 2)) pa_nil))))))), ?_⟩
    show tSeq _ _ _ [some (.ref a), some (.int u), none, none] H
    have g0 : gl u [] = u := by unfold gl absI; rw [if_neg (by omega)]; rfl
    refine st fun N1 e1 => ?_
    walk_at "rd2"
    subst e1
    refine st fun N1 e1 => for_st fun B eB => ?_
    simp only [iSeq]
    walk_at "rd2"
    refine ⟨false, ⟨_, hS⟩, ?_⟩
    refine fr_seq (b := false) (g := gName 3) (tb := B) (fun i σ H1 => ∃ v3, σ = [some (.ref a), some (.int u), some (.int (gl u (ns.take i))), v3] ∧ H1 = H) ⟨none, by rw [List.take_zero, g0], rfl⟩ (fun i σ H1 _ ⟨_, _, e⟩ => e ▸ hS) ?_ ?_
    · rintro i x σ H1 ex ⟨v3, rfl, rfl⟩
      obtain ⟨n, en, rfl⟩ := ints_at ex
      subst eB
      show tAsg _ _ _ [some (.ref a), some (.int u), some (.int (gl u (ns.take i))), some (.int n)] H1
      walk_at "rd2"
      refine ⟨_, _, rfl, gl_nonneg _ _, ?_⟩
      rw [gl_take hu ns en]
      exact ⟨rfl, rfl⟩
    · rintro σ H1 ⟨v3, rfl, rfl⟩
      rw [List.length_map, List.take_length]
      have gp := gl_pos ns (show u ≠ 0 by omega)
      have ec : cs u ns = gl u ns := by unfold cs; rw [if_neg (by omega)]
      have cd : ∀ x, CDivB x (gl u ns) := fun x => ⟨by omega, small_log (small_dvd su (by omega) (gl_u u ns)) (by omega)⟩
      subst e1
      walk_at "rd2"
      refine compE_st fun B2 eB2 => ?_
      simp only [iSeq]
      walk_at "rd2"
      refine ⟨false, ⟨_, hS⟩, fun a1 ha1 => ?_⟩
      refine cg_seq (fun j y _ => ∃ n, ns[j]? = some n ∧ y = .int (n.fdiv (gl u ns))) ha1 hS (by rw [List.length_map]; omega) (fun _ _ _ _ r _ => r) ?_ ?_
      · intro i x H3 zs ex s3 ez Q' hQ'
        obtain ⟨n, en, rfl⟩ := ints_at ex
        subst eB2
        show tOp _ _ _ [some (.int n), some (.int (gl u ns))] H3 Q'
        walk_at "rd2"
        exact ⟨cd _, hQ' _ _ (Same.refl _) ⟨n, en, rfl⟩⟩
      · intro H3 zs s3 ez hlz hR
        have ez2 : zs = (redT u ns).map V.int := by
          unfold redT
          rw [List.map_map, ec]
          exact list_is (by simpa using hlz) hR
        subst ez2
        refine ⟨a1, _, rfl, .inl ⟨SqL.of ez, fun q hq => ⟨cd _, by show 2 ≤ sizeLine; decide, fun p hp => hQ p _ (s3.trans ((Same.new hq).trans (Same.new hp))) ⟨q, ?_, (Same.new hp) _ _ upd_same⟩⟩⟩⟩
        rw [upd_same]
        unfold redU
        rw [ec]
theorem ok_law_led (T : Txt K mg t) : FnOk P w K mg base CX0 1 t.a_law_led t.d_law_led ["_law_rows", "_law_tops_here"] (sp_law_led K) := by
  refine T.F_law_led.ok sc_law_led (fun vs H Q E h => ?_) (fun cdv A outer s H vs Q E hr h => ?_)
  · obtain ⟨b1, b2, b3, a, l, A, ns, d, rfl, _⟩ := h
    rfl
  · obtain ⟨b1, b2, b3, a, l, MA, ns, d, rfl, hA, hS, sA, hd, hl, bA, bn, hQ⟩ := h
    refine ⟨_, (pss_one (ps_ret (pe_compG (xs := ["_law_row"]) (fr := [("_law_tops_here", 1)]) (g := (gName 0)) (tt := (tEl (tCB (fun xs H Q => ∃ (p : Addr) (ns : List Int), xs = [.ref p] ∧ SqL K H p (ns.map V.int) ∧ Q (.int ns.sum) H) (tCons (tCompG (iRng1 (tCons (tCB (rLenB K) (tCons (tVar 0) tNil)) tNil)) (gName 0) (tEl (tOp (rI (fun i j => IntMulOk i j) fun i j => .int (i * j)) (tOp (rIxB K) (tVar 1) (tVar 0)) (tOp (rIxB K) (tVar 2) (tVar 0)))) 1 [("_law_row", 0), ("_law_tops_here", 1)]) tNil)))) (compG_ok (sc := defScope s_law_led) (N := N_law_led) rfl rfl (by decide +kernel)) rfl (pi_seq (pv 0)) (fun _ _ _ hE1 => (pg_ownC (N := ["_law_row", "_law_tops_here"]) (i := 0) hE1 rfl (by decide +kernel) rfl)) (fun _ _ _ hE1 => (po_el (pe_callB (call_sum rfl) rfl T.z_sum (by decide +kernel) (pa_cons (pe_compG (xs := ["_law_k"]) (fr := [("_law_row", 0), ("_law_tops_here", 1)]) (g := (gName 0)) (tt := (tEl (tOp (rI (fun i j => IntMulOk i j) fun i j => .int (i * j)) (tOp (rIxB K) (tVar 1) (tVar 0)) (tOp (rIxB K) (tVar 2) (tVar 0))))) (compG_ok (N := ["_law_row", "_law_tops_here"]) hE1 rfl (by decide +kernel)) rfl (pi_range1 rfl T.z_range (pa_cons (pe_callB call_lenB rfl T.z_len (by decide +kernel) (pa_cons (pv 0) pa_nil)) pa_nil)) (fun _ _ _ hE2 => (pg_own (N := ["_law_k", "_law_row", "_law_tops_here"]) (i := 0) hE2 rfl (by decide +kernel))) (fun _ _ _ hE2 => (po_el (pe_op op_mulB (pe_ix ix_B (pv 1) (pv 0) (fun _ _ => rfl)) (pe_ix ix_B (pv 2) (pv 0) (fun _ _ => rfl)))))) pa_nil))))))), ?_⟩
    show tRet _ _ [some (.ref a), some (.ref l)] H
    walk_at "rd2"
    refine compE_st fun B eB => ?_
    simp only [iSeq]
    walk_at "rd2"
    obtain ⟨xs, x1, x2, x3⟩ := hA.walk
    refine ⟨b1, ⟨_, x1⟩, fun a1 ha1 => ?_⟩
    refine cg_seq (fun j y _ => ∃ r, MA[j]? = some r ∧ y = .int (dotI r ns)) ha1 x1 (by rw [x2, sA.1]; omega) (fun _ _ _ _ r _ => r) ?_ ?_
    · intro i x H2 zs ex s2 ez Q' hQ'
      obtain ⟨p, r, rfl, er, hp⟩ := x3 i x ex
      have hrl : r.length = d := sA.2 r (List.mem_of_getElem? er)
      subst eB
      show tCB _ _ [some (.ref p), some (.ref l)] H2 Q'
      walk_at "rd2"
      refine compE_st fun B0 eB => ?_
      simp only [iRng1]
      walk_at "rd2"
      refine ints_len (hp.up s2) ⟨_, rfl, by omega, by omega, fun a2 ha2 => ?_⟩
      rw [Int.toNat_natCast, hrl]
      refine cg_range (fun k y _ => ∃ x, (List.zipWith (· * ·) r ns)[k]? = some x ∧ y = .int x) ha2 (by omega) (fun _ _ _ _ r _ => r) ?_ ?_
      · intro k H3 zs3 hk s3 ez3 Q2 hQ2
        have hkr : k < r.length := by omega
        have hkn : k < ns.length := by omega
        subst eB
        show tOp _ _ _ [some (.int (0 + (k : Int))), some (.ref p), some (.ref l)] H3 Q2
        walk_at "rd2"
        refine ⟨b2, p, _, _, _, rfl, rfl, (hp.up s2).up s3, atI_at (int_at (getD_at hkr)) (by omega), ?_⟩
        refine ⟨b3, l, _, _, _, rfl, rfl, (hS.up s2).up s3, atI_at (int_at (getD_at hkn)) (by omega), ?_⟩
        try walk_at "rd2"
        refine ⟨PyProof.Rows.mulOk_of_bits (bits_of (bA r (List.mem_of_getElem? er) _ (L2.getD_mem hkr))) (bits_of (bn _ (L2.getD_mem hkn))) (by decide), hQ2 _ _ (Same.refl _) ⟨_, ?_, rfl⟩⟩
        rw [List.getElem?_zipWith, L2.getD_at hkr, L2.getD_at hkn]
      · intro H3 ys s3 e3 hly hr3
        have ey : ys = (List.zipWith (· * ·) r ns).map V.int := by
          refine list_is (by simp; omega) fun k y e => ?_
          obtain ⟨x, ex, rfl⟩ := hr3 k y e
          exact ⟨x, ex, rfl⟩
        subst ey
        exact ⟨a2, rfl, _, SqL.of e3, hQ' _ _ s3 ⟨r, er, rfl⟩⟩
    · intro H2 ys s2 e2 hly hr2
      have ey : ys = (mv MA ns).map V.int := by
        unfold mv
        rw [List.map_map]
        exact list_is (by omega) hr2
      subst ey
      exact hQ a1 H2 s2 ha1 e2
theorem ok_law_determinant (T : Txt K mg t) : FnOk P w K mg base CX0 1 t.a_law_determinant t.d_law_determinant ["_law_rows"] (sp_law_determinant K) := by
  refine T.F_law_determinant.ok sc_law_determinant (fun vs H Q E h => ?_) (fun cdv A outer s H vs Q E hr h => ?_)
  · obtain ⟨b1, b2, a, A, d, rfl, _⟩ := h
    rfl
  · obtain ⟨b1, b2, a, MA, d, rfl, hA, sA, hd, bA, hQ⟩ := h
    refine ⟨_, (pss_cons (ps_if (pt_cmpR op_eqZ (pe_callB call_lenB rfl T.z_len (by decide +kernel) (pa_cons (pv 0) pa_nil)) pe_int (nomark _))
      (pss_one (ps_ret (pe_op op_sub (pe_op op_mulB (pe_ix ix_B (pe_ix ix_B (pv 0) pe_int (fun _ _ => rfl)) pe_int (fun _ _ => rfl)) (pe_ix ix_B (pe_ix ix_B (pv 0) pe_int (fun _ _ => rfl)) pe_int (fun _ _ => rfl))) (pe_op op_mulB (pe_ix ix_B (pe_ix ix_B (pv 0) pe_int (fun _ _ => rfl)) pe_int (fun _ _ => rfl)) (pe_ix ix_B (pe_ix ix_B (pv 0) pe_int (fun _ _ => rfl)) pe_int (fun _ _ => rfl))))))
      pss_nil)
      (pss_cons (ps_set (i := 1) sc_law_determinant.nd rfl (Or.inl rfl) pe_int)
      (pss_cons (ps_for PassesOwn.never rfl (pi_range1 rfl T.z_range (pa_cons pe_int pa_nil)) (pg_name (i := 2) sc_law_determinant.nd rfl (Or.inl rfl))
      (pss_cons (ps_set (i := 3) sc_law_determinant.nd rfl (Or.inl rfl) (pe_op op_mulB (pe_ix ix_B (pe_ix ix_B (pv 0) pe_int (fun _ _ => rfl)) (pe_op op_modN (pe_op op_add (pv 2) pe_int) pe_int) (fun _ _ => rfl)) (pe_ix ix_B (pe_ix ix_B (pv 0) pe_int (fun _ _ => rfl)) (pe_op op_modN (pe_op op_add (pv 2) pe_int) pe_int) (fun _ _ => rfl))))
      (pss_cons (ps_set (i := 4) sc_law_determinant.nd rfl (Or.inl rfl) (pe_op op_mulB (pe_ix ix_B (pe_ix ix_B (pv 0) pe_int (fun _ _ => rfl)) (pe_op op_modN (pe_op op_add (pv 2) pe_int) pe_int) (fun _ _ => rfl)) (pe_ix ix_B (pe_ix ix_B (pv 0) pe_int (fun _ _ => rfl)) (pe_op op_modN (pe_op op_add (pv 2) pe_int) pe_int) (fun _ _ => rfl))))
      (pss_one (ps_set (i := 1) sc_law_determinant.nd rfl (Or.inl rfl) (pe_op op_add (pv 1) (pe_op op_mulB (pe_ix ix_B (pe_ix ix_B (pv 0) pe_int (fun _ _ => rfl)) (pv 2) (fun _ _ => rfl)) (pe_op op_sub (pv 3) (pv 4)))))))))
      (pss_one (ps_ret (pv 1)))))), ?_⟩
    show tSeq _ _ _ [some (.ref a), none, none, none, none] H
    refine st fun N1 e1 => ?_
    walk_at "rd2"
    refine mat_len hA ?_
    rw [sA.1]
    try walk_at "rd2"
    rcases hd with rfl | rfl
    · obtain ⟨x, y, z, v, rfl⟩ := sq2 sA
      have mo : ∀ p ∈ [x, y], ∀ q ∈ [z, v], IntMulOk p q := fun p hp q hq => PyProof.Rows.mulOk_of_bits (bits_of (bA _ (by simp) p hp)) (bits_of (bA [z, v] (by simp) q hq)) (by decide)
      refine iteT (mat_ix hA (i := 0) (k := 0) rfl rfl rfl rfl (mat_ix hA (i := 1) (k := 1) rfl rfl rfl rfl ⟨_, _, rfl, rfl, mo x (by simp) v (by simp), mat_ix hA (i := 0) (k := 1) rfl rfl rfl rfl (mat_ix hA (i := 1) (k := 0) rfl rfl rfl rfl ⟨_, _, rfl, rfl, mo y (by simp) z (by simp), _, _, rfl, rfl, ?_⟩)⟩))
      rw [det2] at hQ
      exact hQ
    · refine iteF ?_
      subst e1
      obtain ⟨x1, x2, x3, y1, y2, y3, z1, z2, z3, rfl⟩ := sq3 sA
      have mo : ∀ p ∈ [y1, y2, y3], ∀ q ∈ [z1, z2, z3], IntMulOk p q := fun p hp q hq => PyProof.Rows.mulOk_of_bits (bits_of (bA [y1, y2, y3] (by simp) p hp)) (bits_of (bA [z1, z2, z3] (by simp) q hq)) (by decide)
      have mb : ∀ p ∈ [y1, y2, y3], ∀ q ∈ [z1, z2, z3], ∀ p' ∈ [y1, y2, y3], ∀ q' ∈ [z1, z2, z3], ∀ x ∈ [x1, x2, x3], IntMulOk x (p * q - p' * q') := fun p hp q hq p' hp' q' hq' x hx => by
        have b1 := intBits_mul_le (bits_of (bA [y1, y2, y3] (by simp) p hp)) (bits_of (bA [z1, z2, z3] (by simp) q hq))
        have b2 := intBits_mul_le (bits_of (bA [y1, y2, y3] (by simp) p' hp')) (bits_of (bA [z1, z2, z3] (by simp) q' hq'))
        have b3 : Builtin.Int.intBits (p * q - p' * q') ≤ 3500 := by
          refine intBits_le_iff.mpr ?_
          have c1 := intBits_le_iff.mp b1
          have c2 := intBits_le_iff.mp b2
          have c3 := Int.natAbs_sub_le (p * q) (p' * q')
          have c4 : 2 ^ (1700 + 1700) + 2 ^ (1700 + 1700) ≤ 2 ^ 3500 := by rw [← Nat.two_mul, ← Nat.pow_succ']; exact Nat.pow_le_pow_right (by decide) (by decide)
          omega
        exact PyProof.Rows.mulOk_of_bits (bits_of (bA [x1, x2, x3] (by simp) x hx)) b3 (by decide)
      refine st fun N1 e1 => ?_
      walk_at "rd2"
      subst e1
      refine st fun N1 e1 => for_st fun B eB => ?_
      simp only [iRng1]
      walk_at "rd2"
      refine ⟨by decide, by decide, ?_⟩
      refine fr_range (g := gName 2) (tb := B) (fun k σ H1 => ∃ v2 v3 v4, σ = [some (.ref a), some (.int (((if 0 < k then x1 * (y2 * z3 - y3 * z2) else 0) + (if 1 < k then x2 * (y3 * z1 - y1 * z3) else 0)) + (if 2 < k then x3 * (y1 * z2 - y2 * z1) else 0))), v2, v3, v4] ∧ H1 = H) ⟨none, none, none, by simp, rfl⟩ ?_ ?_
      · have ix1 : ∀ (i k : Nat) (r : List Int) (n I J : Int) (Q' : VK), [[x1, x2, x3], [y1, y2, y3], [z1, z2, z3]][i]? = some r → r[k]? = some n → I = i → J = k → Q' (.int n) H → rIxB K (.ref a) (.int I) H fun x H1 => ¬ (3 : Int) = 0 ∧ rIxB K x (.int J) H1 Q' := fun i k r n I J Q' h1 h2 h3 h4 q => mat_row hA h1 h3 fun p hp => ⟨by decide, b2, p, _, _, _, rfl, rfl, hp, atI_at (int_at h2) h4, q⟩
        have step : ∀ (k p q : Nat) (xk yp yq zp zq F : Int) (v3 v4 : Option V) (D : Ends), [x1, x2, x3][k]? = some xk → [y1, y2, y3][p]? = some yp → [y1, y2, y3][q]? = some yq → [z1, z2, z3][p]? = some zp → [z1, z2, z3][q]? = some zq → (0 + (k : Int) + 1).fmod 3 = p → (0 + (k : Int) + 2).fmod 3 = q →
            (∀ v3 v4, D.nx [some (.ref a), some (.int (F + xk * (yp * zq - yq * zp))), some (.int (0 + (k : Int))), v3, v4] H) → B D [some (.ref a), some (.int F), some (.int (0 + (k : Int))), v3, v4] H := by
          intro k p q xk yp yq zp zq F v3 v4 D hx hyp hyq hzp hzq ep eq hn
          subst eB
          refine st fun N2 e2 => ?_
          walk_at "rd2"
          refine ix1 1 p _ yp _ _ _ rfl hyp rfl ep (ix1 2 q _ zq _ _ _ rfl hzq rfl eq ⟨_, _, rfl, rfl, mo yp (List.mem_of_getElem? hyp) zq (List.mem_of_getElem? hzq), ?_⟩)
          subst e2
          refine st fun N2 e2 => ?_
          walk_at "rd2"
          refine ix1 1 q _ yq _ _ _ rfl hyq rfl eq (ix1 2 p _ zp _ _ _ rfl hzp rfl ep ⟨_, _, rfl, rfl, mo yq (List.mem_of_getElem? hyq) zp (List.mem_of_getElem? hzp), ?_⟩)
          subst e2
          walk_at "rd2"
          refine mat_ix hA (i := 0) (k := k) rfl hx rfl (by omega) ?_
          try walk_at "rd2"
          exact ⟨mb yp (List.mem_of_getElem? hyp) zq (List.mem_of_getElem? hzq) yq (List.mem_of_getElem? hyq) zp (List.mem_of_getElem? hzp) xk (List.mem_of_getElem? hx), hn _ _⟩
        rintro k σ H1 hk ⟨v2, v3, v4, rfl, rfl⟩
        have hk' : k < 3 := hk
        rcases (show k = 0 ∨ k = 1 ∨ k = 2 by omega) with rfl | rfl | rfl
        · exact step 0 1 2 x1 y2 y3 z2 z3 _ v3 v4 _ rfl rfl rfl rfl rfl (by decide) (by decide) fun v3 v4 => ⟨some (.int (0 + ((0 : Nat) : Int))), v3, v4, by simp, rfl⟩
        · exact step 1 2 0 x2 y3 y1 z3 z1 _ v3 v4 _ rfl rfl rfl rfl rfl (by decide) (by decide) fun v3 v4 => ⟨some (.int (0 + ((1 : Nat) : Int))), v3, v4, by simp, rfl⟩
        · exact step 2 0 1 x3 y1 y2 z1 z2 _ v3 v4 _ rfl rfl rfl rfl rfl (by decide) (by decide) fun v3 v4 => ⟨some (.int (0 + ((2 : Nat) : Int))), v3, v4, by simp, rfl⟩
      · rintro σ H1 ⟨v2, v3, v4, rfl, rfl⟩
        subst e1
        walk_at "rd2"
        rw [det3] at hQ
        have e : x1 * (y2 * z3 - y3 * z2) + x2 * (y3 * z1 - y1 * z3) + x3 * (y1 * z2 - y2 * z1) = (x2 * y3 - x3 * y2) * z1 + (x3 * y1 - x1 * y3) * z2 + (x1 * y2 - x2 * y1) * z3 := by grind
        simp only [show (0 : Nat) < (3 : Int).toNat by decide, show (1 : Nat) < (3 : Int).toNat by decide, show (2 : Nat) < (3 : Int).toNat by decide, if_true]
        rw [e]
        exact hQ
theorem ok_law_span (T : Txt K mg t) : FnOk P w K mg base CX0 2 t.a_law_span t.d_law_span ["_law_rows"] (sp_law_span K) := by
  have G_law_rests : FnOk P w K mg base CX0 1 t.a_law_rests t.d_law_rests ["_law_rows"] (sp_law_rests K) := ok_law_rests T
  have G_law_times : FnOk P w K mg base CX0 1 t.a_law_times t.d_law_times ["_law_one", "_law_other"] (sp_law_times K) := ok_law_times T
  refine T.F_law_span.ok sc_law_span (fun vs H Q E h => ?_) (fun cdv A outer s H vs Q E hr h => ?_)
  · obtain ⟨b1, b2, a, A, d, rfl, _⟩ := h
    rfl
  · obtain ⟨b1, b2, a, MA, d, rfl, hA, sA, hd, bA, hQ⟩ := h
    refine ⟨_, (pss_cons (ps_set (i := 1) sc_law_span.nd rfl (Or.inl rfl) (pv 0))
      (pss_cons (ps_for PassesOwn.never rfl (pi_range2 rfl T.z_range (pa_cons pe_int (pa_cons pe_int pa_nil))) (pg_name (i := 2) sc_law_span.nd rfl (Or.inl rfl))
      (pss_cons (ps_if (pt_val (pe_call G_law_rests (hr.mono (by omega)) rfl T.m_law_rests T.F_law_rests.kp T.b_law_rests .nil pass0 (pa_cons (pv 1) pa_nil)))
      (pss_one (ps_ret (pv 2)))
      pss_nil)
      (pss_one (ps_set (i := 1) sc_law_span.nd rfl (Or.inl rfl) (pe_call G_law_times (hr.mono (by omega)) rfl T.m_law_times T.F_law_times.kp T.b_law_times .nil pass0 (pa_cons (pv 1) (pa_cons (pv 0) pa_nil)))))))
      (pss_one (ps_ret pe_int)))), ?_⟩
    show tSeq _ _ _ [some (.ref a), none, none] H
    refine st fun N1 e1 => ?_
    walk_at "rd2"
    subst e1
    refine st fun N1 e1 => for_st fun B eB => ?_
    simp only [iRng2]
    walk_at "rd2"
    refine ⟨by decide, by decide, by decide, by decide, ?_⟩
    refine fr_range (g := gName 2) (tb := B) (lo := 1) (n := 6) (fun i σ H1 => ∃ c1 c2 pa v2, σ = [some (.ref a), some (.ref pa), v2] ∧ Same H H1 ∧ MatB c1 c2 K H1 pa (pw d MA i) ∧ ∀ j < i, pw d MA j ≠ idM d) ⟨b1, b2, a, none, rfl, Same.refl _, hA, fun j hj => by omega⟩ ?_ ?_
    · rintro i σ H1 hi ⟨c1, c2, pa, v2, rfl, s1, hP, hno⟩
      subst eB
      show tSeq _ _ _ [some (.ref a), some (.ref pa), some (.int (1 + (i : Int)))] H1
      have sp := sA.pw i
      have bp := BitsM.pw (by omega : d ≤ 4) sA bA i
      refine st fun N2 e2 => ?_
      walk_at "rd2"
      refine ⟨c1, c2, pa, _, d, rfl, hP, sp, by omega, ?_⟩
      try walk_at "rd2"
      by_cases z : pw d MA i = idM d
      · rw [decide_eq_true z]
        have e : (1 : Int) + (i : Int) = spn d MA := span_is (.inr ⟨i, hi, by omega, z, hno⟩)
        refine iteT ?_
        rw [e]
        exact hQ H1 s1
      · rw [decide_eq_false z]
        refine iteF ?_
        subst e2
        walk_at "rd2"
        have mk : MulOkM (pw d MA i) MA := mul_ok_bits bp bA (by
          have : (i + 1) * (1700 + 3) ≤ 6 * (1700 + 3) := Nat.mul_le_mul_right _ (by omega)
          omega)
        refine ⟨c1, c2, b1, b2, pa, a, _, _, d, rfl, hP, hA.up s1, sp, sA, by omega, by omega, mk, fun r H2 s2 hR => ?_⟩
        refine ⟨false, false, r, rfl, s1.trans s2, hR.b, fun j hj => ?_⟩
        by_cases e : j = i
        · rw [e]; exact z
        · exact hno j (by omega)
    · rintro σ H1 ⟨c1, c2, pa, v2, rfl, s1, hP, hno⟩
      subst e1
      walk_at "rd2"
      have e : (0 : Int) = spn d MA := span_is (.inl ⟨rfl, hno⟩)
      have := hQ H1 s1
      rw [← e] at this
      exact this
theorem ok_law_slide (T : Txt K mg t) : FnOk P w K mg base CX0 3 t.a_law_slide t.d_law_slide ["_law_one", "_law_many"] (sp_law_slide K) := by
  have G_law_led : FnOk P w K mg base CX0 1 t.a_law_led t.d_law_led ["_law_rows", "_law_tops_here"] (sp_law_led K) := ok_law_led T
  have G_law_place : FnOk P w K mg base CX0 2 t.a_law_place t.d_law_place ["_law_tops_here", "_law_under"] (sp_law_place K) := ok_law_place T
  refine T.F_law_slide.ok sc_law_slide (fun vs H Q E h => ?_) (fun cdv A outer s H vs Q E hr h => ?_)
  · obtain ⟨p, M, ts, u, d, rfl, _⟩ := h
    rfl
  · obtain ⟨p, M, ts, u, d, rfl, hD, kd, hz, hQ⟩ := h
    have sr := spn_range d M
    have dd := kd.hd
    unfold farT at hQ
    obtain ⟨n, en⟩ := Int.eq_ofNat_of_zero_le sr.1
    rw [en] at hQ sr hz ⊢
    rw [Int.toNat_natCast] at hQ
    refine ⟨_, (pss_cons (ps_setCG (i := 2) (xs := ["_law_top"]) (fr := []) (g := (gName 0)) (tt := (tEl (tC (.int 0)))) (compG_ok (sc := defScope s_law_slide) (N := N_law_slide) rfl rfl (by decide +kernel)) rfl sc_law_slide.nd rfl rfl (pi_seq (pe_ix ix_B (pv 0) pe_int (fun _ _ => rfl))) (fun _ _ _ hE1 => (pg_own (N := ["_law_top"]) (i := 0) hE1 rfl (by decide +kernel))) (fun _ _ _ hE1 => (po_el pe_int)))
      (pss_cons (ps_for PassesOwn.never rfl (pi_range1 rfl T.z_range (pa_cons (pv 1) pa_nil)) (pg_name (i := 3) sc_law_slide.nd rfl (Or.inl rfl))
      (pss_cons (ps_set (i := 4) sc_law_slide.nd rfl (Or.inr rfl) (pe_call G_law_led (hr.mono (by omega)) rfl T.m_law_led T.F_law_led.kp T.b_law_led .nil pass0 (pa_cons (pe_ix ix_B (pv 0) pe_int (fun _ _ => rfl)) (pa_cons (pv 2) pa_nil))))
      (pss_one (ps_setCG (i := 2) (xs := ["_law_j"]) (fr := [("_law_one", 0), ("_law_led_here", 4)]) (g := (gName 0)) (tt := (tEl (tOp (rI0 fun i j => .int (i + j)) (tOp (rIxB K) (tVar 2) (tVar 0)) (tOp (rIxB K) (tOp (rIxB K) (tVar 1) (tC (.int 1))) (tVar 0))))) (compG_ok (sc := defScope s_law_slide) (N := N_law_slide) rfl rfl (by decide +kernel)) rfl sc_law_slide.nd rfl rfl (pi_range1 rfl T.z_range (pa_cons (pe_callB call_lenB rfl T.z_len (by decide +kernel) (pa_cons (pv 2) pa_nil)) pa_nil)) (fun _ _ _ hE1 => (pg_own (N := ["_law_j", "_law_one", "_law_led_here"]) (i := 0) hE1 rfl (by decide +kernel))) (fun _ _ _ hE1 => (po_el (pe_op op_add (pe_ix ix_B (pv 2) (pv 0) (fun _ _ => rfl)) (pe_ix ix_B (pe_ix ix_B (pv 1) pe_int (fun _ _ => rfl)) (pv 0) (fun _ _ => rfl)))))))))
      (pss_one (ps_ret (pe_call G_law_place (hr.mono (by omega)) rfl T.m_law_place T.F_law_place.kp T.b_law_place .nil pass0 (pa_cons (pv 2) (pa_cons (pe_op op_mulB (pe_ix ix_B (pv 0) pe_int (fun _ _ => rfl)) (pv 1)) pa_nil))))))), ?_⟩
    show tSeq _ _ _ [some (.ref p), some (.int n), none, none, none] H
    refine st fun N1 e1 => ?_
    refine compE_st fun B eB => ?_
    simp only [iSeq]
    walk_at "rd2"
    refine deed_ix1 hD fun y hy => ⟨true, y, rfl, ⟨_, SqB.tup hy⟩, fun a1 ha1 => ?_⟩
    refine cg_seq (fun j z _ => z = .int 0) ha1 (SqB.tup hy) (by rw [List.length_map, kd.af.len]; omega) (fun _ _ _ _ r _ => r) ?_ ?_
    · intro i x H2 zs ex s2 ez Q' hQ'
      subst eB
      exact hQ' _ _ (Same.refl _) rfl
    · intro H2 ys s2 e2 hly hr2
      have ey : ys = (List.replicate d (0 : Int)).map V.int := by
        rw [List.length_map, kd.af.len] at hly
        refine list_is (by simpa using hly) fun j z e => ?_
        have hj := (List.getElem?_eq_some_iff.mp e).1
        exact ⟨0, by rw [List.getElem?_replicate, if_pos (by omega)], hr2 j z e⟩
      subst ey
      subst e1
      refine st fun N1 e1 => for_st fun B eB => ?_
      simp only [iRng1]
      walk_at "rd2"
      refine ⟨by omega, by omega, ?_⟩
      rw [Int.toNat_natCast]
      refine fr_range (g := gName 3) (tb := B) (n := n) (fun k σ H3 => ∃ tp v3 v4, σ = [some (.ref p), some (.int n), some (.ref tp), v3, v4] ∧ Same H H3 ∧ H3 tp = some (.lst ((pwA d (M, ts) k).2.map V.int))) ⟨a1, none, none, rfl, s2, e2⟩ ?_ ?_
      · rintro k σ H3 hk ⟨tp, v3, v4, rfl, s3, e3⟩
        have al := (pwA_af (x := (M, ts)) kd.af k).len
        have bl := (pwA_bits dd (x := (M, ts)) kd.af kd.bm kd.bt k).2
        have hk6 : (k + 1) * (1700 + 3) ≤ 20000 := Nat.le_trans (Nat.mul_le_mul_right _ (show k + 1 ≤ 7 by omega)) (by decide)
        have e9 : (pwA d (M, ts) (k + 1)).2 = va (mv M (pwA d (M, ts) k).2) ts := aff_is M (pwA d (M, ts) k).2 ts
        rw [e9]
        generalize (pwA d (M, ts) k).2 = S at *
        have al' : S.length = d := al
        subst eB
        show tSeq _ _ _ [some (.ref p), some (.int n), some (.ref tp), some (.int (0 + (k : Int))), v4] H3
        refine st fun N2 e2 => ?_
        walk_at "rd2"
        refine deed_ix0 (hD.up s3) fun x hx => ⟨true, true, false, x, tp, M, S, d, rfl, hx, SqB.lst e3, kd.af.sq, dd, al', kd.bm, bl.le hk6, fun r H4 s4 _ e4 => ?_⟩
        have s34 := s3.trans s4
        have e3' := s4 _ _ e3
        subst e2
        refine compE_st fun B eB => ?_
        simp only [iRng1]
        walk_at "rd2"
        refine ints_len (b := false) (SqB.lst e3') ⟨_, rfl, by omega, by omega, fun a2 ha2 => ?_⟩
        rw [Int.toNat_natCast, al']
        refine cg_range (fun j z _ => j < d ∧ z = .int ((mv M S).getD j 0 + ts.getD j 0)) ha2 (by omega) (fun _ _ _ _ r _ => r) ?_ ?_
        · intro j H5 zs hj s5 ez Q' hQ'
          have ml : (mv M S).length = d := mv_len kd.af.sq
          subst eB
          show tOp _ _ _ [some (.int (0 + (j : Int))), some (.ref p), some (.ref r)] H5 Q'
          walk_at "rd2"
          refine ⟨false, r, _, _, _, rfl, rfl, SqB.lst (s5 _ _ e4), atI_at (int_at (getD_at (show j < (mv M S).length by omega))) (by omega), ?_⟩
          refine deed_ix1 ((hD.up s34).up s5) fun y2 hy2 => ⟨true, y2, _, _, _, rfl, rfl, SqB.tup hy2, atI_at (int_at (getD_at (show j < ts.length by rw [kd.af.len]; exact hj))) (by omega), ?_⟩
          try walk_at "rd2"
          exact hQ' _ _ (Same.refl _) ⟨hj, rfl⟩
        · intro H5 ys s5 e5 hly hr5
          have ey : ys = (va (mv M S) ts).map V.int := by
            have ml : (mv M S).length = d := mv_len kd.af.sq
            refine list_is (by unfold va; rw [List.length_zipWith, ml, kd.af.len]; simpa using hly) fun j z e => ?_
            obtain ⟨hj, rfl⟩ := hr5 j z e
            refine ⟨_, ?_, rfl⟩
            unfold va
            rw [List.getElem?_zipWith, L2.getD_at (show j < (mv M S).length by omega), L2.getD_at (show j < ts.length by rw [kd.af.len]; exact hj)]
          subst ey
          exact ⟨a2, rfl, s34.trans s5, e5⟩
      · rintro σ H3 ⟨tp, v3, v4, rfl, s3, e3⟩
        subst e1
        walk_at "rd2"
        refine deed_ix2 (hD.up s3) ⟨_, _, rfl, rfl, IntMulOk.of_right (intBits_le_iff.mpr (by omega)), ?_⟩
        have al := (pwA_af (x := (M, ts)) kd.af n).len
        have bu := kd.bu
        have pu := kd.pos
        have sw : small (u * n) := by
          have h6 : u * (n : Int) ≤ 2 ^ 71 * 6 := Int.mul_le_mul (by omega) (by omega) (by omega) (by decide)
          have h7 : 0 ≤ u * (n : Int) := Int.mul_nonneg (by omega) (by omega)
          have h8 : ((u * (n : Int)).natAbs : Int) = u * n := Int.natAbs_of_nonneg h7
          have this : (u * (n : Int)).natAbs < 2 ^ 80 := by
            have e80 : (2 : Int) ^ 71 * 6 < ((2 ^ 80 : Nat) : Int) := by decide
            exact Int.ofNat_lt.mp (by rw [h8]; exact Int.lt_of_le_of_lt h6 e80)
          exact Nat.lt_of_lt_of_le this (Nat.pow_le_pow_right (by decide) (by decide))
        exact ⟨tp, _, u * n, rfl, SqL.of e3, by rw [show (pwA d (M, ts) n).2.length = d from al]; omega, Int.mul_pos pu (by omega), sw, fun r H4 s4 hP => hQ r H4 (s3.trans s4) hP⟩
theorem va_zero : ∀ v : List Int, va v (List.replicate v.length 0) = v
  | [] => rfl
  | x :: v => by
    show (x + 0) :: va v (List.replicate v.length 0) = x :: v
    rw [va_zero v, Int.add_zero]
theorem mv_bits {d B C : Nat} {N : List (List Int)} {T : List Int} (sN : Sq d N) (hd : d ≤ 3) (hN : BitsM B N) (hT : BitsL C T) : BitsL (B + C + 3) (mv N T) := by
  have h := aff_bits sN hd hN hT (S := List.replicate d 0) (D := 0) (fun x hx => by rw [List.eq_of_mem_replicate hx]; decide) (by omega)
  rw [aff_is] at h
  have e := va_zero (mv N T)
  rw [mv_len sN] at e
  rw [e] at h
  exact h
theorem getD_bits {B : Nat} {ts : List Int} (h : BitsL B ts) (k : Nat) : (ts.getD k 0).natAbs < 2 ^ B := by
  by_cases hk : k < ts.length
  · exact h _ (L2.getD_mem hk)
  · rw [List.getD_eq_getElem?_getD, List.getElem?_eq_none (by omega)]
    exact Nat.pow_pos (by decide)
theorem upto_is {d : Nat} {ys : List V} {f : Nat → Int} (hl : ys.length = d) (h : ∀ (j : Nat) (y : V), ys[j]? = some y → y = .int (f j)) : ys = ((List.range d).map f).map V.int := by
  refine list_is (by simpa using hl) fun j y e => ⟨f j, ?_, h j y e⟩
  have hj := (List.getElem?_eq_some_iff.mp e).1
  rw [List.getElem?_map, List.getElem?_range (by omega)]
  rfl
theorem range_bits {d B : Nat} {f : Nat → Int} (h : ∀ j, (f j).natAbs < 2 ^ B) : BitsL B ((List.range d).map f) := fun x hx => by
  obtain ⟨j, _, rfl⟩ := List.mem_map.mp hx
  exact h j
theorem ok_law_tops (T : Txt K mg t) : FnOk P w K mg base CX0 2 t.a_law_tops t.d_law_tops ["_law_rows", "_law_script"] (sp_law_tops K) := by
  have G_law_cell_at : FnOk P w K mg base CX0 1 t.a_law_cell_at t.d_law_cell_at ["_law_script", "_law_k"] (sp_law_cell_at K) := ok_law_cell_at T
  have G_law_led : FnOk P w K mg base CX0 1 t.a_law_led t.d_law_led ["_law_rows", "_law_tops_here"] (sp_law_led K) := ok_law_led T
  refine T.F_law_tops.ok sc_law_tops (fun vs H Q E h => ?_) (fun cdv A outer s H vs Q E hr h => ?_)
  · obtain ⟨a, l, A, ns, d, rfl, _⟩ := h
    rfl
  · obtain ⟨a, l, MA, ns, d, rfl, hA, hS, hb, sA, hd, bA, hQ⟩ := h
    refine ⟨_, (pss_cons (ps_set (i := 2) sc_law_tops.nd rfl (Or.inr rfl) (pe_lst pa_nil))
      (pss_cons (ps_for PassesOwn.never rfl (pi_range1 rfl T.z_range (pa_cons (pe_callB call_lenB rfl T.z_len (by decide +kernel) (pa_cons (pv 0) pa_nil)) pa_nil)) (pg_name (i := 3) sc_law_tops.nd rfl (Or.inl rfl))
      (pss_one (ps_expr (pe_bm PySem.F.plainAttrs_list PySem.F.slot_list_append PySem.F.type_list_append mt_append (pv 2) (pa_cons (pe_op op_sub (pe_op op_modN (pe_op op_add (pe_call G_law_cell_at (hr.mono (by omega)) rfl T.m_law_cell_at T.F_law_cell_at.kp T.b_law_cell_at .nil pass0 (pa_cons (pv 1) (pa_cons (pe_op op_add pe_int (pv 3)) pa_nil))) (pe_op op_pow pe_int pe_int)) (pe_op op_add (pe_op op_mulB pe_int (pe_op op_pow pe_int pe_int)) pe_int)) (pe_op op_pow pe_int pe_int)) pa_nil)))))
      (pss_cons (ps_set (i := 4) sc_law_tops.nd rfl (Or.inl rfl) (pe_op op_modN (pe_call G_law_cell_at (hr.mono (by omega)) rfl T.m_law_cell_at T.F_law_cell_at.kp T.b_law_cell_at .nil pass0 (pa_cons (pv 1) (pa_cons pe_int pa_nil))) pe_int))
      (pss_cons (ps_if (pt_cmpR op_eqZ (pv 4) pe_int (nomark _))
      (pss_one (ps_ret (pv 2)))
      pss_nil)
      (pss_cons (ps_set (i := 5) sc_law_tops.nd rfl (Or.inr rfl) (pe_call G_law_led (hr.mono (by omega)) rfl T.m_law_led T.F_law_led.kp T.b_law_led .nil pass0 (pa_cons (pv 0) (pa_cons (pv 2) pa_nil))))
      (pss_cons (ps_set (i := 6) sc_law_tops.nd rfl (Or.inr rfl) (pe_compG (xs := ["_law_k"]) (fr := [("_law_drawn", 2), ("_law_led_here", 5)]) (g := (gName 0)) (tt := (tEl (tOp (rI0 fun i j => .int (i - j)) (tOp (rIxB K) (tVar 1) (tVar 0)) (tOp (rIxB K) (tVar 2) (tVar 0))))) (compG_ok (sc := defScope s_law_tops) (N := N_law_tops) rfl rfl (by decide +kernel)) rfl (pi_range1 rfl T.z_range (pa_cons (pe_callB call_lenB rfl T.z_len (by decide +kernel) (pa_cons (pv 0) pa_nil)) pa_nil)) (fun _ _ _ hE1 => (pg_own (N := ["_law_k", "_law_drawn", "_law_led_here"]) (i := 0) hE1 rfl (by decide +kernel))) (fun _ _ _ hE1 => (po_el (pe_op op_sub (pe_ix ix_B (pv 1) (pv 0) (fun _ _ => rfl)) (pe_ix ix_B (pv 2) (pv 0) (fun _ _ => rfl)))))))
      (pss_cons (ps_if (pt_cmpR op_eqZ (pv 4) pe_int (nomark _))
      (pss_one (ps_ret (pv 6)))
      pss_nil)
      (pss_cons (ps_set (i := 7) sc_law_tops.nd rfl (Or.inr rfl) (pe_compG (xs := ["_law_k"]) (fr := [("_law_script", 1)]) (g := (gName 0)) (tt := (tEl (tOp (rI0 fun i j => .int (i - j)) (tOp (rI (fun _ j => j ≠ 0) fun i j => .int (i.fmod j)) (tOp (rI0 fun i j => .int (i + j)) (tOp (rI CDivB fun i j => .int (i.fdiv j)) (tCall (sp_law_cell_at K) [] E0 (tCons (tVar 1) (tCons (tC (.int 1)) tNil))) (tOp (rI0 fun i j => .int (i + j)) (tC (.int 6)) (tOp (rI (fun i j => IntMulOk i j) fun i j => .int (i * j)) (tC (.int 37)) (tVar 0)))) (tC (.int 3))) (tC (.int 7))) (tC (.int 3))))) (compG_ok (sc := defScope s_law_tops) (N := N_law_tops) rfl rfl (by decide +kernel)) rfl (pi_range1 rfl T.z_range (pa_cons (pe_callB call_lenB rfl T.z_len (by decide +kernel) (pa_cons (pv 0) pa_nil)) pa_nil)) (fun _ _ _ hE1 => (pg_own (N := ["_law_k", "_law_script"]) (i := 0) hE1 rfl (by decide +kernel))) (fun _ _ _ hE1 => (po_el (pe_op op_sub (pe_op op_modN (pe_op op_add (pe_op op_fdivB (pe_call G_law_cell_at (hr.mono (by omega)) rfl T.m_law_cell_at T.F_law_cell_at.kp T.b_law_cell_at .nil pass0 (pa_cons (pv 1) (pa_cons pe_int pa_nil))) (pe_op op_add pe_int (pe_op op_mulB pe_int (pv 0)))) pe_int) pe_int) pe_int)))))
      (pss_cons (ps_if (pt_cmpR op_eqZ (pv 4) pe_int (nomark _))
      (pss_one (ps_set (i := 7) sc_law_tops.nd rfl (Or.inr rfl) (pe_compG (xs := ["_law_k"]) (fr := [("_law_drawn", 2), ("_law_led_here", 5)]) (g := (gName 0)) (tt := (tEl (tOp (rI0 fun i j => .int (i + j)) (tOp (rIxB K) (tVar 1) (tVar 0)) (tOp (rIxB K) (tVar 2) (tVar 0))))) (compG_ok (sc := defScope s_law_tops) (N := N_law_tops) rfl rfl (by decide +kernel)) rfl (pi_range1 rfl T.z_range (pa_cons (pe_callB call_lenB rfl T.z_len (by decide +kernel) (pa_cons (pv 0) pa_nil)) pa_nil)) (fun _ _ _ hE1 => (pg_own (N := ["_law_k", "_law_drawn", "_law_led_here"]) (i := 0) hE1 rfl (by decide +kernel))) (fun _ _ _ hE1 => (po_el (pe_op op_add (pe_ix ix_B (pv 1) (pv 0) (fun _ _ => rfl)) (pe_ix ix_B (pv 2) (pv 0) (fun _ _ => rfl))))))))
      pss_nil)
      (pss_one (ps_ret (pe_compG (xs := ["_law_k"]) (fr := [("_law_tops_here", 6), ("_law_more", 7)]) (g := (gName 0)) (tt := (tEl (tOp (rI0 fun i j => .int (i + j)) (tOp (rIxB K) (tVar 1) (tVar 0)) (tOp (rIxB K) (tVar 2) (tVar 0))))) (compG_ok (sc := defScope s_law_tops) (N := N_law_tops) rfl rfl (by decide +kernel)) rfl (pi_range1 rfl T.z_range (pa_cons (pe_callB call_lenB rfl T.z_len (by decide +kernel) (pa_cons (pv 0) pa_nil)) pa_nil)) (fun _ _ _ hE1 => (pg_own (N := ["_law_k", "_law_tops_here", "_law_more"]) (i := 0) hE1 rfl (by decide +kernel))) (fun _ _ _ hE1 => (po_el (pe_op op_add (pe_ix ix_B (pv 1) (pv 0) (fun _ _ => rfl)) (pe_ix ix_B (pv 2) (pv 0) (fun _ _ => rfl))))))))))))))))), ?_⟩
    show tSeq _ _ _ [some (.ref a), some (.ref l), none, none, none, none, none, none] H
    have hS' : SqB false K H l (ns.map V.int) := hS
    refine st fun N1 e1 => ?_
    walk_at "rd2"
    refine ⟨Nat.zero_le _, fun m hm => ?_⟩
    have s1 : Same H (upd H m (.lst [])) := Same.new hm
    have em : (upd H m (.lst [])) m = some (.lst []) := upd_same
    generalize upd H m (.lst []) = H1 at s1 em
    subst e1
    refine st fun N1 e1 => for_st fun B eB => ?_
    simp only [iRng1]
    walk_at "rd2"
    refine mat_len ((hA.up s1).b (K := K)) ?_
    rw [sA.1]
    try walk_at "rd2"
    refine ⟨by omega, by omega, ?_⟩
    rw [Int.toNat_natCast]
    have e20 : (10 : Int) ^ Int.toNat 20 = 100000000000000000000 := by decide
    refine fr_range (g := gName 3) (tb := B) (fun k σ H2 => ∃ v3 ds, σ = [some (.ref a), some (.ref l), some (.ref m), v3, none, none, none, none] ∧ Same H H2 ∧ H2 m = some (.lst (ds.map V.int)) ∧ ds.length = k ∧ BitsL 70 ds) ⟨none, [], rfl, s1, em, rfl, fun x hx => by simp at hx⟩ ?_ ?_
    · rintro k σ H2 hk ⟨v3, ds, rfl, s2, e2, hl, bl⟩
      subst eB
      show tDrop _ _ [some (.ref a), some (.ref l), some (.ref m), some (.int (0 + (k : Int))), none, none, none, none] H2
      walk_at "rd2"
      refine ⟨.inl ⟨rfl, _, SqL.of e2⟩, l, ns, _, rfl, hS'.up s2, by omega, ?_⟩
      have p20 : CPow 10 20 := ⟨by decide, by decide, by decide⟩
      try walk_at "rd2"
      rw [e20]
      have fm := fms (ns.getD (3 + (0 + (k : Int))).toNat 0 + 100000000000000000000) (2 * 100000000000000000000 + 1) (by decide)
      generalize (ns.getD (3 + (0 + (k : Int))).toNat 0 + 100000000000000000000).fmod (2 * 100000000000000000000 + 1) = z at fm
      refine ⟨p20, p20, PyProof.Rows.mulOk_of_bits (m := 2) (n := 70) (bits_of (by decide)) (bits_of (by decide)) (by decide), by decide, p20, m, _, _, rfl, rfl, e2, by rw [List.length_map]; exact Nat.le_trans (show ds.length + 1 ≤ 1000 by omega) (by decide), Same.over hm s2, ds ++ [z - 100000000000000000000], by rw [upd_same, List.map_append]; rfl, by rw [List.length_append, hl]; rfl, fun x hx => ?_⟩
      rcases List.mem_append.mp hx with q | q
      · exact bl x q
      · rw [List.mem_singleton.mp q]
        have e70 : (100000000000000000000 : Nat) < 2 ^ 70 := by decide
        omega
    · rintro σ H2 ⟨v3, ds, rfl, s2, e2, hl, bl⟩
      subst e1
      refine st fun N1 e1 => ?_
      walk_at "rd2"
      refine ⟨l, ns, 1, rfl, hS'.up s2, by decide, ?_⟩
      show rI _ _ (.int (ns.getD 1 0)) _ H2 _
      walk_at "rd2"
      refine ⟨by decide, ?_⟩
      have hl' : ds.length = d := hl
      have fw := fms (ns.getD 1 0) 6 (by decide)
      generalize (ns.getD 1 0).fmod 6 = y at fw
      subst e1
      refine st fun N1 e1 => ?_
      walk_at "rd2"
      refine ite2 (fun _ => hQ m H2 ds s2 e2 hl' (bl.le (by decide))) (fun _ => ?_)
      subst e1
      refine st fun N1 e1 => ?_
      walk_at "rd2"
      refine ⟨false, false, false, a, m, MA, ds, d, rfl, (hA.up s2).b, SqB.lst e2, sA, hd, hl', bA.le (by decide), bl.le (by decide), fun r H3 s3 _ e3 => ?_⟩
      have ml : (mv MA ds).length = d := mv_len sA
      have s23 := s2.trans s3
      have e2' := s3 _ _ e2
      subst e1
      refine st fun N1 e1 => ?_
      refine compE_st fun B eB => ?_
      simp only [iRng1]
      walk_at "rd2"
      refine mat_len ((hA.up s23).b (K := K)) ?_
      rw [sA.1]
      refine ⟨_, rfl, by omega, by omega, fun a1 ha1 => ?_⟩
      rw [Int.toNat_natCast]
      refine cg_range (fun j z _ => z = .int (ds.getD j 0 - (mv MA ds).getD j 0)) ha1 (by omega) (fun _ _ _ _ r _ => r) ?_ ?_
      · intro j H5 zs hj s5 ez Q' hQ'
        subst eB
        show tOp _ _ _ [some (.int (0 + (j : Int))), some (.ref m), some (.ref r)] H5 Q'
        walk_at "rd2"
        refine ⟨false, m, _, _, _, rfl, rfl, SqB.lst (s5 _ _ e2'), atI_at (int_at (getD_at (show j < ds.length by omega))) (by omega), ?_⟩
        refine ⟨false, r, _, _, _, rfl, rfl, SqB.lst (s5 _ _ e3), atI_at (int_at (getD_at (show j < (mv MA ds).length by omega))) (by omega), ?_⟩
        try walk_at "rd2"
        exact hQ' _ _ (Same.refl _) rfl
      intro H4 ys s4 e4 hly hr4
      have ey := upto_is hly hr4
      subst ey
      have mb : BitsL 1473 (mv MA ds) := mv_bits sA (by omega) bA bl
      have tb : BitsL 1474 ((List.range d).map fun j => ds.getD j 0 - (mv MA ds).getD j 0) := range_bits fun j => by
        have b1 := getD_bits bl j
        have b2 := getD_bits mb j
        have c1 := Int.natAbs_sub_le (ds.getD j 0) ((mv MA ds).getD j 0)
        have c2 : 2 ^ 70 + 2 ^ 1473 ≤ 2 ^ 1474 := by decide +kernel
        omega
      have tl : ((List.range d).map fun j => ds.getD j 0 - (mv MA ds).getD j 0).length = d := by simp
      generalize ((List.range d).map fun j => ds.getD j 0 - (mv MA ds).getD j 0) = tp at e4 tb tl
      have s24 := s23.trans s4
      have e2'' := s4 _ _ e2'
      have e3' := s4 _ _ e3
      subst e1
      refine st fun N1 e1 => ?_
      walk_at "rd2"
      refine ite2 (fun _ => hQ a1 H4 tp s24 e4 tl (tb.le (by decide))) (fun _ => ?_)
      subst e1
      refine st fun N1 e1 => ?_
      refine compE_st fun B eB => ?_
      simp only [iRng1]
      walk_at "rd2"
      refine mat_len ((hA.up s24).b (K := K)) ?_
      rw [sA.1]
      refine ⟨_, rfl, by omega, by omega, fun a2 ha2 => ?_⟩
      rw [Int.toNat_natCast]
      refine cg_range (fun j z _ => z = .int (((ns.getD 1 0).fdiv (6 + 37 * (0 + (j : Int))) + 3).fmod 7 - 3)) ha2 (by omega) (fun _ _ _ _ r _ => r) ?_ ?_
      · intro j H5 zs hj s5 ez Q' hQ'
        subst eB
        show tOp _ _ _ [some (.int (0 + (j : Int))), some (.ref l)] H5 Q'
        walk_at "rd2"
        refine ⟨l, ns, _, rfl, (hS'.up s24).up s5, by decide, ?_⟩
        show IntMulOk 37 (0 + (j : Int)) ∧ _
        have j10 : (0 + (j : Int)).natAbs < 2 ^ 10 := by
          have : (2 : Nat) ^ 10 = 1024 := by decide
          omega
        refine ⟨PyProof.Rows.mulOk_of_bits (m := 10) (n := 10) (bits_of (by decide)) (bits_of j10) (by decide), ?_⟩
        walk_at "rd2"
        exact ⟨dvs _ _ (by omega) (by omega), by decide, hQ' _ _ (Same.refl _) rfl⟩
      intro H5 ys s5 e5 hly hr5
      have ey := upto_is hly hr5
      subst ey
      have s25 := s24.trans s5
      have mb2 : BitsL 1474 ((List.range d).map fun (j : Nat) => ((ns.getD 1 0).fdiv (6 + 37 * (0 + (j : Int))) + 3).fmod 7 - 3) := range_bits fun (j : Nat) => by
        have f7 := fms ((ns.getD 1 0).fdiv (6 + 37 * (0 + (j : Int))) + 3) 7 (by decide)
        have c2 : 100 ≤ 2 ^ 1474 := by decide +kernel
        omega
      have ml2 : ((List.range d).map fun (j : Nat) => ((ns.getD 1 0).fdiv (6 + 37 * (0 + (j : Int))) + 3).fmod 7 - 3).length = d := by simp
      generalize ((List.range d).map fun (j : Nat) => ((ns.getD 1 0).fdiv (6 + 37 * (0 + (j : Int))) + 3).fmod 7 - 3) = mo at e5 mb2 ml2
      subst e1
      refine st fun N1 e1 => ?_
      have fin : ∀ (v3 : Option V) (x : Addr) (G : Hp) (xs : List Int), Same H4 G → G x = some (.lst (xs.map V.int)) → xs.length = d → BitsL 1474 xs → N1 [some (.ref a), some (.ref l), some (.ref m), v3, some (.int y), some (.ref r), some (.ref a1), some (.ref x)] G := by
        intro v3 x G xs sG eG lG bG
        subst e1
        walk_at "rd2"
        refine compE_st fun B eB => ?_
        simp only [iRng1]
        walk_at "rd2"
        refine mat_len ((hA.up (s24.trans sG)).b (K := K)) ?_
        rw [sA.1]
        refine ⟨_, rfl, by omega, by omega, fun a3 ha3 => ?_⟩
        rw [Int.toNat_natCast]
        refine cg_range (fun j z _ => z = .int (tp.getD j 0 + xs.getD j 0)) ha3 (by omega) (fun _ _ _ _ r _ => r) ?_ ?_
        · intro j H6 zs hj s6 ez Q' hQ'
          subst eB
          show tOp _ _ _ [some (.int (0 + (j : Int))), some (.ref a1), some (.ref x)] H6 Q'
          walk_at "rd2"
          refine ⟨false, a1, _, _, _, rfl, rfl, SqB.lst (s6 _ _ (sG _ _ e4)), atI_at (int_at (getD_at (show j < tp.length by omega))) (by omega), ?_⟩
          refine ⟨false, x, _, _, _, rfl, rfl, SqB.lst (s6 _ _ eG), atI_at (int_at (getD_at (show j < xs.length by omega))) (by omega), ?_⟩
          try walk_at "rd2"
          exact hQ' _ _ (Same.refl _) rfl
        intro H6 ys s6 e6 hly hr6
        have ey := upto_is hly hr6
        subst ey
        refine hQ a3 H6 _ ((s24.trans sG).trans s6) e6 (by simp) (range_bits fun j => ?_)
        have b1 := getD_bits tb j
        have b2 := getD_bits bG j
        have c1 := Int.natAbs_add_le (tp.getD j 0) (xs.getD j 0)
        have c2 : 2 ^ 1474 + 2 ^ 1474 ≤ 2 ^ 1700 := by decide +kernel
        omega
      walk_at "rd2"
      refine ite2 (fun _ => ?_) (fun _ => fin _ a2 H5 mo s5 e5 ml2 mb2)
      refine compE_st fun B eB => ?_
      simp only [iRng1]
      walk_at "rd2"
      refine mat_len ((hA.up s25).b (K := K)) ?_
      rw [sA.1]
      refine ⟨_, rfl, by omega, by omega, fun a3 ha3 => ?_⟩
      rw [Int.toNat_natCast]
      refine cg_range (fun j z _ => z = .int (ds.getD j 0 + (mv MA ds).getD j 0)) ha3 (by omega) (fun _ _ _ _ r _ => r) ?_ ?_
      · intro j H6 zs hj s6 ez Q' hQ'
        subst eB
        show tOp _ _ _ [some (.int (0 + (j : Int))), some (.ref m), some (.ref r)] H6 Q'
        walk_at "rd2"
        refine ⟨false, m, _, _, _, rfl, rfl, SqB.lst (s6 _ _ (s5 _ _ e2'')), atI_at (int_at (getD_at (show j < ds.length by omega))) (by omega), ?_⟩
        refine ⟨false, r, _, _, _, rfl, rfl, SqB.lst (s6 _ _ (s5 _ _ e3')), atI_at (int_at (getD_at (show j < (mv MA ds).length by omega))) (by omega), ?_⟩
        try walk_at "rd2"
        exact hQ' _ _ (Same.refl _) rfl
      intro H6 ys s6 e6 hly hr6
      have ey := upto_is hly hr6
      subst ey
      refine fin _ a3 H6 _ (s5.trans s6) e6 (by simp) (range_bits fun j => ?_)
      have b1 := getD_bits bl j
      have b2 := getD_bits mb j
      have c1 := Int.natAbs_add_le (ds.getD j 0) ((mv MA ds).getD j 0)
      have c2 : 2 ^ 70 + 2 ^ 1473 ≤ 2 ^ 1474 := by decide +kernel
      omega
theorem ok_law_classes (T : Txt K mg t) : FnOk P w K mg base CX0 1 t.a_law_classes t.d_law_classes ["_law_kind"] (sp_law_classes K t) := by
  refine T.F_law_classes.ok sc_law_classes (fun vs H Q E h => ?_) (fun cdv A outer s H vs Q E hr h => ?_)
  · obtain ⟨a, C, dx, fs, i, rfl, _⟩ := h
    rfl
  · obtain ⟨a, C, dx, fs, i, rfl, hk, hi, hC, hQ⟩ := h
    refine ⟨_, (pss_cons (ps_set (i := 1) sc_law_classes.nd rfl (Or.inl rfl) (pe_lst (pa_cons (pe_callB call_isi rfl T.z_isinstance (by decide +kernel) (pa_cons (pv 0) (pa_cons (pe_glob (v := .ref t.a_Still) rfl T.m_Still rfl) pa_nil))) (pa_cons (pe_callB call_isi rfl T.z_isinstance (by decide +kernel) (pa_cons (pv 0) (pa_cons (pe_glob (v := .ref t.a_Move) rfl T.m_Move rfl) pa_nil))) (pa_cons (pe_callB call_isi rfl T.z_isinstance (by decide +kernel) (pa_cons (pv 0) (pa_cons (pe_glob (v := .ref t.a_Turn) rfl T.m_Turn rfl) pa_nil))) pa_nil)))))
      (pss_cons (ps_set (i := 1) sc_law_classes.nd rfl (Or.inl rfl) (pe_op op_cat (pv 1) (pe_lst (pa_cons (pe_callB call_isi rfl T.z_isinstance (by decide +kernel) (pa_cons (pv 0) (pa_cons (pe_glob (v := .ref t.a_Screw) rfl T.m_Screw rfl) pa_nil))) (pa_cons (pe_callB call_isi rfl T.z_isinstance (by decide +kernel) (pa_cons (pv 0) (pa_cons (pe_glob (v := .ref t.a_Mirror) rfl T.m_Mirror rfl) pa_nil))) (pa_cons (pe_callB call_isi rfl T.z_isinstance (by decide +kernel) (pa_cons (pv 0) (pa_cons (pe_glob (v := .ref t.a_Slide) rfl T.m_Slide rfl) pa_nil))) (pa_cons (pe_callB call_isi rfl T.z_isinstance (by decide +kernel) (pa_cons (pv 0) (pa_cons (pe_glob (v := .ref t.a_Point) rfl T.m_Point rfl) pa_nil))) pa_nil)))))))
      (pss_one (ps_ret (pe_op op_cat (pv 1) (pe_lst (pa_cons (pe_callB call_isi rfl T.z_isinstance (by decide +kernel) (pa_cons (pv 0) (pa_cons (pe_glob (v := .ref t.a_Twist) rfl T.m_Twist rfl) pa_nil))) (pa_cons (pe_callB call_isi rfl T.z_isinstance (by decide +kernel) (pa_cons (pv 0) (pa_cons (pe_glob (v := .ref t.a_Endless) rfl T.m_Endless rfl) pa_nil))) pa_nil)))))))), ?_⟩
    show tSeq _ _ _ [some (.ref a), none] H
    have ii : ∀ (H' : Hp) (D : Addr) (j : Nat) (Q' : VK), Same H H' → j < 9 → (nineA t)[j]? = some D → Q' (.bl (decide (j = i))) H' → rIsi K [.ref a, .ref D] H' Q' := fun H' D j Q' s' hj hD q => ⟨_, _, _, _, rfl, kc_ty T ⟨i, hi, hC⟩ (s' _ _ hk), rfl, kc_is T hi hj hC hD, q⟩
    refine st fun N1 e1 => ?_
    walk_at "rd2"
    refine ii H _ 0 _ (Same.refl _) (by decide) rfl (ii H _ 1 _ (Same.refl _) (by decide) rfl (ii H _ 2 _ (Same.refl _) (by decide) rfl ⟨by show 3 ≤ sizeLine; decide, fun l1 hl1 => ?_⟩))
    have s1 := Same.new (o := .lst [.bl (decide (0 = i)), .bl (decide (1 = i)), .bl (decide (2 = i))]) hl1
    have e1' : (upd H l1 (.lst [.bl (decide (0 = i)), .bl (decide (1 = i)), .bl (decide (2 = i))])) l1 = some (.lst [.bl (decide (0 = i)), .bl (decide (1 = i)), .bl (decide (2 = i))]) := upd_same
    generalize upd H l1 (.lst [.bl (decide (0 = i)), .bl (decide (1 = i)), .bl (decide (2 = i))]) = H1 at s1 e1'
    subst e1
    refine st fun N1 e1 => ?_
    walk_at "rd2"
    refine ii H1 _ 3 _ s1 (by decide) rfl (ii H1 _ 4 _ s1 (by decide) rfl (ii H1 _ 5 _ s1 (by decide) rfl (ii H1 _ 6 _ s1 (by decide) rfl ⟨by show 4 ≤ sizeLine; decide, fun l2 hl2 => ?_⟩)))
    have s2 : Same H1 (upd H1 l2 (.lst [.bl (decide (3 = i)), .bl (decide (4 = i)), .bl (decide (5 = i)), .bl (decide (6 = i))])) := Same.new hl2
    have e2' : (upd H1 l2 (.lst [.bl (decide (3 = i)), .bl (decide (4 = i)), .bl (decide (5 = i)), .bl (decide (6 = i))])) l2 = some (.lst [.bl (decide (3 = i)), .bl (decide (4 = i)), .bl (decide (5 = i)), .bl (decide (6 = i))]) := upd_same
    generalize upd H1 l2 (.lst [.bl (decide (3 = i)), .bl (decide (4 = i)), .bl (decide (5 = i)), .bl (decide (6 = i))]) = H2 at s2 e2'
    refine ⟨l1, l2, _, _, rfl, rfl, s2 _ _ e1', e2', by show 7 ≤ sizeLine; decide, fun p3 hp3 => ?_⟩
    have s3 := Same.new (o := .lst ([.bl (decide (0 = i)), .bl (decide (1 = i)), .bl (decide (2 = i))] ++ [.bl (decide (3 = i)), .bl (decide (4 = i)), .bl (decide (5 = i)), .bl (decide (6 = i))])) hp3
    have e3' : (upd H2 p3 (.lst ([.bl (decide (0 = i)), .bl (decide (1 = i)), .bl (decide (2 = i))] ++ [.bl (decide (3 = i)), .bl (decide (4 = i)), .bl (decide (5 = i)), .bl (decide (6 = i))]))) p3 = some _ := upd_same
    generalize upd H2 p3 (.lst ([.bl (decide (0 = i)), .bl (decide (1 = i)), .bl (decide (2 = i))] ++ [.bl (decide (3 = i)), .bl (decide (4 = i)), .bl (decide (5 = i)), .bl (decide (6 = i))])) = H3 at s3 e3'
    have s13 := (s1.trans s2).trans s3
    subst e1
    walk_at "rd2"
    refine ii H3 _ 7 _ s13 (by decide) rfl (ii H3 _ 8 _ s13 (by decide) rfl ⟨by show 2 ≤ sizeLine; decide, fun l4 hl4 => ?_⟩)
    refine ⟨p3, l4, _, _, rfl, rfl, Same.new hl4 _ _ e3', upd_same, by show 9 ≤ sizeLine; decide, fun p5 hp5 => ?_⟩
    refine hQ p5 _ ((s13.trans (Same.new hl4)).trans (Same.new hp5)) ?_
    rw [upd_same]
    rfl
theorem ok_law_called (T : Txt K mg t) : FnOk P w K mg base CX0 3 t.a_law_called t.d_law_called ["_law_word", "_law_one"] (sp_law_called K t) := by
  have G_Kind___init__ : FnOk P w K mg base CX0 1 t.a_Kind___init__ t.d_Kind___init__ ["self", "one"] (sp_Kind_init t) := ok_Kind___init__ T
  refine T.F_law_called.ok sc_law_called (fun vs H Q E h => ?_) (fun cdv A outer s H vs Q E hr h => ?_)
  · obtain ⟨p, i, rfl, _⟩ := h
    rfl
  · obtain ⟨p, i, rfl, hi, hQ⟩ := h
    refine ⟨_, (pss_cons (ps_if (pt_cmpR op_eq (pv 0) pe_str (nomark _))
      (pss_one (ps_ret (pe_make (C := t.a_Still) (T.mk_Still) G_Kind___init__ (hr.mono (by omega)) rfl T.m_Still T.b_Kind___init__ .nil pass0 (pa_cons (pv 1) pa_nil))))
      pss_nil)
      (pss_cons (ps_if (pt_cmpR op_eq (pv 0) pe_str (nomark _))
      (pss_one (ps_ret (pe_make (C := t.a_Move) (T.mk_Move) G_Kind___init__ (hr.mono (by omega)) rfl T.m_Move T.b_Kind___init__ .nil pass0 (pa_cons (pv 1) pa_nil))))
      pss_nil)
      (pss_cons (ps_if (pt_cmpR op_eq (pv 0) pe_str (nomark _))
      (pss_one (ps_ret (pe_make (C := t.a_Turn) (T.mk_Turn) G_Kind___init__ (hr.mono (by omega)) rfl T.m_Turn T.b_Kind___init__ .nil pass0 (pa_cons (pv 1) pa_nil))))
      pss_nil)
      (pss_cons (ps_if (pt_cmpR op_eq (pv 0) pe_str (nomark _))
      (pss_one (ps_ret (pe_make (C := t.a_Screw) (T.mk_Screw) G_Kind___init__ (hr.mono (by omega)) rfl T.m_Screw T.b_Kind___init__ .nil pass0 (pa_cons (pv 1) pa_nil))))
      pss_nil)
      (pss_cons (ps_if (pt_cmpR op_eq (pv 0) pe_str (nomark _))
      (pss_one (ps_ret (pe_make (C := t.a_Mirror) (T.mk_Mirror) G_Kind___init__ (hr.mono (by omega)) rfl T.m_Mirror T.b_Kind___init__ .nil pass0 (pa_cons (pv 1) pa_nil))))
      pss_nil)
      (pss_cons (ps_if (pt_cmpR op_eq (pv 0) pe_str (nomark _))
      (pss_one (ps_ret (pe_make (C := t.a_Slide) (T.mk_Slide) G_Kind___init__ (hr.mono (by omega)) rfl T.m_Slide T.b_Kind___init__ .nil pass0 (pa_cons (pv 1) pa_nil))))
      pss_nil)
      (pss_cons (ps_if (pt_cmpR op_eq (pv 0) pe_str (nomark _))
      (pss_one (ps_ret (pe_make (C := t.a_Point) (T.mk_Point) G_Kind___init__ (hr.mono (by omega)) rfl T.m_Point T.b_Kind___init__ .nil pass0 (pa_cons (pv 1) pa_nil))))
      pss_nil)
      (pss_cons (ps_if (pt_cmpR op_eq (pv 0) pe_str (nomark _))
      (pss_one (ps_ret (pe_make (C := t.a_Twist) (T.mk_Twist) G_Kind___init__ (hr.mono (by omega)) rfl T.m_Twist T.b_Kind___init__ .nil pass0 (pa_cons (pv 1) pa_nil))))
      pss_nil)
      (pss_one (ps_ret (pe_make (C := t.a_Endless) (T.mk_Endless) G_Kind___init__ (hr.mono (by omega)) rfl T.m_Endless T.b_Kind___init__ .nil pass0 (pa_cons (pv 1) pa_nil)))))))))))), ?_⟩
    show tSeq _ _ _ [some (.str (words.getD i "")), some (.ref p)] H
    have mk : ∀ (C : Addr), (nineA t)[i]? = some C → ∀ x dx, H x = none → H dx = none → dx ≠ x → sp_Kind_init t [.ref x, .ref p] (upd (upd H dx (.own x)) x (.ins C dx [])) (fun v H2 => v = .non ∧ Q (.ref x) H2) E0 := fun C hC x dx h1 h2 h3 =>
      ⟨x, C, dx, p, rfl, upd_same, ⟨i, hi, hC⟩, rfl, hQ x C _ (same_made h1 h2 h3) hC ⟨dx, upd_same⟩⟩
    have dw : ∀ i < 9, ∀ j < 9, decide (words.getD i "" = words.getD j "") = decide (i = j) := by decide +kernel
    have eqw : ∀ (j : Nat) (w : Str), j < 9 → words.getD j "" = w → decide (V.str (words.getD i "") = V.str w) = decide (i = j) := fun j w hj e => by
      rw [← e, ← dw i hi j hj]
      by_cases q : words.getD i "" = words.getD j ""
      · rw [decide_eq_true q, decide_eq_true (by rw [q])]
      · rw [decide_eq_false q, decide_eq_false (fun z => q (by injection z))]
    refine st fun N1 e1 => ?_
    walk_at "rd2"
    refine ⟨rfl, _, rfl, ?_⟩
    rw [eqw 0 ("still" : Str) (by decide) rfl]
    refine ite2 (fun n0 => ?_) (fun n0 => ?_)
    · have n' : i = 0 := of_decide_eq_true n0
      subst n'
      exact ⟨_, rfl, mk _ rfl⟩
    subst e1
    refine st fun N1 e1 => ?_
    walk_at "rd2"
    refine ⟨rfl, _, rfl, ?_⟩
    rw [eqw 1 ("move" : Str) (by decide) rfl]
    refine ite2 (fun n1 => ?_) (fun n1 => ?_)
    · have n' : i = 1 := of_decide_eq_true n1
      subst n'
      exact ⟨_, rfl, mk _ rfl⟩
    subst e1
    refine st fun N1 e1 => ?_
    walk_at "rd2"
    refine ⟨rfl, _, rfl, ?_⟩
    rw [eqw 2 ("turn" : Str) (by decide) rfl]
    refine ite2 (fun n2 => ?_) (fun n2 => ?_)
    · have n' : i = 2 := of_decide_eq_true n2
      subst n'
      exact ⟨_, rfl, mk _ rfl⟩
    subst e1
    refine st fun N1 e1 => ?_
    walk_at "rd2"
    refine ⟨rfl, _, rfl, ?_⟩
    rw [eqw 3 ("screw" : Str) (by decide) rfl]
    refine ite2 (fun n3 => ?_) (fun n3 => ?_)
    · have n' : i = 3 := of_decide_eq_true n3
      subst n'
      exact ⟨_, rfl, mk _ rfl⟩
    subst e1
    refine st fun N1 e1 => ?_
    walk_at "rd2"
    refine ⟨rfl, _, rfl, ?_⟩
    rw [eqw 4 ("mirror" : Str) (by decide) rfl]
    refine ite2 (fun n4 => ?_) (fun n4 => ?_)
    · have n' : i = 4 := of_decide_eq_true n4
      subst n'
      exact ⟨_, rfl, mk _ rfl⟩
    subst e1
    refine st fun N1 e1 => ?_
    walk_at "rd2"
    refine ⟨rfl, _, rfl, ?_⟩
    rw [eqw 5 ("slide" : Str) (by decide) rfl]
    refine ite2 (fun n5 => ?_) (fun n5 => ?_)
    · have n' : i = 5 := of_decide_eq_true n5
      subst n'
      exact ⟨_, rfl, mk _ rfl⟩
    subst e1
    refine st fun N1 e1 => ?_
    walk_at "rd2"
    refine ⟨rfl, _, rfl, ?_⟩
    rw [eqw 6 ("point" : Str) (by decide) rfl]
    refine ite2 (fun n6 => ?_) (fun n6 => ?_)
    · have n' : i = 6 := of_decide_eq_true n6
      subst n'
      exact ⟨_, rfl, mk _ rfl⟩
    subst e1
    refine st fun N1 e1 => ?_
    walk_at "rd2"
    refine ⟨rfl, _, rfl, ?_⟩
    rw [eqw 7 ("twist" : Str) (by decide) rfl]
    refine ite2 (fun n7 => ?_) (fun n7 => ?_)
    · have n' : i = 7 := of_decide_eq_true n7
      subst n'
      exact ⟨_, rfl, mk _ rfl⟩
    subst e1
    have n' : i = 8 := by
      simp only [decide_eq_true_eq] at n0 n1 n2 n3 n4 n5 n6 n7
      omega
    subst n'
    walk_at "rd2"
    exact ⟨_, rfl, mk _ rfl⟩
theorem ok_law_deed (T : Txt K mg t) : FnOk P w K mg base CX0 3 t.a_law_deed t.d_law_deed ["_law_script"] (sp_law_deed K) := by
  have G_law_cell_at : FnOk P w K mg base CX0 1 t.a_law_cell_at t.d_law_cell_at ["_law_script", "_law_k"] (sp_law_cell_at K) := ok_law_cell_at T
  have G_law_first : FnOk P w K mg base CX0 1 t.a_law_first t.d_law_first ["_law_cell"] (sp_law_first K) := ok_law_first T
  have G_law_added : FnOk P w K mg base CX0 1 t.a_law_added t.d_law_added ["_law_rows", "_law_cell"] (sp_law_added K) := ok_law_added T
  have G_law_place : FnOk P w K mg base CX0 2 t.a_law_place t.d_law_place ["_law_tops_here", "_law_under"] (sp_law_place K) := ok_law_place T
  have G_law_tops : FnOk P w K mg base CX0 2 t.a_law_tops t.d_law_tops ["_law_rows", "_law_script"] (sp_law_tops K) := ok_law_tops T
  refine T.F_law_deed.ok sc_law_deed (fun vs H Q E h => ?_) (fun cdv A outer s H vs Q E hr h => ?_)
  · obtain ⟨a, ns, rfl, _⟩ := h
    rfl
  · obtain ⟨a, ns, rfl, hS, hl, hb, hQ⟩ := h
    have hS' : SqB false K H a (ns.map V.int) := hS
    refine ⟨_, (pss_cons (ps_set (i := 1) sc_law_deed.nd rfl (Or.inl rfl) (pe_call G_law_first (hr.mono (by omega)) rfl T.m_law_first T.F_law_first.kp T.b_law_first .nil pass0 (pa_cons (pe_call G_law_cell_at (hr.mono (by omega)) rfl T.m_law_cell_at T.F_law_cell_at.kp T.b_law_cell_at .nil pass0 (pa_cons (pv 0) (pa_cons pe_int pa_nil))) pa_nil)))
      (pss_cons (ps_for PassesOwn.never rfl (pi_range2 rfl T.z_range (pa_cons pe_int (pa_cons (pe_callB call_lenB rfl T.z_len (by decide +kernel) (pa_cons (pe_slice sl_B (pv 0) po_none (po_some pe_int)) pa_nil)) pa_nil))) (pg_name (i := 2) sc_law_deed.nd rfl (Or.inl rfl))
      (pss_one (ps_set (i := 1) sc_law_deed.nd rfl (Or.inl rfl) (pe_call G_law_added (hr.mono (by omega)) rfl T.m_law_added T.F_law_added.kp T.b_law_added .nil pass0 (pa_cons (pv 1) (pa_cons (pe_ix ix_B (pv 0) (pv 2) (fun _ _ => rfl)) pa_nil))))))
      (pss_cons (ps_set (i := 3) sc_law_deed.nd rfl (Or.inl rfl) (pe_op op_add pe_int (pe_op op_modN (pe_call G_law_cell_at (hr.mono (by omega)) rfl T.m_law_cell_at T.F_law_cell_at.kp T.b_law_cell_at .nil pass0 (pa_cons (pv 0) (pa_cons pe_int pa_nil))) pe_int)))
      (pss_cons (ps_if (pt_cmpR op_eqZ (pe_op op_modN (pe_op op_fdivB (pe_call G_law_cell_at (hr.mono (by omega)) rfl T.m_law_cell_at T.F_law_cell_at.kp T.b_law_cell_at .nil pass0 (pa_cons (pv 0) (pa_cons pe_int pa_nil))) pe_int) pe_int) pe_int (nomark _))
      (pss_one (ps_set (i := 3) sc_law_deed.nd rfl (Or.inl rfl) (pe_op op_add pe_int (pe_op op_modN (pe_op op_fdivB (pe_call G_law_cell_at (hr.mono (by omega)) rfl T.m_law_cell_at T.F_law_cell_at.kp T.b_law_cell_at .nil pass0 (pa_cons (pv 0) (pa_cons pe_int pa_nil))) pe_int) (pe_op op_pow pe_int pe_int)))))
      pss_nil)
      (pss_cons (ps_asg (pe_call G_law_place (hr.mono (by omega)) rfl T.m_law_place T.F_law_place.kp T.b_law_place .nil pass0 (pa_cons (pe_call G_law_tops (hr.mono (by omega)) rfl T.m_law_tops T.F_law_tops.kp T.b_law_tops .nil pass0 (pa_cons (pv 1) (pa_cons (pv 0) pa_nil))) (pa_cons (pv 3) pa_nil))) (pg_tup rfl (pgs_cons (pg_name (i := 4) sc_law_deed.nd rfl (Or.inl rfl)) (pgs_cons (pg_name (i := 3) sc_law_deed.nd rfl (Or.inl rfl)) pgs_nil))))
      (pss_one (ps_ret (pe_tup (pa_cons (pe_callTy call_tupB rfl T.z_tuple (by decide +kernel) (pa_cons (pe_compG (xs := ["_law_row"]) (fr := []) (g := (gName 0)) (tt := (tEl (tCB (rTupB K) (tCons (tVar 0) tNil)))) (compG_ok (sc := defScope s_law_deed) (N := N_law_deed) rfl rfl (by decide +kernel)) rfl (pi_seq (pv 1)) (fun _ _ _ hE1 => (pg_own (N := ["_law_row"]) (i := 0) hE1 rfl (by decide +kernel))) (fun _ _ _ hE1 => (po_el (pe_callTy call_tupB rfl T.z_tuple (by decide +kernel) (pa_cons (pv 0) pa_nil))))) pa_nil)) (pa_cons (pv 4) (pa_cons (pv 3) pa_nil))))))))))), ?_⟩
    show tSeq _ _ _ [some (.ref a), none, none, none, none] H
    refine st fun N1 e1 => ?_
    walk_at "rd2"
    refine ⟨a, ns, 0, rfl, hS, by decide, _, rfl, fun r H1 M s1 hM hm => ?_⟩
    obtain ⟨hd, sM, bM⟩ := menu_sq hm
    subst e1
    refine st fun N1 e1 => for_st fun B eB => ?_
    simp only [iRng2]
    walk_at "rd2"
    refine ⟨false, a, _, rfl, hS'.up s1, (by intro e; cases e), fun p hp => ?_⟩
    rw [cut_ints]
    have hcs : ((ns.drop (HT.sIx ns.length 0 none)).take (HT.sIx ns.length ns.length (some 36) - HT.sIx ns.length 0 none)).length ≤ ns.length := by rw [List.length_take, List.length_drop]; omega
    have hcs36 : ((ns.drop (HT.sIx ns.length 0 none)).take (HT.sIx ns.length ns.length (some 36) - HT.sIx ns.length 0 none)).length ≤ 36 := by
      rw [List.length_take, HT.sIx_none, show ((36 : Int)) = ((36 : Nat) : Int) from rfl, HT.sIx_nat]; omega
    generalize (ns.drop (HT.sIx ns.length 0 none)).take (HT.sIx ns.length ns.length (some 36) - HT.sIx ns.length 0 none) = cs at hcs hcs36
    have hC : (upd H1 p (seqO false (cs.map V.int))) p = some (.lst (cs.map V.int)) := upd_same
    have s2 : Same H1 (upd H1 p (seqO false (cs.map V.int))) := Same.new hp
    generalize upd H1 p (seqO false (cs.map V.int)) = H2 at hC s2
    refine ints_len (b := false) (SqB.lst hC) ?_
    walk_at "rd2"
    refine ⟨by omega, by omega, by omega, by omega, ?_⟩
    have hcn : ((cs.length : Int) - 6).toNat ≤ 30 := by omega
    have hcl : ((cs.length : Int) - 6).toNat + 6 ≤ ns.length ∨ ((cs.length : Int) - 6).toNat = 0 := by omega
    generalize ((cs.length : Int) - 6).toNat = cn at hcn hcl
    refine fr_range (g := gName 2) (tb := B) (fun i σ H3 => ∃ r A v2, σ = [some (.ref a), some (.ref r), v2, none, none] ∧ Same H H3 ∧ MatL H3 r A ∧ Conj M.length M A ∧ BitsM (2 + 44 * i) A) ⟨r, M, _, rfl, s1.trans s2, hM.up s2, Conj.refl hd sM, bM⟩ ?_ ?_
    · rintro i σ H3 hi ⟨r, A, v2, rfl, s3, hA, hc, hb3⟩
      have hin : 6 + i < ns.length := by omega
      subst eB
      show tAsg _ _ _ [some (.ref a), some (.ref r), some (.int (6 + (i : Int))), none, none] H3
      walk_at "rd2"
      refine ⟨false, a, _, _, _, rfl, rfl, hS'.up s3, atI_at (int_at (getD_at hin)) (by omega), ?_⟩
      refine ⟨r, A, _, M.length, _, rfl, hA, hc.sq, hd, hb3, by omega, fun r' H4 A' s4 hA' hc' hb' => ?_⟩
      refine ⟨_, rfl, s3.trans s4, A', hA', Conj.trans hd sM hc hc', ?_⟩
      rw [show 2 + 44 * (i + 1) = 2 + 44 * i + 44 by omega]
      exact hb'
    · rintro σ H3 ⟨r, A, v2, rfl, s3, hA, hc, hb3⟩
      have bA : BitsM 1400 A := hb3.le (by omega)
      obtain ⟨nice, det⟩ := nice_of hm hc
      have endl := endl_of hm hc
      have sA := hc.sq
      generalize M.length = d at *
      subst e1
      refine st fun N1 e1 => ?_
      walk_at "rd2"
      refine ⟨a, ns, 2, rfl, hS'.up s3, by decide, ?_⟩
      show rI _ _ (.int (ns.getD 2 0)) _ H3 _
      walk_at "rd2"
      refine ⟨by decide, ?_⟩
      have f1 := fms (ns.getD 2 0) 12 (by decide)
      generalize (ns.getD 2 0).fmod 12 = u1 at f1
      subst e1
      refine st fun N1 e1 => ?_
      have key : ∀ u : Int, 0 < u → u ≤ 1000000 → N1 [some (.ref a), some (.ref r), v2, some (.int u), none] H3 := by
        intro u h1 h2
        subst e1
        refine st fun N2 e2 => ?_
        walk_at "rd2"
        refine ⟨r, a, A, ns, d, rfl, hA, hS'.up s3, hb, sA, hd, bA, fun tp H4 ts s4 e4 lt bt => ?_⟩
        have u30 : u.natAbs < 2 ^ 30 := by
          have : (2 : Nat) ^ 30 = 1073741824 := by decide
          omega
        have su : small u := Nat.lt_of_lt_of_le u30 (Nat.pow_le_pow_right (by decide) (by decide))
        refine ⟨tp, ts, u, rfl, SqL.of e4, by omega, h1, su, fun q H5 s5 hP => ?_⟩
        have hru := redU_le ts h1
        have e71 : (1000000 : Int) < 2 ^ 71 := by decide +kernel
        have kd : Kd d A (redT u ts) (redU u ts) := ⟨hd, ⟨sA, by unfold redT; rw [List.length_map, lt]⟩, bA.le (by decide), redT_bits (by omega) bt, hru.1, by omega, gl_red (by omega), det, nice, endl⟩
        have s05 := (s3.trans s4).trans s5
        have hA5 := (hA.up s4).up s5
        generalize redT u ts = ts' at hP kd
        generalize redU u ts = u' at hP kd
        obtain ⟨x, hq, hx⟩ := hP
        refine ⟨q, _, rfl, SqT.of hq, rfl, ?_⟩
        simp only [gCons, gNil]
        subst e2
        walk_at "rd2"
        refine compE_st fun B eB => ?_
        simp only [iSeq]
        walk_at "rd2"
        obtain ⟨xs, x1, _⟩ := (hA5.b (K := K)).walk
        refine ⟨false, ⟨_, x1⟩, fun a2 ha2 => ?_⟩
        subst eB
        refine copy_tupB (hA5.b (K := K)) (by rw [sA.1]; omega) ha2 fun H6 zs s6 hz hB => ?_
        refine ⟨a2, _, rfl, .inl ⟨SqL.of hz, fun l hl1 => ?_⟩⟩
        have s7 : Same H5 (upd H6 l (.tup zs)) := s6.trans (Same.new hl1)
        replace hB := hB l hl1
        generalize upd H6 l (.tup zs) = H7 at s7 hB
        try walk_at "rd2"
        exact ⟨(by show 3 ≤ sizeLine; decide), fun q hq => hQ q _ _ _ d _ ((s05.trans s7).trans (Same.new hq)) ⟨l, x, upd_same, hB.up (Same.new hq), Same.new hq _ _ (s7 _ _ hx)⟩ kd⟩
      walk_at "rd2"
      refine ⟨a, ns, 2, rfl, hS'.up s3, by decide, ?_⟩
      show rI _ _ (.int (ns.getD 2 0)) _ H3 _
      walk_at "rd2"
      refine ⟨dvs _ _ (by decide) (by decide), by decide, ite2 (fun _ => ?_) (fun _ => key _ (by omega) (by omega))⟩
      refine ⟨a, ns, 2, rfl, hS'.up s3, by decide, ?_⟩
      show rI _ _ (.int (ns.getD 2 0)) _ H3 _
      walk_at "rd2"
      rw [show (10 : Int) ^ Int.toNat 6 = 1000000 from by decide]
      have f3 := fms ((ns.getD 2 0).fdiv 48) 1000000 (by decide)
      exact ⟨dvs _ _ (by decide) (by decide), ⟨by decide, by decide, by decide⟩, by decide, key _ (by omega) (by omega)⟩
theorem bix {H : Hp} {l : Addr} {x0 x1 : V} {Q : VK} (b : Bool) (e : H l = some (.lst [x0, x1])) (q : Q (if b = true then x1 else x0) H) : rIxB K (.ref l) (.int (if b = true then 1 else 0)) H Q := by
  cases b with
  | true => exact ⟨false, l, _, 1, _, rfl, rfl, SqB.lst e, rfl, q⟩
  | false => exact ⟨false, l, _, 0, _, rfl, rfl, SqB.lst e, rfl, q⟩
theorem neg_bits17 {B : Nat} {A : List (List Int)} (h : BitsM B A) : BitsM B (negM A) := fun r hr x hx => by
  obtain ⟨s, hs, rfl⟩ := List.mem_map.mp hr
  obtain ⟨y, hy, rfl⟩ := List.mem_map.mp hx
  rw [Int.natAbs_neg]
  exact h s hs y hy
theorem ok_law_due (T : Txt K mg t) : FnOk P w K mg base CX0 4 t.a_law_due t.d_law_due ["_law_one"] (sp_law_due K) := by
  have G_law_span : FnOk P w K mg base CX0 2 t.a_law_span t.d_law_span ["_law_rows"] (sp_law_span K) := ok_law_span T
  have G_law_determinant : FnOk P w K mg base CX0 1 t.a_law_determinant t.d_law_determinant ["_law_rows"] (sp_law_determinant K) := ok_law_determinant T
  have G_law_slide : FnOk P w K mg base CX0 3 t.a_law_slide t.d_law_slide ["_law_one", "_law_many"] (sp_law_slide K) := ok_law_slide T
  refine T.F_law_due.ok sc_law_due (fun vs H Q E h => ?_) (fun cdv A outer s H vs Q E hr h => ?_)
  · obtain ⟨p, M, ts, u, d, rfl, _⟩ := h
    rfl
  · obtain ⟨p, M, ts, u, d, rfl, hD, kd, hQ⟩ := h
    have hu := hr.units
    have dd := kd.hd
    have sr := spn_range d M
    refine ⟨_, (pss_cons (ps_set (i := 1) sc_law_due.nd rfl (Or.inl rfl) (pe_call G_law_span (hr.mono (by omega)) rfl T.m_law_span T.F_law_span.kp T.b_law_span .nil pass0 (pa_cons (pe_ix ix_B (pv 0) pe_int (fun _ _ => rfl)) pa_nil)))
      (pss_cons (ps_if (pt_cmpR op_eqZ (pv 1) pe_int (nomark _))
      (pss_one (ps_ret (pe_tup (pa_cons pe_str (pa_cons pe_int (pa_cons pe_int (pa_cons pe_non pa_nil)))))))
      pss_nil)
      (pss_cons (ps_set (i := 2) sc_law_due.nd rfl (Or.inl rfl) (pe_call G_law_slide (hr.mono (by omega)) rfl T.m_law_slide T.F_law_slide.kp T.b_law_slide .nil pass0 (pa_cons (pv 0) (pa_cons (pv 1) pa_nil))))
      (pss_cons (ps_set (i := 3) sc_law_due.nd rfl (Or.inl rfl) (pe_cmpR (op_eqD hu) (pe_ix ix_B (pv 2) pe_int (fun _ _ => rfl)) (pe_callTy call_tupB rfl T.z_tuple (by decide +kernel) (pa_cons (pe_compG (xs := ["_law_top"]) (fr := []) (g := (gName 0)) (tt := (tEl (tC (.int 0)))) (compG_ok (sc := defScope s_law_due) (N := N_law_due) rfl rfl (by decide +kernel)) rfl (pi_seq (pe_ix ix_B (pv 0) pe_int (fun _ _ => rfl))) (fun _ _ _ hE1 => (pg_own (N := ["_law_top"]) (i := 0) hE1 rfl (by decide +kernel))) (fun _ _ _ hE1 => (po_el pe_int))) pa_nil)) (nomark _)))
      (pss_cons (ps_set (i := 4) sc_law_due.nd rfl (Or.inl rfl) (pv 1))
      (pss_cons (ps_if (pt_cmpR op_eqZ (pe_call G_law_determinant (hr.mono (by omega)) rfl T.m_law_determinant T.F_law_determinant.kp T.b_law_determinant .nil pass0 (pa_cons (pe_ix ix_B (pv 0) pe_int (fun _ _ => rfl)) pa_nil)) (pe_un un_neg pe_int) (nomark _))
      (pss_one (ps_set (i := 4) sc_law_due.nd rfl (Or.inl rfl) (pe_call G_law_span (hr.mono (by omega)) rfl T.m_law_span T.F_law_span.kp T.b_law_span .nil pass0 (pa_cons (pe_compG (xs := ["_law_row"]) (fr := []) (g := (gName 0)) (tt := (tEl (tCompG (iSeq K (tVar 0)) (gName 0) (tEl (tUn (rU fun i => .int (-i)) (tVar 0))) 1 []))) (compG_ok (sc := defScope s_law_due) (N := N_law_due) rfl rfl (by decide +kernel)) rfl (pi_seq (pe_ix ix_B (pv 0) pe_int (fun _ _ => rfl))) (fun _ _ _ hE1 => (pg_own (N := ["_law_row"]) (i := 0) hE1 rfl (by decide +kernel))) (fun _ _ _ hE1 => (po_el (pe_compG (xs := ["_law_number"]) (fr := []) (g := (gName 0)) (tt := (tEl (tUn (rU fun i => .int (-i)) (tVar 0)))) (compG_ok (N := ["_law_row"]) hE1 rfl (by decide +kernel)) rfl (pi_seq (pv 0)) (fun _ _ _ hE2 => (pg_own (N := ["_law_number"]) (i := 0) hE2 rfl (by decide +kernel))) (fun _ _ _ hE2 => (po_el (pe_un un_neg (pv 0)))))))) pa_nil))))
      pss_nil)
      (pss_cons (ps_set (i := 5) sc_law_due.nd rfl (Or.inl rfl) pe_int)
      (pss_cons (ps_if (pt_val (pv 3))
      (pss_one (ps_set (i := 5) sc_law_due.nd rfl (Or.inl rfl) (pv 1)))
      pss_nil)
      (pss_cons (ps_if (pt_cmpR op_eqZ (pe_call G_law_determinant (hr.mono (by omega)) rfl T.m_law_determinant T.F_law_determinant.kp T.b_law_determinant .nil pass0 (pa_cons (pe_ix ix_B (pv 0) pe_int (fun _ _ => rfl)) pa_nil)) pe_int (nomark _))
      (pss_one (ps_set (i := 6) sc_law_due.nd rfl (Or.inl rfl) (pe_ix ix_B (pe_ix ix_B (pe_lst (pa_cons (pe_lst (pa_cons pe_str (pa_cons pe_str pa_nil))) (pa_cons (pe_lst (pa_cons pe_str (pa_cons pe_str pa_nil))) pa_nil))) (pe_callTy call_int1 rfl T.z_int (by decide +kernel) (pa_cons (pe_cmpR op_eqZ (pv 1) pe_int (nomark _)) pa_nil)) (fun _ _ => rfl)) (pe_callTy call_int1 rfl T.z_int (by decide +kernel) (pa_cons (pv 3) pa_nil)) (fun _ _ => rfl))))
      (pss_one (ps_if (pt_cmpR op_lt (pv 4) pe_int (nomark _))
      (pss_one (ps_set (i := 6) sc_law_due.nd rfl (Or.inl rfl) (pe_ix ix_B (pe_ix ix_B (pe_lst (pa_cons (pe_lst (pa_cons pe_str (pa_cons pe_str pa_nil))) (pa_cons (pe_lst (pa_cons pe_str (pa_cons pe_str pa_nil))) pa_nil))) (pe_callTy call_int1 rfl T.z_int (by decide +kernel) (pa_cons (pe_cmpR op_eqZ (pv 4) pe_int (nomark _)) pa_nil)) (fun _ _ => rfl)) (pe_callTy call_int1 rfl T.z_int (by decide +kernel) (pa_cons (pv 3) pa_nil)) (fun _ _ => rfl))))
      (pss_one (ps_set (i := 6) sc_law_due.nd rfl (Or.inl rfl) (pe_ix ix_B (pe_lst (pa_cons pe_str (pa_cons pe_str pa_nil))) (pe_callTy call_int1 rfl T.z_int (by decide +kernel) (pa_cons (pv 3) pa_nil)) (fun _ _ => rfl)))))))
      (pss_one (ps_ret (pe_tup (pa_cons (pv 6) (pa_cons (pv 4) (pa_cons (pv 5) (pa_cons (pv 2) pa_nil)))))))))))))))), ?_⟩
    show tSeq _ _ _ [some (.ref p), none, none, none, none, none, none] H
    refine st fun N1 e1 => ?_
    walk_at "rd2"
    refine deed_ix0 hD fun x hx => ⟨true, true, x, M, d, rfl, hx, kd.af.sq, dd, kd.bm, fun H1 s1 => ?_⟩
    subst e1
    refine st fun N1 e1 => ?_
    walk_at "rd2"
    refine ite2 (fun z' => ?_) (fun z' => ?_)
    · have z : spn d M = 0 := of_decide_eq_true z'
      have w8 : wix d M ts = 8 := by unfold wix; rw [if_pos z]
      have f0 : foldN d M = 0 := by
        unfold foldN
        split
        · exact z
        · exact kd.endl z
      have o0 : orderN d M ts = 0 := by unfold orderN; rw [if_neg (fun q => q.1 z)]
      refine ⟨by show 4 ≤ sizeLine; decide, fun q hq => hQ q _ (s1.trans (Same.new hq)) ⟨.non, ?_, .inl ⟨z, rfl⟩⟩⟩
      rw [upd_same, w8, f0, o0]
      rfl
    have z : ¬ spn d M = 0 := fun q => z' (decide_eq_true q)
    subst e1
    refine st fun N1 e1 => ?_
    walk_at "rd2"
    refine ⟨p, M, ts, u, d, rfl, hD.up s1, kd, z, fun r H2 s2 hP => ?_⟩
    have s02 := s1.trans s2
    subst e1
    refine st fun N1 e1 => ?_
    walk_at "rd2"
    have hw : 0 < u * spn d M := Int.mul_pos kd.pos (by omega)
    have lf : (farT d M ts).length = d := (pwA_af (x := (M, ts)) kd.af _).len
    have lr : (redT (u * spn d M) (farT d M ts)).length = d := by unfold redT; rw [List.length_map, lf]
    have rz := redT_zero hw lf
    have stz : redT (u * spn d M) (farT d M ts) = List.replicate d 0 ↔ staysB d M ts = true := by
      unfold staysB
      rw [decide_eq_true_eq, ← rz]
      constructor
      · intro h
        rw [h]
        exact List.any_eq_false.mpr fun x hx => by rw [List.eq_of_mem_replicate hx]; decide
      · intro h
        refine List.eq_replicate_iff.mpr ⟨lr, fun x hx => ?_⟩
        have := List.any_eq_false.mp h x hx
        simpa using this
    have hsl : SlideAt H2 (.ref r) d M ts u := .inr ⟨z, r, rfl, hP⟩
    generalize redT (u * spn d M) (farT d M ts) = S at hP stz lr
    generalize redU (u * spn d M) (farT d M ts) = U at hP
    refine place_ix0 hP fun x hx => ?_
    refine compE_st fun B eB => ?_
    simp only [iSeq]
    walk_at "rd2"
    refine deed_ix1 (hD.up s02) fun y hy => ⟨true, y, rfl, ⟨_, SqB.tup hy⟩, fun a1 ha1 => ?_⟩
    refine cg_seq (fun j z _ => z = .int 0) ha1 (SqB.tup hy) (by rw [List.length_map, kd.af.len]; omega) (fun _ _ _ _ r _ => r) ?_ ?_
    · intro i x H2 zs ex s2 ez Q' hQ'
      subst eB
      exact hQ' _ _ (Same.refl _) rfl
    intro H3 ys s3 e3 hly hr3
    have ey : ys = (List.replicate d (0 : Int)).map V.int := by
      rw [List.length_map, kd.af.len] at hly
      refine list_is (by simpa using hly) fun j z e => ?_
      have hj := (List.getElem?_eq_some_iff.mp e).1
      exact ⟨0, by rw [List.getElem?_replicate, if_pos (by omega)], hr3 j z e⟩
    subst ey
    refine ⟨a1, _, rfl, .inl ⟨SqL.of e3, fun b hb => ?_⟩⟩
    have s4 := s3.trans (Same.new (o := .tup ((List.replicate d (0 : Int)).map V.int)) hb)
    have e4 : (upd H3 b (.tup ((List.replicate d (0 : Int)).map V.int))) b = some (.tup ((List.replicate d (0 : Int)).map V.int)) := upd_same
    generalize upd H3 b (.tup ((List.replicate d (0 : Int)).map V.int)) = H4 at s4 e4
    refine eqD_of 1 (by decide) (Dt.intsB (SqB.tup (s4 _ _ hx))) (Dt.intsB (SqB.tup e4)) (iT_ints true 0 _) (iT_ints true 0 _) (b := staysB d M ts) (by rw [intsD_inj]; exact stz.symm) ?_
    have s04 := s02.trans s4
    replace hsl := hsl.up s4
    have wx : wix d M ts = if detM d M = 1 then (if spn d M = 1 then (if staysB d M ts = true then 0 else 1) else (if staysB d M ts = true then 2 else 3)) else if spn d (negM M) = 1 then 6 else if 2 < spn d (negM M) then 7 else if staysB d M ts = true then 4 else 5 := by unfold wix; rw [if_neg z]
    have ox : orderN d M ts = if staysB d M ts = true then spn d M else 0 := by
      unfold orderN
      by_cases q : staysB d M ts = true
      · rw [if_pos q, if_pos ⟨z, q⟩]
      · rw [if_neg q, if_neg (fun h => q h.2)]
    have nst : detM d M = -1 → (spn d (negM M) = 1 ∨ 2 < spn d (negM M)) → staysB d M ts = true := fun h1 h2 => by
      unfold staysB farT
      exact decide_eq_true (kd.nice h1 z h2 ts kd.af.len)
    subst e1
    refine st fun N1 e1 => ?_
    walk_at "rd2"
    subst e1
    refine st fun N1 e1 => ?_
    have key : ∀ H5, Same H4 H5 → N1 [some (.ref p), some (.int (spn d M)), some (.ref r), some (.bl (staysB d M ts)), some (.int (foldN d M)), none, none] H5 := by
      intro H5 s5
      subst e1
      refine st fun N1 e1 => ?_
      walk_at "rd2"
      subst e1
      refine st fun N1 e1 => ?_
      have s05 := s04.trans s5
      replace hsl := hsl.up s5
      have key2 : N1 [some (.ref p), some (.int (spn d M)), some (.ref r), some (.bl (staysB d M ts)), some (.int (foldN d M)), some (.int (orderN d M ts)), none] H5 := by
        subst e1
        refine st fun N2 e2 => ?_
        have fin : ∀ H6, Same H5 H6 → N2 [some (.ref p), some (.int (spn d M)), some (.ref r), some (.bl (staysB d M ts)), some (.int (foldN d M)), some (.int (orderN d M ts)), some (.str (words.getD (wix d M ts) ""))] H6 := by
          intro H6 s6
          subst e2
          walk_at "rd2"
          exact ⟨by show 4 ≤ sizeLine; decide, fun q hq => hQ q _ ((s05.trans s6).trans (Same.new hq)) ⟨.ref r, upd_same, (hsl.up s6).up (Same.new hq)⟩⟩
        have finW : ∀ (x : V) (H6 : Hp), x = .str (words.getD (wix d M ts) "") → Same H5 H6 → N2 [some (.ref p), some (.int (spn d M)), some (.ref r), some (.bl (staysB d M ts)), some (.int (foldN d M)), some (.int (orderN d M ts)), some x] H6 := fun x H6 ex s6 => by rw [ex]; exact fin H6 s6
        walk_at "rd2"
        refine deed_ix0 (hD.up s05) fun m hm => ⟨true, true, m, M, d, rfl, hm, kd.af.sq, dd, kd.bm, ?_⟩
        show rI0 _ (.int (detM d M)) _ H5 _
        walk_at "rd2"
        have three : ∀ {p1 p2 p3 : Addr} {o1 o2 o3 : HO}, H5 p1 = none → upd H5 p1 o1 p2 = none → upd (upd H5 p1 o1) p2 o2 p3 = none → Same H5 (upd (upd (upd H5 p1 o1) p2 o2) p3 o3) := fun h1 h2 h3 => (Same.new h1).trans ((Same.new h2).trans (Same.new h3))
        refine ite2 (fun q => ?_) (fun q => ?_)
        · have det : detM d M = 1 := of_decide_eq_true q
          rw [if_pos det] at wx
          refine ⟨by show 2 ≤ sizeLine; decide, fun p1 h1 => ⟨by show 2 ≤ sizeLine; decide, fun p2 h2 => ⟨by show 2 ≤ sizeLine; decide, fun p3 h3 => .inr (bix _ upd_same ?_)⟩⟩⟩
          by_cases s1 : spn d M = 1
          · rw [if_pos s1] at wx
            rw [if_pos (decide_eq_true s1)]
            refine .inr (bix _ (Same.new h3 _ _ upd_same) (finW _ _ ?_ (three h1 h2 h3)))
            rw [wx]
            by_cases sb : staysB d M ts = true
            · rw [if_pos sb, if_pos sb]; rfl
            · rw [if_neg sb, if_neg sb]; rfl
          · rw [if_neg s1] at wx
            rw [if_neg (fun q => s1 (of_decide_eq_true q))]
            refine .inr (bix _ (Same.new h3 _ _ (Same.new h2 _ _ upd_same)) (finW _ _ ?_ (three h1 h2 h3)))
            rw [wx]
            by_cases sb : staysB d M ts = true
            · rw [if_pos sb, if_pos sb]; rfl
            · rw [if_neg sb, if_neg sb]; rfl
        · have det : detM d M = -1 := by
            rcases kd.det with h | h
            · exact absurd (decide_eq_true h) q
            · exact h
          have fx : foldN d M = spn d (negM M) := by unfold foldN; rw [if_neg (by omega)]
          rw [if_neg (by omega)] at wx
          refine ite2 (fun q3 => ?_) (fun q3 => ?_)
          · have f3 : spn d (negM M) < 3 := by rw [← fx]; exact of_decide_eq_true q3
            refine ⟨by show 2 ≤ sizeLine; decide, fun p1 h1 => ⟨by show 2 ≤ sizeLine; decide, fun p2 h2 => ⟨by show 2 ≤ sizeLine; decide, fun p3 h3 => .inr (bix _ upd_same ?_)⟩⟩⟩
            by_cases s1 : foldN d M = 1
            · rw [fx] at s1
              rw [if_pos s1] at wx
              have sb := nst det (.inl s1)
              rw [if_pos (decide_eq_true (by rw [fx]; exact s1))]
              refine .inr (bix _ (Same.new h3 _ _ upd_same) (finW _ _ ?_ (three h1 h2 h3)))
              rw [wx, if_pos sb]
              rfl
            · rw [if_neg (by rw [← fx]; exact s1), if_neg (by omega)] at wx
              rw [if_neg (fun q => s1 (of_decide_eq_true q))]
              refine .inr (bix _ (Same.new h3 _ _ (Same.new h2 _ _ upd_same)) (finW _ _ ?_ (three h1 h2 h3)))
              rw [wx]
              by_cases sb : staysB d M ts = true
              · rw [if_pos sb, if_pos sb]; rfl
              · rw [if_neg sb, if_neg sb]; rfl
          · have f3 : ¬ spn d (negM M) < 3 := by rw [← fx]; exact fun h => q3 (decide_eq_true h)
            have sb := nst det (.inr (by omega))
            rw [if_neg (by omega), if_pos (by omega)] at wx
            refine ⟨by show 2 ≤ sizeLine; decide, fun p1 h1 => .inr (bix _ upd_same (finW _ _ ?_ (Same.new h1)))⟩
            rw [wx, if_pos sb]
            rfl
      walk_at "rd2"
      rw [ox] at key2
      by_cases sb : staysB d M ts = true
      · rw [if_pos sb] at key2 ⊢
        exact key2
      · rw [if_neg sb] at key2 ⊢
        exact key2
    walk_at "rd2"
    refine deed_ix0 (hD.up s04) fun m hm => ⟨true, true, m, M, d, rfl, hm, kd.af.sq, dd, kd.bm, ?_⟩
    show rI0 _ (.int (detM d M)) _ H4 _
    walk_at "rd2"
    refine ite2 (fun q => ?_) (fun q => ?_)
    · have det : detM d M = -1 := of_decide_eq_true q
      have fx : foldN d M = spn d (negM M) := by unfold foldN; rw [if_neg (by omega)]
      refine compE_st fun B eB => ?_
      simp only [iSeq]
      walk_at "rd2"
      refine deed_ix0 (hD.up s04) fun m2 hm2 => ?_
      have sA := kd.af.sq
      obtain ⟨xs, x1, x2, x3⟩ := hm2.walk
      refine ⟨true, m2, rfl, ⟨_, x1⟩, fun a1 ha1 => ?_⟩
      refine cg_seq (RowR a1 fun i => (M.getD i []).map fun n => -n) ha1 x1 (by rw [x2, sA.1]; omega) (RowR.mono (a := a1)) ?_ ?_
      · intro i x H2 zs ex s2 ez Q' hQ'
        obtain ⟨p, r, rfl, er, hp⟩ := x3 i x ex
        subst eB
        show tCompG _ _ _ _ _ [some (.ref p)] H2 Q'
        refine compE_st fun B eB => ?_
        simp only [iSeq]
        walk_at "rd2"
        refine ⟨true, ⟨_, hp.up s2⟩, fun a2 ha2 => ?_⟩
        refine cg_seq (fun k z _ => ∃ n, r[k]? = some n ∧ z = .int (-n)) ha2 (hp.up s2) (by rw [List.length_map, sA.2 r (List.mem_of_getElem? er)]; omega) (fun _ _ _ _ r _ => r) ?_ ?_
        · intro k z H3 zs3 ez2 s3 _ Q2 hQ2
          obtain ⟨n, en, rfl⟩ := ints_at ez2
          subst eB
          show tUn _ _ [some (.int n)] H3 Q2
          walk_at "rd2"
          exact hQ2 _ _ (Same.refl _) ⟨n, en, rfl⟩
        · intro H3 ys s3 e3 hly hr3
          have ey : ys = (r.map fun n => -n).map V.int := by
            refine list_is (by simpa using hly) fun k z e => ?_
            obtain ⟨n, en, rfl⟩ := hr3 k z e
            exact ⟨-n, by rw [List.getElem?_map, en]; rfl, rfl⟩
          subst ey
          have e5 : (M.getD i []).map (fun n => -n) = r.map fun n => -n := by rw [List.getD_eq_getElem?_getD, er]; rfl
          exact hQ' _ _ s3 ⟨a2, rfl, Ne.symm (ne_of_none ez ha2), by show H3 a2 = some (.lst (((M.getD i []).map fun n => -n).map V.int)); rw [e5]; exact e3⟩
      · intro H5 ys s5 e5 hly hr5
        have hM0 := MatL.of e5 hr5
        rw [hly, x2] at hM0
        have e6 : (List.range M.length).map (fun i => (M.getD i []).map fun n => -n) = negM M := by
          unfold negM
          refine List.ext_getElem (by simp) fun i h1 h2 => ?_
          simp at h1
          simp [List.getD_eq_getElem?_getD, h1]
        rw [e6] at hM0
        refine ⟨false, false, a1, negM M, d, rfl, hM0.b, neg_sq sA, dd, neg_bits17 kd.bm, fun H6 s6 => ?_⟩
        rw [fx] at key
        exact key H6 (s5.trans s6)
    · have det : detM d M = 1 := by
        rcases kd.det with h | h
        · exact h
        · exact absurd (decide_eq_true h) q
      have fx : foldN d M = spn d M := by unfold foldN; rw [if_pos det]
      rw [fx] at key
      exact key H4 (Same.refl _)
theorem Dt.place {H : Hp} {p : Addr} {ts : List Int} {u : Int} (h : PlaceAt H p ts u) : Dt K H (.ref p) (.tuple [intsD true ts, .int u]) := by
  obtain ⟨q, h1, h2⟩ := h
  exact .tup (SqT.of h1) (.cons (Dt.intsB (SqB.tup h2)) (.cons (.int u) .nil))
theorem iT_place (ts : List Int) (u : Int) : iT 2 (.tuple [intsD true ts, .int u]) = true := by
  have := iT_ints true 0 ts
  simp [iT, this]
theorem ok_law_slides (T : Txt K mg t) : FnOk P w K mg base CX0 2 t.a_law_slides t.d_law_slides ["_law_found", "_law_due_here"] (sp_law_slides K) := by
  have G_law_whole : FnOk P w K mg base CX0 1 t.a_law_whole t.d_law_whole ["_law_found"] sp_law_whole := ok_law_whole T
  refine T.F_law_slides.ok sc_law_slides (fun vs H Q E h => ?_) (fun cdv A outer s H vs Q E hr h => ?_)
  · obtain ⟨v, v', M, ts, u, d, rfl, _⟩ := h
    rfl
  · obtain ⟨v, v', M, ts, u, d, rfl, h1, h2, kd, hQ⟩ := h
    have hu := hr.units
    have isT : ∀ (a : Addr) (xs : List V) (Q' : VK), H a = some (.tup xs) → Q' (.bl true) H → rIsi K [.ref a, .ty "tuple"] H Q' := fun a xs Q' h1 h2 => ⟨_, _, _, _, rfl, .ty (.tup h1), rfl, rfl, h2⟩
    refine ⟨_, (pss_cons (ps_if (pt_cmpR op_isN (pv 1) pe_non (nomark _))
      (pss_one (ps_ret (pe_cmpR op_isN (pv 0) pe_non (nomark _))))
      pss_nil)
      (pss_cons (ps_if (PW.pt (pw_or (pt_not (pt_val (pe_callB call_isi rfl T.z_isinstance (by decide +kernel) (pa_cons (pv 0) (pa_cons (pe_bltn (v := .ty "tuple") rfl T.z_tuple (by decide +kernel) rfl) pa_nil))))) (pw_or (pt_cmpR op_neZ (pe_callB call_lenB rfl T.z_len (by decide +kernel) (pa_cons (pv 0) pa_nil)) pe_int (nomark _)) (pw_or1 (pt_not (pt_val (pe_callB call_isi rfl T.z_isinstance (by decide +kernel) (pa_cons (pe_ix ix_B (pv 0) pe_int (fun _ _ => rfl)) (pa_cons (pe_bltn (v := .ty "tuple") rfl T.z_tuple (by decide +kernel) rfl) pa_nil)))))))))
      (pss_one (ps_ret pe_bl))
      pss_nil)
      (pss_cons (ps_if (pt_not (pt_val (pe_call G_law_whole (hr.mono (by omega)) rfl T.m_law_whole T.F_law_whole.kp T.b_law_whole .nil pass0 (pa_cons (pe_ix ix_B (pv 0) pe_int (fun _ _ => rfl)) pa_nil))))
      (pss_one (ps_ret pe_bl))
      pss_nil)
      (pss_cons (ps_for PassesOwn.never rfl (pi_seq (pe_ix ix_B (pv 0) pe_int (fun _ _ => rfl))) (pg_name (i := 2) sc_law_slides.nd rfl (Or.inl rfl))
      (pss_one (ps_if (pt_not (pt_val (pe_call G_law_whole (hr.mono (by omega)) rfl T.m_law_whole T.F_law_whole.kp T.b_law_whole .nil pass0 (pa_cons (pv 2) pa_nil))))
      (pss_one (ps_ret pe_bl))
      pss_nil)))
      (pss_one (ps_ret (pe_cmpR (op_eqD hu) (pv 0) (pv 1) (nomark _)))))))), ?_⟩
    show tSeq _ _ _ [some v, some v', none] H
    rcases h1 with ⟨z1, rfl⟩ | ⟨z1, r1, rfl, p1⟩
    · rcases h2 with ⟨z2, rfl⟩ | ⟨z2, r2, rfl, p2⟩
      · refine st fun N1 e1 => ?_
        walk_at "rd2"
        exact iteT (by have := hQ H (Same.refl _); simpa using this)
      · exact absurd z1 z2
    · rcases h2 with ⟨z2, rfl⟩ | ⟨z2, r2, rfl, p2⟩
      · exact absurd z2 z1
      · generalize redT (u * spn d M) (farT d M ts) = S at p1 p2
        generalize redU (u * spn d M) (farT d M ts) = U at p1 p2
        obtain ⟨x1, q1, y1⟩ := id p1
        refine st fun N1 e1 => ?_
        walk_at "rd2"
        refine iteF ?_
        subst e1
        refine st fun N1 e1 => ?_
        walk_at "rd2"
        refine isT _ _ _ q1 ⟨true, rfl, iteF ?_⟩
        refine ⟨true, r1, _, rfl, SqB.tup q1, ?_⟩
        refine ⟨_, _, rfl, rfl, false, rfl, iteF ?_⟩
        refine place_ix0 p1 fun y hy => isT _ _ _ hy ⟨true, rfl, iteF ?_⟩
        subst e1
        refine st fun N1 e1 => ?_
        walk_at "rd2"
        refine place_ix1 p1 ?_
        refine ⟨_, rfl, true, rfl, iteF ?_⟩
        subst e1
        refine st fun N1 e1 => for_st fun B eB => ?_
        simp only [iSeq]
        walk_at "rd2"
        refine place_ix0 p1 fun y2 hy2 => ⟨true, y2, rfl, ⟨_, SqB.tup hy2⟩, ?_⟩
        refine fr_seq (b := true) (g := gName 2) (tb := B) (fun i σ H1 => ∃ v3, σ = [some (.ref r1), some (.ref r2), v3] ∧ H1 = H) ⟨none, rfl, rfl⟩ (fun i σ H1 _ ⟨_, _, e⟩ => e ▸ SqB.tup hy2) ?_ ?_
        · rintro i x σ H1 ex ⟨v3, rfl, rfl⟩
          obtain ⟨n, en, rfl⟩ := ints_at ex
          subst eB
          show tIfS _ _ _ _ [some (.ref r1), some (.ref r2), some (.int n)] H1
          walk_at "rd2"
          exact ⟨_, rfl, true, rfl, iteF rfl⟩
        · rintro σ H1 ⟨v3, rfl, rfl⟩
          subst e1
          walk_at "rd2"
          exact eqD_of 2 (by decide) (Dt.place p1) (Dt.place p2) (iT_place _ _) (iT_place _ _) (b := true) (by simp) (hQ H1 (Same.refl _))
theorem words_dec : ∀ i < 9, ∀ j < 9, decide (words.getD i "" = words.getD j "") = decide (i = j) := by decide +kernel
theorem words_eq {i j : Nat} (hi : i < 9) (hj : j < 9) : decide (V.str (words.getD i "") = V.str (words.getD j "")) = decide (i = j) := by
  rw [← words_dec i hi j hj]
  by_cases q : words.getD i "" = words.getD j ""
  · rw [decide_eq_true q, decide_eq_true (by rw [q])]
  · rw [decide_eq_false q, decide_eq_false (fun z => q (by injection z))]
theorem isB_data : ∀ i < 9, SeqAt.shaped (.list ((isB i).map .bool)) = true ∧ SeqAt.noMix (.list ((isB i).map .bool)) (.list ((isB i).map .bool)) = true ∧ PySem.Spec.same (.list ((isB i).map .bool)) (.list ((isB i).map .bool)) = true := by decide +kernel
theorem Dts.bools {K : PySem.W.Frag} {H : Hp} : ∀ (bs : List Bool), Dts K H (bs.map V.bl) (bs.map PyData.bool)
  | [] => .nil
  | b :: r => .cons (.bl b) (Dts.bools r)
theorem ok_law_told (T : Txt K mg t) : FnOk P w K mg base CX0 14 t.a_law_told t.d_law_told ["_law_kind", "_law_due_here"] (sp_law_told K t) := by
  have G_law_whole : FnOk P w K mg base CX0 1 t.a_law_whole t.d_law_whole ["_law_found"] sp_law_whole := ok_law_whole T
  have G_law_classes : FnOk P w K mg base CX0 1 t.a_law_classes t.d_law_classes ["_law_kind"] (sp_law_classes K t) := ok_law_classes T
  have G_law_slides : FnOk P w K mg base CX0 2 t.a_law_slides t.d_law_slides ["_law_found", "_law_due_here"] (sp_law_slides K) := ok_law_slides T
  refine T.F_law_told.ok sc_law_told (fun vs H Q E h => ?_) (fun cdv A outer s H vs Q E hr h => ?_)
  · obtain ⟨a, C, p, q, M, ts, u, d, rfl, _⟩ := h
    rfl
  · obtain ⟨a, C, p, q, M, ts, u, d, rfl, hC, hK, hq, hQ⟩ := h
    have hu := hr.units
    have hi := wix_lt d M ts
    have kc : KindC t C := ⟨_, hi, hC⟩
    have kd := hK.2.2
    obtain ⟨dx, ha⟩ := hK.1
    obtain ⟨v, eq, sl⟩ := hq
    refine ⟨_, (pss_cons (ps_asg (pv 1) (pg_tup rfl (pgs_cons (pg_name (i := 2) sc_law_told.nd rfl (Or.inr rfl)) (pgs_cons (pg_name (i := 3) sc_law_told.nd rfl (Or.inl rfl)) (pgs_cons (pg_name (i := 4) sc_law_told.nd rfl (Or.inl rfl)) (pgs_cons (pg_name (i := 5) sc_law_told.nd rfl (Or.inl rfl)) pgs_nil))))))
      (pss_cons (ps_setStrs (i := 6) (x := "_law_some") (ss := ["still", "move", "turn", "screw", "mirror", "slide", "point", "twist", "endless"]) (by decide +kernel) sc_law_told.nd rfl rfl)
      (pss_cons (ps_if (PW.pt (pw_or (pt_not (pt_val (pe_callB call_isi rfl T.z_isinstance (by decide +kernel) (pa_cons (pv 0) (pa_cons (pe_glob (v := .ref t.a_Kind) rfl T.m_Kind rfl) pa_nil))))) (pw_or1 (pt_cmpR (op_neD hu) (pe_call G_law_classes (hr.mono (by omega)) rfl T.m_law_classes T.F_law_classes.kp T.b_law_classes .nil pass0 (pa_cons (pv 0) pa_nil)) (pe_compG (xs := ["_law_one"]) (fr := [("_law_word", 2)]) (g := (gName 0)) (tt := (tEl (tOp rEq (tVar 0) (tVar 1)))) (compG_ok (sc := defScope s_law_told) (N := N_law_told) rfl rfl (by decide +kernel)) rfl (pi_seq (pv 6)) (fun _ _ _ hE1 => (pg_own (N := ["_law_one", "_law_word"]) (i := 0) hE1 rfl (by decide +kernel))) (fun _ _ _ hE1 => (po_el (pe_cmpR op_eq (pv 0) (pv 1) (nomark _))))) (nomark _)))))
      (pss_one (ps_ret pe_bl))
      pss_nil)
      (pss_cons (ps_if (PW.pt (pw_or (pt_not (pt_val (pe_callB call_isi rfl T.z_isinstance (by decide +kernel) (pa_cons (pe_methD0 (Fm := KindC t) (pv 0) (D_word T) (hr.mono (by omega))) (pa_cons (pe_bltn (v := .ty "str") rfl T.z_str (by decide +kernel) rfl) pa_nil))))) (pw_or (pt_cmpR op_ne (pe_methD0 (Fm := KindC t) (pv 0) (D_word T) (hr.mono (by omega))) (pv 2) (nomark _)) (pw_or1 (pt_not (pt_val (pe_call G_law_slides (hr.mono (by omega)) rfl T.m_law_slides T.F_law_slides.kp T.b_law_slides .nil pass0 (pa_cons (pe_methD0 (Fm := KindC t) (pv 0) (D_slide T) (hr.mono (by omega))) (pa_cons (pv 5) pa_nil)))))))))
      (pss_one (ps_ret pe_bl))
      pss_nil)
      (pss_cons (ps_if (PW.pt (pw_or (pt_not (pt_val (pe_call G_law_whole (hr.mono (by omega)) rfl T.m_law_whole T.F_law_whole.kp T.b_law_whole .nil pass0 (pa_cons (pe_methD0 (Fm := KindC t) (pv 0) (D_fold T) (hr.mono (by omega))) pa_nil)))) (pw_or1 (pt_not (pt_val (pe_call G_law_whole (hr.mono (by omega)) rfl T.m_law_whole T.F_law_whole.kp T.b_law_whole .nil pass0 (pa_cons (pe_methD0 (Fm := KindC t) (pv 0) (D_order T) (hr.mono (by omega))) pa_nil)))))))
      (pss_one (ps_ret pe_bl))
      pss_nil)
      (pss_one (ps_ret (pe_and (pe_cmpR op_eqZ (pe_methD0 (Fm := KindC t) (pv 0) (D_fold T) (hr.mono (by omega))) (pv 3) (nomark _)) (pe_and (pe_cmpR op_eqZ (pe_methD0 (Fm := KindC t) (pv 0) (D_order T) (hr.mono (by omega))) (pv 4) (nomark _)) (pe_one (pe_call G_law_slides (hr.mono (by omega)) rfl T.m_law_slides T.F_law_slides.kp T.b_law_slides .nil pass0 (pa_cons (pe_methD0 (Fm := KindC t) (pv 0) (D_slide T) (hr.mono (by omega))) (pa_cons (pv 5) pa_nil))))))))))))), ?_⟩
    show tSeq _ _ _ [some (.ref a), some (.ref q), none, none, none, none, none] H
    refine st fun N1 e1 => ?_
    walk_at "rd2"
    refine ⟨q, _, rfl, SqT.of eq, rfl, ?_⟩
    simp only [gCons, gNil]
    walk_at "rd2"
    subst e1
    refine st fun N1 e1 => ?_
    walk_at "rd2"
    refine ⟨by show 9 ≤ sizeLine; decide, fun l hl => ?_⟩
    have s1 : Same H (upd H l (.lst (words.map V.str))) := Same.new hl
    have el : (upd H l (.lst (words.map V.str))) l = some (.lst (words.map V.str)) := upd_same
    show N1 [some (.ref a), some (.ref q), some (.str (words.getD (wix d M ts) "")), some (.int (foldN d M)), some (.int (orderN d M ts)), some v, some (.ref l)] (upd H l (.lst (words.map V.str)))
    generalize upd H l (.lst (words.map V.str)) = H1 at s1 el
    subst e1
    refine st fun N1 e1 => ?_
    walk_at "rd2"
    refine ⟨_, _, _, _, rfl, kc_ty T kc (s1 _ _ ha), rfl, kc_kind T kc, ?_⟩
    refine ⟨true, rfl, iteF ⟨a, C, dx, flds p, _, rfl, s1 _ _ ha, hi, hC, fun l2 H2 s2 e2 => ?_⟩⟩
    refine compE_st fun B eB => ?_
    simp only [iSeq]
    walk_at "rd2"
    refine ⟨false, ⟨_, SqB.lst (s2 _ _ el)⟩, fun a1 ha1 => ?_⟩
    refine cg_seq (fun j z _ => z = .bl (decide (j = wix d M ts))) ha1 (SqB.lst (s2 _ _ el)) (by show 9 ≤ _; decide) (fun _ _ _ _ r _ => r) ?_ ?_
    · intro j x H3 zs ex s3 ez Q' hQ'
      have hj : j < 9 := by have := (List.getElem?_eq_some_iff.mp ex).1; simpa [words] using this
      have ew : x = .str (words.getD j "") := by
        rw [List.getElem?_map] at ex
        rw [List.getD_eq_getElem?_getD]
        cases eo : words[j]? with
        | none => rw [eo] at ex; cases ex
        | some y => rw [eo] at ex; cases ex; rfl
      subst ew
      subst eB
      show tOp _ _ _ [some (.str (words.getD j "")), some (.str (words.getD (wix d M ts) ""))] H3 Q'
      walk_at "rd2"
      refine ⟨rfl, ?_⟩
      rw [words_eq hj hi]
      exact hQ' _ _ (Same.refl _) rfl
    intro H3 ys s3 e3 hly hr3
    have ey : ys = (isB (wix d M ts)).map V.bl := by
      refine list_is (by rw [hly]; rfl) fun j z e => ?_
      have hj : j < 9 := by have := (List.getElem?_eq_some_iff.mp e).1; rw [hly] at this; exact this
      refine ⟨decide (j = wix d M ts), ?_, hr3 j z e⟩
      unfold isB
      rw [List.getElem?_map, List.getElem?_range hj]
      rfl
    subst ey
    obtain ⟨b1, b2, b3⟩ := isB_data _ hi
    refine ⟨_, _, .lst (SqL.of (s3 _ _ e2)) (Dts.bools _), .lst (SqL.of e3) (Dts.bools _), b1, b1, b2, ?_⟩
    rw [b3]
    refine ⟨false, rfl, iteF ?_⟩
    have s03 := (s1.trans s2).trans s3
    have hK3 := hK.up s03
    have sl3 := sl.up s03
    have ha3 := s03 _ _ ha
    clear e2 e3 el
    subst e1
    refine st fun N1 e1 => ?_
    walk_at "rd2"
    have meW : ∀ (σ : St) (G : Hp) (Q' : VK), Same H G → Q' (.str (words.getD (wix d M ts) "")) G → tMethD (KindC t) "word" (sp_word t) (tVar 0) (some (.ref a) :: σ) G Q' := fun σ G Q' sG k => ⟨_, rfl, a, C, dx, _, rfl, sG _ _ ha, kc, flds_no p (by decide +kernel), a, rfl, fun i h1 h2 => by rw [nine_inj T h1 hi h2 hC]; exact k⟩
    have meS : ∀ (σ : St) (G : Hp) (Q' : VK), Same H G → (∀ v' G', Same G G' → SlideAt G' v' d M ts u → Q' v' G') → tMethD (KindC t) "slide" (sp_Kind_slide K t) (tVar 0) (some (.ref a) :: σ) G Q' := fun σ G Q' sG k => ⟨_, rfl, a, C, dx, _, rfl, sG _ _ ha, kc, flds_no p (by decide +kernel), a, p, M, ts, u, d, rfl, kc, hK.up sG, k⟩
    have meF : ∀ (σ : St) (G : Hp) (Q' : VK), Same H G → (∀ G', Same G G' → Q' (.int (foldN d M)) G') → tMethD (KindC t) "fold" (sp_Kind_fold K t) (tVar 0) (some (.ref a) :: σ) G Q' := fun σ G Q' sG k => ⟨_, rfl, a, C, dx, _, rfl, sG _ _ ha, kc, flds_no p (by decide +kernel), a, p, M, ts, u, d, rfl, kc, hK.up sG, k⟩
    have meO : ∀ (σ : St) (G : Hp) (Q' : VK), Same H G → (∀ G', Same G G' → Q' (.int (orderN d M ts)) G') → tMethD (KindC t) "order" (sp_Kind_order K t) (tVar 0) (some (.ref a) :: σ) G Q' := fun σ G Q' sG k => ⟨_, rfl, a, C, dx, _, rfl, sG _ _ ha, kc, flds_no p (by decide +kernel), a, p, M, ts, u, d, rfl, kc, hK.up sG, k⟩
    refine meW _ _ _ s03 ⟨_, _, _, _, rfl, .ty (.str _), rfl, rfl, true, rfl, iteF (meW _ _ _ s03 ⟨rfl, ?_⟩)⟩
    rw [decide_eq_true rfl]
    refine ⟨false, rfl, iteF (meS _ _ _ s03 fun v4 H4 s4 sl4 => ⟨v4, v, M, ts, u, d, rfl, sl4, sl3.up s4, kd, fun H5 s5 => ⟨true, rfl, iteF ?_⟩⟩)⟩
    have s05 := (s03.trans s4).trans s5
    subst e1
    refine st fun N1 e1 => ?_
    walk_at "rd2"
    refine meF _ _ _ s05 fun H6 s6 => ⟨_, rfl, true, rfl, iteF (meO _ _ _ (s05.trans s6) fun H7 s7 => ⟨_, rfl, true, rfl, iteF ?_⟩)⟩
    have s07 := (s05.trans s6).trans s7
    subst e1
    walk_at "rd2"
    refine meF _ _ _ s07 fun H8 s8 => ?_
    refine ⟨_, _, rfl, rfl, true, congrArg V.bl (decide_eq_true rfl), iteT (meO _ _ _ (s07.trans s8) fun H9 s9 => ?_)⟩
    have s09 := (s07.trans s8).trans s9
    refine ⟨_, _, rfl, rfl, true, congrArg V.bl (decide_eq_true rfl), iteT (meS _ _ _ s09 fun v10 H10 s10 sl10 => ⟨v10, v, M, ts, u, d, rfl, sl10, (sl.up s09).up s10, kd, fun H11 s11 => hQ H11 ((s09.trans s10).trans s11)⟩)⟩
theorem ok_law (T : Txt K mg t) : FnOk P w K mg base CX0 15 t.a_law t.d_law ["_law_script"] (spLaw K) := by
  have G_law_deed : FnOk P w K mg base CX0 3 t.a_law_deed t.d_law_deed ["_law_script"] (sp_law_deed K) := ok_law_deed T
  have G_law_due : FnOk P w K mg base CX0 4 t.a_law_due t.d_law_due ["_law_one"] (sp_law_due K) := ok_law_due T
  have G_kind_of : FnOk P w K mg base CX0 12 t.a_kind_of t.d_kind_of ["one"] (sp_kind_of K t) := ok_kind_of T
  have G_law_told : FnOk P w K mg base CX0 14 t.a_law_told t.d_law_told ["_law_kind", "_law_due_here"] (sp_law_told K t) := ok_law_told T
  have G_law_called : FnOk P w K mg base CX0 3 t.a_law_called t.d_law_called ["_law_word", "_law_one"] (sp_law_called K t) := ok_law_called T
  refine T.F_law.ok sc_law (fun vs H Q E h => ?_) (fun cdv A outer s H vs Q E hr h => ?_)
  · obtain ⟨a, ns, rfl, _⟩ := h
    rfl
  · obtain ⟨a, ns, rfl, hS, hlen, hbits, q⟩ := h
    refine ⟨_, (pss_cons (ps_set (i := 1) sc_law.nd rfl (Or.inl rfl) (pe_call G_law_deed (hr.mono (by omega)) rfl T.m_law_deed T.F_law_deed.kp T.b_law_deed .nil pass0 (pa_cons (pv 0) pa_nil)))
      (pss_cons (ps_set (i := 2) sc_law.nd rfl (Or.inl rfl) (pe_call G_law_due (hr.mono (by omega)) rfl T.m_law_due T.F_law_due.kp T.b_law_due .nil pass0 (pa_cons (pv 1) pa_nil)))
      (pss_cons (ps_set (i := 3) sc_law.nd rfl (Or.inl rfl) (pe_call G_kind_of (hr.mono (by omega)) rfl T.m_kind_of T.F_kind_of.kp T.b_kind_of .nil pass0 (pa_cons (pv 1) pa_nil)))
      (pss_one (ps_ret (pe_and (pe_call G_law_told (hr.mono (by omega)) rfl T.m_law_told T.F_law_told.kp T.b_law_told .nil pass0 (pa_cons (pv 3) (pa_cons (pv 2) pa_nil))) (pe_and (pe_call G_law_told (hr.mono (by omega)) rfl T.m_law_told T.F_law_told.kp T.b_law_told .nil pass0 (pa_cons (pe_call G_law_called (hr.mono (by omega)) rfl T.m_law_called T.F_law_called.kp T.b_law_called .nil pass0 (pa_cons (pe_ix ix_B (pv 2) pe_int (fun _ _ => rfl)) (pa_cons (pv 1) pa_nil))) (pa_cons (pv 2) pa_nil))) (pe_one (pe_call G_law_told (hr.mono (by omega)) rfl T.m_law_told T.F_law_told.kp T.b_law_told .nil pass0 (pa_cons (pv 3) (pa_cons (pv 2) pa_nil))))))))))), ?_⟩
    show tSeq _ _ _ [some (.ref a), none, none, none] H
    refine st fun N1 e1 => ?_
    walk_at "rd2"
    refine ⟨a, ns, rfl, hS, hlen, hbits, fun p M ts u d H1 s1 hD kd => ?_⟩
    subst e1
    refine st fun N1 e1 => ?_
    walk_at "rd2"
    refine ⟨p, M, ts, u, d, rfl, hD, kd, fun b H2 s2 hb => ?_⟩
    subst e1
    refine st fun N1 e1 => ?_
    walk_at "rd2"
    refine ⟨p, M, ts, u, d, rfl, hD.up s2, kd, fun x C H3 s3 hC hx => ?_⟩
    have hD3 := (hD.up s2).up s3
    have hb3 := hb.up s3
    subst e1
    walk_at "rd2"
    refine ⟨x, C, p, b, M, ts, u, d, rfl, hC, ⟨hx, hD3, kd⟩, hb3, fun H4 s4 => ?_⟩
    refine ⟨true, rfl, iteT ?_⟩
    have hb4 := hb3.up s4
    have hD4 := hD3.up s4
    obtain ⟨v, eb, sl⟩ := id hb4
    refine ⟨true, b, _, 0, _, rfl, rfl, SqB.tup eb, rfl, ?_⟩
    refine ⟨p, wix d M ts, rfl, wix_lt d M ts, fun y C' H5 s5 hC' hy => ?_⟩
    refine ⟨y, C', p, b, M, ts, u, d, rfl, hC', ⟨hy, hD4.up s5, kd⟩, hb4.up s5, fun H6 s6 => ⟨true, rfl, iteT ?_⟩⟩
    have s36 := (s4.trans s5).trans s6
    exact ⟨x, C, p, b, M, ts, u, d, rfl, hC, ⟨hx.up s36, hD3.up s36, kd⟩, hb3.up s36, fun H7 _ => q H7⟩

end
theorem txt_mk {K : PySem.W.Frag} {h : Heap} {mg : Str → Option Value} (X : K.In h) (G : h.Ns mainGlobals mg)
    {C_CrystalError : Addr}
    {C_NoPlace : Addr}
    {C_NoDeed : Addr}
    {C_NoNumber : Addr}
    {C_Kind : Addr}
    {C_Still : Addr}
    {C_Move : Addr}
    {C_Turn : Addr}
    {C_Screw : Addr}
    {C_Mirror : Addr}
    {C_Slide : Addr}
    {C_Point : Addr}
    {C_Twist : Addr}
    {C_Endless : Addr}
    {f_divisor : Addr} {od_divisor an_divisor : Option Addr} {sl_divisor : Array (Option Value)} {oc_divisor kV_divisor dc_divisor pm_divisor cd_divisor ct_divisor : Value}
    {f_place : Addr} {od_place an_place : Option Addr} {sl_place : Array (Option Value)} {oc_place kV_place dc_place pm_place cd_place ct_place : Value}
    {f_still_rows : Addr} {od_still_rows an_still_rows : Option Addr} {sl_still_rows : Array (Option Value)} {oc_still_rows kV_still_rows dc_still_rows pm_still_rows cd_still_rows ct_still_rows : Value}
    {f_dot : Addr} {od_dot an_dot : Option Addr} {sl_dot : Array (Option Value)} {oc_dot kV_dot dc_dot pm_dot cd_dot ct_dot : Value}
    {f_turned : Addr} {od_turned an_turned : Option Addr} {sl_turned : Array (Option Value)} {oc_turned kV_turned dc_turned pm_turned cd_turned ct_turned : Value}
    {f_times : Addr} {od_times an_times : Option Addr} {sl_times : Array (Option Value)} {oc_times kV_times dc_times pm_times cd_times ct_times : Value}
    {f_without : Addr} {od_without an_without : Option Addr} {sl_without : Array (Option Value)} {oc_without kV_without dc_without pm_without cd_without ct_without : Value}
    {f_determinant : Addr} {od_determinant an_determinant : Option Addr} {sl_determinant : Array (Option Value)} {oc_determinant kV_determinant dc_determinant pm_determinant cd_determinant ct_determinant : Value}
    {f_joined : Addr} {od_joined an_joined : Option Addr} {sl_joined : Array (Option Value)} {oc_joined kV_joined dc_joined pm_joined cd_joined ct_joined : Value}
    {f_deed : Addr} {od_deed an_deed : Option Addr} {sl_deed : Array (Option Value)} {oc_deed kV_deed dc_deed pm_deed cd_deed ct_deed : Value}
    {f_still : Addr} {od_still an_still : Option Addr} {sl_still : Array (Option Value)} {oc_still kV_still dc_still pm_still cd_still ct_still : Value}
    {f_moved : Addr} {od_moved an_moved : Option Addr} {sl_moved : Array (Option Value)} {oc_moved kV_moved dc_moved pm_moved cd_moved ct_moved : Value}
    {f_behind : Addr} {od_behind an_behind : Option Addr} {sl_behind : Array (Option Value)} {oc_behind kV_behind dc_behind pm_behind cd_behind ct_behind : Value}
    {f_again : Addr} {od_again an_again : Option Addr} {sl_again : Array (Option Value)} {oc_again kV_again dc_again pm_again cd_again ct_again : Value}
    {f_span : Addr} {od_span an_span : Option Addr} {sl_span : Array (Option Value)} {oc_span kV_span dc_span pm_span cd_span ct_span : Value}
    {f_signs_turned : Addr} {od_signs_turned an_signs_turned : Option Addr} {sl_signs_turned : Array (Option Value)} {oc_signs_turned kV_signs_turned dc_signs_turned pm_signs_turned cd_signs_turned ct_signs_turned : Value}
    {f_fold_of : Addr} {od_fold_of an_fold_of : Option Addr} {sl_fold_of : Array (Option Value)} {oc_fold_of kV_fold_of dc_fold_of pm_fold_of cd_fold_of ct_fold_of : Value}
    {f_slide_of : Addr} {od_slide_of an_slide_of : Option Addr} {sl_slide_of : Array (Option Value)} {oc_slide_of kV_slide_of dc_slide_of pm_slide_of cd_slide_of ct_slide_of : Value}
    {f_is_nought : Addr} {od_is_nought an_is_nought : Option Addr} {sl_is_nought : Array (Option Value)} {oc_is_nought kV_is_nought dc_is_nought pm_is_nought cd_is_nought ct_is_nought : Value}
    {f_Kind___init__ : Addr} {od_Kind___init__ an_Kind___init__ : Option Addr} {sl_Kind___init__ : Array (Option Value)} {oc_Kind___init__ kV_Kind___init__ dc_Kind___init__ pm_Kind___init__ cd_Kind___init__ ct_Kind___init__ : Value}
    {f_Kind_fold : Addr} {od_Kind_fold an_Kind_fold : Option Addr} {sl_Kind_fold : Array (Option Value)} {oc_Kind_fold kV_Kind_fold dc_Kind_fold pm_Kind_fold cd_Kind_fold ct_Kind_fold : Value}
    {f_Kind_order : Addr} {od_Kind_order an_Kind_order : Option Addr} {sl_Kind_order : Array (Option Value)} {oc_Kind_order kV_Kind_order dc_Kind_order pm_Kind_order cd_Kind_order ct_Kind_order : Value}
    {f_Kind_slide : Addr} {od_Kind_slide an_Kind_slide : Option Addr} {sl_Kind_slide : Array (Option Value)} {oc_Kind_slide kV_Kind_slide dc_Kind_slide pm_Kind_slide cd_Kind_slide ct_Kind_slide : Value}
    {f_Still_word : Addr} {od_Still_word an_Still_word : Option Addr} {sl_Still_word : Array (Option Value)} {oc_Still_word kV_Still_word dc_Still_word pm_Still_word cd_Still_word ct_Still_word : Value}
    {f_Move_word : Addr} {od_Move_word an_Move_word : Option Addr} {sl_Move_word : Array (Option Value)} {oc_Move_word kV_Move_word dc_Move_word pm_Move_word cd_Move_word ct_Move_word : Value}
    {f_Turn_word : Addr} {od_Turn_word an_Turn_word : Option Addr} {sl_Turn_word : Array (Option Value)} {oc_Turn_word kV_Turn_word dc_Turn_word pm_Turn_word cd_Turn_word ct_Turn_word : Value}
    {f_Screw_word : Addr} {od_Screw_word an_Screw_word : Option Addr} {sl_Screw_word : Array (Option Value)} {oc_Screw_word kV_Screw_word dc_Screw_word pm_Screw_word cd_Screw_word ct_Screw_word : Value}
    {f_Mirror_word : Addr} {od_Mirror_word an_Mirror_word : Option Addr} {sl_Mirror_word : Array (Option Value)} {oc_Mirror_word kV_Mirror_word dc_Mirror_word pm_Mirror_word cd_Mirror_word ct_Mirror_word : Value}
    {f_Slide_word : Addr} {od_Slide_word an_Slide_word : Option Addr} {sl_Slide_word : Array (Option Value)} {oc_Slide_word kV_Slide_word dc_Slide_word pm_Slide_word cd_Slide_word ct_Slide_word : Value}
    {f_Point_word : Addr} {od_Point_word an_Point_word : Option Addr} {sl_Point_word : Array (Option Value)} {oc_Point_word kV_Point_word dc_Point_word pm_Point_word cd_Point_word ct_Point_word : Value}
    {f_Twist_word : Addr} {od_Twist_word an_Twist_word : Option Addr} {sl_Twist_word : Array (Option Value)} {oc_Twist_word kV_Twist_word dc_Twist_word pm_Twist_word cd_Twist_word ct_Twist_word : Value}
    {f_Endless_word : Addr} {od_Endless_word an_Endless_word : Option Addr} {sl_Endless_word : Array (Option Value)} {oc_Endless_word kV_Endless_word dc_Endless_word pm_Endless_word cd_Endless_word ct_Endless_word : Value}
    {f_kind_of : Addr} {od_kind_of an_kind_of : Option Addr} {sl_kind_of : Array (Option Value)} {oc_kind_of kV_kind_of dc_kind_of pm_kind_of cd_kind_of ct_kind_of : Value}
    {f_unmirrored : Addr} {od_unmirrored an_unmirrored : Option Addr} {sl_unmirrored : Array (Option Value)} {oc_unmirrored kV_unmirrored dc_unmirrored pm_unmirrored cd_unmirrored ct_unmirrored : Value}
    {f_mirrored : Addr} {od_mirrored an_mirrored : Option Addr} {sl_mirrored : Array (Option Value)} {oc_mirrored kV_mirrored dc_mirrored pm_mirrored cd_mirrored ct_mirrored : Value}
    {f_law_cell_at : Addr} {od_law_cell_at an_law_cell_at : Option Addr} {sl_law_cell_at : Array (Option Value)} {oc_law_cell_at kV_law_cell_at dc_law_cell_at pm_law_cell_at cd_law_cell_at ct_law_cell_at : Value}
    {f_law_whole : Addr} {od_law_whole an_law_whole : Option Addr} {sl_law_whole : Array (Option Value)} {oc_law_whole kV_law_whole dc_law_whole pm_law_whole cd_law_whole ct_law_whole : Value}
    {f_law_shared : Addr} {od_law_shared an_law_shared : Option Addr} {sl_law_shared : Array (Option Value)} {oc_law_shared kV_law_shared dc_law_shared pm_law_shared cd_law_shared ct_law_shared : Value}
    {f_law_place : Addr} {od_law_place an_law_place : Option Addr} {sl_law_place : Array (Option Value)} {oc_law_place kV_law_place dc_law_place pm_law_place cd_law_place ct_law_place : Value}
    {f_law_first : Addr} {od_law_first an_law_first : Option Addr} {sl_law_first : Array (Option Value)} {oc_law_first kV_law_first dc_law_first pm_law_first cd_law_first ct_law_first : Value}
    {f_law_added : Addr} {od_law_added an_law_added : Option Addr} {sl_law_added : Array (Option Value)} {oc_law_added kV_law_added dc_law_added pm_law_added cd_law_added ct_law_added : Value}
    {f_law_led : Addr} {od_law_led an_law_led : Option Addr} {sl_law_led : Array (Option Value)} {oc_law_led kV_law_led dc_law_led pm_law_led cd_law_led ct_law_led : Value}
    {f_law_tops : Addr} {od_law_tops an_law_tops : Option Addr} {sl_law_tops : Array (Option Value)} {oc_law_tops kV_law_tops dc_law_tops pm_law_tops cd_law_tops ct_law_tops : Value}
    {f_law_deed : Addr} {od_law_deed an_law_deed : Option Addr} {sl_law_deed : Array (Option Value)} {oc_law_deed kV_law_deed dc_law_deed pm_law_deed cd_law_deed ct_law_deed : Value}
    {f_law_times : Addr} {od_law_times an_law_times : Option Addr} {sl_law_times : Array (Option Value)} {oc_law_times kV_law_times dc_law_times pm_law_times cd_law_times ct_law_times : Value}
    {f_law_rests : Addr} {od_law_rests an_law_rests : Option Addr} {sl_law_rests : Array (Option Value)} {oc_law_rests kV_law_rests dc_law_rests pm_law_rests cd_law_rests ct_law_rests : Value}
    {f_law_span : Addr} {od_law_span an_law_span : Option Addr} {sl_law_span : Array (Option Value)} {oc_law_span kV_law_span dc_law_span pm_law_span cd_law_span ct_law_span : Value}
    {f_law_determinant : Addr} {od_law_determinant an_law_determinant : Option Addr} {sl_law_determinant : Array (Option Value)} {oc_law_determinant kV_law_determinant dc_law_determinant pm_law_determinant cd_law_determinant ct_law_determinant : Value}
    {f_law_slide : Addr} {od_law_slide an_law_slide : Option Addr} {sl_law_slide : Array (Option Value)} {oc_law_slide kV_law_slide dc_law_slide pm_law_slide cd_law_slide ct_law_slide : Value}
    {f_law_due : Addr} {od_law_due an_law_due : Option Addr} {sl_law_due : Array (Option Value)} {oc_law_due kV_law_due dc_law_due pm_law_due cd_law_due ct_law_due : Value}
    {f_law_classes : Addr} {od_law_classes an_law_classes : Option Addr} {sl_law_classes : Array (Option Value)} {oc_law_classes kV_law_classes dc_law_classes pm_law_classes cd_law_classes ct_law_classes : Value}
    {f_law_called : Addr} {od_law_called an_law_called : Option Addr} {sl_law_called : Array (Option Value)} {oc_law_called kV_law_called dc_law_called pm_law_called cd_law_called ct_law_called : Value}
    {f_law_slides : Addr} {od_law_slides an_law_slides : Option Addr} {sl_law_slides : Array (Option Value)} {oc_law_slides kV_law_slides dc_law_slides pm_law_slides cd_law_slides ct_law_slides : Value}
    {f_law_told : Addr} {od_law_told an_law_told : Option Addr} {sl_law_told : Array (Option Value)} {oc_law_told kV_law_told dc_law_told pm_law_told cd_law_told ct_law_told : Value}
    {f_law : Addr} {od_law an_law : Option Addr} {sl_law : Array (Option Value)} {oc_law kV_law dc_law pm_law cd_law ct_law : Value}
    {tk_MOST_TIMES : Tok}
    {tk_LONGEST_SPAN : Tok}
    (n_CrystalError : PySem.W.nsIn K mainGlobals "CrystalError" = some (some (.ref C_CrystalError)))
    (n_NoPlace : PySem.W.nsIn K mainGlobals "NoPlace" = some (some (.ref C_NoPlace)))
    (n_NoDeed : PySem.W.nsIn K mainGlobals "NoDeed" = some (some (.ref C_NoDeed)))
    (n_NoNumber : PySem.W.nsIn K mainGlobals "NoNumber" = some (some (.ref C_NoNumber)))
    (n_Kind : PySem.W.nsIn K mainGlobals "Kind" = some (some (.ref C_Kind)))
    (n_Still : PySem.W.nsIn K mainGlobals "Still" = some (some (.ref C_Still)))
    (n_Move : PySem.W.nsIn K mainGlobals "Move" = some (some (.ref C_Move)))
    (n_Turn : PySem.W.nsIn K mainGlobals "Turn" = some (some (.ref C_Turn)))
    (n_Screw : PySem.W.nsIn K mainGlobals "Screw" = some (some (.ref C_Screw)))
    (n_Mirror : PySem.W.nsIn K mainGlobals "Mirror" = some (some (.ref C_Mirror)))
    (n_Slide : PySem.W.nsIn K mainGlobals "Slide" = some (some (.ref C_Slide)))
    (n_Point : PySem.W.nsIn K mainGlobals "Point" = some (some (.ref C_Point)))
    (n_Twist : PySem.W.nsIn K mainGlobals "Twist" = some (some (.ref C_Twist)))
    (n_Endless : PySem.W.nsIn K mainGlobals "Endless" = some (some (.ref C_Endless)))
    (n_divisor : PySem.W.nsIn K mainGlobals "divisor" = some (some (.ref f_divisor)))
    (l_divisor : K.lookup f_divisor = some ⟨oc_divisor, od_divisor, .func (PySem.W.fnOf "divisor" "divisor" (defArgs s_divisor) (defBody s_divisor) (defScope s_divisor) .none kV_divisor dc_divisor pm_divisor an_divisor cd_divisor ct_divisor), sl_divisor⟩)
    (c_divisor : PySem.W.codeIn K cd_divisor "divisor" = true)
    (k_divisor : PySem.W.keepIn K (.ref f_divisor) = true)
    (n_place : PySem.W.nsIn K mainGlobals "place" = some (some (.ref f_place)))
    (l_place : K.lookup f_place = some ⟨oc_place, od_place, .func (PySem.W.fnOf "place" "place" (defArgs s_place) (defBody s_place) (defScope s_place) .none kV_place dc_place pm_place an_place cd_place ct_place), sl_place⟩)
    (c_place : PySem.W.codeIn K cd_place "place" = true)
    (k_place : PySem.W.keepIn K (.ref f_place) = true)
    (n_still_rows : PySem.W.nsIn K mainGlobals "still_rows" = some (some (.ref f_still_rows)))
    (l_still_rows : K.lookup f_still_rows = some ⟨oc_still_rows, od_still_rows, .func (PySem.W.fnOf "still_rows" "still_rows" (defArgs s_still_rows) (defBody s_still_rows) (defScope s_still_rows) .none kV_still_rows dc_still_rows pm_still_rows an_still_rows cd_still_rows ct_still_rows), sl_still_rows⟩)
    (c_still_rows : PySem.W.codeIn K cd_still_rows "still_rows" = true)
    (k_still_rows : PySem.W.keepIn K (.ref f_still_rows) = true)
    (n_dot : PySem.W.nsIn K mainGlobals "dot" = some (some (.ref f_dot)))
    (l_dot : K.lookup f_dot = some ⟨oc_dot, od_dot, .func (PySem.W.fnOf "dot" "dot" (defArgs s_dot) (defBody s_dot) (defScope s_dot) .none kV_dot dc_dot pm_dot an_dot cd_dot ct_dot), sl_dot⟩)
    (c_dot : PySem.W.codeIn K cd_dot "dot" = true)
    (k_dot : PySem.W.keepIn K (.ref f_dot) = true)
    (n_turned : PySem.W.nsIn K mainGlobals "turned" = some (some (.ref f_turned)))
    (l_turned : K.lookup f_turned = some ⟨oc_turned, od_turned, .func (PySem.W.fnOf "turned" "turned" (defArgs s_turned) (defBody s_turned) (defScope s_turned) .none kV_turned dc_turned pm_turned an_turned cd_turned ct_turned), sl_turned⟩)
    (c_turned : PySem.W.codeIn K cd_turned "turned" = true)
    (k_turned : PySem.W.keepIn K (.ref f_turned) = true)
    (n_times : PySem.W.nsIn K mainGlobals "times" = some (some (.ref f_times)))
    (l_times : K.lookup f_times = some ⟨oc_times, od_times, .func (PySem.W.fnOf "times" "times" (defArgs s_times) (defBody s_times) (defScope s_times) .none kV_times dc_times pm_times an_times cd_times ct_times), sl_times⟩)
    (c_times : PySem.W.codeIn K cd_times "times" = true)
    (k_times : PySem.W.keepIn K (.ref f_times) = true)
    (n_without : PySem.W.nsIn K mainGlobals "without" = some (some (.ref f_without)))
    (l_without : K.lookup f_without = some ⟨oc_without, od_without, .func (PySem.W.fnOf "without" "without" (defArgs s_without) (defBody s_without) (defScope s_without) .none kV_without dc_without pm_without an_without cd_without ct_without), sl_without⟩)
    (c_without : PySem.W.codeIn K cd_without "without" = true)
    (k_without : PySem.W.keepIn K (.ref f_without) = true)
    (n_determinant : PySem.W.nsIn K mainGlobals "determinant" = some (some (.ref f_determinant)))
    (l_determinant : K.lookup f_determinant = some ⟨oc_determinant, od_determinant, .func (PySem.W.fnOf "determinant" "determinant" (defArgs s_determinant) (defBody s_determinant) (defScope s_determinant) .none kV_determinant dc_determinant pm_determinant an_determinant cd_determinant ct_determinant), sl_determinant⟩)
    (c_determinant : PySem.W.codeIn K cd_determinant "determinant" = true)
    (k_determinant : PySem.W.keepIn K (.ref f_determinant) = true)
    (n_joined : PySem.W.nsIn K mainGlobals "joined" = some (some (.ref f_joined)))
    (l_joined : K.lookup f_joined = some ⟨oc_joined, od_joined, .func (PySem.W.fnOf "joined" "joined" (defArgs s_joined) (defBody s_joined) (defScope s_joined) .none kV_joined dc_joined pm_joined an_joined cd_joined ct_joined), sl_joined⟩)
    (c_joined : PySem.W.codeIn K cd_joined "joined" = true)
    (k_joined : PySem.W.keepIn K (.ref f_joined) = true)
    (n_deed : PySem.W.nsIn K mainGlobals "deed" = some (some (.ref f_deed)))
    (l_deed : K.lookup f_deed = some ⟨oc_deed, od_deed, .func (PySem.W.fnOf "deed" "deed" (defArgs s_deed) (defBody s_deed) (defScope s_deed) .none kV_deed dc_deed pm_deed an_deed cd_deed ct_deed), sl_deed⟩)
    (c_deed : PySem.W.codeIn K cd_deed "deed" = true)
    (k_deed : PySem.W.keepIn K (.ref f_deed) = true)
    (n_still : PySem.W.nsIn K mainGlobals "still" = some (some (.ref f_still)))
    (l_still : K.lookup f_still = some ⟨oc_still, od_still, .func (PySem.W.fnOf "still" "still" (defArgs s_still) (defBody s_still) (defScope s_still) .none kV_still dc_still pm_still an_still cd_still ct_still), sl_still⟩)
    (c_still : PySem.W.codeIn K cd_still "still" = true)
    (k_still : PySem.W.keepIn K (.ref f_still) = true)
    (n_moved : PySem.W.nsIn K mainGlobals "moved" = some (some (.ref f_moved)))
    (l_moved : K.lookup f_moved = some ⟨oc_moved, od_moved, .func (PySem.W.fnOf "moved" "moved" (defArgs s_moved) (defBody s_moved) (defScope s_moved) .none kV_moved dc_moved pm_moved an_moved cd_moved ct_moved), sl_moved⟩)
    (c_moved : PySem.W.codeIn K cd_moved "moved" = true)
    (k_moved : PySem.W.keepIn K (.ref f_moved) = true)
    (n_behind : PySem.W.nsIn K mainGlobals "behind" = some (some (.ref f_behind)))
    (l_behind : K.lookup f_behind = some ⟨oc_behind, od_behind, .func (PySem.W.fnOf "behind" "behind" (defArgs s_behind) (defBody s_behind) (defScope s_behind) .none kV_behind dc_behind pm_behind an_behind cd_behind ct_behind), sl_behind⟩)
    (c_behind : PySem.W.codeIn K cd_behind "behind" = true)
    (k_behind : PySem.W.keepIn K (.ref f_behind) = true)
    (n_again : PySem.W.nsIn K mainGlobals "again" = some (some (.ref f_again)))
    (l_again : K.lookup f_again = some ⟨oc_again, od_again, .func (PySem.W.fnOf "again" "again" (defArgs s_again) (defBody s_again) (defScope s_again) .none kV_again dc_again pm_again an_again cd_again ct_again), sl_again⟩)
    (c_again : PySem.W.codeIn K cd_again "again" = true)
    (k_again : PySem.W.keepIn K (.ref f_again) = true)
    (n_span : PySem.W.nsIn K mainGlobals "span" = some (some (.ref f_span)))
    (l_span : K.lookup f_span = some ⟨oc_span, od_span, .func (PySem.W.fnOf "span" "span" (defArgs s_span) (defBody s_span) (defScope s_span) .none kV_span dc_span pm_span an_span cd_span ct_span), sl_span⟩)
    (c_span : PySem.W.codeIn K cd_span "span" = true)
    (k_span : PySem.W.keepIn K (.ref f_span) = true)
    (n_signs_turned : PySem.W.nsIn K mainGlobals "signs_turned" = some (some (.ref f_signs_turned)))
    (l_signs_turned : K.lookup f_signs_turned = some ⟨oc_signs_turned, od_signs_turned, .func (PySem.W.fnOf "signs_turned" "signs_turned" (defArgs s_signs_turned) (defBody s_signs_turned) (defScope s_signs_turned) .none kV_signs_turned dc_signs_turned pm_signs_turned an_signs_turned cd_signs_turned ct_signs_turned), sl_signs_turned⟩)
    (c_signs_turned : PySem.W.codeIn K cd_signs_turned "signs_turned" = true)
    (k_signs_turned : PySem.W.keepIn K (.ref f_signs_turned) = true)
    (n_fold_of : PySem.W.nsIn K mainGlobals "fold_of" = some (some (.ref f_fold_of)))
    (l_fold_of : K.lookup f_fold_of = some ⟨oc_fold_of, od_fold_of, .func (PySem.W.fnOf "fold_of" "fold_of" (defArgs s_fold_of) (defBody s_fold_of) (defScope s_fold_of) .none kV_fold_of dc_fold_of pm_fold_of an_fold_of cd_fold_of ct_fold_of), sl_fold_of⟩)
    (c_fold_of : PySem.W.codeIn K cd_fold_of "fold_of" = true)
    (k_fold_of : PySem.W.keepIn K (.ref f_fold_of) = true)
    (n_slide_of : PySem.W.nsIn K mainGlobals "slide_of" = some (some (.ref f_slide_of)))
    (l_slide_of : K.lookup f_slide_of = some ⟨oc_slide_of, od_slide_of, .func (PySem.W.fnOf "slide_of" "slide_of" (defArgs s_slide_of) (defBody s_slide_of) (defScope s_slide_of) .none kV_slide_of dc_slide_of pm_slide_of an_slide_of cd_slide_of ct_slide_of), sl_slide_of⟩)
    (c_slide_of : PySem.W.codeIn K cd_slide_of "slide_of" = true)
    (k_slide_of : PySem.W.keepIn K (.ref f_slide_of) = true)
    (n_is_nought : PySem.W.nsIn K mainGlobals "is_nought" = some (some (.ref f_is_nought)))
    (l_is_nought : K.lookup f_is_nought = some ⟨oc_is_nought, od_is_nought, .func (PySem.W.fnOf "is_nought" "is_nought" (defArgs s_is_nought) (defBody s_is_nought) (defScope s_is_nought) .none kV_is_nought dc_is_nought pm_is_nought an_is_nought cd_is_nought ct_is_nought), sl_is_nought⟩)
    (c_is_nought : PySem.W.codeIn K cd_is_nought "is_nought" = true)
    (k_is_nought : PySem.W.keepIn K (.ref f_is_nought) = true)
    (n_Kind___init__ : PySem.W.findIn K (.ref C_Kind) "__init__" = some (some (.ref f_Kind___init__)))
    (l_Kind___init__ : K.lookup f_Kind___init__ = some ⟨oc_Kind___init__, od_Kind___init__, .func (PySem.W.fnOf "__init__" "Kind.__init__" (defArgs s_Kind___init__) (defBody s_Kind___init__) (defScope s_Kind___init__) .none kV_Kind___init__ dc_Kind___init__ pm_Kind___init__ an_Kind___init__ cd_Kind___init__ ct_Kind___init__), sl_Kind___init__⟩)
    (c_Kind___init__ : PySem.W.codeIn K cd_Kind___init__ "Kind.__init__" = true)
    (k_Kind___init__ : PySem.W.keepIn K (.ref f_Kind___init__) = true)
    (n_Kind_fold : PySem.W.findIn K (.ref C_Kind) "fold" = some (some (.ref f_Kind_fold)))
    (l_Kind_fold : K.lookup f_Kind_fold = some ⟨oc_Kind_fold, od_Kind_fold, .func (PySem.W.fnOf "fold" "Kind.fold" (defArgs s_Kind_fold) (defBody s_Kind_fold) (defScope s_Kind_fold) .none kV_Kind_fold dc_Kind_fold pm_Kind_fold an_Kind_fold cd_Kind_fold ct_Kind_fold), sl_Kind_fold⟩)
    (c_Kind_fold : PySem.W.codeIn K cd_Kind_fold "Kind.fold" = true)
    (k_Kind_fold : PySem.W.keepIn K (.ref f_Kind_fold) = true)
    (n_Kind_order : PySem.W.findIn K (.ref C_Kind) "order" = some (some (.ref f_Kind_order)))
    (l_Kind_order : K.lookup f_Kind_order = some ⟨oc_Kind_order, od_Kind_order, .func (PySem.W.fnOf "order" "Kind.order" (defArgs s_Kind_order) (defBody s_Kind_order) (defScope s_Kind_order) .none kV_Kind_order dc_Kind_order pm_Kind_order an_Kind_order cd_Kind_order ct_Kind_order), sl_Kind_order⟩)
    (c_Kind_order : PySem.W.codeIn K cd_Kind_order "Kind.order" = true)
    (k_Kind_order : PySem.W.keepIn K (.ref f_Kind_order) = true)
    (n_Kind_slide : PySem.W.findIn K (.ref C_Kind) "slide" = some (some (.ref f_Kind_slide)))
    (l_Kind_slide : K.lookup f_Kind_slide = some ⟨oc_Kind_slide, od_Kind_slide, .func (PySem.W.fnOf "slide" "Kind.slide" (defArgs s_Kind_slide) (defBody s_Kind_slide) (defScope s_Kind_slide) .none kV_Kind_slide dc_Kind_slide pm_Kind_slide an_Kind_slide cd_Kind_slide ct_Kind_slide), sl_Kind_slide⟩)
    (c_Kind_slide : PySem.W.codeIn K cd_Kind_slide "Kind.slide" = true)
    (k_Kind_slide : PySem.W.keepIn K (.ref f_Kind_slide) = true)
    (n_Still_word : PySem.W.findIn K (.ref C_Still) "word" = some (some (.ref f_Still_word)))
    (l_Still_word : K.lookup f_Still_word = some ⟨oc_Still_word, od_Still_word, .func (PySem.W.fnOf "word" "Still.word" (defArgs s_Still_word) (defBody s_Still_word) (defScope s_Still_word) .none kV_Still_word dc_Still_word pm_Still_word an_Still_word cd_Still_word ct_Still_word), sl_Still_word⟩)
    (c_Still_word : PySem.W.codeIn K cd_Still_word "Still.word" = true)
    (k_Still_word : PySem.W.keepIn K (.ref f_Still_word) = true)
    (n_Move_word : PySem.W.findIn K (.ref C_Move) "word" = some (some (.ref f_Move_word)))
    (l_Move_word : K.lookup f_Move_word = some ⟨oc_Move_word, od_Move_word, .func (PySem.W.fnOf "word" "Move.word" (defArgs s_Move_word) (defBody s_Move_word) (defScope s_Move_word) .none kV_Move_word dc_Move_word pm_Move_word an_Move_word cd_Move_word ct_Move_word), sl_Move_word⟩)
    (c_Move_word : PySem.W.codeIn K cd_Move_word "Move.word" = true)
    (k_Move_word : PySem.W.keepIn K (.ref f_Move_word) = true)
    (n_Turn_word : PySem.W.findIn K (.ref C_Turn) "word" = some (some (.ref f_Turn_word)))
    (l_Turn_word : K.lookup f_Turn_word = some ⟨oc_Turn_word, od_Turn_word, .func (PySem.W.fnOf "word" "Turn.word" (defArgs s_Turn_word) (defBody s_Turn_word) (defScope s_Turn_word) .none kV_Turn_word dc_Turn_word pm_Turn_word an_Turn_word cd_Turn_word ct_Turn_word), sl_Turn_word⟩)
    (c_Turn_word : PySem.W.codeIn K cd_Turn_word "Turn.word" = true)
    (k_Turn_word : PySem.W.keepIn K (.ref f_Turn_word) = true)
    (n_Screw_word : PySem.W.findIn K (.ref C_Screw) "word" = some (some (.ref f_Screw_word)))
    (l_Screw_word : K.lookup f_Screw_word = some ⟨oc_Screw_word, od_Screw_word, .func (PySem.W.fnOf "word" "Screw.word" (defArgs s_Screw_word) (defBody s_Screw_word) (defScope s_Screw_word) .none kV_Screw_word dc_Screw_word pm_Screw_word an_Screw_word cd_Screw_word ct_Screw_word), sl_Screw_word⟩)
    (c_Screw_word : PySem.W.codeIn K cd_Screw_word "Screw.word" = true)
    (k_Screw_word : PySem.W.keepIn K (.ref f_Screw_word) = true)
    (n_Mirror_word : PySem.W.findIn K (.ref C_Mirror) "word" = some (some (.ref f_Mirror_word)))
    (l_Mirror_word : K.lookup f_Mirror_word = some ⟨oc_Mirror_word, od_Mirror_word, .func (PySem.W.fnOf "word" "Mirror.word" (defArgs s_Mirror_word) (defBody s_Mirror_word) (defScope s_Mirror_word) .none kV_Mirror_word dc_Mirror_word pm_Mirror_word an_Mirror_word cd_Mirror_word ct_Mirror_word), sl_Mirror_word⟩)
    (c_Mirror_word : PySem.W.codeIn K cd_Mirror_word "Mirror.word" = true)
    (k_Mirror_word : PySem.W.keepIn K (.ref f_Mirror_word) = true)
    (n_Slide_word : PySem.W.findIn K (.ref C_Slide) "word" = some (some (.ref f_Slide_word)))
    (l_Slide_word : K.lookup f_Slide_word = some ⟨oc_Slide_word, od_Slide_word, .func (PySem.W.fnOf "word" "Slide.word" (defArgs s_Slide_word) (defBody s_Slide_word) (defScope s_Slide_word) .none kV_Slide_word dc_Slide_word pm_Slide_word an_Slide_word cd_Slide_word ct_Slide_word), sl_Slide_word⟩)
    (c_Slide_word : PySem.W.codeIn K cd_Slide_word "Slide.word" = true)
    (k_Slide_word : PySem.W.keepIn K (.ref f_Slide_word) = true)
    (n_Point_word : PySem.W.findIn K (.ref C_Point) "word" = some (some (.ref f_Point_word)))
    (l_Point_word : K.lookup f_Point_word = some ⟨oc_Point_word, od_Point_word, .func (PySem.W.fnOf "word" "Point.word" (defArgs s_Point_word) (defBody s_Point_word) (defScope s_Point_word) .none kV_Point_word dc_Point_word pm_Point_word an_Point_word cd_Point_word ct_Point_word), sl_Point_word⟩)
    (c_Point_word : PySem.W.codeIn K cd_Point_word "Point.word" = true)
    (k_Point_word : PySem.W.keepIn K (.ref f_Point_word) = true)
    (n_Twist_word : PySem.W.findIn K (.ref C_Twist) "word" = some (some (.ref f_Twist_word)))
    (l_Twist_word : K.lookup f_Twist_word = some ⟨oc_Twist_word, od_Twist_word, .func (PySem.W.fnOf "word" "Twist.word" (defArgs s_Twist_word) (defBody s_Twist_word) (defScope s_Twist_word) .none kV_Twist_word dc_Twist_word pm_Twist_word an_Twist_word cd_Twist_word ct_Twist_word), sl_Twist_word⟩)
    (c_Twist_word : PySem.W.codeIn K cd_Twist_word "Twist.word" = true)
    (k_Twist_word : PySem.W.keepIn K (.ref f_Twist_word) = true)
    (n_Endless_word : PySem.W.findIn K (.ref C_Endless) "word" = some (some (.ref f_Endless_word)))
    (l_Endless_word : K.lookup f_Endless_word = some ⟨oc_Endless_word, od_Endless_word, .func (PySem.W.fnOf "word" "Endless.word" (defArgs s_Endless_word) (defBody s_Endless_word) (defScope s_Endless_word) .none kV_Endless_word dc_Endless_word pm_Endless_word an_Endless_word cd_Endless_word ct_Endless_word), sl_Endless_word⟩)
    (c_Endless_word : PySem.W.codeIn K cd_Endless_word "Endless.word" = true)
    (k_Endless_word : PySem.W.keepIn K (.ref f_Endless_word) = true)
    (n_kind_of : PySem.W.nsIn K mainGlobals "kind_of" = some (some (.ref f_kind_of)))
    (l_kind_of : K.lookup f_kind_of = some ⟨oc_kind_of, od_kind_of, .func (PySem.W.fnOf "kind_of" "kind_of" (defArgs s_kind_of) (defBody s_kind_of) (defScope s_kind_of) .none kV_kind_of dc_kind_of pm_kind_of an_kind_of cd_kind_of ct_kind_of), sl_kind_of⟩)
    (c_kind_of : PySem.W.codeIn K cd_kind_of "kind_of" = true)
    (k_kind_of : PySem.W.keepIn K (.ref f_kind_of) = true)
    (n_unmirrored : PySem.W.nsIn K mainGlobals "unmirrored" = some (some (.ref f_unmirrored)))
    (l_unmirrored : K.lookup f_unmirrored = some ⟨oc_unmirrored, od_unmirrored, .func (PySem.W.fnOf "unmirrored" "unmirrored" (defArgs s_unmirrored) (defBody s_unmirrored) (defScope s_unmirrored) .none kV_unmirrored dc_unmirrored pm_unmirrored an_unmirrored cd_unmirrored ct_unmirrored), sl_unmirrored⟩)
    (c_unmirrored : PySem.W.codeIn K cd_unmirrored "unmirrored" = true)
    (k_unmirrored : PySem.W.keepIn K (.ref f_unmirrored) = true)
    (n_mirrored : PySem.W.nsIn K mainGlobals "mirrored" = some (some (.ref f_mirrored)))
    (l_mirrored : K.lookup f_mirrored = some ⟨oc_mirrored, od_mirrored, .func (PySem.W.fnOf "mirrored" "mirrored" (defArgs s_mirrored) (defBody s_mirrored) (defScope s_mirrored) .none kV_mirrored dc_mirrored pm_mirrored an_mirrored cd_mirrored ct_mirrored), sl_mirrored⟩)
    (c_mirrored : PySem.W.codeIn K cd_mirrored "mirrored" = true)
    (k_mirrored : PySem.W.keepIn K (.ref f_mirrored) = true)
    (n_law_cell_at : PySem.W.nsIn K mainGlobals "_law_cell_at" = some (some (.ref f_law_cell_at)))
    (l_law_cell_at : K.lookup f_law_cell_at = some ⟨oc_law_cell_at, od_law_cell_at, .func (PySem.W.fnOf "_law_cell_at" "_law_cell_at" (defArgs s_law_cell_at) (defBody s_law_cell_at) (defScope s_law_cell_at) .none kV_law_cell_at dc_law_cell_at pm_law_cell_at an_law_cell_at cd_law_cell_at ct_law_cell_at), sl_law_cell_at⟩)
    (c_law_cell_at : PySem.W.codeIn K cd_law_cell_at "_law_cell_at" = true)
    (k_law_cell_at : PySem.W.keepIn K (.ref f_law_cell_at) = true)
    (n_law_whole : PySem.W.nsIn K mainGlobals "_law_whole" = some (some (.ref f_law_whole)))
    (l_law_whole : K.lookup f_law_whole = some ⟨oc_law_whole, od_law_whole, .func (PySem.W.fnOf "_law_whole" "_law_whole" (defArgs s_law_whole) (defBody s_law_whole) (defScope s_law_whole) .none kV_law_whole dc_law_whole pm_law_whole an_law_whole cd_law_whole ct_law_whole), sl_law_whole⟩)
    (c_law_whole : PySem.W.codeIn K cd_law_whole "_law_whole" = true)
    (k_law_whole : PySem.W.keepIn K (.ref f_law_whole) = true)
    (n_law_shared : PySem.W.nsIn K mainGlobals "_law_shared" = some (some (.ref f_law_shared)))
    (l_law_shared : K.lookup f_law_shared = some ⟨oc_law_shared, od_law_shared, .func (PySem.W.fnOf "_law_shared" "_law_shared" (defArgs s_law_shared) (defBody s_law_shared) (defScope s_law_shared) .none kV_law_shared dc_law_shared pm_law_shared an_law_shared cd_law_shared ct_law_shared), sl_law_shared⟩)
    (c_law_shared : PySem.W.codeIn K cd_law_shared "_law_shared" = true)
    (k_law_shared : PySem.W.keepIn K (.ref f_law_shared) = true)
    (n_law_place : PySem.W.nsIn K mainGlobals "_law_place" = some (some (.ref f_law_place)))
    (l_law_place : K.lookup f_law_place = some ⟨oc_law_place, od_law_place, .func (PySem.W.fnOf "_law_place" "_law_place" (defArgs s_law_place) (defBody s_law_place) (defScope s_law_place) .none kV_law_place dc_law_place pm_law_place an_law_place cd_law_place ct_law_place), sl_law_place⟩)
    (c_law_place : PySem.W.codeIn K cd_law_place "_law_place" = true)
    (k_law_place : PySem.W.keepIn K (.ref f_law_place) = true)
    (n_law_first : PySem.W.nsIn K mainGlobals "_law_first" = some (some (.ref f_law_first)))
    (l_law_first : K.lookup f_law_first = some ⟨oc_law_first, od_law_first, .func (PySem.W.fnOf "_law_first" "_law_first" (defArgs s_law_first) (defBody s_law_first) (defScope s_law_first) .none kV_law_first dc_law_first pm_law_first an_law_first cd_law_first ct_law_first), sl_law_first⟩)
    (c_law_first : PySem.W.codeIn K cd_law_first "_law_first" = true)
    (k_law_first : PySem.W.keepIn K (.ref f_law_first) = true)
    (n_law_added : PySem.W.nsIn K mainGlobals "_law_added" = some (some (.ref f_law_added)))
    (l_law_added : K.lookup f_law_added = some ⟨oc_law_added, od_law_added, .func (PySem.W.fnOf "_law_added" "_law_added" (defArgs s_law_added) (defBody s_law_added) (defScope s_law_added) .none kV_law_added dc_law_added pm_law_added an_law_added cd_law_added ct_law_added), sl_law_added⟩)
    (c_law_added : PySem.W.codeIn K cd_law_added "_law_added" = true)
    (k_law_added : PySem.W.keepIn K (.ref f_law_added) = true)
    (n_law_led : PySem.W.nsIn K mainGlobals "_law_led" = some (some (.ref f_law_led)))
    (l_law_led : K.lookup f_law_led = some ⟨oc_law_led, od_law_led, .func (PySem.W.fnOf "_law_led" "_law_led" (defArgs s_law_led) (defBody s_law_led) (defScope s_law_led) .none kV_law_led dc_law_led pm_law_led an_law_led cd_law_led ct_law_led), sl_law_led⟩)
    (c_law_led : PySem.W.codeIn K cd_law_led "_law_led" = true)
    (k_law_led : PySem.W.keepIn K (.ref f_law_led) = true)
    (n_law_tops : PySem.W.nsIn K mainGlobals "_law_tops" = some (some (.ref f_law_tops)))
    (l_law_tops : K.lookup f_law_tops = some ⟨oc_law_tops, od_law_tops, .func (PySem.W.fnOf "_law_tops" "_law_tops" (defArgs s_law_tops) (defBody s_law_tops) (defScope s_law_tops) .none kV_law_tops dc_law_tops pm_law_tops an_law_tops cd_law_tops ct_law_tops), sl_law_tops⟩)
    (c_law_tops : PySem.W.codeIn K cd_law_tops "_law_tops" = true)
    (k_law_tops : PySem.W.keepIn K (.ref f_law_tops) = true)
    (n_law_deed : PySem.W.nsIn K mainGlobals "_law_deed" = some (some (.ref f_law_deed)))
    (l_law_deed : K.lookup f_law_deed = some ⟨oc_law_deed, od_law_deed, .func (PySem.W.fnOf "_law_deed" "_law_deed" (defArgs s_law_deed) (defBody s_law_deed) (defScope s_law_deed) .none kV_law_deed dc_law_deed pm_law_deed an_law_deed cd_law_deed ct_law_deed), sl_law_deed⟩)
    (c_law_deed : PySem.W.codeIn K cd_law_deed "_law_deed" = true)
    (k_law_deed : PySem.W.keepIn K (.ref f_law_deed) = true)
    (n_law_times : PySem.W.nsIn K mainGlobals "_law_times" = some (some (.ref f_law_times)))
    (l_law_times : K.lookup f_law_times = some ⟨oc_law_times, od_law_times, .func (PySem.W.fnOf "_law_times" "_law_times" (defArgs s_law_times) (defBody s_law_times) (defScope s_law_times) .none kV_law_times dc_law_times pm_law_times an_law_times cd_law_times ct_law_times), sl_law_times⟩)
    (c_law_times : PySem.W.codeIn K cd_law_times "_law_times" = true)
    (k_law_times : PySem.W.keepIn K (.ref f_law_times) = true)
    (n_law_rests : PySem.W.nsIn K mainGlobals "_law_rests" = some (some (.ref f_law_rests)))
    (l_law_rests : K.lookup f_law_rests = some ⟨oc_law_rests, od_law_rests, .func (PySem.W.fnOf "_law_rests" "_law_rests" (defArgs s_law_rests) (defBody s_law_rests) (defScope s_law_rests) .none kV_law_rests dc_law_rests pm_law_rests an_law_rests cd_law_rests ct_law_rests), sl_law_rests⟩)
    (c_law_rests : PySem.W.codeIn K cd_law_rests "_law_rests" = true)
    (k_law_rests : PySem.W.keepIn K (.ref f_law_rests) = true)
    (n_law_span : PySem.W.nsIn K mainGlobals "_law_span" = some (some (.ref f_law_span)))
    (l_law_span : K.lookup f_law_span = some ⟨oc_law_span, od_law_span, .func (PySem.W.fnOf "_law_span" "_law_span" (defArgs s_law_span) (defBody s_law_span) (defScope s_law_span) .none kV_law_span dc_law_span pm_law_span an_law_span cd_law_span ct_law_span), sl_law_span⟩)
    (c_law_span : PySem.W.codeIn K cd_law_span "_law_span" = true)
    (k_law_span : PySem.W.keepIn K (.ref f_law_span) = true)
    (n_law_determinant : PySem.W.nsIn K mainGlobals "_law_determinant" = some (some (.ref f_law_determinant)))
    (l_law_determinant : K.lookup f_law_determinant = some ⟨oc_law_determinant, od_law_determinant, .func (PySem.W.fnOf "_law_determinant" "_law_determinant" (defArgs s_law_determinant) (defBody s_law_determinant) (defScope s_law_determinant) .none kV_law_determinant dc_law_determinant pm_law_determinant an_law_determinant cd_law_determinant ct_law_determinant), sl_law_determinant⟩)
    (c_law_determinant : PySem.W.codeIn K cd_law_determinant "_law_determinant" = true)
    (k_law_determinant : PySem.W.keepIn K (.ref f_law_determinant) = true)
    (n_law_slide : PySem.W.nsIn K mainGlobals "_law_slide" = some (some (.ref f_law_slide)))
    (l_law_slide : K.lookup f_law_slide = some ⟨oc_law_slide, od_law_slide, .func (PySem.W.fnOf "_law_slide" "_law_slide" (defArgs s_law_slide) (defBody s_law_slide) (defScope s_law_slide) .none kV_law_slide dc_law_slide pm_law_slide an_law_slide cd_law_slide ct_law_slide), sl_law_slide⟩)
    (c_law_slide : PySem.W.codeIn K cd_law_slide "_law_slide" = true)
    (k_law_slide : PySem.W.keepIn K (.ref f_law_slide) = true)
    (n_law_due : PySem.W.nsIn K mainGlobals "_law_due" = some (some (.ref f_law_due)))
    (l_law_due : K.lookup f_law_due = some ⟨oc_law_due, od_law_due, .func (PySem.W.fnOf "_law_due" "_law_due" (defArgs s_law_due) (defBody s_law_due) (defScope s_law_due) .none kV_law_due dc_law_due pm_law_due an_law_due cd_law_due ct_law_due), sl_law_due⟩)
    (c_law_due : PySem.W.codeIn K cd_law_due "_law_due" = true)
    (k_law_due : PySem.W.keepIn K (.ref f_law_due) = true)
    (n_law_classes : PySem.W.nsIn K mainGlobals "_law_classes" = some (some (.ref f_law_classes)))
    (l_law_classes : K.lookup f_law_classes = some ⟨oc_law_classes, od_law_classes, .func (PySem.W.fnOf "_law_classes" "_law_classes" (defArgs s_law_classes) (defBody s_law_classes) (defScope s_law_classes) .none kV_law_classes dc_law_classes pm_law_classes an_law_classes cd_law_classes ct_law_classes), sl_law_classes⟩)
    (c_law_classes : PySem.W.codeIn K cd_law_classes "_law_classes" = true)
    (k_law_classes : PySem.W.keepIn K (.ref f_law_classes) = true)
    (n_law_called : PySem.W.nsIn K mainGlobals "_law_called" = some (some (.ref f_law_called)))
    (l_law_called : K.lookup f_law_called = some ⟨oc_law_called, od_law_called, .func (PySem.W.fnOf "_law_called" "_law_called" (defArgs s_law_called) (defBody s_law_called) (defScope s_law_called) .none kV_law_called dc_law_called pm_law_called an_law_called cd_law_called ct_law_called), sl_law_called⟩)
    (c_law_called : PySem.W.codeIn K cd_law_called "_law_called" = true)
    (k_law_called : PySem.W.keepIn K (.ref f_law_called) = true)
    (n_law_slides : PySem.W.nsIn K mainGlobals "_law_slides" = some (some (.ref f_law_slides)))
    (l_law_slides : K.lookup f_law_slides = some ⟨oc_law_slides, od_law_slides, .func (PySem.W.fnOf "_law_slides" "_law_slides" (defArgs s_law_slides) (defBody s_law_slides) (defScope s_law_slides) .none kV_law_slides dc_law_slides pm_law_slides an_law_slides cd_law_slides ct_law_slides), sl_law_slides⟩)
    (c_law_slides : PySem.W.codeIn K cd_law_slides "_law_slides" = true)
    (k_law_slides : PySem.W.keepIn K (.ref f_law_slides) = true)
    (n_law_told : PySem.W.nsIn K mainGlobals "_law_told" = some (some (.ref f_law_told)))
    (l_law_told : K.lookup f_law_told = some ⟨oc_law_told, od_law_told, .func (PySem.W.fnOf "_law_told" "_law_told" (defArgs s_law_told) (defBody s_law_told) (defScope s_law_told) .none kV_law_told dc_law_told pm_law_told an_law_told cd_law_told ct_law_told), sl_law_told⟩)
    (c_law_told : PySem.W.codeIn K cd_law_told "_law_told" = true)
    (k_law_told : PySem.W.keepIn K (.ref f_law_told) = true)
    (n_law : PySem.W.nsIn K mainGlobals "law" = some (some (.ref f_law)))
    (l_law : K.lookup f_law = some ⟨oc_law, od_law, .func (PySem.W.fnOf "law" "law" (defArgs s_law) (defBody s_law) (defScope s_law) .none kV_law dc_law pm_law an_law cd_law ct_law), sl_law⟩)
    (c_law : PySem.W.codeIn K cd_law "law" = true)
    (k_law : PySem.W.keepIn K (.ref f_law) = true)
    (n_MOST_TIMES : PySem.W.nsIn K mainGlobals "MOST_TIMES" = some (some (.int 200 tk_MOST_TIMES)))
    (n_LONGEST_SPAN : PySem.W.nsIn K mainGlobals "LONGEST_SPAN" = some (some (.int 6 tk_LONGEST_SPAN)))
    (y_any : PySem.W.nsIn K mainGlobals "any" = some none)
    (y_sum : PySem.W.nsIn K mainGlobals "sum" = some none)
    (y_zip : PySem.W.nsIn K mainGlobals "zip" = some none)
    (y_enumerate : PySem.W.nsIn K mainGlobals "enumerate" = some none)
    (y_range : PySem.W.nsIn K mainGlobals "range" = some none)
    (y_len : PySem.W.nsIn K mainGlobals "len" = some none)
    (y_abs : PySem.W.nsIn K mainGlobals "abs" = some none)
    (y_isinstance : PySem.W.nsIn K mainGlobals "isinstance" = some none)
    (y_int : PySem.W.nsIn K mainGlobals "int" = some none)
    (y_bool : PySem.W.nsIn K mainGlobals "bool" = some none)
    (y_list : PySem.W.nsIn K mainGlobals "list" = some none)
    (y_tuple : PySem.W.nsIn K mainGlobals "tuple" = some none)
    (y_str : PySem.W.nsIn K mainGlobals "str" = some none)
    (q_k_int : PySem.W.kitOne K (.type "int") (.type "int") = some true)
    (q_k_ib : PySem.W.kitOne K (.type "int") (.type "bool") = some false)
    (q_k_tt : PySem.W.kitOne K (.type "tuple") (.type "tuple") = some true)
    (q_k_ss : PySem.W.kitOne K (.type "str") (.type "str") = some true)
    (q_x_NoPlace : PySem.W.excIn K C_NoPlace [.type "ValueError", .type "Exception", .type "BaseException", .type "object"] "ValueError.__new__" = true)
    (q_x_NoDeed : PySem.W.excIn K C_NoDeed [.type "ValueError", .type "Exception", .type "BaseException", .type "object"] "ValueError.__new__" = true)
    (q_x_NoNumber : PySem.W.excIn K C_NoNumber [.type "ValueError", .type "Exception", .type "BaseException", .type "object"] "ValueError.__new__" = true)
    (q_e_cg : PySem.W.specialIn K (.builtin "object.__class__") "__get__" = some (some (.builtin "getset_descriptor.__get__")))
    (q_e_tk : PySem.W.takesIn K (.builtin "object.__class__") = some true)
    (q_cl_Still : L2.Cls K C_Still)
    (q_mk_Still : L2.Mk K C_Still f_Kind___init__)
    (q_no_Still : PySem.W.findIn K (.ref C_Still) "one" = some none)
    (q_me_Still_word : L2.Meth K C_Still "word" f_Still_word)
    (q_me_Still_fold : L2.Meth K C_Still "fold" f_Kind_fold)
    (q_me_Still_order : L2.Meth K C_Still "order" f_Kind_order)
    (q_me_Still_slide : L2.Meth K C_Still "slide" f_Kind_slide)
    (q_ca_Still : PySem.W.findIn K (.ref C_Still) "__class__" = some (some (.builtin "object.__class__")))
    (q_ob_Still : PySem.W.mroIn K C_Still (.type "object") = some true)
    (q_i_Still_Kind : PySem.W.kitOne K (.ref C_Still) (.ref C_Kind) = some true)
    (q_i_Still_Still : PySem.W.kitOne K (.ref C_Still) (.ref C_Still) = some true)
    (q_i_Still_Move : PySem.W.kitOne K (.ref C_Still) (.ref C_Move) = some false)
    (q_i_Still_Turn : PySem.W.kitOne K (.ref C_Still) (.ref C_Turn) = some false)
    (q_i_Still_Screw : PySem.W.kitOne K (.ref C_Still) (.ref C_Screw) = some false)
    (q_i_Still_Mirror : PySem.W.kitOne K (.ref C_Still) (.ref C_Mirror) = some false)
    (q_i_Still_Slide : PySem.W.kitOne K (.ref C_Still) (.ref C_Slide) = some false)
    (q_i_Still_Point : PySem.W.kitOne K (.ref C_Still) (.ref C_Point) = some false)
    (q_i_Still_Twist : PySem.W.kitOne K (.ref C_Still) (.ref C_Twist) = some false)
    (q_i_Still_Endless : PySem.W.kitOne K (.ref C_Still) (.ref C_Endless) = some false)
    (q_cl_Move : L2.Cls K C_Move)
    (q_mk_Move : L2.Mk K C_Move f_Kind___init__)
    (q_no_Move : PySem.W.findIn K (.ref C_Move) "one" = some none)
    (q_me_Move_word : L2.Meth K C_Move "word" f_Move_word)
    (q_me_Move_fold : L2.Meth K C_Move "fold" f_Kind_fold)
    (q_me_Move_order : L2.Meth K C_Move "order" f_Kind_order)
    (q_me_Move_slide : L2.Meth K C_Move "slide" f_Kind_slide)
    (q_ca_Move : PySem.W.findIn K (.ref C_Move) "__class__" = some (some (.builtin "object.__class__")))
    (q_ob_Move : PySem.W.mroIn K C_Move (.type "object") = some true)
    (q_i_Move_Kind : PySem.W.kitOne K (.ref C_Move) (.ref C_Kind) = some true)
    (q_i_Move_Still : PySem.W.kitOne K (.ref C_Move) (.ref C_Still) = some false)
    (q_i_Move_Move : PySem.W.kitOne K (.ref C_Move) (.ref C_Move) = some true)
    (q_i_Move_Turn : PySem.W.kitOne K (.ref C_Move) (.ref C_Turn) = some false)
    (q_i_Move_Screw : PySem.W.kitOne K (.ref C_Move) (.ref C_Screw) = some false)
    (q_i_Move_Mirror : PySem.W.kitOne K (.ref C_Move) (.ref C_Mirror) = some false)
    (q_i_Move_Slide : PySem.W.kitOne K (.ref C_Move) (.ref C_Slide) = some false)
    (q_i_Move_Point : PySem.W.kitOne K (.ref C_Move) (.ref C_Point) = some false)
    (q_i_Move_Twist : PySem.W.kitOne K (.ref C_Move) (.ref C_Twist) = some false)
    (q_i_Move_Endless : PySem.W.kitOne K (.ref C_Move) (.ref C_Endless) = some false)
    (q_cl_Turn : L2.Cls K C_Turn)
    (q_mk_Turn : L2.Mk K C_Turn f_Kind___init__)
    (q_no_Turn : PySem.W.findIn K (.ref C_Turn) "one" = some none)
    (q_me_Turn_word : L2.Meth K C_Turn "word" f_Turn_word)
    (q_me_Turn_fold : L2.Meth K C_Turn "fold" f_Kind_fold)
    (q_me_Turn_order : L2.Meth K C_Turn "order" f_Kind_order)
    (q_me_Turn_slide : L2.Meth K C_Turn "slide" f_Kind_slide)
    (q_ca_Turn : PySem.W.findIn K (.ref C_Turn) "__class__" = some (some (.builtin "object.__class__")))
    (q_ob_Turn : PySem.W.mroIn K C_Turn (.type "object") = some true)
    (q_i_Turn_Kind : PySem.W.kitOne K (.ref C_Turn) (.ref C_Kind) = some true)
    (q_i_Turn_Still : PySem.W.kitOne K (.ref C_Turn) (.ref C_Still) = some false)
    (q_i_Turn_Move : PySem.W.kitOne K (.ref C_Turn) (.ref C_Move) = some false)
    (q_i_Turn_Turn : PySem.W.kitOne K (.ref C_Turn) (.ref C_Turn) = some true)
    (q_i_Turn_Screw : PySem.W.kitOne K (.ref C_Turn) (.ref C_Screw) = some false)
    (q_i_Turn_Mirror : PySem.W.kitOne K (.ref C_Turn) (.ref C_Mirror) = some false)
    (q_i_Turn_Slide : PySem.W.kitOne K (.ref C_Turn) (.ref C_Slide) = some false)
    (q_i_Turn_Point : PySem.W.kitOne K (.ref C_Turn) (.ref C_Point) = some false)
    (q_i_Turn_Twist : PySem.W.kitOne K (.ref C_Turn) (.ref C_Twist) = some false)
    (q_i_Turn_Endless : PySem.W.kitOne K (.ref C_Turn) (.ref C_Endless) = some false)
    (q_cl_Screw : L2.Cls K C_Screw)
    (q_mk_Screw : L2.Mk K C_Screw f_Kind___init__)
    (q_no_Screw : PySem.W.findIn K (.ref C_Screw) "one" = some none)
    (q_me_Screw_word : L2.Meth K C_Screw "word" f_Screw_word)
    (q_me_Screw_fold : L2.Meth K C_Screw "fold" f_Kind_fold)
    (q_me_Screw_order : L2.Meth K C_Screw "order" f_Kind_order)
    (q_me_Screw_slide : L2.Meth K C_Screw "slide" f_Kind_slide)
    (q_ca_Screw : PySem.W.findIn K (.ref C_Screw) "__class__" = some (some (.builtin "object.__class__")))
    (q_ob_Screw : PySem.W.mroIn K C_Screw (.type "object") = some true)
    (q_i_Screw_Kind : PySem.W.kitOne K (.ref C_Screw) (.ref C_Kind) = some true)
    (q_i_Screw_Still : PySem.W.kitOne K (.ref C_Screw) (.ref C_Still) = some false)
    (q_i_Screw_Move : PySem.W.kitOne K (.ref C_Screw) (.ref C_Move) = some false)
    (q_i_Screw_Turn : PySem.W.kitOne K (.ref C_Screw) (.ref C_Turn) = some false)
    (q_i_Screw_Screw : PySem.W.kitOne K (.ref C_Screw) (.ref C_Screw) = some true)
    (q_i_Screw_Mirror : PySem.W.kitOne K (.ref C_Screw) (.ref C_Mirror) = some false)
    (q_i_Screw_Slide : PySem.W.kitOne K (.ref C_Screw) (.ref C_Slide) = some false)
    (q_i_Screw_Point : PySem.W.kitOne K (.ref C_Screw) (.ref C_Point) = some false)
    (q_i_Screw_Twist : PySem.W.kitOne K (.ref C_Screw) (.ref C_Twist) = some false)
    (q_i_Screw_Endless : PySem.W.kitOne K (.ref C_Screw) (.ref C_Endless) = some false)
    (q_cl_Mirror : L2.Cls K C_Mirror)
    (q_mk_Mirror : L2.Mk K C_Mirror f_Kind___init__)
    (q_no_Mirror : PySem.W.findIn K (.ref C_Mirror) "one" = some none)
    (q_me_Mirror_word : L2.Meth K C_Mirror "word" f_Mirror_word)
    (q_me_Mirror_fold : L2.Meth K C_Mirror "fold" f_Kind_fold)
    (q_me_Mirror_order : L2.Meth K C_Mirror "order" f_Kind_order)
    (q_me_Mirror_slide : L2.Meth K C_Mirror "slide" f_Kind_slide)
    (q_ca_Mirror : PySem.W.findIn K (.ref C_Mirror) "__class__" = some (some (.builtin "object.__class__")))
    (q_ob_Mirror : PySem.W.mroIn K C_Mirror (.type "object") = some true)
    (q_i_Mirror_Kind : PySem.W.kitOne K (.ref C_Mirror) (.ref C_Kind) = some true)
    (q_i_Mirror_Still : PySem.W.kitOne K (.ref C_Mirror) (.ref C_Still) = some false)
    (q_i_Mirror_Move : PySem.W.kitOne K (.ref C_Mirror) (.ref C_Move) = some false)
    (q_i_Mirror_Turn : PySem.W.kitOne K (.ref C_Mirror) (.ref C_Turn) = some false)
    (q_i_Mirror_Screw : PySem.W.kitOne K (.ref C_Mirror) (.ref C_Screw) = some false)
    (q_i_Mirror_Mirror : PySem.W.kitOne K (.ref C_Mirror) (.ref C_Mirror) = some true)
    (q_i_Mirror_Slide : PySem.W.kitOne K (.ref C_Mirror) (.ref C_Slide) = some false)
    (q_i_Mirror_Point : PySem.W.kitOne K (.ref C_Mirror) (.ref C_Point) = some false)
    (q_i_Mirror_Twist : PySem.W.kitOne K (.ref C_Mirror) (.ref C_Twist) = some false)
    (q_i_Mirror_Endless : PySem.W.kitOne K (.ref C_Mirror) (.ref C_Endless) = some false)
    (q_cl_Slide : L2.Cls K C_Slide)
    (q_mk_Slide : L2.Mk K C_Slide f_Kind___init__)
    (q_no_Slide : PySem.W.findIn K (.ref C_Slide) "one" = some none)
    (q_me_Slide_word : L2.Meth K C_Slide "word" f_Slide_word)
    (q_me_Slide_fold : L2.Meth K C_Slide "fold" f_Kind_fold)
    (q_me_Slide_order : L2.Meth K C_Slide "order" f_Kind_order)
    (q_me_Slide_slide : L2.Meth K C_Slide "slide" f_Kind_slide)
    (q_ca_Slide : PySem.W.findIn K (.ref C_Slide) "__class__" = some (some (.builtin "object.__class__")))
    (q_ob_Slide : PySem.W.mroIn K C_Slide (.type "object") = some true)
    (q_i_Slide_Kind : PySem.W.kitOne K (.ref C_Slide) (.ref C_Kind) = some true)
    (q_i_Slide_Still : PySem.W.kitOne K (.ref C_Slide) (.ref C_Still) = some false)
    (q_i_Slide_Move : PySem.W.kitOne K (.ref C_Slide) (.ref C_Move) = some false)
    (q_i_Slide_Turn : PySem.W.kitOne K (.ref C_Slide) (.ref C_Turn) = some false)
    (q_i_Slide_Screw : PySem.W.kitOne K (.ref C_Slide) (.ref C_Screw) = some false)
    (q_i_Slide_Mirror : PySem.W.kitOne K (.ref C_Slide) (.ref C_Mirror) = some false)
    (q_i_Slide_Slide : PySem.W.kitOne K (.ref C_Slide) (.ref C_Slide) = some true)
    (q_i_Slide_Point : PySem.W.kitOne K (.ref C_Slide) (.ref C_Point) = some false)
    (q_i_Slide_Twist : PySem.W.kitOne K (.ref C_Slide) (.ref C_Twist) = some false)
    (q_i_Slide_Endless : PySem.W.kitOne K (.ref C_Slide) (.ref C_Endless) = some false)
    (q_cl_Point : L2.Cls K C_Point)
    (q_mk_Point : L2.Mk K C_Point f_Kind___init__)
    (q_no_Point : PySem.W.findIn K (.ref C_Point) "one" = some none)
    (q_me_Point_word : L2.Meth K C_Point "word" f_Point_word)
    (q_me_Point_fold : L2.Meth K C_Point "fold" f_Kind_fold)
    (q_me_Point_order : L2.Meth K C_Point "order" f_Kind_order)
    (q_me_Point_slide : L2.Meth K C_Point "slide" f_Kind_slide)
    (q_ca_Point : PySem.W.findIn K (.ref C_Point) "__class__" = some (some (.builtin "object.__class__")))
    (q_ob_Point : PySem.W.mroIn K C_Point (.type "object") = some true)
    (q_i_Point_Kind : PySem.W.kitOne K (.ref C_Point) (.ref C_Kind) = some true)
    (q_i_Point_Still : PySem.W.kitOne K (.ref C_Point) (.ref C_Still) = some false)
    (q_i_Point_Move : PySem.W.kitOne K (.ref C_Point) (.ref C_Move) = some false)
    (q_i_Point_Turn : PySem.W.kitOne K (.ref C_Point) (.ref C_Turn) = some false)
    (q_i_Point_Screw : PySem.W.kitOne K (.ref C_Point) (.ref C_Screw) = some false)
    (q_i_Point_Mirror : PySem.W.kitOne K (.ref C_Point) (.ref C_Mirror) = some false)
    (q_i_Point_Slide : PySem.W.kitOne K (.ref C_Point) (.ref C_Slide) = some false)
    (q_i_Point_Point : PySem.W.kitOne K (.ref C_Point) (.ref C_Point) = some true)
    (q_i_Point_Twist : PySem.W.kitOne K (.ref C_Point) (.ref C_Twist) = some false)
    (q_i_Point_Endless : PySem.W.kitOne K (.ref C_Point) (.ref C_Endless) = some false)
    (q_cl_Twist : L2.Cls K C_Twist)
    (q_mk_Twist : L2.Mk K C_Twist f_Kind___init__)
    (q_no_Twist : PySem.W.findIn K (.ref C_Twist) "one" = some none)
    (q_me_Twist_word : L2.Meth K C_Twist "word" f_Twist_word)
    (q_me_Twist_fold : L2.Meth K C_Twist "fold" f_Kind_fold)
    (q_me_Twist_order : L2.Meth K C_Twist "order" f_Kind_order)
    (q_me_Twist_slide : L2.Meth K C_Twist "slide" f_Kind_slide)
    (q_ca_Twist : PySem.W.findIn K (.ref C_Twist) "__class__" = some (some (.builtin "object.__class__")))
    (q_ob_Twist : PySem.W.mroIn K C_Twist (.type "object") = some true)
    (q_i_Twist_Kind : PySem.W.kitOne K (.ref C_Twist) (.ref C_Kind) = some true)
    (q_i_Twist_Still : PySem.W.kitOne K (.ref C_Twist) (.ref C_Still) = some false)
    (q_i_Twist_Move : PySem.W.kitOne K (.ref C_Twist) (.ref C_Move) = some false)
    (q_i_Twist_Turn : PySem.W.kitOne K (.ref C_Twist) (.ref C_Turn) = some false)
    (q_i_Twist_Screw : PySem.W.kitOne K (.ref C_Twist) (.ref C_Screw) = some false)
    (q_i_Twist_Mirror : PySem.W.kitOne K (.ref C_Twist) (.ref C_Mirror) = some false)
    (q_i_Twist_Slide : PySem.W.kitOne K (.ref C_Twist) (.ref C_Slide) = some false)
    (q_i_Twist_Point : PySem.W.kitOne K (.ref C_Twist) (.ref C_Point) = some false)
    (q_i_Twist_Twist : PySem.W.kitOne K (.ref C_Twist) (.ref C_Twist) = some true)
    (q_i_Twist_Endless : PySem.W.kitOne K (.ref C_Twist) (.ref C_Endless) = some false)
    (q_cl_Endless : L2.Cls K C_Endless)
    (q_mk_Endless : L2.Mk K C_Endless f_Kind___init__)
    (q_no_Endless : PySem.W.findIn K (.ref C_Endless) "one" = some none)
    (q_me_Endless_word : L2.Meth K C_Endless "word" f_Endless_word)
    (q_me_Endless_fold : L2.Meth K C_Endless "fold" f_Kind_fold)
    (q_me_Endless_order : L2.Meth K C_Endless "order" f_Kind_order)
    (q_me_Endless_slide : L2.Meth K C_Endless "slide" f_Kind_slide)
    (q_ca_Endless : PySem.W.findIn K (.ref C_Endless) "__class__" = some (some (.builtin "object.__class__")))
    (q_ob_Endless : PySem.W.mroIn K C_Endless (.type "object") = some true)
    (q_i_Endless_Kind : PySem.W.kitOne K (.ref C_Endless) (.ref C_Kind) = some true)
    (q_i_Endless_Still : PySem.W.kitOne K (.ref C_Endless) (.ref C_Still) = some false)
    (q_i_Endless_Move : PySem.W.kitOne K (.ref C_Endless) (.ref C_Move) = some false)
    (q_i_Endless_Turn : PySem.W.kitOne K (.ref C_Endless) (.ref C_Turn) = some false)
    (q_i_Endless_Screw : PySem.W.kitOne K (.ref C_Endless) (.ref C_Screw) = some false)
    (q_i_Endless_Mirror : PySem.W.kitOne K (.ref C_Endless) (.ref C_Mirror) = some false)
    (q_i_Endless_Slide : PySem.W.kitOne K (.ref C_Endless) (.ref C_Slide) = some false)
    (q_i_Endless_Point : PySem.W.kitOne K (.ref C_Endless) (.ref C_Point) = some false)
    (q_i_Endless_Twist : PySem.W.kitOne K (.ref C_Endless) (.ref C_Twist) = some false)
    (q_i_Endless_Endless : PySem.W.kitOne K (.ref C_Endless) (.ref C_Endless) = some true)
    : ∃ t, Txt K mg t := by
  have F_divisor := fun_mk (st := s_divisor) l_divisor c_divisor k_divisor
  have b_divisor := F_divisor.binds (ps := ["one", "other"]) fun _ _ _ _ _ _ us hl => match us, hl with | [_, _], _ => rfl
  have F_place := fun_mk (st := s_place) l_place c_place k_place
  have b_place := F_place.binds (ps := ["tops", "under"]) fun _ _ _ _ _ _ us hl => match us, hl with | [_, _], _ => rfl
  have F_still_rows := fun_mk (st := s_still_rows) l_still_rows c_still_rows k_still_rows
  have b_still_rows := F_still_rows.binds (ps := ["size"]) fun _ _ _ _ _ _ us hl => match us, hl with | [_], _ => rfl
  have F_dot := fun_mk (st := s_dot) l_dot c_dot k_dot
  have b_dot := F_dot.binds (ps := ["one", "other"]) fun _ _ _ _ _ _ us hl => match us, hl with | [_, _], _ => rfl
  have F_turned := fun_mk (st := s_turned) l_turned c_turned k_turned
  have b_turned := F_turned.binds (ps := ["rows"]) fun _ _ _ _ _ _ us hl => match us, hl with | [_], _ => rfl
  have F_times := fun_mk (st := s_times) l_times c_times k_times
  have b_times := F_times.binds (ps := ["one", "other"]) fun _ _ _ _ _ _ us hl => match us, hl with | [_, _], _ => rfl
  have F_without := fun_mk (st := s_without) l_without c_without k_without
  have b_without := F_without.binds (ps := ["rows", "i", "k"]) fun _ _ _ _ _ _ us hl => match us, hl with | [_, _, _], _ => rfl
  have F_determinant := fun_mk (st := s_determinant) l_determinant c_determinant k_determinant
  have b_determinant := F_determinant.binds (ps := ["rows"]) fun _ _ _ _ _ _ us hl => match us, hl with | [_], _ => rfl
  have F_joined := fun_mk (st := s_joined) l_joined c_joined k_joined
  have b_joined := F_joined.binds (ps := ["rows", "spot"]) fun _ _ _ _ _ _ us hl => match us, hl with | [_, _], _ => rfl
  have F_deed := fun_mk (st := s_deed) l_deed c_deed k_deed
  have b_deed := F_deed.binds (ps := ["rows", "tops", "under"]) fun _ _ _ _ _ _ us hl => match us, hl with | [_, _, _], _ => rfl
  have F_still := fun_mk (st := s_still) l_still c_still k_still
  have b_still := F_still.binds (ps := ["d"]) fun _ _ _ _ _ _ us hl => match us, hl with | [_], _ => rfl
  have F_moved := fun_mk (st := s_moved) l_moved c_moved k_moved
  have b_moved := F_moved.binds (ps := ["one", "spot"]) fun _ _ _ _ _ _ us hl => match us, hl with | [_, _], _ => rfl
  have F_behind := fun_mk (st := s_behind) l_behind c_behind k_behind
  have b_behind := F_behind.binds (ps := ["one", "other"]) fun _ _ _ _ _ _ us hl => match us, hl with | [_, _], _ => rfl
  have F_again := fun_mk (st := s_again) l_again c_again k_again
  have b_again := F_again.binds (ps := ["one", "times"]) fun _ _ _ _ _ _ us hl => match us, hl with | [_, _], _ => rfl
  have F_span := fun_mk (st := s_span) l_span c_span k_span
  have b_span := F_span.binds (ps := ["rows"]) fun _ _ _ _ _ _ us hl => match us, hl with | [_], _ => rfl
  have F_signs_turned := fun_mk (st := s_signs_turned) l_signs_turned c_signs_turned k_signs_turned
  have b_signs_turned := F_signs_turned.binds (ps := ["rows"]) fun _ _ _ _ _ _ us hl => match us, hl with | [_], _ => rfl
  have F_fold_of := fun_mk (st := s_fold_of) l_fold_of c_fold_of k_fold_of
  have b_fold_of := F_fold_of.binds (ps := ["rows"]) fun _ _ _ _ _ _ us hl => match us, hl with | [_], _ => rfl
  have F_slide_of := fun_mk (st := s_slide_of) l_slide_of c_slide_of k_slide_of
  have b_slide_of := F_slide_of.binds (ps := ["one"]) fun _ _ _ _ _ _ us hl => match us, hl with | [_], _ => rfl
  have F_is_nought := fun_mk (st := s_is_nought) l_is_nought c_is_nought k_is_nought
  have b_is_nought := F_is_nought.binds (ps := ["spot"]) fun _ _ _ _ _ _ us hl => match us, hl with | [_], _ => rfl
  have F_Kind___init__ := fun_mk (st := s_Kind___init__) l_Kind___init__ c_Kind___init__ k_Kind___init__
  have b_Kind___init__ := F_Kind___init__.binds (ps := ["self", "one"]) fun _ _ _ _ _ _ us hl => match us, hl with | [_, _], _ => rfl
  have F_Kind_fold := fun_mk (st := s_Kind_fold) l_Kind_fold c_Kind_fold k_Kind_fold
  have b_Kind_fold := F_Kind_fold.binds (ps := ["self"]) fun _ _ _ _ _ _ us hl => match us, hl with | [_], _ => rfl
  have F_Kind_order := fun_mk (st := s_Kind_order) l_Kind_order c_Kind_order k_Kind_order
  have b_Kind_order := F_Kind_order.binds (ps := ["self"]) fun _ _ _ _ _ _ us hl => match us, hl with | [_], _ => rfl
  have F_Kind_slide := fun_mk (st := s_Kind_slide) l_Kind_slide c_Kind_slide k_Kind_slide
  have b_Kind_slide := F_Kind_slide.binds (ps := ["self"]) fun _ _ _ _ _ _ us hl => match us, hl with | [_], _ => rfl
  have F_Still_word := fun_mk (st := s_Still_word) l_Still_word c_Still_word k_Still_word
  have b_Still_word := F_Still_word.binds (ps := ["self"]) fun _ _ _ _ _ _ us hl => match us, hl with | [_], _ => rfl
  have F_Move_word := fun_mk (st := s_Move_word) l_Move_word c_Move_word k_Move_word
  have b_Move_word := F_Move_word.binds (ps := ["self"]) fun _ _ _ _ _ _ us hl => match us, hl with | [_], _ => rfl
  have F_Turn_word := fun_mk (st := s_Turn_word) l_Turn_word c_Turn_word k_Turn_word
  have b_Turn_word := F_Turn_word.binds (ps := ["self"]) fun _ _ _ _ _ _ us hl => match us, hl with | [_], _ => rfl
  have F_Screw_word := fun_mk (st := s_Screw_word) l_Screw_word c_Screw_word k_Screw_word
  have b_Screw_word := F_Screw_word.binds (ps := ["self"]) fun _ _ _ _ _ _ us hl => match us, hl with | [_], _ => rfl
  have F_Mirror_word := fun_mk (st := s_Mirror_word) l_Mirror_word c_Mirror_word k_Mirror_word
  have b_Mirror_word := F_Mirror_word.binds (ps := ["self"]) fun _ _ _ _ _ _ us hl => match us, hl with | [_], _ => rfl
  have F_Slide_word := fun_mk (st := s_Slide_word) l_Slide_word c_Slide_word k_Slide_word
  have b_Slide_word := F_Slide_word.binds (ps := ["self"]) fun _ _ _ _ _ _ us hl => match us, hl with | [_], _ => rfl
  have F_Point_word := fun_mk (st := s_Point_word) l_Point_word c_Point_word k_Point_word
  have b_Point_word := F_Point_word.binds (ps := ["self"]) fun _ _ _ _ _ _ us hl => match us, hl with | [_], _ => rfl
  have F_Twist_word := fun_mk (st := s_Twist_word) l_Twist_word c_Twist_word k_Twist_word
  have b_Twist_word := F_Twist_word.binds (ps := ["self"]) fun _ _ _ _ _ _ us hl => match us, hl with | [_], _ => rfl
  have F_Endless_word := fun_mk (st := s_Endless_word) l_Endless_word c_Endless_word k_Endless_word
  have b_Endless_word := F_Endless_word.binds (ps := ["self"]) fun _ _ _ _ _ _ us hl => match us, hl with | [_], _ => rfl
  have F_kind_of := fun_mk (st := s_kind_of) l_kind_of c_kind_of k_kind_of
  have b_kind_of := F_kind_of.binds (ps := ["one"]) fun _ _ _ _ _ _ us hl => match us, hl with | [_], _ => rfl
  have F_unmirrored := fun_mk (st := s_unmirrored) l_unmirrored c_unmirrored k_unmirrored
  have b_unmirrored := F_unmirrored.binds (ps := ["one", "stays"]) fun _ _ _ _ _ _ us hl => match us, hl with | [_, _], _ => rfl
  have F_mirrored := fun_mk (st := s_mirrored) l_mirrored c_mirrored k_mirrored
  have b_mirrored := F_mirrored.binds (ps := ["one", "stays"]) fun _ _ _ _ _ _ us hl => match us, hl with | [_, _], _ => rfl
  have F_law_cell_at := fun_mk (st := s_law_cell_at) l_law_cell_at c_law_cell_at k_law_cell_at
  have b_law_cell_at := F_law_cell_at.binds (ps := ["_law_script", "_law_k"]) fun _ _ _ _ _ _ us hl => match us, hl with | [_, _], _ => rfl
  have F_law_whole := fun_mk (st := s_law_whole) l_law_whole c_law_whole k_law_whole
  have b_law_whole := F_law_whole.binds (ps := ["_law_found"]) fun _ _ _ _ _ _ us hl => match us, hl with | [_], _ => rfl
  have F_law_shared := fun_mk (st := s_law_shared) l_law_shared c_law_shared k_law_shared
  have b_law_shared := F_law_shared.binds (ps := ["_law_part", "_law_number"]) fun _ _ _ _ _ _ us hl => match us, hl with | [_, _], _ => rfl
  have F_law_place := fun_mk (st := s_law_place) l_law_place c_law_place k_law_place
  have b_law_place := F_law_place.binds (ps := ["_law_tops_here", "_law_under"]) fun _ _ _ _ _ _ us hl => match us, hl with | [_, _], _ => rfl
  have F_law_first := fun_mk (st := s_law_first) l_law_first c_law_first k_law_first
  have b_law_first := F_law_first.binds (ps := ["_law_cell"]) fun _ _ _ _ _ _ us hl => match us, hl with | [_], _ => rfl
  have F_law_added := fun_mk (st := s_law_added) l_law_added c_law_added k_law_added
  have b_law_added := F_law_added.binds (ps := ["_law_rows", "_law_cell"]) fun _ _ _ _ _ _ us hl => match us, hl with | [_, _], _ => rfl
  have F_law_led := fun_mk (st := s_law_led) l_law_led c_law_led k_law_led
  have b_law_led := F_law_led.binds (ps := ["_law_rows", "_law_tops_here"]) fun _ _ _ _ _ _ us hl => match us, hl with | [_, _], _ => rfl
  have F_law_tops := fun_mk (st := s_law_tops) l_law_tops c_law_tops k_law_tops
  have b_law_tops := F_law_tops.binds (ps := ["_law_rows", "_law_script"]) fun _ _ _ _ _ _ us hl => match us, hl with | [_, _], _ => rfl
  have F_law_deed := fun_mk (st := s_law_deed) l_law_deed c_law_deed k_law_deed
  have b_law_deed := F_law_deed.binds (ps := ["_law_script"]) fun _ _ _ _ _ _ us hl => match us, hl with | [_], _ => rfl
  have F_law_times := fun_mk (st := s_law_times) l_law_times c_law_times k_law_times
  have b_law_times := F_law_times.binds (ps := ["_law_one", "_law_other"]) fun _ _ _ _ _ _ us hl => match us, hl with | [_, _], _ => rfl
  have F_law_rests := fun_mk (st := s_law_rests) l_law_rests c_law_rests k_law_rests
  have b_law_rests := F_law_rests.binds (ps := ["_law_rows"]) fun _ _ _ _ _ _ us hl => match us, hl with | [_], _ => rfl
  have F_law_span := fun_mk (st := s_law_span) l_law_span c_law_span k_law_span
  have b_law_span := F_law_span.binds (ps := ["_law_rows"]) fun _ _ _ _ _ _ us hl => match us, hl with | [_], _ => rfl
  have F_law_determinant := fun_mk (st := s_law_determinant) l_law_determinant c_law_determinant k_law_determinant
  have b_law_determinant := F_law_determinant.binds (ps := ["_law_rows"]) fun _ _ _ _ _ _ us hl => match us, hl with | [_], _ => rfl
  have F_law_slide := fun_mk (st := s_law_slide) l_law_slide c_law_slide k_law_slide
  have b_law_slide := F_law_slide.binds (ps := ["_law_one", "_law_many"]) fun _ _ _ _ _ _ us hl => match us, hl with | [_, _], _ => rfl
  have F_law_due := fun_mk (st := s_law_due) l_law_due c_law_due k_law_due
  have b_law_due := F_law_due.binds (ps := ["_law_one"]) fun _ _ _ _ _ _ us hl => match us, hl with | [_], _ => rfl
  have F_law_classes := fun_mk (st := s_law_classes) l_law_classes c_law_classes k_law_classes
  have b_law_classes := F_law_classes.binds (ps := ["_law_kind"]) fun _ _ _ _ _ _ us hl => match us, hl with | [_], _ => rfl
  have F_law_called := fun_mk (st := s_law_called) l_law_called c_law_called k_law_called
  have b_law_called := F_law_called.binds (ps := ["_law_word", "_law_one"]) fun _ _ _ _ _ _ us hl => match us, hl with | [_, _], _ => rfl
  have F_law_slides := fun_mk (st := s_law_slides) l_law_slides c_law_slides k_law_slides
  have b_law_slides := F_law_slides.binds (ps := ["_law_found", "_law_due_here"]) fun _ _ _ _ _ _ us hl => match us, hl with | [_, _], _ => rfl
  have F_law_told := fun_mk (st := s_law_told) l_law_told c_law_told k_law_told
  have b_law_told := F_law_told.binds (ps := ["_law_kind", "_law_due_here"]) fun _ _ _ _ _ _ us hl => match us, hl with | [_, _], _ => rfl
  have F_law := fun_mk (st := s_law) l_law c_law k_law
  have b_law := F_law.binds (ps := ["_law_script"]) fun _ _ _ _ _ _ us hl => match us, hl with | [_], _ => rfl
  exact ⟨⟨f_divisor, _, f_place, _, f_still_rows, _, f_dot, _, f_turned, _, f_times, _, f_without, _, f_determinant, _, f_joined, _, f_deed, _, f_still, _, f_moved, _, f_behind, _, f_again, _, f_span, _, f_signs_turned, _, f_fold_of, _, f_slide_of, _, f_is_nought, _, f_Kind___init__, _, f_Kind_fold, _, f_Kind_order, _, f_Kind_slide, _, f_Still_word, _, f_Move_word, _, f_Turn_word, _, f_Screw_word, _, f_Mirror_word, _, f_Slide_word, _, f_Point_word, _, f_Twist_word, _, f_Endless_word, _, f_kind_of, _, f_unmirrored, _, f_mirrored, _, f_law_cell_at, _, f_law_whole, _, f_law_shared, _, f_law_place, _, f_law_first, _, f_law_added, _, f_law_led, _, f_law_tops, _, f_law_deed, _, f_law_times, _, f_law_rests, _, f_law_span, _, f_law_determinant, _, f_law_slide, _, f_law_due, _, f_law_classes, _, f_law_called, _, f_law_slides, _, f_law_told, _, f_law, _, C_CrystalError, C_NoPlace, C_NoDeed, C_NoNumber, C_Kind, C_Still, C_Move, C_Turn, C_Screw, C_Mirror, C_Slide, C_Point, C_Twist, C_Endless⟩, ⟨F_divisor, PySem.W.mg_of X G n_divisor, b_divisor, F_place, PySem.W.mg_of X G n_place, b_place, F_still_rows, PySem.W.mg_of X G n_still_rows, b_still_rows, F_dot, PySem.W.mg_of X G n_dot, b_dot, F_turned, PySem.W.mg_of X G n_turned, b_turned, F_times, PySem.W.mg_of X G n_times, b_times, F_without, PySem.W.mg_of X G n_without, b_without, F_determinant, PySem.W.mg_of X G n_determinant, b_determinant, F_joined, PySem.W.mg_of X G n_joined, b_joined, F_deed, PySem.W.mg_of X G n_deed, b_deed, F_still, PySem.W.mg_of X G n_still, b_still, F_moved, PySem.W.mg_of X G n_moved, b_moved, F_behind, PySem.W.mg_of X G n_behind, b_behind, F_again, PySem.W.mg_of X G n_again, b_again, F_span, PySem.W.mg_of X G n_span, b_span, F_signs_turned, PySem.W.mg_of X G n_signs_turned, b_signs_turned, F_fold_of, PySem.W.mg_of X G n_fold_of, b_fold_of, F_slide_of, PySem.W.mg_of X G n_slide_of, b_slide_of, F_is_nought, PySem.W.mg_of X G n_is_nought, b_is_nought, F_Kind___init__, b_Kind___init__, F_Kind_fold, b_Kind_fold, F_Kind_order, b_Kind_order, F_Kind_slide, b_Kind_slide, F_Still_word, b_Still_word, F_Move_word, b_Move_word, F_Turn_word, b_Turn_word, F_Screw_word, b_Screw_word, F_Mirror_word, b_Mirror_word, F_Slide_word, b_Slide_word, F_Point_word, b_Point_word, F_Twist_word, b_Twist_word, F_Endless_word, b_Endless_word, F_kind_of, PySem.W.mg_of X G n_kind_of, b_kind_of, F_unmirrored, PySem.W.mg_of X G n_unmirrored, b_unmirrored, F_mirrored, PySem.W.mg_of X G n_mirrored, b_mirrored, F_law_cell_at, PySem.W.mg_of X G n_law_cell_at, b_law_cell_at, F_law_whole, PySem.W.mg_of X G n_law_whole, b_law_whole, F_law_shared, PySem.W.mg_of X G n_law_shared, b_law_shared, F_law_place, PySem.W.mg_of X G n_law_place, b_law_place, F_law_first, PySem.W.mg_of X G n_law_first, b_law_first, F_law_added, PySem.W.mg_of X G n_law_added, b_law_added, F_law_led, PySem.W.mg_of X G n_law_led, b_law_led, F_law_tops, PySem.W.mg_of X G n_law_tops, b_law_tops, F_law_deed, PySem.W.mg_of X G n_law_deed, b_law_deed, F_law_times, PySem.W.mg_of X G n_law_times, b_law_times, F_law_rests, PySem.W.mg_of X G n_law_rests, b_law_rests, F_law_span, PySem.W.mg_of X G n_law_span, b_law_span, F_law_determinant, PySem.W.mg_of X G n_law_determinant, b_law_determinant, F_law_slide, PySem.W.mg_of X G n_law_slide, b_law_slide, F_law_due, PySem.W.mg_of X G n_law_due, b_law_due, F_law_classes, PySem.W.mg_of X G n_law_classes, b_law_classes, F_law_called, PySem.W.mg_of X G n_law_called, b_law_called, F_law_slides, PySem.W.mg_of X G n_law_slides, b_law_slides, F_law_told, PySem.W.mg_of X G n_law_told, b_law_told, F_law, PySem.W.mg_of X G n_law, b_law, PySem.W.mg_none_of X G y_any, PySem.W.mg_none_of X G y_sum, PySem.W.mg_none_of X G y_zip, PySem.W.mg_none_of X G y_enumerate, PySem.W.mg_none_of X G y_range, PySem.W.mg_none_of X G y_len, PySem.W.mg_none_of X G y_abs, PySem.W.mg_none_of X G y_isinstance, PySem.W.mg_none_of X G y_int, PySem.W.mg_none_of X G y_bool, PySem.W.mg_none_of X G y_list, PySem.W.mg_none_of X G y_tuple, PySem.W.mg_none_of X G y_str, PySem.W.mg_of X G n_CrystalError, PySem.W.mg_of X G n_NoPlace, PySem.W.mg_of X G n_NoDeed, PySem.W.mg_of X G n_NoNumber, PySem.W.mg_of X G n_Kind, PySem.W.mg_of X G n_Still, PySem.W.mg_of X G n_Move, PySem.W.mg_of X G n_Turn, PySem.W.mg_of X G n_Screw, PySem.W.mg_of X G n_Mirror, PySem.W.mg_of X G n_Slide, PySem.W.mg_of X G n_Point, PySem.W.mg_of X G n_Twist, PySem.W.mg_of X G n_Endless, ⟨_, PySem.W.mg_of X G n_MOST_TIMES, _, rfl⟩, ⟨_, PySem.W.mg_of X G n_LONGEST_SPAN, _, rfl⟩, q_k_int, q_k_ib, q_k_tt, q_k_ss, q_x_NoPlace, q_x_NoDeed, q_x_NoNumber, q_e_cg, q_e_tk, q_cl_Still, q_mk_Still, q_no_Still, q_me_Still_word, q_me_Still_fold, q_me_Still_order, q_me_Still_slide, q_ca_Still, q_ob_Still, q_i_Still_Kind, q_i_Still_Still, q_i_Still_Move, q_i_Still_Turn, q_i_Still_Screw, q_i_Still_Mirror, q_i_Still_Slide, q_i_Still_Point, q_i_Still_Twist, q_i_Still_Endless, q_cl_Move, q_mk_Move, q_no_Move, q_me_Move_word, q_me_Move_fold, q_me_Move_order, q_me_Move_slide, q_ca_Move, q_ob_Move, q_i_Move_Kind, q_i_Move_Still, q_i_Move_Move, q_i_Move_Turn, q_i_Move_Screw, q_i_Move_Mirror, q_i_Move_Slide, q_i_Move_Point, q_i_Move_Twist, q_i_Move_Endless, q_cl_Turn, q_mk_Turn, q_no_Turn, q_me_Turn_word, q_me_Turn_fold, q_me_Turn_order, q_me_Turn_slide, q_ca_Turn, q_ob_Turn, q_i_Turn_Kind, q_i_Turn_Still, q_i_Turn_Move, q_i_Turn_Turn, q_i_Turn_Screw, q_i_Turn_Mirror, q_i_Turn_Slide, q_i_Turn_Point, q_i_Turn_Twist, q_i_Turn_Endless, q_cl_Screw, q_mk_Screw, q_no_Screw, q_me_Screw_word, q_me_Screw_fold, q_me_Screw_order, q_me_Screw_slide, q_ca_Screw, q_ob_Screw, q_i_Screw_Kind, q_i_Screw_Still, q_i_Screw_Move, q_i_Screw_Turn, q_i_Screw_Screw, q_i_Screw_Mirror, q_i_Screw_Slide, q_i_Screw_Point, q_i_Screw_Twist, q_i_Screw_Endless, q_cl_Mirror, q_mk_Mirror, q_no_Mirror, q_me_Mirror_word, q_me_Mirror_fold, q_me_Mirror_order, q_me_Mirror_slide, q_ca_Mirror, q_ob_Mirror, q_i_Mirror_Kind, q_i_Mirror_Still, q_i_Mirror_Move, q_i_Mirror_Turn, q_i_Mirror_Screw, q_i_Mirror_Mirror, q_i_Mirror_Slide, q_i_Mirror_Point, q_i_Mirror_Twist, q_i_Mirror_Endless, q_cl_Slide, q_mk_Slide, q_no_Slide, q_me_Slide_word, q_me_Slide_fold, q_me_Slide_order, q_me_Slide_slide, q_ca_Slide, q_ob_Slide, q_i_Slide_Kind, q_i_Slide_Still, q_i_Slide_Move, q_i_Slide_Turn, q_i_Slide_Screw, q_i_Slide_Mirror, q_i_Slide_Slide, q_i_Slide_Point, q_i_Slide_Twist, q_i_Slide_Endless, q_cl_Point, q_mk_Point, q_no_Point, q_me_Point_word, q_me_Point_fold, q_me_Point_order, q_me_Point_slide, q_ca_Point, q_ob_Point, q_i_Point_Kind, q_i_Point_Still, q_i_Point_Move, q_i_Point_Turn, q_i_Point_Screw, q_i_Point_Mirror, q_i_Point_Slide, q_i_Point_Point, q_i_Point_Twist, q_i_Point_Endless, q_cl_Twist, q_mk_Twist, q_no_Twist, q_me_Twist_word, q_me_Twist_fold, q_me_Twist_order, q_me_Twist_slide, q_ca_Twist, q_ob_Twist, q_i_Twist_Kind, q_i_Twist_Still, q_i_Twist_Move, q_i_Twist_Turn, q_i_Twist_Screw, q_i_Twist_Mirror, q_i_Twist_Slide, q_i_Twist_Point, q_i_Twist_Twist, q_i_Twist_Endless, q_cl_Endless, q_mk_Endless, q_no_Endless, q_me_Endless_word, q_me_Endless_fold, q_me_Endless_order, q_me_Endless_slide, q_ca_Endless, q_ob_Endless, q_i_Endless_Kind, q_i_Endless_Still, q_i_Endless_Move, q_i_Endless_Turn, q_i_Endless_Screw, q_i_Endless_Mirror, q_i_Endless_Slide, q_i_Endless_Point, q_i_Endless_Twist, q_i_Endless_Endless, fun s v => .of_eq rfl⟩⟩
end Cw
open PySem PySem.W PyProof.Rows
set_option maxRecDepth 100000 in
set_option maxHeartbeats 0 in
/-! Names that the head would else lay equations under (of whole heaps and of their trees): the proof wants none of them. -/
noncomputable def PySem.W.Fast.tw16294283109389623423 : Unit := ()
noncomputable def PySem.W.Fast.tw4019297870959969460 : Unit := ()
noncomputable def PySem.W.Fast.tw10095733247454645587 : Unit := ()
noncomputable def PySem.W.Fast.tw12387743601997622569 : Unit := ()
noncomputable def PySem.W.Fast.tw10350665164111797557 : Unit := ()
noncomputable def PySem.W.Fast.tw6901074433340666262 : Unit := ()
noncomputable def PySem.W.Fast.tw13338709344025709668 : Unit := ()
noncomputable def PySem.W.Fast.tw16805145422022195374 : Unit := ()
noncomputable def PySem.W.Fast.tw10708361461429327778 : Unit := ()
noncomputable def PySem.W.Fast.tw18154674117762040938 : Unit := ()
noncomputable def PySem.W.Fast.tw1448733085144293173 : Unit := ()
noncomputable def PySem.W.Fast.tw14064592321308567269 : Unit := ()
noncomputable def PySem.W.Fast.tw12276206990878302895 : Unit := ()
noncomputable def PySem.W.Fast.tw2262688697969301147 : Unit := ()
noncomputable def PySem.W.Fast.tw13342861277611925745 : Unit := ()
noncomputable def PySem.W.Fast.tw15310023783686983234 : Unit := ()
noncomputable def PySem.W.Fast.tw617189801942122245 : Unit := ()
noncomputable def PySem.W.Fast.tw2587719646430298705 : Unit := ()
noncomputable def PySem.W.Fast.tw1863888707259616260 : Unit := ()
noncomputable def PySem.W.Fast.tw8954607777825143467 : Unit := ()
noncomputable def PySem.W.Fast.tw17512589835168920794 : Unit := ()
noncomputable def PySem.W.Fast.tw6459376805132437428 : Unit := ()
noncomputable def PySem.W.Fast.tw456668938017588010 : Unit := ()
noncomputable def PySem.W.Fast.tw953526010512101423 : Unit := ()
noncomputable def PySem.W.Fast.tw5364069643889111345 : Unit := ()
noncomputable def PySem.W.Fast.tw3350863427325045923 : Unit := ()
noncomputable def PySem.W.Fast.tw13859822577963013908 : Unit := ()
noncomputable def PySem.W.Fast.tw1361563280984870705 : Unit := ()
noncomputable def PySem.W.Fast.tw8051599645202563926 : Unit := ()
noncomputable def PySem.W.Fast.tw3853313415954637741 : Unit := ()
noncomputable def PySem.W.Fast.tw3854173360514163766 : Unit := ()
noncomputable def PySem.W.Fast.tw471262946211921656 : Unit := ()
noncomputable def PySem.W.Fast.tw1837894287247464783 : Unit := ()
noncomputable def PySem.W.Fast.tw17235863728030688531 : Unit := ()
noncomputable def PySem.W.Fast.tw6557806390521879366 : Unit := ()
noncomputable def PySem.W.Fast.tw15019427215519583048 : Unit := ()
noncomputable def PySem.W.Fast.tw2607943706101628764 : Unit := ()
noncomputable def PySem.W.Fast.tw11219722027303876030 : Unit := ()
noncomputable def PySem.W.Fast.tw3555089720765074414 : Unit := ()
noncomputable def PySem.W.Fast.tw17296133953941269860 : Unit := ()
noncomputable def PySem.W.Fast.tw6675653198762448737 : Unit := ()
noncomputable def PySem.W.Fast.tw12066035424892076214 : Unit := ()
noncomputable def PySem.W.Fast.tw7285663444125762561 : Unit := ()
noncomputable def PySem.W.Fast.tw8101694017126812032 : Unit := ()
noncomputable def PySem.W.Fast.tw8186514197745404356 : Unit := ()
noncomputable def PySem.W.Fast.tw13279829013233230900 : Unit := ()
noncomputable def PySem.W.Fast.tw8303701843085228567 : Unit := ()
noncomputable def PySem.W.Fast.tw9635219539842495758 : Unit := ()
noncomputable def PySem.W.Fast.tw2448158176620392964 : Unit := ()
noncomputable def PySem.W.Fast.tw4553839480737132456 : Unit := ()
noncomputable def PySem.W.Fast.tw11466440011282467506 : Unit := ()
noncomputable def PySem.W.Fast.tw4971355329950559469 : Unit := ()
noncomputable def PySem.W.Fast.tw10121457512939494437 : Unit := ()
theorem PySem.Challenge.cw_crystalwords_k32_kinds_holds : PySem.Challenge.rw_crystalwords_k32_kinds.Holds := by
  w_on; o_law; k_head; (case hw => w_witness2)
  k_fill
  refine L2.walkB (l := PySem.Challenge.rw_crystalwords_k32_kinds) (k := 15) (x := "_law_script") rfl rfl ⟨rfl, by decide, by decide⟩ (fun w h Y => PySem.W.kIn_of Y) ?F
  case F =>
    intro w mg fa h KX G hmg
    have T : ∃ t, Cw.Txt (L2.KOf KX) mg t := by
      dsimp only [L2.KOf]
      refine' Cw.txt_mk KX G ?n_CrystalError ?n_NoPlace ?n_NoDeed ?n_NoNumber ?n_Kind ?n_Still ?n_Move ?n_Turn ?n_Screw ?n_Mirror ?n_Slide ?n_Point ?n_Twist ?n_Endless ?n_divisor ?l_divisor ?c_divisor ?k_divisor ?n_place ?l_place ?c_place ?k_place ?n_still_rows ?l_still_rows ?c_still_rows ?k_still_rows ?n_dot ?l_dot ?c_dot ?k_dot ?n_turned ?l_turned ?c_turned ?k_turned ?n_times ?l_times ?c_times ?k_times ?n_without ?l_without ?c_without ?k_without ?n_determinant ?l_determinant ?c_determinant ?k_determinant ?n_joined ?l_joined ?c_joined ?k_joined ?n_deed ?l_deed ?c_deed ?k_deed ?n_still ?l_still ?c_still ?k_still ?n_moved ?l_moved ?c_moved ?k_moved ?n_behind ?l_behind ?c_behind ?k_behind ?n_again ?l_again ?c_again ?k_again ?n_span ?l_span ?c_span ?k_span ?n_signs_turned ?l_signs_turned ?c_signs_turned ?k_signs_turned ?n_fold_of ?l_fold_of ?c_fold_of ?k_fold_of ?n_slide_of ?l_slide_of ?c_slide_of ?k_slide_of ?n_is_nought ?l_is_nought ?c_is_nought ?k_is_nought ?n_Kind___init__ ?l_Kind___init__ ?c_Kind___init__ ?k_Kind___init__ ?n_Kind_fold ?l_Kind_fold ?c_Kind_fold ?k_Kind_fold ?n_Kind_order ?l_Kind_order ?c_Kind_order ?k_Kind_order ?n_Kind_slide ?l_Kind_slide ?c_Kind_slide ?k_Kind_slide ?n_Still_word ?l_Still_word ?c_Still_word ?k_Still_word ?n_Move_word ?l_Move_word ?c_Move_word ?k_Move_word ?n_Turn_word ?l_Turn_word ?c_Turn_word ?k_Turn_word ?n_Screw_word ?l_Screw_word ?c_Screw_word ?k_Screw_word ?n_Mirror_word ?l_Mirror_word ?c_Mirror_word ?k_Mirror_word ?n_Slide_word ?l_Slide_word ?c_Slide_word ?k_Slide_word ?n_Point_word ?l_Point_word ?c_Point_word ?k_Point_word ?n_Twist_word ?l_Twist_word ?c_Twist_word ?k_Twist_word ?n_Endless_word ?l_Endless_word ?c_Endless_word ?k_Endless_word ?n_kind_of ?l_kind_of ?c_kind_of ?k_kind_of ?n_unmirrored ?l_unmirrored ?c_unmirrored ?k_unmirrored ?n_mirrored ?l_mirrored ?c_mirrored ?k_mirrored ?n_law_cell_at ?l_law_cell_at ?c_law_cell_at ?k_law_cell_at ?n_law_whole ?l_law_whole ?c_law_whole ?k_law_whole ?n_law_shared ?l_law_shared ?c_law_shared ?k_law_shared ?n_law_place ?l_law_place ?c_law_place ?k_law_place ?n_law_first ?l_law_first ?c_law_first ?k_law_first ?n_law_added ?l_law_added ?c_law_added ?k_law_added ?n_law_led ?l_law_led ?c_law_led ?k_law_led ?n_law_tops ?l_law_tops ?c_law_tops ?k_law_tops ?n_law_deed ?l_law_deed ?c_law_deed ?k_law_deed ?n_law_times ?l_law_times ?c_law_times ?k_law_times ?n_law_rests ?l_law_rests ?c_law_rests ?k_law_rests ?n_law_span ?l_law_span ?c_law_span ?k_law_span ?n_law_determinant ?l_law_determinant ?c_law_determinant ?k_law_determinant ?n_law_slide ?l_law_slide ?c_law_slide ?k_law_slide ?n_law_due ?l_law_due ?c_law_due ?k_law_due ?n_law_classes ?l_law_classes ?c_law_classes ?k_law_classes ?n_law_called ?l_law_called ?c_law_called ?k_law_called ?n_law_slides ?l_law_slides ?c_law_slides ?k_law_slides ?n_law_told ?l_law_told ?c_law_told ?k_law_told ?n_law ?l_law ?c_law ?k_law ?n_MOST_TIMES ?n_LONGEST_SPAN ?y_any ?y_sum ?y_zip ?y_enumerate ?y_range ?y_len ?y_abs ?y_isinstance ?y_int ?y_bool ?y_list ?y_tuple ?y_str ?q_k_int ?q_k_ib ?q_k_tt ?q_k_ss ?q_x_NoPlace ?q_x_NoDeed ?q_x_NoNumber ?q_e_cg ?q_e_tk ?q_cl_Still ?q_mk_Still ?q_no_Still ?q_me_Still_word ?q_me_Still_fold ?q_me_Still_order ?q_me_Still_slide ?q_ca_Still ?q_ob_Still ?q_i_Still_Kind ?q_i_Still_Still ?q_i_Still_Move ?q_i_Still_Turn ?q_i_Still_Screw ?q_i_Still_Mirror ?q_i_Still_Slide ?q_i_Still_Point ?q_i_Still_Twist ?q_i_Still_Endless ?q_cl_Move ?q_mk_Move ?q_no_Move ?q_me_Move_word ?q_me_Move_fold ?q_me_Move_order ?q_me_Move_slide ?q_ca_Move ?q_ob_Move ?q_i_Move_Kind ?q_i_Move_Still ?q_i_Move_Move ?q_i_Move_Turn ?q_i_Move_Screw ?q_i_Move_Mirror ?q_i_Move_Slide ?q_i_Move_Point ?q_i_Move_Twist ?q_i_Move_Endless ?q_cl_Turn ?q_mk_Turn ?q_no_Turn ?q_me_Turn_word ?q_me_Turn_fold ?q_me_Turn_order ?q_me_Turn_slide ?q_ca_Turn ?q_ob_Turn ?q_i_Turn_Kind ?q_i_Turn_Still ?q_i_Turn_Move ?q_i_Turn_Turn ?q_i_Turn_Screw ?q_i_Turn_Mirror ?q_i_Turn_Slide ?q_i_Turn_Point ?q_i_Turn_Twist ?q_i_Turn_Endless ?q_cl_Screw ?q_mk_Screw ?q_no_Screw ?q_me_Screw_word ?q_me_Screw_fold ?q_me_Screw_order ?q_me_Screw_slide ?q_ca_Screw ?q_ob_Screw ?q_i_Screw_Kind ?q_i_Screw_Still ?q_i_Screw_Move ?q_i_Screw_Turn ?q_i_Screw_Screw ?q_i_Screw_Mirror ?q_i_Screw_Slide ?q_i_Screw_Point ?q_i_Screw_Twist ?q_i_Screw_Endless ?q_cl_Mirror ?q_mk_Mirror ?q_no_Mirror ?q_me_Mirror_word ?q_me_Mirror_fold ?q_me_Mirror_order ?q_me_Mirror_slide ?q_ca_Mirror ?q_ob_Mirror ?q_i_Mirror_Kind ?q_i_Mirror_Still ?q_i_Mirror_Move ?q_i_Mirror_Turn ?q_i_Mirror_Screw ?q_i_Mirror_Mirror ?q_i_Mirror_Slide ?q_i_Mirror_Point ?q_i_Mirror_Twist ?q_i_Mirror_Endless ?q_cl_Slide ?q_mk_Slide ?q_no_Slide ?q_me_Slide_word ?q_me_Slide_fold ?q_me_Slide_order ?q_me_Slide_slide ?q_ca_Slide ?q_ob_Slide ?q_i_Slide_Kind ?q_i_Slide_Still ?q_i_Slide_Move ?q_i_Slide_Turn ?q_i_Slide_Screw ?q_i_Slide_Mirror ?q_i_Slide_Slide ?q_i_Slide_Point ?q_i_Slide_Twist ?q_i_Slide_Endless ?q_cl_Point ?q_mk_Point ?q_no_Point ?q_me_Point_word ?q_me_Point_fold ?q_me_Point_order ?q_me_Point_slide ?q_ca_Point ?q_ob_Point ?q_i_Point_Kind ?q_i_Point_Still ?q_i_Point_Move ?q_i_Point_Turn ?q_i_Point_Screw ?q_i_Point_Mirror ?q_i_Point_Slide ?q_i_Point_Point ?q_i_Point_Twist ?q_i_Point_Endless ?q_cl_Twist ?q_mk_Twist ?q_no_Twist ?q_me_Twist_word ?q_me_Twist_fold ?q_me_Twist_order ?q_me_Twist_slide ?q_ca_Twist ?q_ob_Twist ?q_i_Twist_Kind ?q_i_Twist_Still ?q_i_Twist_Move ?q_i_Twist_Turn ?q_i_Twist_Screw ?q_i_Twist_Mirror ?q_i_Twist_Slide ?q_i_Twist_Point ?q_i_Twist_Twist ?q_i_Twist_Endless ?q_cl_Endless ?q_mk_Endless ?q_no_Endless ?q_me_Endless_word ?q_me_Endless_fold ?q_me_Endless_order ?q_me_Endless_slide ?q_ca_Endless ?q_ob_Endless ?q_i_Endless_Kind ?q_i_Endless_Still ?q_i_Endless_Move ?q_i_Endless_Turn ?q_i_Endless_Screw ?q_i_Endless_Mirror ?q_i_Endless_Slide ?q_i_Endless_Point ?q_i_Endless_Twist ?q_i_Endless_Endless
      (case n_CrystalError => k_is)
      (case n_NoPlace => k_is)
      (case n_NoDeed => k_is)
      (case n_NoNumber => k_is)
      (case n_Kind => k_is)
      (case n_Still => k_is)
      (case n_Move => k_is)
      (case n_Turn => k_is)
      (case n_Screw => k_is)
      (case n_Mirror => k_is)
      (case n_Slide => k_is)
      (case n_Point => k_is)
      (case n_Twist => k_is)
      (case n_Endless => k_is)
      (case n_divisor => k_is)
      (case l_divisor => k_is)
      (case c_divisor => k_is)
      (case k_divisor => k_is)
      (case n_place => k_is)
      (case l_place => k_is)
      (case c_place => k_is)
      (case k_place => k_is)
      (case n_still_rows => k_is)
      (case l_still_rows => k_is)
      (case c_still_rows => k_is)
      (case k_still_rows => k_is)
      (case n_dot => k_is)
      (case l_dot => k_is)
      (case c_dot => k_is)
      (case k_dot => k_is)
      (case n_turned => k_is)
      (case l_turned => k_is)
      (case c_turned => k_is)
      (case k_turned => k_is)
      (case n_times => k_is)
      (case l_times => k_is)
      (case c_times => k_is)
      (case k_times => k_is)
      (case n_without => k_is)
      (case l_without => k_is)
      (case c_without => k_is)
      (case k_without => k_is)
      (case n_determinant => k_is)
      (case l_determinant => k_is)
      (case c_determinant => k_is)
      (case k_determinant => k_is)
      (case n_joined => k_is)
      (case l_joined => k_is)
      (case c_joined => k_is)
      (case k_joined => k_is)
      (case n_deed => k_is)
      (case l_deed => k_is)
      (case c_deed => k_is)
      (case k_deed => k_is)
      (case n_still => k_is)
      (case l_still => k_is)
      (case c_still => k_is)
      (case k_still => k_is)
      (case n_moved => k_is)
      (case l_moved => k_is)
      (case c_moved => k_is)
      (case k_moved => k_is)
      (case n_behind => k_is)
      (case l_behind => k_is)
      (case c_behind => k_is)
      (case k_behind => k_is)
      (case n_again => k_is)
      (case l_again => k_is)
      (case c_again => k_is)
      (case k_again => k_is)
      (case n_span => k_is)
      (case l_span => k_is)
      (case c_span => k_is)
      (case k_span => k_is)
      (case n_signs_turned => k_is)
      (case l_signs_turned => k_is)
      (case c_signs_turned => k_is)
      (case k_signs_turned => k_is)
      (case n_fold_of => k_is)
      (case l_fold_of => k_is)
      (case c_fold_of => k_is)
      (case k_fold_of => k_is)
      (case n_slide_of => k_is)
      (case l_slide_of => k_is)
      (case c_slide_of => k_is)
      (case k_slide_of => k_is)
      (case n_is_nought => k_is)
      (case l_is_nought => k_is)
      (case c_is_nought => k_is)
      (case k_is_nought => k_is)
      (case n_Kind___init__ => k_is)
      (case l_Kind___init__ => k_is)
      (case c_Kind___init__ => k_is)
      (case k_Kind___init__ => k_is)
      (case n_Kind_fold => k_is)
      (case l_Kind_fold => k_is)
      (case c_Kind_fold => k_is)
      (case k_Kind_fold => k_is)
      (case n_Kind_order => k_is)
      (case l_Kind_order => k_is)
      (case c_Kind_order => k_is)
      (case k_Kind_order => k_is)
      (case n_Kind_slide => k_is)
      (case l_Kind_slide => k_is)
      (case c_Kind_slide => k_is)
      (case k_Kind_slide => k_is)
      (case n_Still_word => k_is)
      (case l_Still_word => k_is)
      (case c_Still_word => k_is)
      (case k_Still_word => k_is)
      (case n_Move_word => k_is)
      (case l_Move_word => k_is)
      (case c_Move_word => k_is)
      (case k_Move_word => k_is)
      (case n_Turn_word => k_is)
      (case l_Turn_word => k_is)
      (case c_Turn_word => k_is)
      (case k_Turn_word => k_is)
      (case n_Screw_word => k_is)
      (case l_Screw_word => k_is)
      (case c_Screw_word => k_is)
      (case k_Screw_word => k_is)
      (case n_Mirror_word => k_is)
      (case l_Mirror_word => k_is)
      (case c_Mirror_word => k_is)
      (case k_Mirror_word => k_is)
      (case n_Slide_word => k_is)
      (case l_Slide_word => k_is)
      (case c_Slide_word => k_is)
      (case k_Slide_word => k_is)
      (case n_Point_word => k_is)
      (case l_Point_word => k_is)
      (case c_Point_word => k_is)
      (case k_Point_word => k_is)
      (case n_Twist_word => k_is)
      (case l_Twist_word => k_is)
      (case c_Twist_word => k_is)
      (case k_Twist_word => k_is)
      (case n_Endless_word => k_is)
      (case l_Endless_word => k_is)
      (case c_Endless_word => k_is)
      (case k_Endless_word => k_is)
      (case n_kind_of => k_is)
      (case l_kind_of => k_is)
      (case c_kind_of => k_is)
      (case k_kind_of => k_is)
      (case n_unmirrored => k_is)
      (case l_unmirrored => k_is)
      (case c_unmirrored => k_is)
      (case k_unmirrored => k_is)
      (case n_mirrored => k_is)
      (case l_mirrored => k_is)
      (case c_mirrored => k_is)
      (case k_mirrored => k_is)
      (case n_law_cell_at => k_is)
      (case l_law_cell_at => k_is)
      (case c_law_cell_at => k_is)
      (case k_law_cell_at => k_is)
      (case n_law_whole => k_is)
      (case l_law_whole => k_is)
      (case c_law_whole => k_is)
      (case k_law_whole => k_is)
      (case n_law_shared => k_is)
      (case l_law_shared => k_is)
      (case c_law_shared => k_is)
      (case k_law_shared => k_is)
      (case n_law_place => k_is)
      (case l_law_place => k_is)
      (case c_law_place => k_is)
      (case k_law_place => k_is)
      (case n_law_first => k_is)
      (case l_law_first => k_is)
      (case c_law_first => k_is)
      (case k_law_first => k_is)
      (case n_law_added => k_is)
      (case l_law_added => k_is)
      (case c_law_added => k_is)
      (case k_law_added => k_is)
      (case n_law_led => k_is)
      (case l_law_led => k_is)
      (case c_law_led => k_is)
      (case k_law_led => k_is)
      (case n_law_tops => k_is)
      (case l_law_tops => k_is)
      (case c_law_tops => k_is)
      (case k_law_tops => k_is)
      (case n_law_deed => k_is)
      (case l_law_deed => k_is)
      (case c_law_deed => k_is)
      (case k_law_deed => k_is)
      (case n_law_times => k_is)
      (case l_law_times => k_is)
      (case c_law_times => k_is)
      (case k_law_times => k_is)
      (case n_law_rests => k_is)
      (case l_law_rests => k_is)
      (case c_law_rests => k_is)
      (case k_law_rests => k_is)
      (case n_law_span => k_is)
      (case l_law_span => k_is)
      (case c_law_span => k_is)
      (case k_law_span => k_is)
      (case n_law_determinant => k_is)
      (case l_law_determinant => k_is)
      (case c_law_determinant => k_is)
      (case k_law_determinant => k_is)
      (case n_law_slide => k_is)
      (case l_law_slide => k_is)
      (case c_law_slide => k_is)
      (case k_law_slide => k_is)
      (case n_law_due => k_is)
      (case l_law_due => k_is)
      (case c_law_due => k_is)
      (case k_law_due => k_is)
      (case n_law_classes => k_is)
      (case l_law_classes => k_is)
      (case c_law_classes => k_is)
      (case k_law_classes => k_is)
      (case n_law_called => k_is)
      (case l_law_called => k_is)
      (case c_law_called => k_is)
      (case k_law_called => k_is)
      (case n_law_slides => k_is)
      (case l_law_slides => k_is)
      (case c_law_slides => k_is)
      (case k_law_slides => k_is)
      (case n_law_told => k_is)
      (case l_law_told => k_is)
      (case c_law_told => k_is)
      (case k_law_told => k_is)
      (case n_law => k_is)
      (case l_law => k_is)
      (case c_law => k_is)
      (case k_law => k_is)
      (case n_MOST_TIMES => k_is)
      (case n_LONGEST_SPAN => k_is)
      (case y_any => k_is)
      (case y_sum => k_is)
      (case y_zip => k_is)
      (case y_enumerate => k_is)
      (case y_range => k_is)
      (case y_len => k_is)
      (case y_abs => k_is)
      (case y_isinstance => k_is)
      (case y_int => k_is)
      (case y_bool => k_is)
      (case y_list => k_is)
      (case y_tuple => k_is)
      (case y_str => k_is)
      (case q_k_int => kit_is)
      (case q_k_ib => kit_is)
      (case q_k_tt => kit_is)
      (case q_k_ss => kit_is)
      (case q_x_NoPlace => k_exc)
      (case q_x_NoDeed => k_exc)
      (case q_x_NoNumber => k_exc)
      (case q_e_cg => k_is)
      (case q_e_tk => k_is)
      (case q_cl_Still => exact ⟨by k_is, by k_is, by k_is, by k_is⟩)
      (case q_mk_Still => exact ⟨by k_is, by k_is, by k_is, by k_is⟩)
      (case q_no_Still => k_is)
      (case q_me_Still_word => exact ⟨by k_is, by k_is, by k_is⟩)
      (case q_me_Still_fold => exact ⟨by k_is, by k_is, by k_is⟩)
      (case q_me_Still_order => exact ⟨by k_is, by k_is, by k_is⟩)
      (case q_me_Still_slide => exact ⟨by k_is, by k_is, by k_is⟩)
      (case q_ca_Still => k_is)
      (case q_ob_Still => k_is)
      (case q_i_Still_Kind => kit_is)
      (case q_i_Still_Still => kit_is)
      (case q_i_Still_Move => kit_is)
      (case q_i_Still_Turn => kit_is)
      (case q_i_Still_Screw => kit_is)
      (case q_i_Still_Mirror => kit_is)
      (case q_i_Still_Slide => kit_is)
      (case q_i_Still_Point => kit_is)
      (case q_i_Still_Twist => kit_is)
      (case q_i_Still_Endless => kit_is)
      (case q_cl_Move => exact ⟨by k_is, by k_is, by k_is, by k_is⟩)
      (case q_mk_Move => exact ⟨by k_is, by k_is, by k_is, by k_is⟩)
      (case q_no_Move => k_is)
      (case q_me_Move_word => exact ⟨by k_is, by k_is, by k_is⟩)
      (case q_me_Move_fold => exact ⟨by k_is, by k_is, by k_is⟩)
      (case q_me_Move_order => exact ⟨by k_is, by k_is, by k_is⟩)
      (case q_me_Move_slide => exact ⟨by k_is, by k_is, by k_is⟩)
      (case q_ca_Move => k_is)
      (case q_ob_Move => k_is)
      (case q_i_Move_Kind => kit_is)
      (case q_i_Move_Still => kit_is)
      (case q_i_Move_Move => kit_is)
      (case q_i_Move_Turn => kit_is)
      (case q_i_Move_Screw => kit_is)
      (case q_i_Move_Mirror => kit_is)
      (case q_i_Move_Slide => kit_is)
      (case q_i_Move_Point => kit_is)
      (case q_i_Move_Twist => kit_is)
      (case q_i_Move_Endless => kit_is)
      (case q_cl_Turn => exact ⟨by k_is, by k_is, by k_is, by k_is⟩)
      (case q_mk_Turn => exact ⟨by k_is, by k_is, by k_is, by k_is⟩)
      (case q_no_Turn => k_is)
      (case q_me_Turn_word => exact ⟨by k_is, by k_is, by k_is⟩)
      (case q_me_Turn_fold => exact ⟨by k_is, by k_is, by k_is⟩)
      (case q_me_Turn_order => exact ⟨by k_is, by k_is, by k_is⟩)
      (case q_me_Turn_slide => exact ⟨by k_is, by k_is, by k_is⟩)
      (case q_ca_Turn => k_is)
      (case q_ob_Turn => k_is)
      (case q_i_Turn_Kind => kit_is)
      (case q_i_Turn_Still => kit_is)
      (case q_i_Turn_Move => kit_is)
      (case q_i_Turn_Turn => kit_is)
      (case q_i_Turn_Screw => kit_is)
      (case q_i_Turn_Mirror => kit_is)
      (case q_i_Turn_Slide => kit_is)
      (case q_i_Turn_Point => kit_is)
      (case q_i_Turn_Twist => kit_is)
      (case q_i_Turn_Endless => kit_is)
      (case q_cl_Screw => exact ⟨by k_is, by k_is, by k_is, by k_is⟩)
      (case q_mk_Screw => exact ⟨by k_is, by k_is, by k_is, by k_is⟩)
      (case q_no_Screw => k_is)
      (case q_me_Screw_word => exact ⟨by k_is, by k_is, by k_is⟩)
      (case q_me_Screw_fold => exact ⟨by k_is, by k_is, by k_is⟩)
      (case q_me_Screw_order => exact ⟨by k_is, by k_is, by k_is⟩)
      (case q_me_Screw_slide => exact ⟨by k_is, by k_is, by k_is⟩)
      (case q_ca_Screw => k_is)
      (case q_ob_Screw => k_is)
      (case q_i_Screw_Kind => kit_is)
      (case q_i_Screw_Still => kit_is)
      (case q_i_Screw_Move => kit_is)
      (case q_i_Screw_Turn => kit_is)
      (case q_i_Screw_Screw => kit_is)
      (case q_i_Screw_Mirror => kit_is)
      (case q_i_Screw_Slide => kit_is)
      (case q_i_Screw_Point => kit_is)
      (case q_i_Screw_Twist => kit_is)
      (case q_i_Screw_Endless => kit_is)
      (case q_cl_Mirror => exact ⟨by k_is, by k_is, by k_is, by k_is⟩)
      (case q_mk_Mirror => exact ⟨by k_is, by k_is, by k_is, by k_is⟩)
      (case q_no_Mirror => k_is)
      (case q_me_Mirror_word => exact ⟨by k_is, by k_is, by k_is⟩)
      (case q_me_Mirror_fold => exact ⟨by k_is, by k_is, by k_is⟩)
      (case q_me_Mirror_order => exact ⟨by k_is, by k_is, by k_is⟩)
      (case q_me_Mirror_slide => exact ⟨by k_is, by k_is, by k_is⟩)
      (case q_ca_Mirror => k_is)
      (case q_ob_Mirror => k_is)
      (case q_i_Mirror_Kind => kit_is)
      (case q_i_Mirror_Still => kit_is)
      (case q_i_Mirror_Move => kit_is)
      (case q_i_Mirror_Turn => kit_is)
      (case q_i_Mirror_Screw => kit_is)
      (case q_i_Mirror_Mirror => kit_is)
      (case q_i_Mirror_Slide => kit_is)
      (case q_i_Mirror_Point => kit_is)
      (case q_i_Mirror_Twist => kit_is)
      (case q_i_Mirror_Endless => kit_is)
      (case q_cl_Slide => exact ⟨by k_is, by k_is, by k_is, by k_is⟩)
      (case q_mk_Slide => exact ⟨by k_is, by k_is, by k_is, by k_is⟩)
      (case q_no_Slide => k_is)
      (case q_me_Slide_word => exact ⟨by k_is, by k_is, by k_is⟩)
      (case q_me_Slide_fold => exact ⟨by k_is, by k_is, by k_is⟩)
      (case q_me_Slide_order => exact ⟨by k_is, by k_is, by k_is⟩)
      (case q_me_Slide_slide => exact ⟨by k_is, by k_is, by k_is⟩)
      (case q_ca_Slide => k_is)
      (case q_ob_Slide => k_is)
      (case q_i_Slide_Kind => kit_is)
      (case q_i_Slide_Still => kit_is)
      (case q_i_Slide_Move => kit_is)
      (case q_i_Slide_Turn => kit_is)
      (case q_i_Slide_Screw => kit_is)
      (case q_i_Slide_Mirror => kit_is)
      (case q_i_Slide_Slide => kit_is)
      (case q_i_Slide_Point => kit_is)
      (case q_i_Slide_Twist => kit_is)
      (case q_i_Slide_Endless => kit_is)
      (case q_cl_Point => exact ⟨by k_is, by k_is, by k_is, by k_is⟩)
      (case q_mk_Point => exact ⟨by k_is, by k_is, by k_is, by k_is⟩)
      (case q_no_Point => k_is)
      (case q_me_Point_word => exact ⟨by k_is, by k_is, by k_is⟩)
      (case q_me_Point_fold => exact ⟨by k_is, by k_is, by k_is⟩)
      (case q_me_Point_order => exact ⟨by k_is, by k_is, by k_is⟩)
      (case q_me_Point_slide => exact ⟨by k_is, by k_is, by k_is⟩)
      (case q_ca_Point => k_is)
      (case q_ob_Point => k_is)
      (case q_i_Point_Kind => kit_is)
      (case q_i_Point_Still => kit_is)
      (case q_i_Point_Move => kit_is)
      (case q_i_Point_Turn => kit_is)
      (case q_i_Point_Screw => kit_is)
      (case q_i_Point_Mirror => kit_is)
      (case q_i_Point_Slide => kit_is)
      (case q_i_Point_Point => kit_is)
      (case q_i_Point_Twist => kit_is)
      (case q_i_Point_Endless => kit_is)
      (case q_cl_Twist => exact ⟨by k_is, by k_is, by k_is, by k_is⟩)
      (case q_mk_Twist => exact ⟨by k_is, by k_is, by k_is, by k_is⟩)
      (case q_no_Twist => k_is)
      (case q_me_Twist_word => exact ⟨by k_is, by k_is, by k_is⟩)
      (case q_me_Twist_fold => exact ⟨by k_is, by k_is, by k_is⟩)
      (case q_me_Twist_order => exact ⟨by k_is, by k_is, by k_is⟩)
      (case q_me_Twist_slide => exact ⟨by k_is, by k_is, by k_is⟩)
      (case q_ca_Twist => k_is)
      (case q_ob_Twist => k_is)
      (case q_i_Twist_Kind => kit_is)
      (case q_i_Twist_Still => kit_is)
      (case q_i_Twist_Move => kit_is)
      (case q_i_Twist_Turn => kit_is)
      (case q_i_Twist_Screw => kit_is)
      (case q_i_Twist_Mirror => kit_is)
      (case q_i_Twist_Slide => kit_is)
      (case q_i_Twist_Point => kit_is)
      (case q_i_Twist_Twist => kit_is)
      (case q_i_Twist_Endless => kit_is)
      (case q_cl_Endless => exact ⟨by k_is, by k_is, by k_is, by k_is⟩)
      (case q_mk_Endless => exact ⟨by k_is, by k_is, by k_is, by k_is⟩)
      (case q_no_Endless => k_is)
      (case q_me_Endless_word => exact ⟨by k_is, by k_is, by k_is⟩)
      (case q_me_Endless_fold => exact ⟨by k_is, by k_is, by k_is⟩)
      (case q_me_Endless_order => exact ⟨by k_is, by k_is, by k_is⟩)
      (case q_me_Endless_slide => exact ⟨by k_is, by k_is, by k_is⟩)
      (case q_ca_Endless => k_is)
      (case q_ob_Endless => k_is)
      (case q_i_Endless_Kind => kit_is)
      (case q_i_Endless_Still => kit_is)
      (case q_i_Endless_Move => kit_is)
      (case q_i_Endless_Turn => kit_is)
      (case q_i_Endless_Screw => kit_is)
      (case q_i_Endless_Mirror => kit_is)
      (case q_i_Endless_Slide => kit_is)
      (case q_i_Endless_Point => kit_is)
      (case q_i_Endless_Twist => kit_is)
      (case q_i_Endless_Endless => kit_is)
    obtain ⟨t, T⟩ := T
    have e0 := hmg.symm.trans T.m_law
    cases e0
    exact ⟨t.d_law, T.bl, fun base kb nb => Cw.ok_law T⟩
#print axioms PySem.Challenge.cw_crystalwords_k32_kinds_holds
