import PyProof.Rows.All
import Wide.All
import OpenK.AllK
import Wide.FinOn
import Lean
import PyProof.EqAt
import PyProof.EqKinds
import PyProof.TupleCall
import PySem.Challenge.RW_crystalwords_k53_whole_deeds_in_new_base
set_option Elab.async false
set_option linter.all false
set_option maxRecDepth 100000
namespace L2
open PySem PySem.Spec PyProof.Rows

noncomputable abbrev Key := Sum Int Str
noncomputable def keyIs : Key → Value → Bool
  | .inl k, v => Value.isInt k v
  | .inr x, v => Value.isStrOf x v
noncomputable def keyH (w : World) : Key → Int
  | .inl k => hashInt k
  | .inr x => hashStr w x
theorem keyIs_shape : ∀ {k : Key} {v : Value}, keyIs k v = true → (∃ i t, k = Sum.inl i ∧ v = Value.int i t) ∨ (∃ x t, k = Sum.inr x ∧ v = Value.str x t)
  | .inl i, v, h => by
    obtain ⟨t, e⟩ := Value.isInt_shape (k := i) (v := v) h
    exact .inl ⟨i, t, rfl, e⟩
  | .inr x, v, h => by
    obtain ⟨t, e⟩ := Value.isStrOf_shape (x := x) (v := v) h
    exact .inr ⟨x, t, rfl, e⟩
theorem key_ll (a b : Int) : decide ((Sum.inl a : Key) = Sum.inl b) = (a == b) := by
  by_cases e : a = b
  · subst e; simp
  · have h : ¬ (Sum.inl a : Key) = Sum.inl b := fun q => e (Sum.inl.inj q)
    rw [decide_eq_false h]
    exact (beq_eq_false_iff_ne.mpr e).symm
theorem key_rr (a b : Str) : decide ((Sum.inr a : Key) = Sum.inr b) = decide (a = b) := by
  by_cases e : a = b
  · subst e; simp
  · have h : ¬ (Sum.inr a : Key) = Sum.inr b := fun q => e (Sum.inr.inj q)
    rw [decide_eq_false h, decide_eq_false e]
theorem key_lr (a : Int) (b : Str) : decide ((Sum.inl a : Key) = Sum.inr b) = false := decide_eq_false (fun q => nomatch q)
theorem key_rl (a : Str) (b : Int) : decide ((Sum.inr a : Key) = Sum.inl b) = false := decide_eq_false (fun q => nomatch q)

noncomputable def mixKind (prog : Program) (w : World) : PySem.KeyKind prog w Key where
  is := keyIs
  hash := keyH w
  inj := fun v a b ha hb => by
    rcases keyIs_shape ha with ⟨i, t, rfl, rfl⟩ | ⟨x, t, rfl, rfl⟩
    · rcases keyIs_shape hb with ⟨j, u, rfl, e⟩ | ⟨y, u, rfl, e⟩
      · injection e with e1 _; rw [e1]
      · exact nomatch e
    · rcases keyIs_shape hb with ⟨j, u, rfl, e⟩ | ⟨y, u, rfl, e⟩
      · exact nomatch e
      · injection e with e1 _; rw [e1]
  byValue := fun k v h => by
    rcases keyIs_shape h with ⟨i, t, rfl, rfl⟩ | ⟨x, t, rfl, rfl⟩ <;> rfl
  pyHash := fun hv h => by
    rcases keyIs_shape hv with ⟨i, t, rfl, rfl⟩ | ⟨x, t, rfl, rfl⟩
    · exact wpAny_pyHash_int h
    · exact wpAny_pyHash_str h
  eqBool := fun hu hv h => by
    rcases keyIs_shape hu with ⟨i, t, rfl, rfl⟩ | ⟨x, t, rfl, rfl⟩
    · rcases keyIs_shape hv with ⟨j, u, rfl, rfl⟩ | ⟨y, u, rfl, rfl⟩
      · rw [key_ll] at h; exact wpAny_eqBool_int h
      · rw [key_lr] at h; exact SeqAt.EqAt.int_str i t y u _ _ _ _ h
    · rcases keyIs_shape hv with ⟨j, u, rfl, rfl⟩ | ⟨y, u, rfl, rfl⟩
      · rw [key_rl] at h; exact SeqAt.EqAt.str_int x t j u _ _ _ _ h
      · rw [key_rr] at h; exact wpAny_eqBool_str h
  «strs» := fun k x t v h => by
    rcases keyIs_shape h with ⟨i, u, rfl, e⟩ | ⟨y, u, rfl, e⟩
    · exact nomatch e
    · injection e with e1 _
      subst e1
      cases v <;> rfl

end L2

namespace L2
open PySem PySem.Spec PyProof.Rows

inductive V where
  | non | bl (b : Bool) | int (i : Int) | str (x : Str) | byt (b : Array UInt8) | flt (b : UInt64) | ref (a : Addr) | ty (n : String)
  deriving DecidableEq

noncomputable def RelV : V → Value → Prop
  | .non, u => u = Value.none
  | .bl b, u => u = Value.bool b
  | .int i, u => ∃ t, u = Value.int i t
  | .str x, u => ∃ t, u = Value.str x t
  | .byt b, u => ∃ t, u = Value.bytes b t
  | .flt b, u => ∃ t, u = Value.float b t
  | .ref a, u => u = Value.ref a
  | .ty n, u => u = Value.type n

noncomputable abbrev Vals : List V → List Value → Prop := Paired RelV
theorem Vals.length {xs : List V} {us : List Value} (r : Vals xs us) : xs.length = us.length := Paired.length r
theorem Vals.get : ∀ {xs : List V} {us : List Value} {i : Nat} {x : V}, Vals xs us → xs[i]? = some x → ∃ u, us[i]? = some u ∧ RelV x u
  | _, _, _, _, .nil, e => by simp at e
  | _, _, 0, _, .cons r _, e => by simp at e; subst e; exact ⟨_, rfl, r⟩
  | _, _, i + 1, x, .cons _ t, e => by
    obtain ⟨u, h1, h2⟩ := Vals.get (i := i) (x := x) t (by simpa using e)
    exact ⟨u, by simpa using h1, h2⟩
theorem Vals.set {x : V} {u : Value} (r : RelV x u) : ∀ {xs : List V} {us : List Value} (i : Nat), Vals xs us → Vals (xs.set i x) (us.set i u)
  | _, _, _, .nil => .nil
  | _, _, 0, .cons _ t => .cons r t
  | _, _, i + 1, .cons q t => .cons q (Vals.set r i t)
theorem Vals.append : ∀ {xs ys : List V} {us ws : List Value}, Vals xs us → Vals ys ws → Vals (xs ++ ys) (us ++ ws)
  | _, _, _, _, .nil, s => s
  | _, _, _, _, .cons r t, s => .cons r (Vals.append t s)
theorem Vals.take : ∀ {xs : List V} {us : List Value} (n : Nat), Vals xs us → Vals (xs.take n) (us.take n)
  | _, _, 0, _ => .nil
  | _, _, _ + 1, .nil => .nil
  | _, _, n + 1, .cons r t => .cons r (Vals.take n t)
theorem Vals.drop : ∀ {xs : List V} {us : List Value} (n : Nat), Vals xs us → Vals (xs.drop n) (us.drop n)
  | _, _, 0, r => r
  | _, _, _ + 1, .nil => .nil
  | _, _, n + 1, .cons _ t => Vals.drop n t
theorem Vals.none_of : ∀ {xs : List V} {us : List Value} {i : Nat}, Vals xs us → xs[i]? = none → us[i]? = none := fun {xs us i} r e => by
  have h1 := r.length
  have h2 : xs.length ≤ i := List.getElem?_eq_none_iff.mp e
  exact List.getElem?_eq_none_iff.mpr (by omega)

noncomputable def RelO : Option V → Option Value → Prop
  | some v, some u => RelV v u
  | none, none => True
  | _, _ => False
noncomputable def KV {κ : Type} : List (κ × V) → List (κ × Value) → Prop := Paired fun (p : κ × V) (q : κ × Value) => p.1 = q.1 ∧ RelV p.2 q.2

noncomputable def kV : Key → V
  | .inl i => .int i
  | .inr x => .str x

inductive HO where
    | lst (xs : List V)
    | tup (xs : List V)
    | dK (kvs : List (Key × V)) | dT (kvs : List (List Key × V))
    | set (S : Int → Bool) (n : Nat)
    | ins (C dx : Addr) (fs : List (Str × V))
    | own (x : Addr)
    | xd (fs : List (Str × V))
    | met (f x : Addr)
    | rng (lo hi : Int)
    | frz (o : Obj) (u : HO)
    | tbl (ps : Array Value)
    | ext (φ : Heap → Prop)

noncomputable abbrev Hp := Addr → Option HO
noncomputable def upd (H : Hp) (a : Addr) (o : HO) : Hp := fun b => if b = a then some o else H b
theorem upd_same {H : Hp} {a : Addr} {o : HO} : upd H a o a = some o := by unfold upd; rw [if_pos rfl]
theorem upd_ne {H : Hp} {a b : Addr} {o : HO} (h : b ≠ a) : upd H a o b = H b := by unfold upd; rw [if_neg h]
theorem ne_of_none {H : Hp} {a b : Addr} {o : HO} (h : H a = some o) (h' : H b = none) : a ≠ b := by
  intro e; subst e; rw [h] at h'; cases h'

section
variable (P : Program) (w : World)
noncomputable def ObjOk (H : Hp) (h : Heap) (a : Addr) : HO → Prop
  | .lst xs => xs.length ≤ sizeLine ∧ ∃ (its : List Value) (n : Nat), Vals xs its ∧ h.get? a = some { cls := .type "list", data := .seq its.toArray n }
  | .tup xs => xs.length ≤ sizeLine ∧ ∃ its : List Value, Vals xs its ∧ IsTup h a its.toArray
  | .dK kvs => kvs.length ≤ sizeLine ∧ (a == sysModules) = false ∧ ∃ vs, KV kvs vs ∧ h.DictOf (mixKind P w) a vs
  | .dT kvs => kvs.length ≤ sizeLine ∧ (a == sysModules) = false ∧ ∃ xs : List (List Key × Addr × Value),
      Paired (fun (p : List Key × V) (q : List Key × Addr × Value) => p.1 = q.1 ∧ H q.2.1 = some (.tup (p.1.map kV)) ∧ RelV p.2 q.2.2) kvs xs ∧
      ∃ o es ep, h.get? a = some o ∧ o.ExactDict ∧ o.data = .dict es ep ∧ es.toList = xs.map (entryOfKey (tupleKind (mixKind P w))) ∧ (xs.map (·.1)).Nodup
  | .set S n => h.SetOf (intKind P w) a S n
  | .ins C dx fs => H dx = some (.own a) ∧ fs.length ≤ 1000 ∧ dx ≠ a ∧ h.get? a = some (PySem.W.instObj C dx) ∧
      ∃ mA, h.Ns1 dx mA ∧ (∀ f, RelO (fs.lookup f) (mA f)) ∧ PySem.Within mA (fs.map (·.1))
  | .own _ => ∃ o, h.get? a = some o
  | .xd fs => ∃ mA, h.Ns1 a mA ∧ ∀ f, RelO (fs.lookup f) (mA f)
  | .rng lo hi => ∃ t u v, h.get? a = some { cls := .type "range", data := .fields #[.int lo t, .int hi u, .int 1 v] }
  | .frz o u => h.get? a = some o ∧ ObjOk H h a u
  | .tbl ps => h.get? a = some { cls := .none, data := .fields ps }
  | .met f x => h.get? a = some (PySem.W.methodObj (.ref f) (.ref x))
  | .ext φ => φ h ∧ (∃ o, h.get? a = some o) ∧ ∀ h1 h2 : Heap, φ h1 → (∀ o, h1.get? a = some o → h2.get? a = some o) → φ h2
noncomputable def HOk (H : Hp) (h : Heap) : Prop := ∀ a o, H a = some o → ObjOk P w H h a o
end

section
variable {P : Program} {w : World} {H H' : Hp} {h h' : Heap} {a : Addr} {o : HO}
theorem ObjOk.lt (x : ObjOk P w H h a o) : a < h.objs.size := by
  cases o with
  | lst xs => obtain ⟨_, _, _, _, e⟩ := x; exact Heap.lt_size e
  | tup xs => obtain ⟨_, _, _, p⟩ := x; exact p.lt
  | dK kvs => obtain ⟨_, _, _, _, o, _, _, e, _⟩ := x; exact Heap.lt_size e
  | dT kvs => obtain ⟨_, _, _, _, o, _, _, e, _⟩ := x; exact Heap.lt_size e
  | set S n => obtain ⟨o, _, _, _, e, _⟩ := x; exact Heap.lt_size e
  | ins C dx fs => obtain ⟨_, _, _, e, _⟩ := x; exact Heap.lt_size e
  | own y => obtain ⟨_, e⟩ := x; exact Heap.lt_size e
  | xd fs => obtain ⟨_, ⟨_, _, _, e, _⟩, _⟩ := x; exact Heap.lt_size e
  | rng lo hi => obtain ⟨_, _, _, e⟩ := x; exact Heap.lt_size e
  | frz ob u => obtain ⟨e, _⟩ := x; exact Heap.lt_size e
  | tbl ps => exact Heap.lt_size (show h.get? a = some _ from x)
  | met f y => exact Heap.lt_size (show h.get? a = some _ from x)
  | ext φ => obtain ⟨_, ⟨_, e⟩, _⟩ := x; exact Heap.lt_size e
theorem Paired.mapP {α β : Type} {F G : α → β → Prop} : ∀ {l₁ : List α} {l₂ : List β}, Paired F l₁ l₂ → (∀ a b, F a b → G a b) → Paired G l₁ l₂
  | _, _, .nil, _ => .nil
  | _, _, .cons r t, f => .cons (f _ _ r) (Paired.mapP t f)
theorem ObjOk.stay (x : ObjOk P w H h a o) (k : ∀ b u, (b = a ∨ H b = some (.own a)) → h.get? b = some u → h'.get? b = some u)
    (ho : ∀ b, H b = some (.own a) → H' b = some (.own a)) (ht : ∀ b xs, H b = some (.tup xs) → H' b = some (.tup xs)) : ObjOk P w H' h' a o := by
  induction o with
  | lst xs => obtain ⟨z, its, n, r, e⟩ := x; exact ⟨z, its, n, r, k _ _ (.inl rfl) e⟩
  | tup xs => obtain ⟨z, its, r, ob, e, c⟩ := x; exact ⟨z, its, r, ob, k _ _ (.inl rfl) e, c⟩
  | dK kvs => obtain ⟨z, y, vs, r, ob, es, ep, e, c⟩ := x; exact ⟨z, y, vs, r, ob, es, ep, k _ _ (.inl rfl) e, c⟩
  | dT kvs =>
    obtain ⟨z, y, xs, r, ob, es, ep, e, c⟩ := x
    exact ⟨z, y, xs, Paired.mapP r fun p q z => ⟨z.1, ht _ _ z.2.1, z.2.2⟩, ob, es, ep, k _ _ (.inl rfl) e, c⟩
  | set S n => obtain ⟨ob, es, ep, t, e, c⟩ := x; exact ⟨ob, es, ep, t, k _ _ (.inl rfl) e, c⟩
  | ins C dx fs =>
    obtain ⟨d, z, ne, e, mA, ⟨od, es, ep, e2, c⟩, r⟩ := x
    exact ⟨ho _ d, z, ne, k _ _ (.inl rfl) e, mA, ⟨od, es, ep, k _ _ (.inr d) e2, c⟩, r⟩
  | own y => obtain ⟨ob, e⟩ := x; exact ⟨ob, k _ _ (.inl rfl) e⟩
  | xd fs => obtain ⟨mA, ⟨od, es, ep, e, c⟩, r⟩ := x; exact ⟨mA, ⟨od, es, ep, k _ _ (.inl rfl) e, c⟩, r⟩
  | rng lo hi => obtain ⟨t, u, v, e⟩ := x; exact ⟨t, u, v, k _ _ (.inl rfl) e⟩
  | frz ob u ih => obtain ⟨e, q⟩ := x; exact ⟨k _ _ (.inl rfl) e, ih q⟩
  | tbl ps =>
    have e : h.get? a = some { cls := .none, data := .fields ps } := x
    show h'.get? a = some { cls := .none, data := .fields ps }
    exact k a _ (.inl rfl) e
  | met f y =>
    have e : h.get? a = some (PySem.W.methodObj (.ref f) (.ref y)) := x
    show h'.get? a = some (PySem.W.methodObj (.ref f) (.ref y))
    exact k a _ (.inl rfl) e
  | ext φ => obtain ⟨p, ⟨o, e⟩, st⟩ := x; exact ⟨st _ _ p fun o q => k _ _ (.inl rfl) q, ⟨o, k _ _ (.inl rfl) e⟩, st⟩
theorem HOk.lt (x : HOk P w H h) (e : H a = some o) : a < h.objs.size := (x a o e).lt
theorem HOk.fresh (x : HOk P w H h) (e : h.objs.size ≤ a) : H a = none := by
  cases q : H a with
  | none => rfl
  | some u => exact absurd (Nat.lt_of_lt_of_le (x.lt q) e) (Nat.lt_irrefl _)
theorem HOk.kept (x : HOk P w H h) (k : ∀ b u, h.get? b = some u → h'.get? b = some u) : HOk P w H h' := fun a o e =>
  (x a o e).stay (fun b u _ q => k b u q) (fun _ q => q) fun _ _ q => q
theorem HOk.laid (x : HOk P w H h) (k : ∀ b u, h.get? b = some u → h'.get? b = some u) (hp : h.objs.size ≤ a) (new : ObjOk P w (upd H a o) h' a o) : HOk P w (upd H a o) h' := fun b u e => by
  have hn := x.fresh hp
  by_cases hb : b = a
  · subst hb; rw [upd_same] at e; cases e; exact new
  · rw [upd_ne hb] at e
    exact (x b u e).stay (fun c v _ q => k c v q) (fun c q => by rw [upd_ne (ne_of_none q hn)]; exact q) fun c xs q => by rw [upd_ne (ne_of_none q hn)]; exact q
end

noncomputable def Rd (H : Hp) (a : Addr) (u : HO) : Prop := H a = some u ∨ ∃ o, H a = some (.frz o u)
theorem Rd.of {H : Hp} {a : Addr} {u : HO} (h : H a = some u) : Rd H a u := .inl h
theorem Rd.ok {P : Program} {w : World} {H : Hp} {h : Heap} {a : Addr} {u : HO} (r : Rd H a u) (x : HOk P w H h) : ObjOk P w H h a u := by
  rcases r with r | ⟨o, r⟩
  · exact x a u r
  · obtain ⟨_, q⟩ := x a _ r
    exact q
noncomputable def Mut : Option HO → Prop
  | some (.lst _) => True
  | some (.dK _) => True
  | some (.dT _) => True
  | some (.set _ _) => True
  | some (.ins _ _ _) => True
  | some (.ext _) => True
  | _ => False
section
variable {P : Program} {w : World} {H : Hp} {h h' : Heap} {x e : Addr} {o' : HO}
theorem HOk.write (ok : HOk P w H h) (mu : Mut (H x)) (he : e = x ∨ H e = some (.own x)) (k : ∀ b u, b ≠ e → h.get? b = some u → h'.get? b = some u) (heo : ∃ u, h'.get? e = some u)
    (new : ObjOk P w (upd H x o') h' x o') : HOk P w (upd H x o') h' := fun b u q => by
  have nown : ∀ c y, H c = some (.own y) → c ≠ x := fun c y r z => by subst z; rw [r] at mu; exact mu
  have ntup : ∀ c xs, H c = some (.tup xs) → c ≠ x := fun c xs r z => by subst z; rw [r] at mu; exact mu
  by_cases hb : b = x
  · subst hb; rw [upd_same] at q; cases q; exact new
  · rw [upd_ne hb] at q
    by_cases hbe : b = e
    · have q' : H b = some (.own x) := by
        rcases he with z | z
        · exact absurd (hbe.trans z) hb
        · rw [hbe]; exact z
      rw [q] at q'; cases q'
      obtain ⟨v, hv⟩ := heo
      exact ⟨v, by rw [hbe]; exact hv⟩
    · refine (ok b u q).stay (fun c v hc r => k c v ?_ r) (fun c r => by rw [upd_ne (nown c b r)]; exact r) fun c xs r => by rw [upd_ne (ntup c xs r)]; exact r
      rcases hc with rfl | hc
      · exact hbe
      · rintro rfl
        rcases he with z | z
        · exact nown c b hc z
        · rw [hc] at z; cases z; exact hb rfl
end

structure Un (fs ex : List Addr) (H H' : Hp) (h h' : Heap) : Prop where
  keep : ∀ b o, h.get? b = some o → H b = none → b ∉ fs → b ∉ ex → h'.get? b = some o
  slot : ∀ b o, h.get? b = some o → H b = none → b ∈ fs → b ∉ ex → ∃ sl, h'.get? b = some { o with slots := sl }
  free : ∀ b o, h.get? b = some o → H b = none → b ∉ ex → H' b = none
  there : ∀ b o, h.get? b = some o → b ∉ ex → ∃ o', h'.get? b = some o'
  tups : ∀ b xs, H b = some (.tup xs) → H' b = some (.tup xs)
  frzs : ∀ b o u, H b = some (.frz o u) → H' b = some (.frz o u)
  tbls : ∀ b ps, H b = some (.tbl ps) → ∃ more, H' b = some (.tbl (ps ++ more))
section
variable {fs fs' ex ex' : List Addr} {H H1 H2 : Hp} {h h1 h2 h' : Heap} {a x e : Addr} {o : HO}
theorem Un.any (u : Un fs ex H H1 h h1) {b : Addr} {ob : Obj} (q : h.get? b = some ob) (n : H b = none) (hx : b ∉ ex) : ∃ sl, h1.get? b = some { ob with slots := sl } := by
  by_cases hb : b ∈ fs
  · exact u.slot b ob q n hb hx
  · exact ⟨ob.slots, u.keep b ob q n hb hx⟩
theorem Un.trans (a : Un fs ex H H1 h h1) (b : Un fs ex H1 H2 h1 h2) : Un fs ex H H2 h h2 where
  keep := fun c ob q n hc hx => b.keep c ob (a.keep c ob q n hc hx) (a.free c ob q n hx) hc hx
  slot := fun c ob q n hc hx => by
    obtain ⟨sl, e1⟩ := a.slot c ob q n hc hx
    obtain ⟨sl', e2⟩ := b.slot c _ e1 (a.free c ob q n hx) hc hx
    exact ⟨sl', e2⟩
  free := fun c ob q n hx => by
    obtain ⟨o', e1⟩ := a.there c ob q hx
    exact b.free c o' e1 (a.free c ob q n hx) hx
  there := fun c ob q hx => by
    obtain ⟨o', e1⟩ := a.there c ob q hx
    exact b.there c o' e1 hx
  tups := fun c xs q => b.tups c xs (a.tups c xs q)
  frzs := fun c ob xs q => b.frzs c ob xs (a.frzs c ob xs q)
  tbls := fun c ps q => by
    obtain ⟨m1, e1⟩ := a.tbls c ps q
    obtain ⟨m2, e2⟩ := b.tbls c _ e1
    exact ⟨m1 ++ m2, by rw [e2, Array.append_assoc]⟩
theorem Un.kept (k : ∀ b u, h.get? b = some u → h'.get? b = some u) : Un fs ex H H h h' :=
  ⟨fun b ob q _ _ _ => k b ob q, fun b ob q _ _ _ => ⟨ob.slots, k b ob q⟩, fun _ _ _ n _ => n, fun b ob q _ => ⟨ob, k b ob q⟩, fun _ _ q => q, fun _ _ _ q => q, fun _ ps q => ⟨#[], by rw [q]; simp⟩⟩
theorem Un.refl : Un fs ex H H h h := Un.kept fun _ _ q => q
theorem Un.laid (k : ∀ b u, h.get? b = some u → h'.get? b = some u) (hp : h.objs.size ≤ a) (hn : H a = none) : Un fs ex H (upd H a o) h h' where
  keep := fun b u q _ _ _ => k b u q
  slot := fun b u q _ _ _ => ⟨u.slots, k b u q⟩
  free := fun b u q n _ => by rw [upd_ne (Nat.ne_of_lt (Nat.lt_of_lt_of_le (Heap.lt_size q) hp))]; exact n
  there := fun b u q _ => ⟨u, k b u q⟩
  tups := fun b xs q => by rw [upd_ne (ne_of_none q hn)]; exact q
  frzs := fun b u xs q => by rw [upd_ne (ne_of_none q hn)]; exact q
  tbls := fun b ps q => ⟨#[], by rw [upd_ne (ne_of_none q hn), q]; simp⟩
theorem Un.write (mu : Mut (H x)) (he : e = x ∨ H e = some (.own x)) (k : ∀ b u, b ≠ e → h.get? b = some u → h'.get? b = some u) (heo : ∃ u, h'.get? e = some u) : Un fs ex H (upd H x o) h h' := by
  have hx : ∀ b, H b = none → b ≠ x := fun b n z => by subst z; rw [n] at mu; exact mu
  have hb : ∀ b, H b = none → b ≠ e := fun b n z => by
    subst z
    rcases he with r | r
    · exact hx b n r
    · rw [n] at r; cases r
  have hm : ∀ b u, H b = some u → ¬ Mut (some u) → b ≠ x := fun b u q nm z => by subst z; rw [q] at mu; exact nm mu
  refine ⟨fun b u q n _ _ => k b u (hb b n) q, fun b u q n _ _ => ⟨u.slots, k b u (hb b n) q⟩, fun b u q n _ => by rw [upd_ne (hx b n)]; exact n, fun b u q _ => ?_,
    fun b xs q => by rw [upd_ne (hm b _ q fun z => z)]; exact q, fun b u xs q => by rw [upd_ne (hm b _ q fun z => z)]; exact q, fun b ps q => ⟨#[], by rw [upd_ne (hm b _ q fun z => z), q]; simp⟩⟩
  by_cases hbe : b = e
  · subst hbe; exact heo
  · exact ⟨u, k b u hbe q⟩
theorem Un.mono (u : Un fs ex H H1 h h1) (hs : ∀ b ∈ fs, b ∈ fs') (hx : ∀ b ∈ ex, b ∈ ex') : Un fs' ex' H H1 h h1 :=
  ⟨fun b ob q n hb he => u.keep b ob q n (fun z => hb (hs b z)) fun z => he (hx b z), fun _ _ q n _ he => u.any q n fun z => he (hx _ z), fun b ob q n he => u.free b ob q n fun z => he (hx b z), fun b ob q he => u.there b ob q fun z => he (hx b z), u.tups, u.frzs, u.tbls⟩
end

noncomputable def trk (h : Heap) (H : Hp) : List Addr := (List.range h.objs.size).filter fun a => (H a).isSome
noncomputable def hidT (h : Heap) (H : Hp) : Heap := PySem.W.hideAll h (trk h H)
theorem hidT_size (h : Heap) (H : Hp) : (hidT h H).objs.size = h.objs.size := PySem.W.hideAll_size _ _
theorem hidT_get {h : Heap} {H : Hp} {b : Addr} {o : Obj} (e : h.get? b = some o) (n : H b = none) : (hidT h H).get? b = some o :=
  PySem.W.hideAll_get _ e fun hm => by
    have q : (H b).isSome = true := (List.mem_filter.mp hm).2
    rw [n] at q; simp at q
theorem of_hidT {h : Heap} {H : Hp} {b : Addr} {o : Obj} (e : (hidT h H).get? b = some o) : h.get? b = some o ∧ H b = none := by
  have e' : h.get? b = some o := PySem.W.of_hideAll (trk h H) e
  refine ⟨e', ?_⟩
  cases q : H b with
  | none => rfl
  | some x =>
    have hm : b ∈ trk h H := List.mem_filter.mpr ⟨List.mem_range.mpr (Heap.lt_size e'), by simp [q]⟩
    have z : (hidT h H).get? b = none := PySem.W.hideAll_none (trk h H) hm
    rw [z] at e; cases e

noncomputable def allNews (g h : Heap) (L : Addr) : List (Addr × Obj) := (List.range h.objs.size).filterMap fun a => if a = L ∨ (g.get? a).isSome = true then none else (h.get? a).map fun o => (a, o)
noncomputable def rest (g h : Heap) (L d : Addr) : List (Addr × Obj) := (allNews g h L).filter fun p => decide (p.1 ≠ d)
end L2

namespace L2
open PySem PySem.Spec PyProof.Rows

structure Mod (K : PySem.W.Frag) (mg : Str → Option Value) (base : Heap) : Prop where
  kin : K.In base
  glob : base.Ns mainGlobals mg
  blt : ∃ mb, base.Ns builtinsNs mb ∧ ∀ x : Str, x ≠ "__name__" → mb x = bootBuiltins x
  nolimit : base.NoLimit

structure Cx where
  prog : Program
  w : World
  K : PySem.W.Frag
  mg : Str → Option Value
  base : Heap
  A : Around
  N : List Str
  s₀ : Shared
  H₀ : Hp
  env : Env
  outer : List Env
  stack : List Env
  ex : List Addr
  fn : Str → Bool
  calm : Bool
  pn : List (Addr × Obj)
  xe : Value → Shared → Prop
noncomputable def frs (l : List Env) : List Addr := l.filterMap (·.frame)
noncomputable abbrev Cx.fs (X : Cx) : List Addr := frs X.outer

noncomputable def Vis (sc : Scope) (x : Str) : Prop := sc.names.lookup x = some .local ∨ sc.names.lookup x = some .cell ∨ sc.names.lookup x = some .free
noncomputable def Loc (sc : Scope) (x : Str) : Prop := sc.names.lookup x = some .local ∨ sc.names.lookup x = some .cell
noncomputable def Look (env : Env) (h : Heap) (m : Str → Option Value) (x : Str) (u : Value) : Prop :=
  (env.kindOf x = some .local ∧ m x = some u) ∨ ((env.kindOf x = some .cell ∨ env.kindOf x = some .free) ∧ ∃ c, env.cells.lookup x = some c ∧ h.IsCell c (some u))

structure Cx.Ok (X : Cx) : Prop where
  mod : Mod X.K X.mg X.base
  kind : X.env.scope.kind = .function
  glob : X.env.globals = mainGlobals
  blt : X.env.builtins = builtinsNs
  above : X.s₀.heap.objs.size ≤ X.env.locals
  inj : ∀ x y c, X.env.cells.lookup x = some c → X.env.cells.lookup y = some c → x = y
  has : ∀ x, (X.env.kindOf x = some .cell ∨ X.env.kindOf x = some .free) → ∃ c, X.env.cells.lookup x = some c
  cab : ∀ x c, X.fn x = true → X.env.cells.lookup x = some c → X.s₀.heap.objs.size ≤ c
  hd : X.calm = true → X.A.handled = none
  frames : X.A.frames = some X.stack
  stk : X.stack = X.outer ∨ (X.stack = X.env :: X.outer ∧ X.env.frame = some X.env.locals)
  exf : ∀ b ∈ X.ex, b ≠ X.env.locals ∧ ∀ x c, X.env.cells.lookup x = some c → c ≠ b
  bs : ∀ b o, X.base.get? b = some o → X.s₀.heap.get? b = some o ∧ X.H₀ b = none
  bsz : X.base.objs.size ≤ X.s₀.heap.objs.size
  noex : ∀ b o, X.base.get? b = some o → b ∉ X.ex
  exfs : ∀ b ∈ X.ex, b ∉ X.fs
  funs : X.s₀.heap.FunFrames X.base X.outer
  frf : ∀ b ∈ X.fs, X.H₀ b = none

structure Inv (X : Cx) (pins : List (Addr × Obj)) (σ : List (Option V)) (H : Hp) (s : Shared) : Prop where
  ok : X.Ok
  os : s.os = X.s₀.os
  bare : AllBare s.gens
  base : Un X.fs X.ex X.H₀ H X.s₀.heap s.heap
  loc : ∃ m, s.heap.Ns X.env.locals m ∧ ∀ (i : Nat) (x : Str) (v : V), X.N[i]? = some x → σ[i]? = some (some v) → Vis X.env.scope x → ∃ u, RelV v u ∧ Look X.env s.heap m x u
  cell : ∀ x c, X.env.cells.lookup x = some c → ∃ v, s.heap.IsCell c v
  free : H X.env.locals = none
  freeC : ∀ x c, X.env.cells.lookup x = some c → H c = none
  pin : ∀ p ∈ X.pn ++ pins, s.heap.get? p.1 = some p.2 ∧ H p.1 = none ∧ p.1 ≠ X.env.locals ∧ p.1 ∉ X.fs ∧ ∀ v, p.2.data ≠ .cell v
  hok : HOk X.prog X.w H s.heap
  len : σ.length = X.N.length

section
variable {X : Cx} {pins : List (Addr × Obj)} {σ : List (Option V)} {H H' : Hp} {s : Shared} {h' : Heap}

theorem Cx.Ok.nofr (ok : X.Ok) {b : Addr} {o : Obj} (e : X.base.get? b = some o) : b ∉ X.fs := fun hb => by
  have := (ok.funs.mem hb).1
  rw [e] at this; cases this
theorem Inv.bs (I : Inv X pins σ H s) : ∀ b o, X.base.get? b = some o → s.heap.get? b = some o ∧ H b = none := fun b o e =>
  ⟨I.base.keep b o (I.ok.bs b o e).1 (I.ok.bs b o e).2 (I.ok.nofr e) (I.ok.noex b o e), I.base.free b o (I.ok.bs b o e).1 (I.ok.bs b o e).2 (I.ok.noex b o e)⟩
theorem Inv.bk (I : Inv X pins σ H s) : ∀ b o, X.base.get? b = some o → s.heap.get? b = some o := fun b o e => (I.bs b o e).1
theorem Inv.mod (I : Inv X pins σ H s) : Mod X.K X.mg X.base := I.ok.mod
theorem Inv.kIn (I : Inv X pins σ H s) : X.K.In s.heap := I.ok.mod.kin.keeps I.bk
theorem Inv.nolimit (I : Inv X pins σ H s) : s.heap.NoLimit := I.ok.mod.nolimit.keeps I.bk
theorem Inv.fr (I : Inv X pins σ H s) : ∃ m, Fr X.base X.env.locals s.heap m :=
  let ⟨m, hn, _⟩ := I.loc
  ⟨m, hn, I.bk, Nat.le_trans I.ok.bsz I.ok.above⟩
theorem Inv.lt (I : Inv X pins σ H s) : X.env.locals < s.heap.objs.size := let ⟨_, hn, _⟩ := I.loc; hn.lt
theorem Inv.sz (I : Inv X pins σ H s) : X.s₀.heap.objs.size ≤ s.heap.objs.size := Nat.le_trans I.ok.above (Nat.le_of_lt I.lt)
theorem Inv.nofs (I : Inv X pins σ H s) {a : Addr} (h : s.heap.objs.size ≤ a) : a ∉ X.fs := fun hb => by
  obtain ⟨_, o, ho, _⟩ := I.ok.funs.mem hb
  exact absurd (Nat.lt_of_lt_of_le (Heap.lt_size ho) (Nat.le_trans I.sz h)) (Nat.lt_irrefl _)
theorem Inv.cne (I : Inv X pins σ H s) : ∀ x c, X.env.cells.lookup x = some c → c ≠ X.env.locals := fun x c e z => by
  obtain ⟨v, o, ho, hd⟩ := I.cell x c e
  obtain ⟨m, ⟨o', es, ep, ho', hd', _⟩, _⟩ := I.loc
  rw [z, ho'] at ho; cases ho; rw [hd'] at hd; cases hd
theorem Inv.funs (I : Inv X pins σ H s) : s.heap.FunFrames X.base X.outer := by
  have all : ∀ (l : List Env), (∀ b ∈ frs l, b ∈ X.fs) → X.s₀.heap.FunFrames X.base l → s.heap.FunFrames X.base l := by
    intro l
    induction l with
    | nil => intro _ _; trivial
    | cons env r ih =>
      intro hs hl
      obtain ⟨hk, ⟨L, o, hf, hn, ho, hd⟩, hr⟩ := hl
      have hL : L ∈ X.fs := hs L (by unfold frs; rw [List.filterMap_cons, hf]; exact List.mem_cons_self)
      obtain ⟨sl, e⟩ := I.base.slot L o ho (I.ok.frf L hL) hL fun z => I.ok.exfs L z hL
      exact ⟨hk, ⟨L, _, hf, hn, e, hd⟩, ih (fun b hb => hs b (by unfold frs; rw [List.filterMap_cons, hf]; exact List.mem_cons_of_mem _ hb)) hr⟩
  exact all X.outer (fun _ hb => hb) I.ok.funs

theorem Inv.stack (I : Inv X pins σ H s) : s.heap.FunFrames X.base X.stack := by
  rcases I.ok.stk with e | ⟨e, hf⟩
  · rw [e]; exact I.funs
  · rw [e]
    obtain ⟨m, hn, _⟩ := I.loc
    refine .cons (by rw [I.ok.kind]; decide) hf hn ?_ I.funs
    exact Heap.get?_none_of_le (Nat.le_trans I.ok.bsz I.ok.above)
theorem Inv.stkSub (I : Inv X pins σ H s) : ∀ b ∈ frs X.stack, b ∈ X.env.locals :: X.fs := fun b hb => by
  rcases I.ok.stk with e | ⟨e, hf⟩
  · rw [e] at hb; exact List.mem_cons_of_mem _ hb
  · rw [e] at hb
    unfold frs at hb
    rw [List.filterMap_cons, hf] at hb
    exact hb
theorem Inv.stkFree (I : Inv X pins σ H s) : ∀ b ∈ frs X.stack, H b = none := fun b hb => by
  rcases List.mem_cons.mp (I.stkSub b hb) with e | hb
  · rw [e]; exact I.free
  · obtain ⟨_, o, ho, _⟩ := I.ok.funs.mem hb
    exact I.base.free b o ho (I.ok.frf b hb) fun z => I.ok.exfs b z hb

theorem Inv.step {g' : Array GenState} {t' : Nat} {d' : Drawn} {ch : List Addr} (I : Inv X pins σ H s)
    (hch : ∀ b ∈ ch, (b ∈ X.ex ∨ X.s₀.heap.objs.size ≤ b) ∧ b ≠ X.env.locals ∧ (∀ x c, X.env.cells.lookup x = some c → c ≠ b) ∧ ∀ p ∈ X.pn ++ pins, p.1 ≠ b)
    (keep : ∀ b o, b ≠ X.env.locals → b ∉ X.fs → b ∉ ch → s.heap.get? b = some o → H b = none → h'.get? b = some o)
    (slot : ∀ b o, b ≠ X.env.locals → b ∈ X.fs → b ∉ ch → s.heap.get? b = some o → H b = none → ∃ sl, h'.get? b = some { o with slots := sl }) (free : ∀ b o, b ∉ ch → s.heap.get? b = some o → H b = none → H' b = none)
    (there : ∀ b o, b ∉ ch → s.heap.get? b = some o → ∃ o', h'.get? b = some o')
    (tups : ∀ b xs, H b = some (.tup xs) → H' b = some (.tup xs)) (frzs : ∀ b o u, H b = some (.frz o u) → H' b = some (.frz o u)) (tbls : ∀ b ps, H b = some (.tbl ps) → ∃ more, H' b = some (.tbl (ps ++ more)))
    (ns : ∀ m, s.heap.Ns X.env.locals m → h'.Ns X.env.locals m) (hok : HOk X.prog X.w H' h') (hg : AllBare g') :
    Inv X pins σ H' { s with heap := h', gens := g', drawn := d', toks := t' } := by
  have neL : ∀ b o, X.s₀.heap.get? b = some o → b ≠ X.env.locals := fun b o e => Nat.ne_of_lt (Nat.lt_of_lt_of_le (Heap.lt_size e) I.ok.above)
  have neC : ∀ b o, X.s₀.heap.get? b = some o → b ∉ X.ex → b ∉ ch := fun b o e hx hb => by
    rcases (hch b hb).1 with z | z
    · exact hx z
    · exact absurd (Nat.lt_of_lt_of_le (Heap.lt_size e) z) (Nat.lt_irrefl _)
  have cellK : ∀ x c, X.env.cells.lookup x = some c → ∀ v, s.heap.IsCell c v → h'.IsCell c v := fun x c e v ⟨o, ho, hd⟩ => by
    have nch : c ∉ ch := fun z => (hch c z).2.2.1 x c e rfl
    by_cases hc : c ∈ X.fs
    · obtain ⟨sl, q⟩ := slot c o (I.cne x c e) hc nch ho (I.freeC x c e)
      exact ⟨_, q, hd⟩
    · exact ⟨o, keep c o (I.cne x c e) hc nch ho (I.freeC x c e), hd⟩
  refine ⟨I.ok, I.os, hg, ⟨fun b o e n hb hx => ?_, fun b o e n hb hx => ?_, fun b o e n hx => ?_, fun b o e hx => ?_, fun b xs e => tups b xs (I.base.tups b xs e), fun b o xs e => frzs b o xs (I.base.frzs b o xs e), fun b ps e => ?_⟩, ?_, fun x c e => ?_, ?_, fun x c e => ?_, fun p hp => ?_, hok, I.len⟩
  · exact keep b o (neL b o e) hb (neC b o e hx) (I.base.keep b o e n hb hx) (I.base.free b o e n hx)
  · obtain ⟨sl, e1⟩ := I.base.slot b o e n hb hx
    obtain ⟨sl', e2⟩ := slot b _ (neL b o e) hb (neC b o e hx) e1 (I.base.free b o e n hx)
    exact ⟨sl', e2⟩
  · obtain ⟨o', e1⟩ := I.base.there b o e hx
    exact free b o' (neC b o e hx) e1 (I.base.free b o e n hx)
  · obtain ⟨o', e1⟩ := I.base.there b o e hx
    exact there b o' (neC b o e hx) e1
  · obtain ⟨m1, e1⟩ := I.base.tbls b ps e
    obtain ⟨m2, e2⟩ := tbls b _ e1
    exact ⟨m1 ++ m2, by rw [e2, Array.append_assoc]⟩
  · obtain ⟨m, hn, hl⟩ := I.loc
    refine ⟨m, ns m hn, fun i x v e1 e2 e3 => ?_⟩
    obtain ⟨u, r, l⟩ := hl i x v e1 e2 e3
    refine ⟨u, r, ?_⟩
    rcases l with l | ⟨k, c, e, z⟩
    · exact .inl l
    · exact .inr ⟨k, c, e, cellK x c e _ z⟩
  · obtain ⟨v, z⟩ := I.cell x c e
    exact ⟨v, cellK x c e v z⟩
  · obtain ⟨m, ⟨o, _, _, ho, _⟩, _⟩ := I.loc
    exact free _ o (fun z => (hch _ z).2.1 rfl) ho I.free
  · obtain ⟨v, o, ho, hd⟩ := I.cell x c e
    exact free c o (fun z => (hch c z).2.2.1 x c e rfl) ho (I.freeC x c e)
  · obtain ⟨e, n, ne, nf, d⟩ := I.pin p hp
    have nch : p.1 ∉ ch := fun z => (hch p.1 z).2.2.2 p hp rfl
    exact ⟨keep p.1 p.2 ne nf nch e n, free p.1 p.2 nch e n, ne, nf, d⟩
theorem Inv.un {t' : Nat} (I : Inv X pins σ H s) (u : Un X.fs [] H H' s.heap h') (hok : HOk X.prog X.w H' h') : Inv X pins σ H' { s with heap := h', toks := t' } := by
  obtain ⟨m, ⟨o, es, ep, ho, r⟩, _⟩ := id I.loc
  obtain ⟨sl, hL⟩ := u.any ho I.free (by simp)
  exact I.step (g' := s.gens) (d' := s.drawn) (ch := []) (fun _ z => nomatch z) (fun b o _ hb _ e n => u.keep b o e n hb (by simp)) (fun b o _ hb _ e n => u.slot b o e n hb (by simp)) (fun b o _ e n => u.free b o e n (by simp)) (fun b o _ e => u.there b o e (by simp)) u.tups u.frzs u.tbls (fun m' hm => by
    obtain ⟨o', es', ep', ho', r'⟩ := hm
    rw [ho] at ho'; cases ho'
    exact ⟨_, es', ep', hL, r'⟩) hok I.bare
theorem Inv.call {g' : Array GenState} {t' : Nat} {d' : Drawn} {ch : List Addr} (I : Inv X pins σ H s) (u : Un (frs X.stack) ch H H' s.heap h') (hok : HOk X.prog X.w H' h') (hg : AllBare g')
    (hch : ∀ b ∈ ch, (b ∈ X.ex ∨ X.s₀.heap.objs.size ≤ b) ∧ b ≠ X.env.locals ∧ (∀ x c, X.env.cells.lookup x = some c → c ≠ b) ∧ ∀ p ∈ X.pn ++ pins, p.1 ≠ b) :
    Inv X pins σ H' { s with heap := h', gens := g', drawn := d', toks := t' } := by
  obtain ⟨m, ⟨o, es, ep, ho, r⟩, _⟩ := id I.loc
  obtain ⟨sl, hL⟩ := u.any ho I.free fun z => (hch _ z).2.1 rfl
  exact I.step (ch := ch) hch (fun b o hL hb hc e n => u.keep b o e n (fun z => (List.mem_cons.mp (I.stkSub b z)).elim hL hb) hc) (fun b o _ _ hc e n => u.any e n hc) (fun b o hc e n => u.free b o e n hc) (fun b o hc e => u.there b o e hc) u.tups u.frzs u.tbls (fun m' hm => by
    obtain ⟨o', es', ep', ho', r'⟩ := hm
    rw [ho] at ho'; cases ho'
    exact ⟨_, es', ep', hL, r'⟩) hok hg
theorem Inv.turned {t' : Nat} {it : Addr} (I : Inv X pins σ H s) (k : ∀ b o, b ≠ it → s.heap.get? b = some o → h'.get? b = some o) (hn : H it = none) (hL : it ≠ X.env.locals)
    (h1 : it ∈ X.ex ∨ X.s₀.heap.objs.size ≤ it) (h2 : ∀ x c, X.env.cells.lookup x = some c → c ≠ it) (h3 : ∀ p ∈ X.pn ++ pins, p.1 ≠ it) : Inv X pins σ H { s with heap := h', toks := t' } := by
  have nit : ∀ b u, H b = some u → b ≠ it := fun b u e z => by rw [z, hn] at e; cases e
  refine I.step (g' := s.gens) (d' := s.drawn) (ch := [it]) (fun b hb => ?_) (fun b o _ _ hc e _ => k b o (fun z => hc (by simp [z])) e) (fun b o _ _ hc e _ => ⟨o.slots, k b o (fun z => hc (by simp [z])) e⟩) (fun _ _ _ _ n => n)
    (fun b o hc e => ⟨o, k b o (fun z => hc (by simp [z])) e⟩) (fun _ _ e => e) (fun _ _ _ e => e) (fun b ps e => ⟨#[], by rw [e]; simp⟩) (fun m hm => ?_) (fun b u e => ?_) I.bare
  · have e : b = it := by simpa using hb
    subst e
    exact ⟨h1, hL, h2, h3⟩
  · obtain ⟨o, es, ep, ho, r⟩ := hm
    exact ⟨o, es, ep, k _ o (Ne.symm hL) ho, r⟩
  · refine (I.hok b u e).stay (fun c v hc q => k c v ?_ q) (fun _ q => q) fun _ _ q => q
    rcases hc with z | z
    · rw [z]; exact nit b u e
    · exact nit c _ z
theorem Inv.tok (I : Inv X pins σ H s) (t : Nat) : Inv X pins σ H { s with toks := t } := I.un (h' := s.heap) (t' := t) Un.refl I.hok
theorem Inv.kept {t' : Nat} (I : Inv X pins σ H s) (k : ∀ b u, s.heap.get? b = some u → h'.get? b = some u) : Inv X pins σ H { s with heap := h', toks := t' } := I.un (Un.kept k) (I.hok.kept k)
theorem Inv.laid {a : Addr} {o : HO} {t' : Nat} (I : Inv X pins σ H s) (k : ∀ b u, s.heap.get? b = some u → h'.get? b = some u) (hp : s.heap.objs.size ≤ a) (new : ObjOk X.prog X.w (upd H a o) h' a o) :
    Inv X pins σ (upd H a o) { s with heap := h', toks := t' } := I.un (Un.laid k hp (I.hok.fresh hp)) (I.hok.laid k hp new)
theorem Inv.write {x e : Addr} {o : HO} {t' : Nat} (I : Inv X pins σ H s) (mu : Mut (H x)) (he : e = x ∨ H e = some (.own x)) (k : ∀ b u, b ≠ e → s.heap.get? b = some u → h'.get? b = some u) (heo : ∃ u, h'.get? e = some u)
    (new : ObjOk X.prog X.w (upd H x o) h' x o) : Inv X pins σ (upd H x o) { s with heap := h', toks := t' } := I.un (Un.write mu he k heo) (I.hok.write mu he k heo new)
theorem Inv.pins_of {pins' : List (Addr × Obj)} (I : Inv X pins σ H s) (h : ∀ p ∈ pins', s.heap.get? p.1 = some p.2 ∧ H p.1 = none ∧ p.1 ≠ X.env.locals ∧ p.1 ∉ X.fs ∧ ∀ v, p.2.data ≠ .cell v) : Inv X pins' σ H s :=
  ⟨I.ok, I.os, I.bare, I.base, I.loc, I.cell, I.free, I.freeC, fun p hp => (List.mem_append.mp hp).elim (fun z => I.pin p (List.mem_append_left _ z)) (h p), I.hok, I.len⟩

theorem nodup_ix {N : List Str} (hN : N.Nodup) {i j : Nat} {x : Str} (a : N[i]? = some x) (b : N[j]? = some x) : i = j := by
  obtain ⟨h1, e1⟩ := List.getElem?_eq_some_iff.mp a
  obtain ⟨h2, e2⟩ := List.getElem?_eq_some_iff.mp b
  exact (List.getElem_inj hN).mp (e1.trans e2.symm)

theorem store_ok2 {M : Model} {A : Around} {E : Value → Shared → Prop} {i : Nat} {x : Str} {v : V} {u : Value} {Q : Unit → Shared → Prop} (I : Inv X pins σ H s) (hN : X.N.Nodup) (hi : X.N[i]? = some x) (hx : Loc X.env.scope x) (r : RelV v u)
    (h : ∀ s', Inv X pins (σ.set i (some v)) H s' → (∃ a, Heap.SameBut a s.heap s'.heap ∧ (a = X.env.locals ∨ X.env.cells.lookup x = some a)) → Q () s') (hf : X.fn x = true ∨ X.env.scope.names.lookup x = some .local := by first | exact .inl rfl | exact .inr rfl | assumption) : wpAny M A (storeName X.env x u) Q E s := by
  obtain ⟨m, hn, hl⟩ := id I.loc
  have hcls : (X.env.scope.kind == .class || (X.env.scope.kind == .module && X.env.locals != X.env.globals)) = false := by rw [I.ok.kind]; rfl
  have hiσ : i < σ.length := by rw [I.len]; exact (List.getElem?_eq_some_iff.mp hi).1
  have cne := I.cne
  have tracked : ∀ {a : Addr} {h' : Heap}, (∃ o, s.heap.get? a = some o ∧ H a = none) → Heap.SameBut a s.heap h' → HOk X.prog X.w H h' := fun {a h'} ha hs b ob e => by
    obtain ⟨_, _, hfree⟩ := ha
    refine (I.hok b ob e).stay (fun c w' hc q => (hs.2 c ?_).trans q) (fun _ q => q) fun _ _ q => q
    rintro rfl
    rcases hc with rfl | hc
    · rw [hfree] at e; cases e
    · rw [hfree] at hc; cases hc
  rcases hx with hk | hk
  · refine wpAny_storeName_local hk hn (fun h' hn' hs => ?_) hcls
    obtain ⟨oL, _, _, hoL, _⟩ := id hn
    refine h _ ⟨I.ok, I.os, I.bare, ⟨fun b o e n hb hx => ?_, fun b o e n hb hx => ?_, I.base.free, fun b o e hx => ?_, I.base.tups, I.base.frzs, I.base.tbls⟩, ⟨_, hn', fun j y v' e1 e2 e3 => ?_⟩, fun y c e => ?_, I.free, I.freeC, fun p hp => ?_, tracked ⟨oL, hoL, I.free⟩ hs, by simpa using I.len⟩ ⟨_, hs, .inl rfl⟩
    · exact (hs.2 b (Nat.ne_of_lt (Nat.lt_of_lt_of_le (Heap.lt_size e) I.ok.above))).trans (I.base.keep b o e n hb hx)
    · obtain ⟨sl, e1⟩ := I.base.slot b o e n hb hx
      exact ⟨sl, (hs.2 b (Nat.ne_of_lt (Nat.lt_of_lt_of_le (Heap.lt_size e) I.ok.above))).trans e1⟩
    · obtain ⟨o', e1⟩ := I.base.there b o e hx
      exact ⟨o', (hs.2 b (Nat.ne_of_lt (Nat.lt_of_lt_of_le (Heap.lt_size e) I.ok.above))).trans e1⟩
    · by_cases hj : j = i
      · subst hj
        rw [hi] at e1; cases e1
        rw [List.getElem?_set_self hiσ] at e2
        cases e2
        exact ⟨u, r, .inl ⟨hk, by simp⟩⟩
      · rw [List.getElem?_set_ne (Ne.symm hj)] at e2
        obtain ⟨u', r', q⟩ := hl j y v' e1 e2 e3
        refine ⟨u', r', ?_⟩
        rcases q with ⟨k, e⟩ | ⟨k, c, e, z⟩
        · refine .inl ⟨k, ?_⟩
          have : y ≠ x := fun e => hj (nodup_ix hN e1 (e ▸ hi))
          simp [this, e]
        · exact .inr ⟨k, c, e, z.sameBut hs (cne y c e)⟩
    · obtain ⟨w', z⟩ := I.cell y c e
      exact ⟨w', z.sameBut hs (cne y c e)⟩
    · obtain ⟨e, n, ne, nf, d⟩ := I.pin p hp
      exact ⟨(hs.2 p.1 ne).trans e, n, ne, nf, d⟩
  · have hfn : X.fn x = true := by
      rcases hf with z | z
      · exact z
      · rw [z] at hk; cases hk
    obtain ⟨c, hc⟩ := I.ok.has x (.inl hk)
    obtain ⟨w', z⟩ := I.cell x c hc
    refine wpAny_storeName_cell I.ok.kind hk hc z (fun h' hc' hs => ?_)
    obtain ⟨oc, hoc, hocd⟩ := id z
    refine h { s with heap := h' } ⟨I.ok, I.os, I.bare, ⟨fun b o e n hb hx => ?_, fun b o e n hb hx => ?_, I.base.free, fun b o e hx => ?_, I.base.tups, I.base.frzs, I.base.tbls⟩, ⟨m, hn.sameBut hs (Ne.symm (cne x c hc)), fun j y v' e1 e2 e3 => ?_⟩, fun y c' e => ?_, I.free, I.freeC, fun p hp => ?_, tracked ⟨oc, hoc, I.freeC x c hc⟩ hs, by simpa using I.len⟩ ⟨c, hs, .inr hc⟩
    · exact (hs.2 b (Nat.ne_of_lt (Nat.lt_of_lt_of_le (Heap.lt_size e) (I.ok.cab x c hfn hc)))).trans (I.base.keep b o e n hb hx)
    · obtain ⟨sl, e1⟩ := I.base.slot b o e n hb hx
      exact ⟨sl, (hs.2 b (Nat.ne_of_lt (Nat.lt_of_lt_of_le (Heap.lt_size e) (I.ok.cab x c hfn hc)))).trans e1⟩
    · obtain ⟨o', e1⟩ := I.base.there b o e hx
      exact ⟨o', (hs.2 b (Nat.ne_of_lt (Nat.lt_of_lt_of_le (Heap.lt_size e) (I.ok.cab x c hfn hc)))).trans e1⟩
    · by_cases hj : j = i
      · subst hj
        rw [hi] at e1; cases e1
        rw [List.getElem?_set_self hiσ] at e2
        cases e2
        exact ⟨u, r, .inr ⟨.inl hk, c, hc, hc'⟩⟩
      · rw [List.getElem?_set_ne (Ne.symm hj)] at e2
        obtain ⟨u', r', q⟩ := hl j y v' e1 e2 e3
        refine ⟨u', r', ?_⟩
        rcases q with q | ⟨k, c', e, z'⟩
        · exact .inl q
        · refine .inr ⟨k, c', e, z'.sameBut hs ?_⟩
          rintro rfl
          exact hj (nodup_ix hN e1 (I.ok.inj _ _ _ e hc ▸ hi))
    · by_cases hcc : c' = c
      · subst hcc; exact ⟨_, hc'⟩
      · obtain ⟨w2, z2⟩ := I.cell y c' e
        exact ⟨w2, z2.sameBut hs hcc⟩
    · obtain ⟨e, n, ne, nf, d⟩ := I.pin p hp
      refine ⟨(hs.2 p.1 ?_).trans e, n, ne, nf, d⟩
      intro q
      rw [q, hoc] at e
      have q' : oc = p.2 := Option.some.inj e
      exact d w' (by rw [← q']; exact hocd)
theorem store_ok {M : Model} {A : Around} {E : Value → Shared → Prop} {i : Nat} {x : Str} {v : V} {u : Value} {Q : Unit → Shared → Prop} (I : Inv X pins σ H s) (hN : X.N.Nodup) (hi : X.N[i]? = some x) (hx : Loc X.env.scope x) (r : RelV v u)
    (h : ∀ s', Inv X pins (σ.set i (some v)) H s' → Q () s') (hf : X.fn x = true ∨ X.env.scope.names.lookup x = some .local := by first | exact .inl rfl | exact .inr rfl | assumption) : wpAny M A (storeName X.env x u) Q E s :=
  store_ok2 I hN hi hx r (fun s' I' _ => h s' I') hf
theorem Inv.call' {s' : Shared} {ch : List Addr} (I : Inv X pins σ H s) (ho : s'.os = s.os) (u : Un (frs X.stack) ch H H' s.heap s'.heap) (hok : HOk X.prog X.w H' s'.heap) (hg : AllBare s'.gens)
    (hch : ∀ b ∈ ch, (b ∈ X.ex ∨ X.s₀.heap.objs.size ≤ b) ∧ b ≠ X.env.locals ∧ (∀ x c, X.env.cells.lookup x = some c → c ≠ b) ∧ ∀ p ∈ X.pn ++ pins, p.1 ≠ b) : Inv X pins σ H' s' := by
  obtain ⟨h', g', d', t', o'⟩ := s'
  have e : o' = s.os := ho
  subst e
  exact I.call (g' := g') (t' := t') (d' := d') u hok hg hch
end

noncomputable abbrev XK := Value → Option Addr → Hp → Prop
noncomputable abbrev St := List (Option V)
noncomputable abbrev VK := V → Hp → Prop
noncomputable abbrev TE := St → Hp → VK → Prop
noncomputable abbrev TT := St → Hp → (Bool → Hp → Prop) → Prop
noncomputable abbrev TA := St → Hp → (List V → Hp → Prop) → Prop
structure Ends where
  nx : St → Hp → Prop
  rt : VK
  bk : St → Hp → Prop := fun _ _ => False
  ct : St → Hp → Prop := fun _ _ => False
noncomputable abbrev TS := Ends → St → Hp → Prop

noncomputable def EP (X : Cx) (pins : List (Addr × Obj)) (σ : St) (Q : VK) (u : Value) (s' : Shared) : Prop := ∃ v H', Inv X pins σ H' s' ∧ RelV v u ∧ Q v H'
noncomputable def TP (X : Cx) (pins : List (Addr × Obj)) (σ : St) (Q : Bool → Hp → Prop) (b : Bool) (s' : Shared) : Prop := ∃ H', Inv X pins σ H' s' ∧ Q b H'
noncomputable def AP (X : Cx) (pins : List (Addr × Obj)) (σ : St) (Q : List V → Hp → Prop) (us : List Value) (s' : Shared) : Prop := ∃ vs H', Inv X pins σ H' s' ∧ Vals vs us ∧ Q vs H'
noncomputable def SP (X : Cx) (pins : List (Addr × Obj)) (D : Ends) (f : Flow) (s' : Shared) : Prop :=
  match f with
  | .next => ∃ σ' H', Inv X pins σ' H' s' ∧ D.nx σ' H'
  | .brk => ∃ σ' H', Inv X pins σ' H' s' ∧ D.bk σ' H'
  | .cont => ∃ σ' H', Inv X pins σ' H' s' ∧ D.ct σ' H'
  | .ret u => ∃ v σ' H', Inv X pins σ' H' s' ∧ RelV v u ∧ D.rt v H'

noncomputable def PE (X : Cx) (e : Expr) (t : TE) : Prop :=
  ∀ (pins : List (Addr × Obj)) (s : Shared) (σ : St) (H : Hp) (Q : VK), Inv X pins σ H s → t σ H Q → wpAny (model X.prog X.w) X.A (eval e X.env) (EP X pins σ Q) X.xe s
noncomputable def PT (X : Cx) (e : Expr) (t : TT) : Prop :=
  ∀ (pins : List (Addr × Obj)) (s : Shared) (σ : St) (H : Hp) (Q : Bool → Hp → Prop), Inv X pins σ H s → t σ H Q → wpAny (model X.prog X.w) X.A (isTrue e X.env (eval e X.env)) (TP X pins σ Q) X.xe s
noncomputable def PW (X : Cx) (e : Expr) (t : TT) : Prop :=
  ∀ (whole : Sem Value) (pins : List (Addr × Obj)) (s : Shared) (σ : St) (H : Hp) (Q : Bool → Hp → Prop), Inv X pins σ H s → t σ H Q → wpAny (model X.prog X.w) X.A (isTrue e X.env whole) (TP X pins σ Q) X.xe s
theorem PW.pt {X : Cx} {e : Expr} {t : TT} (h : PW X e t) : PT X e t := h _
noncomputable def PA (X : Cx) (es : List Expr) (t : TA) : Prop :=
  ∀ (pos : Pos) (pins : List (Addr × Obj)) (s : Shared) (σ : St) (H : Hp) (Q : List V → Hp → Prop), Inv X pins σ H s → t σ H Q → wpAny (model X.prog X.w) X.A (spliced (backTo pos (starEach es X.env))) (AP X pins σ Q) X.xe s
noncomputable def PS (X : Cx) (st : Stmt) (t : TS) : Prop :=
  ∀ (pins : List (Addr × Obj)) (s : Shared) (σ : St) (H : Hp) (D : Ends), Inv X pins σ H s → t D σ H → wpAny (model X.prog X.w) X.A (exec st X.env) (SP X pins D) X.xe s
noncomputable def PSs (X : Cx) (st : List Stmt) (t : TS) : Prop :=
  ∀ (pins : List (Addr × Obj)) (s : Shared) (σ : St) (H : Hp) (D : Ends), Inv X pins σ H s → t D σ H → wpAny (model X.prog X.w) X.A (execs st X.env) (SP X pins D) X.xe s
theorem thn {α : Type} {t : Sem α} {Q Q' : α → Shared → Prop} {M : Model} {A : Around} {E : Value → Shared → Prop} {s : Shared} (h : wpAny M A t Q E s) (hQ : ∀ a s, Q a s → Q' a s) : wpAny M A t Q' E s := wpAny_mono h hQ fun _ _ x => x
end L2

namespace L2
open PySem PySem.Spec PyProof.Rows
section
variable {X : Cx}

noncomputable def tVar (i : Nat) : TE := fun σ H Q => ∃ v, σ[i]? = some (some v) ∧ Q v H
noncomputable def tC (v : V) : TE := fun _ H Q => Q v H
theorem pe_var {i : Nat} {x : Str} {pos : Pos} (hN : X.N[i]? = some x) (hv : Vis X.env.scope x) (hd : (x == ("__debug__" : Str)) = false := by decide) (hcd : (x == ("__classdict__" : Str)) = false := by decide) : PE X (.Name x pos) (tVar i) := by
  intro pins s σ H Q I h
  obtain ⟨v, e, h⟩ := h
  obtain ⟨m, hn, hl⟩ := I.loc
  obtain ⟨u, r, l⟩ := hl i x v hN e hv
  have fin : EP X pins σ Q u s := ⟨v, H, I, r, h⟩
  rcases l with ⟨hk, hm⟩ | ⟨hk, c, hc, hcell⟩
  · exact wpAny_Name (wpAny_loadName_local I.ok.kind hk hn hm fin) hd
  · rcases hk with hk | hk
    · exact wpAny_Name (wpAny_loadName_cell I.ok.kind hk hc hcell fin) hd
    · exact wpAny_Name (wpAny_loadName_free I.ok.kind hk hc hcell fin hcd) hd
theorem pe_int {i j pos} : PE X (.Constant (.int i) j pos) (tC (.int i)) := fun _ _ _ H _ I h => wpAny_Constant_int ⟨.int i, H, I.tok _, ⟨_, rfl⟩, h⟩
theorem pe_bl {b j pos} : PE X (.Constant (.bool b) j pos) (tC (.bl b)) := fun _ _ _ H _ I h => Constant_bool ⟨.bl b, H, I, rfl, h⟩
theorem pe_non {j pos} : PE X (.Constant .none j pos) (tC .non) := fun _ _ _ H _ I h => Constant_none ⟨.non, H, I, rfl, h⟩
theorem pe_str {x j pos} : PE X (.Constant (.str x) j pos) (tC (.str x)) := fun _ _ _ H _ I h => Calls.Constant_str ⟨.str x, H, I.tok _, ⟨_, rfl⟩, h⟩

noncomputable def Gl (X : Cx) (x : Str) : Prop := X.env.kindOf x = some .globalImplicit
theorem ld_glob {E : Value → Shared → Prop} {pins : List (Addr × Obj)} {s : Shared} {σ : St} {H : Hp} {x : Str} {u : Value} {pos : Pos} {Q : Value → Shared → Prop} (I : Inv X pins σ H s) (hg : Gl X x) (hm : X.mg x = some u) (h : Q u s)
    (hd : (x == ("__debug__" : Str)) = false := by decide) : wpAny (model X.prog X.w) X.A (eval (.Name x pos) X.env) Q E s :=
  Calls.Name_function_global I.ok.kind hg (Calls.loadGlobal_global (by rw [I.ok.glob]; exact I.mod.glob.keeps I.bk) hm h) hd
theorem ld_blt {E : Value → Shared → Prop} {pins : List (Addr × Obj)} {s : Shared} {σ : St} {H : Hp} {x : Str} {u : Value} {pos : Pos} {Q : Value → Shared → Prop} (I : Inv X pins σ H s) (hg : Gl X x) (hm : X.mg x = none) (hv : bootBuiltins x = some u) (h : Q u s)
    (hn : x ≠ "__name__" := by decide) (hd : (x == ("__debug__" : Str)) = false := by decide) : wpAny (model X.prog X.w) X.A (eval (.Name x pos) X.env) Q E s := by
  obtain ⟨mb, h1, h2⟩ := I.mod.blt
  exact Calls.Name_function_global I.ok.kind hg (Calls.loadGlobal_builtin (by rw [I.ok.glob]; exact I.mod.glob.keeps I.bk) hm (by rw [I.ok.blt]; exact h1.keeps I.bk) ((h2 x hn).trans hv) h) hd
theorem pe_glob {x : Str} {v : V} {u : Value} {pos : Pos} (hg : Gl X x) (hm : X.mg x = some u) (r : RelV v u) (hd : (x == ("__debug__" : Str)) = false := by decide) : PE X (.Name x pos) (tC v) :=
  fun _ _ _ H _ I h => ld_glob I hg hm ⟨v, H, I, r, h⟩ hd
theorem pe_bltn {x : Str} {v : V} {u : Value} {pos : Pos} (hg : Gl X x) (hm : X.mg x = none) (hv : bootBuiltins x = some u) (r : RelV v u) (hn : x ≠ "__name__" := by decide) (hd : (x == ("__debug__" : Str)) = false := by decide) : PE X (.Name x pos) (tC v) :=
  fun _ _ _ H _ I h => ld_blt I hg hm hv ⟨v, H, I, r, h⟩ hn hd

variable {a b : Expr} {ta tb : TE} {pos : Pos}
noncomputable def tB (t : TE) : TT := fun σ H Q => t σ H fun x H1 => ∃ c, x = .bl c ∧ Q c H1
theorem pt_val {e : Expr} {t : TE} (h : PE X e t) (he : ∀ whole, isTrue e X.env whole = (do let v ← whole; standAt e.pos; holding [v] (truthy v)) := by intro _; rfl) : PT X e (tB t) := by
  intro pins s σ H Q I hw
  refine isTrue_plain (thn (h pins s σ H _ I hw) fun v s1 ⟨x, H1, I1, r1, q1⟩ => ?_) (he _)
  obtain ⟨d, rfl, q⟩ := q1
  cases r1
  exact wpAny_truthy_bool ⟨H1, I1, q⟩

variable {tA tB' : TT} {rest : List Expr}
noncomputable def tAnd (t u : TT) : TT := fun σ H Q => t σ H fun c H1 => if c = true then u σ H1 Q else Q false H1
noncomputable def tOr (t u : TT) : TT := fun σ H Q => t σ H fun c H1 => if c = true then Q true H1 else u σ H1 Q
noncomputable def tNot (t : TT) : TT := fun σ H Q => t σ H fun c H1 => Q (!c) H1
theorem pw_or1 (ha : PT X a tA) : PW X (.BoolOp .Or [a] pos) tA := by
  intro wh pins s σ H Q I h
  refine isTrue_or (thn (ha pins s σ H Q I h) fun c s1 e => ?_)
  cases c with
  | false => exact isTrue_or_nil e
  | true => exact e
theorem pw_or (ha : PT X a tA) (hb : PW X (.BoolOp .Or (b :: rest) pos) tB') : PW X (.BoolOp .Or (a :: b :: rest) pos) (tOr tA tB') := by
  intro wh pins s σ H Q I h
  refine isTrue_or (thn (ha pins s σ H _ I h) fun c s1 ⟨H1, I1, q1⟩ => ?_)
  cases c with
  | true => exact ⟨H1, I1, q1⟩
  | false => exact hb wh pins s1 σ H1 Q I1 q1
theorem pt_not (ha : PT X a tA) : PT X (.UnaryOp .Not a pos) (tNot tA) := by
  intro pins s σ H Q I h
  exact isTrue_not (ha pins s σ H (fun c H1 => Q (!c) H1) I h)
noncomputable def tAndV (ta tb : TE) : TE := fun σ H Q => ta σ H fun x H1 => ∃ c, x = .bl c ∧ if c = true then tb σ H1 Q else Q (.bl false) H1
noncomputable def tOrV (ta tb : TE) : TE := fun σ H Q => ta σ H fun x H1 => ∃ c, x = .bl c ∧ if c = true then Q (.bl true) H1 else tb σ H1 Q
noncomputable def tNotV (ta : TE) : TE := fun σ H Q => ta σ H fun x H1 => ∃ c, x = .bl c ∧ Q (.bl (!c)) H1
theorem pe_one {op} {t : TE} (h : PE X a t) : PE X (.BoolOp op [a] pos) t := fun pins s σ H Q I hw => BoolOp_one (h pins s σ H Q I hw)
theorem pe_and (ha : PE X a ta) (hb : PE X (.BoolOp .And (b :: rest) pos) tb) : PE X (.BoolOp .And (a :: b :: rest) pos) (tAndV ta tb) := by
  intro pins s σ H Q I h
  refine BoolOp_and (thn (ha pins s σ H _ I h) fun v s1 ⟨x, H1, I1, r1, q1⟩ => ?_)
  obtain ⟨c, rfl, q1⟩ := q1
  cases r1
  refine wpAny_truthy_bool ?_
  cases c with
  | true => exact hb pins s1 σ H1 Q I1 q1
  | false => exact ⟨.bl false, H1, I1, rfl, q1⟩
noncomputable def tIf (t : TT) (ta tb : TE) : TE := fun σ H Q => t σ H fun c H1 => if c = true then ta σ H1 Q else tb σ H1 Q
theorem pe_ifExp {c : Expr} (hc : PT X c tA) (ha : PE X a ta) (hb : PE X b tb) : PE X (.IfExp c a b pos) (tIf tA ta tb) := by
  intro pins s σ H Q I h
  refine wpAny_IfExp (thn (hc pins s σ H _ I h) fun d s1 ⟨H1, I1, q1⟩ => ?_)
  cases d with
  | true => exact ha pins s1 σ H1 Q I1 q1
  | false => exact hb pins s1 σ H1 Q I1 q1
end
end L2

namespace L2
open PySem PySem.Spec PyProof.Rows

noncomputable def SqL (K : PySem.W.Frag) (H : Hp) (a : Addr) (xs : List V) : Prop :=
  Rd H a (.lst xs) ∨
    ∃ (o : Obj) (its : Array Value) (n : Nat), K.lookup a = some o ∧ o.cls = .type "list" ∧ o.dict = none ∧ o.data = .seq its n ∧ its.size ≤ sizeLine ∧ Vals xs its.toList
noncomputable def SqT (K : PySem.W.Frag) (H : Hp) (a : Addr) (xs : List V) : Prop :=
  Rd H a (.tup xs) ∨
    ∃ (o : Obj) (its : Array Value) (n : Nat), K.lookup a = some o ∧ o.cls = .type "tuple" ∧ o.data = .seq its n ∧ its.size ≤ sizeLine ∧ Vals xs its.toList
noncomputable def absV : Value → Option V
  | .none => some .non
  | .bool b => some (.bl b)
  | .int i _ => some (.int i)
  | .str x _ => some (.str x)
  | .bytes b _ => some (.byt b)
  | .float b _ => some (.flt b)
  | .ref a => some (.ref a)
  | .type n => some (.ty n)
  | _ => none
theorem RelV.abs {x : V} {u : Value} (r : RelV x u) : absV u = some x := by
  cases x with
  | non => cases r; rfl
  | bl _ => cases r; rfl
  | int _ => obtain ⟨t, rfl⟩ := r; rfl
  | str _ => obtain ⟨t, rfl⟩ := r; rfl
  | byt _ => obtain ⟨t, rfl⟩ := r; rfl
  | flt _ => obtain ⟨t, rfl⟩ := r; rfl
  | ref _ => cases r; rfl
  | ty _ => cases r; rfl
theorem RelV.inj {x y : V} {u : Value} (r : RelV x u) (q : RelV y u) : x = y := Option.some.inj (r.abs.symm.trans q.abs)
theorem Vals.inj : ∀ {xs ys : List V} {us : List Value}, Vals xs us → Vals ys us → xs = ys
  | _, _, _, .nil, .nil => rfl
  | _, _, _, .cons r t, .cons r' t' => by rw [r.inj r', Vals.inj t t']
section
variable {X : Cx} {pins : List (Addr × Obj)} {σ : St} {H : Hp} {s : Shared} {a : Addr} {xs ys : List V}
theorem SqL.of {K : PySem.W.Frag} (h : H a = some (.lst xs)) : SqL K H a xs := .inl (.inl h)
theorem SqT.of {K : PySem.W.Frag} (h : H a = some (.tup xs)) : SqT K H a xs := .inl (.inl h)
theorem Inv.list (I : Inv X pins σ H s) (h : SqL X.K H a xs) : ∃ its : List Value, Vals xs its ∧ PlainL s.heap a its.toArray ∧ xs.length ≤ sizeLine := by
  rcases h with h | ⟨o, its, n, hk, hc, hd, hs, hz, r⟩
  · obtain ⟨z, its, n, r, e⟩ := h.ok I.hok
    exact ⟨its, r, ⟨_, n, e, rfl, rfl, rfl⟩, z⟩
  · refine ⟨its.toList, r, ⟨o, n, I.kIn a o hk, hc, hd, by simpa using hs⟩, ?_⟩
    have e := r.length
    simp only [Array.length_toList] at e
    omega
theorem Inv.tuple (I : Inv X pins σ H s) (h : SqT X.K H a xs) : ∃ its : List Value, Vals xs its ∧ IsTup s.heap a its.toArray ∧ xs.length ≤ sizeLine := by
  rcases h with h | ⟨o, its, n, hk, hc, hs, hz, r⟩
  · obtain ⟨z, its, r, p⟩ := h.ok I.hok
    exact ⟨its, r, p, z⟩
  · refine ⟨its.toList, r, ⟨o, I.kIn a o hk, hc, n, by simpa using hs⟩, ?_⟩
    have e := r.length
    simp only [Array.length_toList] at e
    omega
theorem Inv.list_inj (I : Inv X pins σ H s) (h : SqL X.K H a xs) (h' : SqL X.K H a ys) : xs = ys := by
  obtain ⟨its, r, ⟨o, n, e, _, _, d⟩, _⟩ := I.list h
  obtain ⟨its', r', ⟨o', n', e', _, _, d'⟩, _⟩ := I.list h'
  rw [e] at e'; cases e'
  rw [d] at d'
  injection d' with d1 _
  have : its = its' := by simpa using congrArg Array.toList d1
  subst this
  exact r.inj r'
theorem Inv.tuple_inj (I : Inv X pins σ H s) (h : SqT X.K H a xs) (h' : SqT X.K H a ys) : xs = ys := by
  obtain ⟨its, r, ⟨o, e, _, n, d⟩, _⟩ := I.tuple h
  obtain ⟨its', r', ⟨o', e', _, n', d'⟩, _⟩ := I.tuple h'
  rw [e] at e'; cases e'
  rw [d] at d'
  injection d' with d1 _
  have : its = its' := by simpa using congrArg Array.toList d1
  subst this
  exact r.inj r'
end

noncomputable abbrev Cx.wish (X : Cx) (E : Value → Shared → Prop) : Cx := { X with xe := E }
noncomputable abbrev Cx.nox (X : Cx) : Cx := X.wish fun _ _ => False
theorem Cx.Ok.wish {X : Cx} (ok : X.Ok) (E : Value → Shared → Prop) : (X.wish E).Ok :=
  ⟨ok.mod, ok.kind, ok.glob, ok.blt, ok.above, ok.inj, ok.has, ok.cab, ok.hd, ok.frames, ok.stk, ok.exf, ok.bs, ok.bsz, ok.noex, ok.exfs, ok.funs, ok.frf⟩
theorem Cx.Ok.unwish {X : Cx} {E : Value → Shared → Prop} (ok : (X.wish E).Ok) : X.Ok :=
  ⟨ok.mod, ok.kind, ok.glob, ok.blt, ok.above, ok.inj, ok.has, ok.cab, ok.hd, ok.frames, ok.stk, ok.exf, ok.bs, ok.bsz, ok.noex, ok.exfs, ok.funs, ok.frf⟩
section
variable {X : Cx} {pins : List (Addr × Obj)} {σ : St} {H : Hp} {s : Shared} {E : Value → Shared → Prop}
theorem Inv.wish (I : Inv X pins σ H s) (E : Value → Shared → Prop) : Inv (X.wish E) pins σ H s := ⟨I.ok.wish E, I.os, I.bare, I.base, I.loc, I.cell, I.free, I.freeC, I.pin, I.hok, I.len⟩
theorem Inv.unwish (I : Inv (X.wish E) pins σ H s) : Inv X pins σ H s := ⟨I.ok.unwish, I.os, I.bare, I.base, I.loc, I.cell, I.free, I.freeC, I.pin, I.hok, I.len⟩
theorem SP.unwish {D : Ends} {f : Flow} {s' : Shared} (h : SP (X.wish E) pins D f s') : SP X pins D f s' := by
  cases f with
  | next => obtain ⟨σ', H', I, q⟩ := h; exact ⟨σ', H', I.unwish, q⟩
  | brk => obtain ⟨σ', H', I, q⟩ := h; exact ⟨σ', H', I.unwish, q⟩
  | cont => obtain ⟨σ', H', I, q⟩ := h; exact ⟨σ', H', I.unwish, q⟩
  | ret u => obtain ⟨v, σ', H', I, r, q⟩ := h; exact ⟨v, σ', H', I.unwish, r, q⟩
theorem PE.nox {e : Expr} {t : TE} (h : PE X.nox e t) : PE X e t := fun pins s σ H Q I hw =>
  wpAny_mono (h pins s σ H Q (I.wish _) hw) (fun _ _ ⟨v, H', I', r, q⟩ => ⟨v, H', I'.unwish, r, q⟩) fun _ _ z => False.elim z
theorem PT.nox {e : Expr} {t : TT} (h : PT X.nox e t) : PT X e t := fun pins s σ H Q I hw =>
  wpAny_mono (h pins s σ H Q (I.wish _) hw) (fun _ _ ⟨H', I', q⟩ => ⟨H', I'.unwish, q⟩) fun _ _ z => False.elim z
theorem PSs.nox {st : List Stmt} {t : TS} (h : PSs X.nox st t) : PSs X st t := fun pins s σ H D I hw =>
  wpAny_mono (h pins s σ H D (I.wish _) hw) (fun _ _ q => q.unwish) fun _ _ z => False.elim z
end

section
variable {X : Cx} {st : Stmt} {rest : List Stmt} {t u : TS} {e : Expr} {te : TE} {pos : Pos}
noncomputable def tNext : TS := fun D σ H => D.nx σ H
noncomputable def tSeq (t u : TS) : TS := fun D σ H => t { D with nx := u D } σ H
theorem pss_nil : PSs X [] tNext := fun _ _ σ H _ I h => wpAny_execs_nil ⟨σ, H, I, h⟩
theorem pss_cons (h1 : PS X st t) (h2 : PSs X rest u) : PSs X (st :: rest) (tSeq t u) := by
  intro pins s σ H D I h
  refine wpAny_execs_cons (thn (h1 pins s σ H { D with nx := u D } I h) fun f s1 q => ?_)
  cases f with
  | next =>
    obtain ⟨σ', H', I', q⟩ := q
    exact h2 pins s1 σ' H' D I' q
  | ret v => exact q
  | brk => exact q
  | cont => exact q
theorem pss_one (h1 : PS X st t) : PSs X [st] t := by
  intro pins s σ H D I h
  refine wpAny_execs_cons (thn (h1 pins s σ H D I h) fun f s1 q => ?_)
  cases f with
  | next => exact wpAny_execs_nil q
  | ret v => exact q
  | brk => exact q
  | cont => exact q
theorem Inv.quiet {pins : List (Addr × Obj)} {σ : St} {H : Hp} {s : Shared} (I : Inv X pins σ H s) : interactive X.env = false := by simp [interactive, I.ok.kind]
noncomputable def tDrop (te : TE) : TS := fun D σ H => te σ H fun _ H1 => D.nx σ H1
theorem ps_expr (he : PE X e te) (hs : swapsWith e none pos.line X.env = pure false := by rfl) : PS X (.Expr e pos) (tDrop te) := by
  intro pins s σ H D I h
  exact wpAny_Expr_any (thn (he pins s σ H _ I h) fun v s1 ⟨x, H1, I1, r1, q1⟩ => ⟨σ, H1, I1, q1⟩) I.quiet hs
noncomputable def tRet (te : TE) : TS := fun D σ H => te σ H D.rt
theorem ps_ret (he : PE X e te) : PS X (.Return (some e) pos) (tRet te) := by
  intro pins s σ H D I h
  exact wpAny_Return_some (thn (he pins s σ H _ I h) fun v s1 ⟨x, H1, I1, r1, q1⟩ => ⟨x, σ, H1, I1, r1, q1⟩)
noncomputable def tRetN : TS := fun D _ H => D.rt .non H
noncomputable def tIfS (c : TT) (t u : TS) : TS := fun D σ H => c σ H fun b H1 => if b = true then t D σ H1 else u D σ H1
theorem ps_if {c : Expr} {a b : List Stmt} {tc : TT} (hc : PT X c tc) (ha : PSs X a t) (hb : PSs X b u) : PS X (.If c a b pos) (tIfS tc t u) := by
  intro pins s σ H D I h
  refine wpAny_If (thn (hc pins s σ H _ I h) fun d s1 ⟨H1, I1, q1⟩ => ?_)
  cases d with
  | true => exact ha pins s1 σ H1 D I1 q1
  | false => exact hb pins s1 σ H1 D I1 q1
end

noncomputable abbrev TG := V → St → Hp → (St → Hp → Prop) → Prop
noncomputable abbrev TGs := List V → St → Hp → (St → Hp → Prop) → Prop
noncomputable def PG (X : Cx) (target : Expr) (t : TG) : Prop :=
  ∀ (pins : List (Addr × Obj)) (s : Shared) (σ : St) (H : Hp) (v : V) (u : Value) (Q : St → Hp → Prop), Inv X pins σ H s → RelV v u → t v σ H Q →
    wpAny (model X.prog X.w) X.A (assign target X.env u) (fun _ s' => ∃ σ' H', Inv X pins σ' H' s' ∧ Q σ' H') X.xe s
noncomputable def PGs (X : Cx) (ts : List Expr) (t : TGs) : Prop :=
  ∀ (pins : List (Addr × Obj)) (s : Shared) (σ : St) (H : Hp) (vs : List V) (us : List Value) (Q : St → Hp → Prop), Inv X pins σ H s → Vals vs us → t vs σ H Q →
    wpAny (model X.prog X.w) X.A (assignInOrder ((assignEach ts X.env).map (·.2)) us) (fun _ s' => ∃ σ' H', Inv X pins σ' H' s' ∧ Q σ' H') X.xe s
noncomputable abbrev TSet := V → V → V → Hp → (Hp → Prop) → Prop
noncomputable def PSet (X : Cx) (t : TSet) : Prop :=
  ∀ (pins : List (Addr × Obj)) (s : Shared) (σ : St) (H : Hp) (o i v : V) (ov iv u : Value) (Q : Hp → Prop), Inv X pins σ H s → RelV o ov → RelV i iv → RelV v u → t o i v H Q →
    wpAny (model X.prog X.w) X.A (setItem ov iv u) (fun _ s' => ∃ H', Inv X pins σ H' s' ∧ Q H') X.xe s
noncomputable abbrev TIp := V → V → Hp → VK → Prop
noncomputable def PIp (X : Cx) (op : Operator) (t : TIp) : Prop :=
  ∀ (pins : List (Addr × Obj)) (s : Shared) (σ : St) (H : Hp) (x y : V) (v u : Value) (Q : VK), Inv X pins σ H s → RelV x v → RelV y u → t x y H Q →
    wpAny (model X.prog X.w) X.A (inplaceOp op v u) (EP X pins σ Q) X.xe s
section
variable {X : Cx} {pos : Pos}
noncomputable def gName (i : Nat) : TG := fun v σ H Q => Q (σ.set i (some v)) H
theorem pg_name {i : Nat} {x : Str} (hN : X.N.Nodup) (hi : X.N[i]? = some x) (hx : Loc X.env.scope x) (hf : X.fn x = true ∨ X.env.scope.names.lookup x = some .local := by first | exact .inl rfl | exact .inr rfl | assumption) : PG X (.Name x pos) (gName i) := by
  intro pins s σ H v u Q I r h
  exact wpAny_assign_Name (store_ok I hN hi hx r (fun s' I' => ⟨_, H, I', h⟩) hf)
noncomputable def gNil : TGs := fun vs σ H Q => vs = [] ∧ Q σ H
noncomputable def gCons (t : TG) (u : TGs) : TGs := fun vs σ H Q => ∃ v r, vs = v :: r ∧ t v σ H fun σ' H' => u r σ' H' Q
theorem pgs_nil : PGs X [] gNil := by
  intro pins s σ H vs us Q I r h
  obtain ⟨e, h⟩ := h
  subst e
  cases r
  exact assignInOrder_nil ⟨σ, H, I, h⟩
theorem pgs_cons {e : Expr} {es : List Expr} {t : TG} {u : TGs} (h1 : PG X e t) (h2 : PGs X es u)
    (hs : (assignEach (e :: es) X.env).map (·.2) = assign e X.env :: (assignEach es X.env).map (·.2) := by rfl) : PGs X (e :: es) (gCons t u) := by
  intro pins s σ H vs us Q I r h
  obtain ⟨v, vr, e1, h⟩ := h
  subst e1
  cases r with
  | cons r rr =>
    rw [hs]
    refine assignInOrder_cons (thn (h1 pins s σ H _ _ _ I r h) fun _ s1 ⟨σ1, H1, I1, q1⟩ => ?_)
    exact h2 pins s1 σ1 H1 _ _ Q I1 rr q1
noncomputable def gTup (K : PySem.W.Frag) (n : Nat) (t : TGs) : TG := fun v σ H Q => ∃ a xs, v = .ref a ∧ SqT K H a xs ∧ xs.length = n ∧ t xs σ H Q
theorem pg_tup {es : List Expr} {k : Nat} {t : TGs} {n : Nat} (hc : X.calm = true) (h : PGs X es t)
    (hn : (assignEach es X.env).length = n := by rfl) (hst : (assignEach es X.env).findIdx? (·.1) = none := by rfl) : PG X (.Tuple es k pos) (gTup X.K n t) := by
  intro pins s σ H v u Q I r hw
  obtain ⟨a, xs, e1, hq, hl, hw⟩ := hw
  subst e1
  cases r
  obtain ⟨its, rv, ht, hz⟩ := I.tuple hq
  refine assign_Tuple_tuple (I.ok.hd hc) ht (by simp [hn, ← hl, rv.length]) hst fun h' hx => ?_
  have I1 : Inv X pins σ H { s with heap := h' } := I.kept (t' := s.toks) fun b o e => hx b o (Nat.ne_of_lt (Heap.lt_size e)) e
  exact h pins _ σ H xs _ Q I1 (by simpa using rv) hw
noncomputable def gSub (to ti : TE) (t : TSet) : TG := fun v σ H Q => to σ H fun o H1 => ti σ H1 fun i H2 => t o i v H2 fun H3 => Q σ H3
theorem pg_sub {o i : Expr} {to ti : TE} {t : TSet} (ho : PE X o to) (hi : PE X i ti) (hs : PSet X t)
    (ha : ∀ v, assign (.Subscript o i pos) X.env v = (do
      let ov ← holding [v] (eval o X.env)
      let iv ← holding [v, ov] (eval i X.env)
      standAt pos
      holding [v, ov, iv] (setItem ov iv v)
      release [v, ov, iv] []) := by intro _; rfl) : PG X (.Subscript o i pos) (gSub to ti t) := by
  intro pins s σ H v u Q I r h
  rw [ha]
  refine wpAny_bind (wpAny_holding (thn (ho pins s σ H _ I h) fun ov s1 ⟨x, H1, I1, r1, q1⟩ => ?_))
  refine wpAny_bind (wpAny_holding (thn (hi pins s1 σ H1 _ I1 q1) fun iv s2 ⟨y, H2, I2, r2, q2⟩ => ?_))
  refine wpAny_bind (wpAny_standAt (wpAny_bind (wpAny_holding (thn (hs pins s2 σ H2 x y v ov iv u _ I2 r1 r2 r q2) fun _ s3 ⟨H3, I3, q3⟩ => ?_))))
  exact wpAny_release ⟨σ, H3, I3, q3⟩
noncomputable def tAsg (te : TE) (g : TG) : TS := fun D σ H => te σ H fun x H1 => g x σ H1 D.nx
theorem ps_asg {tg e : Expr} {te : TE} {g : TG} (he : PE X e te) (hg : PG X tg g) (hs : swapsWithSole [tg] e pos.line X.env = pure false := by rfl) (hw : swappedStores [tg] e X.env = pure none := by rfl)
    (h1 : (assignEach [tg] X.env).map (·.2) = [assign tg X.env] := by rfl) : PS X (.Assign [tg] e pos) (tAsg te g) := by
  intro pins s σ H D I h
  refine wpAny_Assign_stores (thn (he pins s σ H _ I h) fun v s1 ⟨x, H1, I1, r1, q1⟩ => ?_) hs hw
  rw [h1]
  exact thn (hg pins s1 σ H1 x v _ I1 r1 q1) fun _ s2 q => q
theorem ps_set {i : Nat} {x : Str} {e : Expr} {te : TE} {pos' : Pos} (hN : X.N.Nodup) (hi : X.N[i]? = some x) (hx : Loc X.env.scope x) (he : PE X e te) (hs : swapsWith e (some (.Name x pos')) pos.line X.env = pure false := by rfl) (hf : X.fn x = true ∨ X.env.scope.names.lookup x = some .local := by first | exact .inl rfl | exact .inr rfl | assumption) :
    PS X (.Assign [.Name x pos'] e pos) (tAsg te (gName i)) := by
  intro pins s σ H D I h
  refine wpAny_Assign_Name (thn (he pins s σ H _ I h) fun v s1 ⟨y, H1, I1, r1, q1⟩ => ?_) hs
  exact store_ok I1 hN hi hx r1 (fun s2 I2 => ⟨_, H1, I2, q1⟩) hf
noncomputable def tPar (i j : Nat) (ta : TA) : TS := fun D σ H => ta σ H fun vs H1 => ∃ v w, vs = [v, w] ∧ D.nx ((σ.set i (some v)).set j (some w)) H1
theorem ps_par {i j : Nat} {x y : Str} {a b : Expr} {ta : TA} {px py pt : Pos} {kt k2 pt2} (hc : X.calm = true) (hN : X.N.Nodup) (hi : X.N[i]? = some x) (hj : X.N[j]? = some y) (hij : i ≠ j)
    (hx : X.env.scope.names.lookup x = some .local) (hy : X.env.scope.names.lookup y = some .local) (ha : PA X [a, b] ta)
    (hw : swappedStores [.Tuple [.Name x px, .Name y py] kt pt] (.Tuple [a, b] k2 pt2) X.env = pure (some [x, y]))
    (hs : swapsWithSole [.Tuple [.Name x px, .Name y py] kt pt] (.Tuple [a, b] k2 pt2) pos.line X.env = pure false := by rfl) :
    PS X (.Assign [.Tuple [.Name x px, .Name y py] kt pt] (.Tuple [a, b] k2 pt2) pos) (tPar i j ta) := by
  intro pins s σ H D I h
  rw [exec_Assign_arm]
  refine wpAny_bind (wpAny_standAt ?_)
  rw [hs]
  refine wpAny_bind (wpAny_pure ?_)
  rw [if_neg (by decide)]
  refine wpAny_bind (Tuple_ (thn (ha _ pins s σ H _ I h) fun us s1 ⟨vs, H1, I1, r1, q1⟩ => ?_))
  obtain ⟨v, w, e1, q1⟩ := q1
  subst e1
  obtain ⟨u1, u2, rfl, rv, rw'⟩ : ∃ u1 u2, us = [u1, u2] ∧ RelV v u1 ∧ RelV w u2 := by
    cases r1 with
    | cons p q =>
      cases q with
      | cons p' q' =>
        cases q'
        exact ⟨_, _, rfl, p, p'⟩
  refine wpAny_newObj_type ?_ (by show 2 ≤ sizeLine; decide)
  have I2 : Inv X pins σ H1 { s1 with heap := s1.heap.push { cls := .type "tuple", data := .seq [u1, u2].toArray } } := I1.kept (t' := s1.toks) fun b o e => Heap.get?_push_of_some _ e
  rw [hw]
  refine wpAny_bind (wpAny_pure ?_)
  show wpAny (model X.prog X.w) X.A (do rule "assign.swapped-stores"; let items ← unpackItems (.ref s1.heap.objs.size) 2 none; assignInOrder [fun v => bindName X.env y v, fun v => bindName X.env x v] items.reverse; pure Flow.next) _ _ _
  refine wpAny_bind (wpAny_rule (wpAny_bind (unpackItems_tuple (items := #[u1, u2]) (I.ok.hd hc) (IsTup.new s1.heap _) fun h' hx' => ?_)))
  have I3 := I2.kept (h' := h') (t' := s1.toks) fun b o e => hx' b o (Nat.ne_of_lt (Heap.lt_size e)) e
  show wpAny _ _ (assignInOrder [fun v => bindName X.env y v, fun v => bindName X.env x v] [u2, u1] >>= fun _ => pure Flow.next) _ _ _
  refine wpAny_bind (assignInOrder_cons (wpAny_bindName (store_ok I3 hN hj (.inl hy) rw' (fun s2 I4 => ?_) (.inr hy))))
  refine assignInOrder_cons (wpAny_bindName (store_ok I4 hN hi (.inl hx) rv (fun s3 I5 => assignInOrder_nil (wpAny_pure ?_)) (.inr hx)))
  rw [List.set_comm _ _ (Ne.symm hij)] at I5
  exact ⟨_, H1, I5, q1⟩
noncomputable def tAug (i : Nat) (te : TE) (ti : TIp) : TS := fun D σ H => ∃ x, σ[i]? = some (some x) ∧ te σ H fun y H1 => ti x y H1 fun z H2 => D.nx (σ.set i (some z)) H2
theorem ps_aug {i : Nat} {x : Str} {e : Expr} {te : TE} {op : Operator} {ti : TIp} {pos' : Pos} (hN : X.N.Nodup) (hi : X.N[i]? = some x) (hx : Loc X.env.scope x) (he : PE X e te) (ho : PIp X op ti) (hf : X.fn x = true ∨ X.env.scope.names.lookup x = some .local := by first | exact .inl rfl | exact .inr rfl | assumption) :
    PS X (.AugAssign (.Name x pos') op e pos) (tAug i te ti) := by
  intro pins s σ H D I h
  obtain ⟨v, e1, h⟩ := h
  obtain ⟨m, hn, hl⟩ := I.loc
  have vis : Vis X.env.scope x := by rcases hx with k | k; exact .inl k; exact .inr (.inl k)
  obtain ⟨u, r, l⟩ := hl i x v hi e1 vis
  refine wpAny_AugAssign_Name ?_
  have go : wpAny (model X.prog X.w) X.A (eval e X.env) (fun w s₂ => wpAny (model X.prog X.w) X.A (inplaceOp op u w) (fun r s₃ => wpAny (model X.prog X.w) X.A (storeName X.env x r) (fun _ => SP X pins D .next) X.xe s₃) X.xe s₂) X.xe s := by
    refine thn (he pins s σ H _ I h) fun w s1 ⟨y, H1, I1, r1, q1⟩ => ?_
    refine thn (ho pins s1 σ H1 v y u w _ I1 r r1 q1) fun z s2 ⟨zv, H2, I2, r2, q2⟩ => ?_
    exact store_ok I2 hN hi hx r2 (fun s3 I3 => ⟨_, H2, I3, q2⟩) hf
  rcases l with ⟨hk, hm⟩ | ⟨hk, c, hc, hcell⟩
  · exact wpAny_loadName_local I.ok.kind hk hn hm go
  · rcases hk with hk | hk
    · exact wpAny_loadName_cell I.ok.kind hk hc hcell go
    · rcases hx with k | k
      · have : X.env.scope.names.lookup x = some .free := hk
        rw [k] at this; cases this
      · have : X.env.scope.names.lookup x = some .free := hk
        rw [k] at this; cases this
noncomputable def ipI (f : Int → Int → Int) : TIp := fun x y H Q => ∃ i j, x = .int i ∧ y = .int j ∧ Q (.int (f i j)) H
theorem ip_add : PIp X .Add (ipI fun i j => i + j) := by
  intro pins s σ H x y v u Q I r1 r2 h
  obtain ⟨i, j, e1, e2, q⟩ := h
  subst e1; subst e2
  obtain ⟨t, rfl⟩ := r1
  obtain ⟨t', rfl⟩ := r2
  exact iadd_int ⟨.int _, H, I.tok _, ⟨_, rfl⟩, q⟩
end

section
variable {X : Cx} {pos : Pos}
noncomputable def tWhile (c : TT) (tb : TS) : TS := fun D σ H => ∃ W : Nat → St → Hp → Prop, (∃ m, W m σ H) ∧ ∀ m σ H, W m σ H →
  c σ H fun b H1 => if b = true then ∃ N : St → Hp → Prop, (∀ σ' H', N σ' H' → ∃ m', m' < m ∧ W m' σ' H') ∧ tb { D with nx := N, ct := N, bk := D.nx } σ H1 else D.nx σ H1
theorem ps_while {c : Expr} {body : List Stmt} {tc : TT} {tb : TS} (hp : PassesOwn (model X.prog X.w) X.A X.env X.xe) (hc : PT X c tc) (hb : PSs X body tb) : PS X (.While c body [] pos) (tWhile tc tb) := by
  intro pins s σ H D I h
  obtain ⟨W, ⟨m0, w0⟩, turn⟩ := h
  refine wpAny_While (codeAny_whileLoop (fun n s' => ∃ σ' H', Inv X pins σ' H' s' ∧ W n σ' H') ?_ m0 ⟨σ, H, I, w0⟩)
  rintro n s1 ⟨σ1, H1, I1, w1⟩
  refine wpAny_passesOwn hp (thn (hc pins s1 σ1 H1 _ I1 (turn n σ1 H1 w1)) fun b s2 ⟨H2, I2, q2⟩ => ?_)
  cases b with
  | true =>
    obtain ⟨N, hN, q2⟩ := q2
    rw [if_pos rfl]
    refine wpAny_passesOwn hp (thn (hb pins s2 σ1 H2 _ I2 q2) fun f s3 q3 => ?_)
    cases f with
    | next =>
      obtain ⟨σ3, H3, I3, n3⟩ := q3
      obtain ⟨m', hm, w3⟩ := hN σ3 H3 n3
      exact ⟨m', hm, σ3, H3, I3, w3⟩
    | cont =>
      obtain ⟨σ3, H3, I3, n3⟩ := q3
      obtain ⟨m', hm, w3⟩ := hN σ3 H3 n3
      exact ⟨m', hm, σ3, H3, I3, w3⟩
    | brk => exact q3
    | ret v => exact q3
  | false =>
    rw [if_neg Bool.false_ne_true]
    exact wpAny_execs_nil ⟨σ1, H2, I2, q2⟩
end

structure It where
  go : Nat → Hp → Prop
  yld : Nat → Hp → V → Hp → Prop
  stop : Nat → Hp → Prop
noncomputable def FpOk (X : Cx) (pins : List (Addr × Obj)) (H : Hp) (b : Addr) : Prop :=
  H b = none ∧ b ≠ X.env.locals ∧ b ∉ X.fs ∧ (b ∈ X.ex ∨ X.s₀.heap.objs.size ≤ b) ∧ (∀ x c, X.env.cells.lookup x = some c → c ≠ b) ∧ ∀ p ∈ X.pn ++ pins, p.1 ≠ b
theorem Inv.fpOk {X : Cx} {pins : List (Addr × Obj)} {σ : St} {H H' : Hp} {s : Shared} {b : Addr} (I : Inv X pins σ H s) (hb : s.heap.objs.size ≤ b) (hn : H' b = none) : FpOk X pins H' b := by
  refine ⟨hn, Nat.ne_of_gt (Nat.lt_of_lt_of_le I.lt hb), I.nofs hb, .inr (Nat.le_trans I.sz hb), fun x c e z => ?_, fun p hp z => ?_⟩
  · obtain ⟨v, q⟩ := I.cell x c e
    exact absurd (Nat.lt_of_lt_of_le q.lt (by rw [z]; exact hb)) (Nat.lt_irrefl _)
  · exact absurd (Nat.lt_of_lt_of_le (Heap.lt_size (I.pin p hp).1) (by rw [z]; exact hb)) (Nat.lt_irrefl _)
structure Turn (P : Program) (w : World) (K : PySem.W.Frag) (tg : Expr) (J : It) (fp : List Addr) (it : Addr) (tn : Nat → Heap → Prop) : Prop where
  mem : it ∈ fp
  obj : ∀ i h, tn i h → ∀ b ∈ fp, ∃ o, h.get? b = some o ∧ ∀ v, o.data ≠ .cell v
  keep : ∀ i h h', tn i h → (∀ b ∈ fp, ∀ o, h.get? b = some o → h'.get? b = some o) → tn i h'
  item : ∀ (X : Cx), X.prog = P → X.w = w → X.K = K → X.calm = true → ∀ (i : Nat) (pins : List (Addr × Obj)) (s : Shared) (σ : St) (H : Hp) (E : Value → Shared → Prop), Inv X pins σ H s → (∀ b ∈ fp, FpOk X pins H b) → tn i s.heap → J.go i H →
    wpAny (model P w) X.A (pyNext (.ref it)) (fun r s1 => ∃ u, r = some u ∧
      wpAny (model P w) X.A (letOwnedTupleGo tg (.ref it) u) (fun _ s2 => ∃ x H', Inv X pins σ H' s2 ∧ RelV x u ∧ J.yld i H x H' ∧ tn (i + 1) s2.heap ∧ ∀ b ∈ fp, H' b = none) E s1) E s
  done : ∀ (X : Cx), X.prog = P → X.w = w → X.K = K → X.calm = true → ∀ (i : Nat) (pins : List (Addr × Obj)) (s : Shared) (σ : St) (H : Hp) (E : Value → Shared → Prop), Inv X pins σ H s → (∀ b ∈ fp, FpOk X pins H b) → tn i s.heap → J.stop i H →
    wpAny (model P w) X.A (pyNext (.ref it)) (fun r s1 => r = none ∧ Inv X pins σ H s1) E s
  self : ∀ (A : Around) (i : Nat) (s : Shared) (Q : Value → Shared → Prop) (E : Value → Shared → Prop), tn i s.heap → Q (.ref it) s → wpAny (model P w) A (pyIter (.ref it)) Q E s
noncomputable abbrev TI := St → Hp → (It → Hp → Prop) → Prop
noncomputable def PIE (X : Cx) (pins : List (Addr × Obj)) (σ : St) (tg : Expr) (R : It → Hp → Prop) (itv : Value) (s2 : Shared) : Prop :=
  ∃ (it : Addr) (fp : List Addr) (tn : Nat → Heap → Prop) (J : It) (H' : Hp), itv = .ref it ∧ Inv X pins σ H' s2 ∧ Turn X.prog X.w X.K tg J fp it tn ∧ tn 0 s2.heap ∧ (∀ b ∈ fp, FpOk X pins H' b) ∧ R J H'
noncomputable def PI (X : Cx) (tg iter : Expr) (wi : TI) : Prop :=
  ∀ (pins : List (Addr × Obj)) (s : Shared) (σ : St) (H : Hp) (R : It → Hp → Prop), Inv X pins σ H s → wi σ H R →
    wpAny (model X.prog X.w) X.A (eval iter X.env) (fun v s1 => wpAny (model X.prog X.w) X.A (pyIter v) (PIE X pins σ tg R) X.xe s1) X.xe s

theorem go_of {M : Model} {A : Around} {E : Value → Shared → Prop} {s : Shared} {tg : Expr} {it : Addr} {u : Value} {o : Obj} {n : String} {vs : Array Value} {Q : Unit → Shared → Prop} (ho : s.heap.get? it = some o) (hc : o.cls = .type n) (hd : o.data = .fields vs)
    (hn : ["enumerate", "zip", "dict_itemiterator", "dict_reverseitemiterator", "odict_iterator", "itertools.zip_longest", "itertools.pairwise"].contains n = false) (hQ : Q () s) : wpAny M A (letOwnedTupleGo tg (.ref it) u) Q E s := by
  unfold letOwnedTupleGo
  cases tg <;> first
    | exact wpAny_pure hQ
    | (cases u <;> first
        | exact wpAny_pure hQ
        | (refine wpAny_bind (wpAny_load ho ?_)
           rw [hc, hd]
           show wpAny M A (if (["enumerate", "zip", "dict_itemiterator", "dict_reverseitemiterator", "odict_iterator", "itertools.zip_longest", "itertools.pairwise"].contains n && vs[0]? == some (rawInt _)) = true then _ else _) Q E s
           rw [if_neg (by intro h; rw [hn, Bool.false_and] at h; cases h)]
           exact wpAny_pure hQ))

noncomputable def Itl (K : PySem.W.Frag) (a : Addr) : It :=
  ⟨fun i H => ∃ xs x, SqL K H a xs ∧ xs[i]? = some x, fun i H x H' => H' = H ∧ ∀ xs, SqL K H a xs → xs[i]? = some x, fun i H => ∃ xs, SqL K H a xs ∧ xs.length ≤ i⟩
noncomputable def Itt (K : PySem.W.Frag) (a : Addr) : It :=
  ⟨fun i H => ∃ xs x, SqT K H a xs ∧ xs[i]? = some x, fun i H x H' => H' = H ∧ ∀ xs, SqT K H a xs → xs[i]? = some x, fun i H => ∃ xs, SqT K H a xs ∧ xs.length ≤ i⟩
noncomputable def Itr (lo : Int) (n : Nat) : It := ⟨fun i _ => i < n, fun i H x H' => H' = H ∧ x = .int (lo + i), fun i _ => n ≤ i⟩
theorem turn_list {P : Program} {w : World} {K : PySem.W.Frag} {tg : Expr} (a it : Addr) : Turn P w K tg (Itl K a) [it] it (fun i h => h.IsListIter it a i) where
  mem := by simp
  obj := fun i h st b hb => by
    have e : b = it := by simpa using hb
    subst e
    obtain ⟨o, e, c, d⟩ := st
    exact ⟨o, e, fun v z => by rw [d] at z; cases z⟩
  keep := fun i h h' st k => st.at fun o e => k it (by simp) o e
  item := by
    intro X hP hw hK hc i pins s σ H E I hf st hg
    subst hP hw hK
    obtain ⟨xs, x, hq, hx⟩ := hg
    obtain ⟨its, rv, p, hz⟩ := I.list hq
    obtain ⟨u, hu, ru⟩ := rv.get hx
    obtain ⟨f0, f1, f2, f3, f4, f5⟩ := hf it (by simp)
    refine wpAny_pyNext_list_item st p.isList (x := u) (by simpa using hu) fun h' st' sb => ?_
    have I1 : Inv X pins σ H { s with heap := h' } := I.turned (t' := s.toks) (fun b o hb e => (sb.2 b hb).trans e) f0 f1 f3 f4 f5
    obtain ⟨o, e, c, d⟩ := id st'
    exact ⟨u, rfl, go_of (s := { s with heap := h' }) e c d (by decide) ⟨x, H, I1, ru, ⟨rfl, fun ys hy => by rw [I.list_inj hy hq]; exact hx⟩, st', fun b hb => (hf b hb).1⟩⟩
  done := by
    intro X hP hw hK hc i pins s σ H E I hf st hg
    subst hP hw hK
    obtain ⟨xs, hq, hx⟩ := hg
    obtain ⟨its, rv, p, hz⟩ := I.list hq
    obtain ⟨f0, f1, f2, f3, f4, f5⟩ := hf it (by simp)
    have hl := rv.length
    exact wpAny_pyNext_list_end (I.ok.hd hc) st p.isList (by simp; omega) fun h' eb => ⟨rfl, I.turned (t' := s.toks) (fun b o hb e => eb b o hb e) f0 f1 f3 f4 f5⟩
  self := fun _ _ _ _ _ st h => wpAny_pyIter_listiter st h
theorem turn_tuple {P : Program} {w : World} {K : PySem.W.Frag} {tg : Expr} (a it : Addr) : Turn P w K tg (Itt K a) [it] it (fun i h => h.IsTupleIter it a i) where
  mem := by simp
  obj := fun i h st b hb => by
    have e : b = it := by simpa using hb
    subst e
    obtain ⟨o, e, c, d⟩ := st
    exact ⟨o, e, fun v z => by rw [d] at z; cases z⟩
  keep := fun i h h' st k => st.at fun o e => k it (by simp) o e
  item := by
    intro X hP hw hK hc i pins s σ H E I hf st hg
    subst hP hw hK
    obtain ⟨xs, x, hq, hx⟩ := hg
    obtain ⟨its, rv, p, hz⟩ := I.tuple hq
    obtain ⟨u, hu, ru⟩ := rv.get hx
    obtain ⟨f0, f1, f2, f3, f4, f5⟩ := hf it (by simp)
    refine wpAny_pyNext_tuple_item st (show s.heap.IsTuple a its.toArray from p) (x := u) (by simpa using hu) fun h' st' sb => ?_
    have I1 : Inv X pins σ H { s with heap := h' } := I.turned (t' := s.toks) (fun b o hb e => (sb.2 b hb).trans e) f0 f1 f3 f4 f5
    obtain ⟨o, e, c, d⟩ := id st'
    exact ⟨u, rfl, go_of (s := { s with heap := h' }) e c d (by decide) ⟨x, H, I1, ru, ⟨rfl, fun ys hy => by rw [I.tuple_inj hy hq]; exact hx⟩, st', fun b hb => (hf b hb).1⟩⟩
  done := by
    intro X hP hw hK hc i pins s σ H E I hf st hg
    subst hP hw hK
    obtain ⟨xs, hq, hx⟩ := hg
    obtain ⟨its, rv, p, hz⟩ := I.tuple hq
    obtain ⟨f0, f1, f2, f3, f4, f5⟩ := hf it (by simp)
    have hl := rv.length
    exact wpAny_pyNext_tuple_end (I.ok.hd hc) st (show s.heap.IsTuple a its.toArray from p) (by simp; omega) fun h' eb => ⟨rfl, I.turned (t' := s.toks) (fun b o hb e => eb b o hb e) f0 f1 f3 f4 f5⟩
  self := fun _ _ _ _ _ st h => wpAny_pyIter_tupleiter st h
theorem turn_range {P : Program} {w : World} {K : PySem.W.Frag} {tg : Expr} (it : Addr) (lo : Int) (n : Nat) : Turn P w K tg (Itr lo n) [it] it (fun i h => IsRangeIter h it (lo + (i : Nat) * 1) ((n : Int) - (i : Nat)) 1) where
  mem := by simp
  obj := fun i h st b hb => by
    have e : b = it := by simpa using hb
    subst e
    exact ⟨_, st, fun v z => by
      have z' : Data.fields _ = Data.cell v := z
      cases z'⟩
  keep := fun i h h' st k => k it (by simp) _ st
  item := by
    intro X hP hw hK hc i pins s σ H E I hf st hg
    subst hP hw hK
    obtain ⟨f0, f1, f2, f3, f4, f5⟩ := hf it (by simp)
    have W := Walks.range (prog := X.prog) (w := X.w) (I.ok.hd hc) it lo 1 n
    refine W.item i s _ _ hg st fun v h' tk hv st' kk => ?_
    obtain ⟨t, rfl⟩ := hv
    have I1 : Inv X pins σ H { s with heap := h', toks := tk } := I.turned (fun b o hb e => kk b o (by simpa using hb) e) f0 f1 f3 f4 f5
    refine ⟨_, rfl, go_of (s := { s with heap := h', toks := tk }) (n := "range_iterator") st' rfl rfl (by decide) ⟨.int (lo + i), H, I1, ⟨t, ?_⟩, ⟨rfl, rfl⟩, st', fun b hb => (hf b hb).1⟩⟩
    rw [Int.mul_one]
  done := by
    intro X hP hw hK hc i pins s σ H E I hf st hg
    subst hP hw hK
    obtain ⟨f0, f1, f2, f3, f4, f5⟩ := hf it (by simp)
    exact wpAny_pyNext_range_end (I.ok.hd hc) st (by have : n ≤ i := hg; omega) fun h' eb => ⟨rfl, I.turned (t' := s.toks) (fun b o hb e => eb b o hb e) f0 f1 f3 f4 f5⟩
  self := fun _ _ _ _ _ st h => wpAny_pyIter_rangeiter st h
end L2

namespace L2
open PySem PySem.Spec PyProof.Rows
section
variable {X : Cx} {tg : Expr}
theorem range_it {pins : List (Addr × Obj)} {σ : St} {H : Hp} {s : Shared} {R : It → Hp → Prop} {E : Value → Shared → Prop} {lo hi : Int} {t u v : Tok} {tk : Nat} (I : Inv X pins σ H s) (h1 : -(2 ^ 62) ≤ lo) (h2 : lo < 2 ^ 62) (h3 : -(2 ^ 62) ≤ hi) (h4 : hi < 2 ^ 62)
    (q : R (Itr lo (hi - lo).toNat) H) : wpAny (model X.prog X.w) X.A (pyIter (.ref s.heap.objs.size)) (PIE X pins σ tg R) E { s with heap := s.heap.push { cls := .type "range", data := .fields #[.int lo t, .int hi u, .int 1 v] }, toks := tk } := by
  refine wpAny_pyIter_range (IsRange.new ..) (small_one h1 h2 h3 h4) ?_
  have I1 : Inv X pins σ H { s with heap := s.heap.push { cls := .type "range", data := .fields #[.int lo t, .int hi u, .int 1 v] }, toks := tk } := I.kept fun b o e => Heap.get?_push_of_some _ e
  refine ⟨(s.heap.push { cls := .type "range", data := .fields #[.int lo t, .int hi u, .int 1 v] }).objs.size, [(s.heap.push { cls := .type "range", data := .fields #[.int lo t, .int hi u, .int 1 v] }).objs.size], _, _, H, rfl,
    I1.kept (t' := tk) fun b o e => Heap.get?_push_of_some _ e, turn_range _ lo (hi - lo).toNat, ?_, fun b hb => ?_, q⟩
  · have e1 : lo + ((0 : Nat) : Int) * 1 = lo := by simp
    have e2 : (((hi - lo).toNat : Nat) : Int) - ((0 : Nat) : Int) = Builtin.Range.rangeSize lo hi 1 := by rw [rangeSize_one]; split <;> omega
    show IsRangeIter _ _ (lo + ((0 : Nat) : Int) * 1) ((((hi - lo).toNat : Nat) : Int) - ((0 : Nat) : Int)) 1
    rw [e1, e2]
    exact Heap.get?_push_size _ rfl
  · have e : b = (s.heap.push { cls := .type "range", data := .fields #[.int lo t, .int hi u, .int 1 v] }).objs.size := by simpa using hb
    subst e
    exact I1.fpOk (Nat.le_refl _) (I1.hok.fresh (Nat.le_refl _))
noncomputable def iRng1 (ta : TA) : TI := fun σ H R => ta σ H fun vs H1 => ∃ j : Int, vs = [.int j] ∧ -(2 ^ 62) ≤ j ∧ j < 2 ^ 62 ∧ R (Itr 0 j.toNat) H1
theorem pi_range1 {a : Expr} {ta : TA} {p pos : Pos} (hg : Gl X "range") (hm : X.mg "range" = none) (ha : PA X [a] ta) (hs : starEach [a] X.env = [(false, eval a X.env)] := by rfl) : PI X tg (.Call (.Name "range" p) [a] [] pos) (iRng1 ta) := by
  intro pins s σ H R I h
  refine Call_ (ld_blt I hg hm boot_range (PyProof.Rows.callWith_type1 (thn (ha pos pins s σ H _ I h) fun us s1 ⟨vs, H1, I1, r1, q1⟩ => ?_) hs rfl))
  obtain ⟨j, e, q1, q2, q⟩ := q1
  subst e
  cases r1 with
  | cons r rr =>
    cases rr
    obtain ⟨t, rfl⟩ := r
    exact call_range_1 (range_it I1 (by omega) (by omega) q1 q2 (by simpa using q))
noncomputable def tFor (wi : TI) (g : TG) (tb : TS) : TS := fun D σ H => wi σ H fun J H1 => ∃ W : Nat → Nat → St → Hp → Prop, (∃ m, W 0 m σ H1) ∧ ∀ i m σ H, W i m σ H →
  (J.stop i H ∧ D.nx σ H) ∨ (J.go i H ∧ ∃ N : St → Hp → Prop, (∀ σ' H', N σ' H' → ∃ m', m' < m ∧ W (i + 1) m' σ' H') ∧ ∀ x H', J.yld i H x H' → g x σ H' fun σ2 H2 => tb { D with nx := N, ct := N, bk := D.nx } σ2 H2)
noncomputable def pinsAt (fp : List Addr) (h : Heap) : List (Addr × Obj) := fp.filterMap fun b => (h.get? b).map fun o => (b, o)
theorem mem_pinsAt {fp : List Addr} {h : Heap} {b : Addr} {o : Obj} (hb : b ∈ fp) (e : h.get? b = some o) : (b, o) ∈ pinsAt fp h := List.mem_filterMap.mpr ⟨b, hb, by rw [e]; rfl⟩
theorem of_pinsAt {fp : List Addr} {h : Heap} {p : Addr × Obj} (hp : p ∈ pinsAt fp h) : p.1 ∈ fp ∧ h.get? p.1 = some p.2 := by
  obtain ⟨b, hb, e⟩ := List.mem_filterMap.mp hp
  cases q : h.get? b with
  | none => rw [q] at e; cases e
  | some o =>
    rw [q] at e
    have e' : (b, o) = p := Option.some.inj e
    subst e'
    exact ⟨hb, q⟩
theorem Inv.pinned {pins : List (Addr × Obj)} {σ : St} {H : Hp} {s : Shared} {fp : List Addr} (I : Inv X pins σ H s) (hf : ∀ b ∈ fp, FpOk X pins H b) (ho : ∀ b ∈ fp, ∃ o, s.heap.get? b = some o ∧ ∀ v, o.data ≠ .cell v) : Inv X (pins ++ pinsAt fp s.heap) σ H s :=
  I.pins_of fun p hp => (List.mem_append.mp hp).elim (fun z => I.pin p (List.mem_append_right _ z)) fun z => by
    obtain ⟨hb, e⟩ := of_pinsAt z
    obtain ⟨f0, f1, f2, _⟩ := hf p.1 hb
    obtain ⟨o, e', d⟩ := ho p.1 hb
    rw [e] at e'; cases e'
    exact ⟨e, f0, f1, f2, d⟩
theorem Inv.unpinned {pins pl : List (Addr × Obj)} {σ : St} {H : Hp} {s : Shared} (I : Inv X (pins ++ pl) σ H s) : Inv X pins σ H s := I.pins_of fun p hp => I.pin p (List.mem_append_right _ (List.mem_append_left _ hp))
theorem ps_for {iter : Expr} {body : List Stmt} {wi : TI} {g : TG} {tb : TS} {pos : Pos} (hp : PassesOwn (model X.prog X.w) X.A X.env X.xe) (hc : X.calm = true) (hi : PI X tg iter wi) (hg : PG X tg g) (hb : PSs X body tb)
    (hs : ∀ x, foldedSetIterable iter X.env x = pure x := by intro _; rfl) : PS X (.For tg iter body [] pos) (tFor wi g tb) := by
  intro pins s σ H D I h
  refine wpAny_For (thn (hi pins s σ H _ I h) fun v s1 h1 => thn h1 fun itv s2 h2 => ?_) hs
  obtain ⟨it, fp, tn, J, H2, e, I2, T, st2, f2, W, ⟨m0, w0⟩, turn⟩ := h2
  subst e
  -- what stays true of the iterator's objects through the loop
  have stat : ∀ {H' : Hp}, (∀ b ∈ fp, H' b = none) → ∀ b ∈ fp, FpOk X pins H' b := fun hn b hb => ⟨hn b hb, (f2 b hb).2⟩
  refine codeAny_forLoop_any (fun n s' => ∃ i σ' H', Inv X pins σ' H' s' ∧ tn i s'.heap ∧ (∀ b ∈ fp, H' b = none) ∧ W i n σ' H') ?_ m0 ⟨0, σ, H2, I2, st2, fun b hb => (f2 b hb).1, w0⟩
  rintro n s3 ⟨i, σ3, H3, I3, st3, fr3, w3⟩
  rcases turn i n σ3 H3 w3 with ⟨stop, qn⟩ | ⟨go, N, hN, step⟩
  · refine wpAny_passesOwn hp (thn (T.done X rfl rfl rfl hc i pins s3 σ3 H3 X.xe I3 (stat fr3) st3 stop) fun r s4 ⟨hr, I4⟩ => ?_)
    subst hr
    exact wpAny_execs_nil ⟨σ3, H3, I4, qn⟩
  · refine wpAny_passesOwn hp (thn (T.item X rfl rfl rfl hc i pins s3 σ3 H3 X.xe I3 (stat fr3) st3 go) fun r s4 ⟨u, hr, h4⟩ => ?_)
    subst hr
    refine wpAny_passesOwn hp (thn h4 fun _ s5 ⟨x, H5, I5, r5, y5, st5, fr5⟩ => ?_)
    have I5' := I5.pinned (stat fr5) (T.obj _ _ st5)
    refine wpAny_passesOwn hp (thn (hg _ s5 σ3 H5 x u _ I5' r5 (step x H5 y5)) fun _ s6 ⟨σ6, H6, I6, q6⟩ => ?_)
    refine wpAny_passesOwn hp (thn (hb _ s6 σ6 H6 _ I6 q6) fun f s7 q7 => ?_)
    have again : ∀ {σ7 : St} {H7 : Hp}, Inv X (pins ++ pinsAt fp s5.heap) σ7 H7 s7 → N σ7 H7 → ∃ m, m < n ∧ ∃ i σ' H', Inv X pins σ' H' s7 ∧ tn i s7.heap ∧ (∀ b ∈ fp, H' b = none) ∧ W i m σ' H' := fun {σ7 H7} I7 n7 => by
      obtain ⟨m', hm, w7⟩ := hN σ7 H7 n7
      refine ⟨m', hm, i + 1, σ7, H7, I7.unpinned, T.keep _ _ _ st5 fun b hb o e => (I7.pin (b, o) (List.mem_append_right _ (List.mem_append_right _ (mem_pinsAt hb e)))).1, fun b hb => ?_, w7⟩
      obtain ⟨o, e, d⟩ := T.obj _ _ st5 b hb
      exact (I7.pin (b, o) (List.mem_append_right _ (List.mem_append_right _ (mem_pinsAt hb e)))).2.1
    cases f with
    | next => obtain ⟨σ7, H7, I7, n7⟩ := q7; exact again I7 n7
    | cont => obtain ⟨σ7, H7, I7, n7⟩ := q7; exact again I7 n7
    | brk => obtain ⟨σ7, H7, I7, q7⟩ := q7; exact ⟨σ7, H7, I7.unpinned, q7⟩
    | ret v => obtain ⟨x7, σ7, H7, I7, r7, q7⟩ := q7; exact ⟨x7, σ7, H7, I7.unpinned, r7, q7⟩
end

theorem for_list {K : PySem.W.Frag} {a : Addr} {xs : List V} {g : TG} {tb : TS} {D : Ends} {σ : St} {H : Hp} (Pv : Nat → St → Hp → Prop) (h0 : Pv 0 σ H) (hl : ∀ i σ H, i ≤ xs.length → Pv i σ H → SqL K H a xs)
    (hs : ∀ i x σ H, xs[i]? = some x → Pv i σ H → g x σ H fun σ2 H2 => tb { D with nx := Pv (i + 1), ct := Pv (i + 1), bk := D.nx } σ2 H2) (hd : ∀ σ H, Pv xs.length σ H → D.nx σ H) :
    ∃ W : Nat → Nat → St → Hp → Prop, (∃ m, W 0 m σ H) ∧ ∀ i m σ H, W i m σ H →
      ((Itl K a).stop i H ∧ D.nx σ H) ∨ ((Itl K a).go i H ∧ ∃ N : St → Hp → Prop, (∀ σ' H', N σ' H' → ∃ m', m' < m ∧ W (i + 1) m' σ' H') ∧ ∀ x H', (Itl K a).yld i H x H' → g x σ H' fun σ2 H2 => tb { D with nx := N, ct := N, bk := D.nx } σ2 H2) := by
  refine ⟨fun i m σ H => m = xs.length - i ∧ i ≤ xs.length ∧ Pv i σ H, ⟨xs.length, by simp, Nat.zero_le _, h0⟩, ?_⟩
  rintro i m σ H ⟨rfl, hi, p⟩
  have q := hl i σ H hi p
  by_cases hlt : i < xs.length
  · refine .inr ⟨⟨xs, xs[i], q, by simp [hlt]⟩, Pv (i + 1), fun σ' H' p' => ⟨xs.length - (i + 1), by omega, rfl, hlt, p'⟩, fun x H' y => ?_⟩
    obtain ⟨e, y⟩ := y
    subst e
    exact hs i x σ _ (y xs q) p
  · have e : i = xs.length := by omega
    subst e
    exact .inl ⟨⟨xs, q, Nat.le_refl _⟩, hd σ H p⟩
theorem for_tup {K : PySem.W.Frag} {a : Addr} {xs : List V} {g : TG} {tb : TS} {D : Ends} {σ : St} {H : Hp} (Pv : Nat → St → Hp → Prop) (h0 : Pv 0 σ H) (hl : ∀ i σ H, i ≤ xs.length → Pv i σ H → SqT K H a xs)
    (hs : ∀ i x σ H, xs[i]? = some x → Pv i σ H → g x σ H fun σ2 H2 => tb { D with nx := Pv (i + 1), ct := Pv (i + 1), bk := D.nx } σ2 H2) (hd : ∀ σ H, Pv xs.length σ H → D.nx σ H) :
    ∃ W : Nat → Nat → St → Hp → Prop, (∃ m, W 0 m σ H) ∧ ∀ i m σ H, W i m σ H →
      ((Itt K a).stop i H ∧ D.nx σ H) ∨ ((Itt K a).go i H ∧ ∃ N : St → Hp → Prop, (∀ σ' H', N σ' H' → ∃ m', m' < m ∧ W (i + 1) m' σ' H') ∧ ∀ x H', (Itt K a).yld i H x H' → g x σ H' fun σ2 H2 => tb { D with nx := N, ct := N, bk := D.nx } σ2 H2) := by
  refine ⟨fun i m σ H => m = xs.length - i ∧ i ≤ xs.length ∧ Pv i σ H, ⟨xs.length, by simp, Nat.zero_le _, h0⟩, ?_⟩
  rintro i m σ H ⟨rfl, hi, p⟩
  have q := hl i σ H hi p
  by_cases hlt : i < xs.length
  · refine .inr ⟨⟨xs, xs[i], q, by simp [hlt]⟩, Pv (i + 1), fun σ' H' p' => ⟨xs.length - (i + 1), by omega, rfl, hlt, p'⟩, fun x H' y => ?_⟩
    obtain ⟨e, y⟩ := y
    subst e
    exact hs i x σ _ (y xs q) p
  · have e : i = xs.length := by omega
    subst e
    exact .inl ⟨⟨xs, q, Nat.le_refl _⟩, hd σ H p⟩
theorem for_range {lo : Int} {n : Nat} {g : TG} {tb : TS} {D : Ends} {σ : St} {H : Hp} (Pv : Nat → St → Hp → Prop) (h0 : Pv 0 σ H)
    (hs : ∀ i σ H, i < n → Pv i σ H → g (.int (lo + i)) σ H fun σ2 H2 => tb { D with nx := Pv (i + 1), ct := Pv (i + 1), bk := D.nx } σ2 H2) (hd : ∀ σ H, Pv n σ H → D.nx σ H) :
    ∃ W : Nat → Nat → St → Hp → Prop, (∃ m, W 0 m σ H) ∧ ∀ i m σ H, W i m σ H →
      ((Itr lo n).stop i H ∧ D.nx σ H) ∨ ((Itr lo n).go i H ∧ ∃ N : St → Hp → Prop, (∀ σ' H', N σ' H' → ∃ m', m' < m ∧ W (i + 1) m' σ' H') ∧ ∀ x H', (Itr lo n).yld i H x H' → g x σ H' fun σ2 H2 => tb { D with nx := N, ct := N, bk := D.nx } σ2 H2) := by
  refine ⟨fun i m σ H => m = n - i ∧ i ≤ n ∧ Pv i σ H, ⟨n, by simp, Nat.zero_le _, h0⟩, ?_⟩
  rintro i m σ H ⟨rfl, hi, p⟩
  by_cases hlt : i < n
  · refine .inr ⟨hlt, Pv (i + 1), fun σ' H' p' => ⟨n - (i + 1), by omega, rfl, hlt, p'⟩, fun x H' y => ?_⟩
    obtain ⟨e, y⟩ := y
    subst e y
    exact hs i σ _ hlt p
  · have e : i = n := by omega
    subst e
    exact .inl ⟨Nat.le_refl _, hd σ H p⟩
end L2

namespace L2
open PySem PySem.Spec PyProof.Rows

noncomputable abbrev R2 := V → V → Hp → VK → Prop
noncomputable def OpR (X : Cx) (f : Value → Value → Sem Value) (r : R2) : Prop :=
  ∀ (pins : List (Addr × Obj)) (s : Shared) (σ : St) (H : Hp) (x y : V) (v u : Value) (Q : VK), Inv X pins σ H s → RelV x v → RelV y u → r x y H Q →
    wpAny (model X.prog X.w) X.A (f v u) (EP X pins σ Q) X.xe s
noncomputable def UnR (X : Cx) (f : Value → Sem Value) (r : V → Hp → VK → Prop) : Prop :=
  ∀ (pins : List (Addr × Obj)) (s : Shared) (σ : St) (H : Hp) (x : V) (v : Value) (Q : VK), Inv X pins σ H s → RelV x v → r x H Q →
    wpAny (model X.prog X.w) X.A (f v) (EP X pins σ Q) X.xe s
noncomputable def CallR (X : Cx) (f : Value) (r : List V → Hp → VK → Prop) : Prop :=
  ∀ (pins : List (Addr × Obj)) (s : Shared) (σ : St) (H : Hp) (xs : List V) (us : List Value) (Q : VK), Inv X pins σ H s → Vals xs us → r xs H Q →
    wpAny (model X.prog X.w) X.A (call f us) (EP X pins σ Q) X.xe s
noncomputable def tOp (r : R2) (ta tb : TE) : TE := fun σ H Q => ta σ H fun x H1 => tb σ H1 fun y H2 => r x y H2 Q
noncomputable def tUn (r : V → Hp → VK → Prop) (ta : TE) : TE := fun σ H Q => ta σ H fun x H1 => r x H1 Q
noncomputable def rI (C : Int → Int → Prop) (g : Int → Int → V) : R2 := fun x y H Q => ∃ i j, x = .int i ∧ y = .int j ∧ C i j ∧ Q (g i j) H
noncomputable def rI0 (g : Int → Int → V) : R2 := fun x y H Q => ∃ i j, x = .int i ∧ y = .int j ∧ Q (g i j) H
noncomputable def rU (g : Int → V) : V → Hp → VK → Prop := fun x H Q => ∃ i, x = .int i ∧ Q (g i) H

section
variable {X : Cx} {a b c : Expr} {ta tb tc : TE} {pos : Pos}

theorem binT (ha : PE X a ta) (hb : PE X b tb) {pins : List (Addr × Obj)} {s : Shared} {σ : St} {H : Hp} {R : V → V → Hp → Prop} (I : Inv X pins σ H s)
    (h : ta σ H fun x H1 => tb σ H1 fun y H2 => R x y H2) {Q : Value → Shared → Prop} {f : Value → Value → Sem Value}
    (hf : ∀ v u s2 x y H2, Inv X pins σ H2 s2 → RelV x v → RelV y u → R x y H2 → wpAny (model X.prog X.w) X.A (f v u) Q X.xe s2) :
    wpAny (model X.prog X.w) X.A (eval a X.env) (fun v s₁ => wpAny (model X.prog X.w) X.A (eval b X.env) (fun u s₂ => wpAny (model X.prog X.w) X.A (f v u) Q X.xe s₂) X.xe s₁) X.xe s := by
  refine thn (ha pins s σ H _ I h) fun v s1 ⟨x, H1, I1, r1, q1⟩ => ?_
  refine thn (hb pins s1 σ H1 _ I1 q1) fun u s2 ⟨y, H2, I2, r2, q2⟩ => ?_
  exact hf v u s2 x y H2 I2 r1 r2 q2

theorem pe_op {op : Operator} {r : R2} (ho : OpR X (binaryOp op) r) (ha : PE X a ta) (hb : PE X b tb) : PE X (.BinOp a op b pos) (tOp r ta tb) := by
  intro pins s σ H Q I h
  exact wpAny_BinOp (binT ha hb I h fun v u s2 x y H2 I2 rx ry q => ho pins s2 σ H2 x y v u Q I2 rx ry q)
theorem pe_un {op : UnaryOp} {r : V → Hp → VK → Prop} (ho : UnR X (unaryOp op) r) (ha : PE X a ta) : PE X (.UnaryOp op a pos) (tUn r ta) := by
  intro pins s σ H Q I h
  exact UnaryOp_ (thn (ha pins s σ H _ I h) fun v s1 ⟨x, H1, I1, r1, q1⟩ => ho pins s1 σ H1 x v Q I1 r1 q1)
theorem opI {f : Value → Value → Sem Value} {C : Int → Int → Prop} {g : Int → Int → Int}
    (rule : ∀ (i j : Int) (t u : Tok) (s : Shared) (Q : Value → Shared → Prop) (E : Value → Shared → Prop), C i j → Q (.int (g i j) s.toks) { s with toks := s.toks + 1 } → wpAny (model X.prog X.w) X.A (f (.int i t) (.int j u)) Q E s) :
    OpR X f (rI C fun i j => .int (g i j)) := by
  intro pins s σ H x y v u Q I rx ry h
  obtain ⟨i, j, rfl, rfl, hc, q⟩ := h
  obtain ⟨t, rfl⟩ := rx
  obtain ⟨t', rfl⟩ := ry
  exact rule i j t t' s _ _ hc ⟨.int (g i j), H, I.tok _, ⟨_, rfl⟩, q⟩
theorem opI0 {f : Value → Value → Sem Value} {g : Int → Int → Int}
    (rule : ∀ (i j : Int) (t u : Tok) (s : Shared) (Q : Value → Shared → Prop) (E : Value → Shared → Prop), Q (.int (g i j) s.toks) { s with toks := s.toks + 1 } → wpAny (model X.prog X.w) X.A (f (.int i t) (.int j u)) Q E s) :
    OpR X f (rI0 fun i j => .int (g i j)) := by
  intro pins s σ H x y v u Q I rx ry h
  obtain ⟨i, j, rfl, rfl, q⟩ := h
  obtain ⟨t, rfl⟩ := rx
  obtain ⟨t', rfl⟩ := ry
  exact rule i j t t' s _ _ ⟨.int (g i j), H, I.tok _, ⟨_, rfl⟩, q⟩
theorem opB0 {f : Value → Value → Sem Value} {g : Int → Int → Bool}
    (rule : ∀ (i j : Int) (t u : Tok) (s : Shared) (Q : Value → Shared → Prop) (E : Value → Shared → Prop), Q (.bool (g i j)) s → wpAny (model X.prog X.w) X.A (f (.int i t) (.int j u)) Q E s) :
    OpR X f (rI0 fun i j => .bl (g i j)) := by
  intro pins s σ H x y v u Q I rx ry h
  obtain ⟨i, j, rfl, rfl, q⟩ := h
  obtain ⟨t, rfl⟩ := rx
  obtain ⟨t', rfl⟩ := ry
  exact rule i j t t' s _ _ ⟨.bl (g i j), H, I, rfl, q⟩

noncomputable def CPow (i j : Int) : Prop := 0 ≤ j ∧ j ≤ 1000000 ∧ i.natAbs < 2 ^ 64
noncomputable def CMul (i j : Int) : Prop := (-(2 ^ 64) < i ∧ i < 2 ^ 64) ∨ (-(2 ^ 64) < j ∧ j < 2 ^ 64)
theorem CMul.ok {i j : Int} (h : CMul i j) : IntMulOk i j := by
  rcases h with ⟨h1, h2⟩ | ⟨h1, h2⟩
  · exact .of_left (intBits_le_64 h1 h2)
  · exact .of_right (intBits_le_64 h1 h2)
theorem op_add : OpR X (binaryOp .Add) (rI0 fun i j => .int (i + j)) := opI0 fun _ _ _ _ _ _ _ q => add_int q
theorem op_sub : OpR X (binaryOp .Sub) (rI0 fun i j => .int (i - j)) := opI0 fun _ _ _ _ _ _ _ q => sub_int q
theorem op_modN : OpR X (binaryOp .Mod) (rI (fun _ j => j ≠ 0) fun i j => .int (i.fmod j)) := opI fun _ _ _ _ _ _ _ hc q => mod_int' hc q
theorem op_pow : OpR X (binaryOp .Pow) (rI CPow fun i j => .int (i ^ j.toNat)) := opI fun _ _ _ _ _ _ _ hc q => pow_int_small hc.1 hc.2.1 hc.2.2 q
theorem unI {f : Value → Sem Value} {g : Int → Int}
    (rule : ∀ (i : Int) (t : Tok) (s : Shared) (Q : Value → Shared → Prop) (E : Value → Shared → Prop), Q (.int (g i) s.toks) { s with toks := s.toks + 1 } → wpAny (model X.prog X.w) X.A (f (.int i t)) Q E s) :
    UnR X f (rU fun i => .int (g i)) := by
  intro pins s σ H x v Q I rx h
  obtain ⟨i, rfl, q⟩ := h
  obtain ⟨t, rfl⟩ := rx
  exact rule i t s _ _ ⟨.int (g i), H, I.tok _, ⟨_, rfl⟩, q⟩
theorem un_neg : UnR X (unaryOp .USub) (rU fun i => .int (-i)) := unI fun _ _ _ _ _ q => neg_int q
end

noncomputable def scal : V → V → Bool
  | .non, .non => true | .non, .int _ => true | .int _, .non => true | .non, .bl _ => true | .bl _, .non => true | .non, .str _ => true | .str _, .non => true
  | .int _, .int _ => true | .bl _, .bl _ => true | .str _, .str _ => true | .byt _, .byt _ => true
  | .int _, .str _ => true | .str _, .int _ => true | .bl _, .str _ => true | .str _, .bl _ => true
  | _, _ => false
noncomputable def rEq : R2 := fun x y H Q => scal x y = true ∧ Q (.bl (decide (x = y))) H
noncomputable def rNe : R2 := fun x y H Q => scal x y = true ∧ Q (.bl (!decide (x = y))) H

theorem dec_int {i j : Int} : decide (V.int i = V.int j) = (i == j) := by
  rw [Bool.eq_iff_iff]
  simp
theorem dec_bl {i j : Bool} : decide (V.bl i = V.bl j) = (i == j) := by
  rw [Bool.eq_iff_iff]
  simp
theorem dec_str {i j : Str} : decide (V.str i = V.str j) = (i == j) := by
  rw [Bool.eq_iff_iff]
  simp
theorem dec_byt {i j : Array UInt8} : decide (V.byt i = V.byt j) = (i.toList == j.toList) := by
  rw [Bool.eq_iff_iff]
  cases i
  cases j
  simp

section
variable {X : Cx} {a b c : Expr} {ta tb tc : TE} {pos : Pos}
theorem fin_bl {pins : List (Addr × Obj)} {σ : St} {H : Hp} {s : Shared} {Q : VK} {k k' : Bool} (I : Inv X pins σ H s) (q : Q (.bl k) H) (e : k = k') : EP X pins σ Q (.bool k') s := by
  subst e
  exact ⟨.bl k, H, I, rfl, q⟩
theorem op_eq : OpR X (compareOp .Eq) rEq := by
  intro pins s σ H x y v u Q I rx ry h
  obtain ⟨hs, q⟩ := h
  cases x with
  | non =>
    cases rx
    cases y with
    | non => cases ry; exact PySem.EqNone.eq_none_none (fin_bl I q (by simp))
    | bl j => cases ry; exact PySem.EqNone.eq_none_bool (fin_bl I q (by simp))
    | int j => obtain ⟨t', rfl⟩ := ry; exact PySem.EqNone.eq_none_int (fin_bl I q (by simp))
    | str j => obtain ⟨t', rfl⟩ := ry; exact PySem.EqNone.eq_none_str (fin_bl I q (by simp))
    | _ => exact absurd (show false = true from hs) Bool.false_ne_true
  | bl i =>
    cases rx
    cases y with
    | non => cases ry; exact PySem.EqNone.eq_bool_none (fin_bl I q (by simp))
    | bl j => cases ry; exact eq_bool (fin_bl I q dec_bl)
    | str j => obtain ⟨t', rfl⟩ := ry; exact PySem.EqMixed.eq_bool_str (fin_bl I q (by simp))
    | _ => exact absurd (show false = true from hs) Bool.false_ne_true
  | int i =>
    obtain ⟨t, rfl⟩ := rx
    cases y with
    | non => cases ry; exact PySem.EqNone.eq_int_none (fin_bl I q (by simp))
    | int j => obtain ⟨t', rfl⟩ := ry; exact eq_int (fin_bl I q dec_int)
    | str j => obtain ⟨t', rfl⟩ := ry; exact PySem.EqMixed.eq_int_str (fin_bl I q (by simp))
    | _ => exact absurd (show false = true from hs) Bool.false_ne_true
  | str i =>
    obtain ⟨t, rfl⟩ := rx
    cases y with
    | non => cases ry; exact PySem.EqNone.eq_str_none (fin_bl I q (by simp))
    | bl j => cases ry; exact PySem.EqMixed.eq_str_bool (fin_bl I q (by simp))
    | int j => obtain ⟨t', rfl⟩ := ry; exact PySem.EqMixed.eq_str_int (fin_bl I q (by simp))
    | str j => obtain ⟨t', rfl⟩ := ry; exact eq_str (fin_bl I q dec_str)
    | _ => exact absurd (show false = true from hs) Bool.false_ne_true
  | byt i =>
    obtain ⟨t, rfl⟩ := rx
    cases y with
    | byt j => obtain ⟨t', rfl⟩ := ry; exact PySem.W.eq_bytes (fin_bl I q dec_byt)
    | _ => exact absurd (show false = true from hs) Bool.false_ne_true
  | _ => cases y <;> exact absurd (show false = true from hs) Bool.false_ne_true
theorem op_ne : OpR X (compareOp .NotEq) rNe := by
  intro pins s σ H x y v u Q I rx ry h
  obtain ⟨hs, q⟩ := h
  cases x with
  | non =>
    cases rx
    cases y with
    | non => cases ry; exact PySem.EqNone.ne_none_none (fin_bl I q (by simp))
    | bl j => cases ry; exact PySem.EqNone.ne_none_bool (fin_bl I q (by simp))
    | int j => obtain ⟨t', rfl⟩ := ry; exact PySem.EqNone.ne_none_int (fin_bl I q (by simp))
    | str j => obtain ⟨t', rfl⟩ := ry; exact PySem.EqNone.ne_none_str (fin_bl I q (by simp))
    | _ => exact absurd (show false = true from hs) Bool.false_ne_true
  | bl i =>
    cases rx
    cases y with
    | non => cases ry; exact PySem.EqNone.ne_bool_none (fin_bl I q (by simp))
    | bl j => cases ry; exact ne_bool (fin_bl I q (congrArg not dec_bl))
    | str j => obtain ⟨t', rfl⟩ := ry; exact PySem.EqMixed.ne_bool_str (fin_bl I q (by simp))
    | _ => exact absurd (show false = true from hs) Bool.false_ne_true
  | int i =>
    obtain ⟨t, rfl⟩ := rx
    cases y with
    | non => cases ry; exact PySem.EqNone.ne_int_none (fin_bl I q (by simp))
    | int j => obtain ⟨t', rfl⟩ := ry; exact ne_int (fin_bl I q (congrArg not dec_int))
    | str j => obtain ⟨t', rfl⟩ := ry; exact PySem.EqMixed.ne_int_str (fin_bl I q (by simp))
    | _ => exact absurd (show false = true from hs) Bool.false_ne_true
  | str i =>
    obtain ⟨t, rfl⟩ := rx
    cases y with
    | non => cases ry; exact PySem.EqNone.ne_str_none (fin_bl I q (by simp))
    | bl j => cases ry; exact PySem.EqMixed.ne_str_bool (fin_bl I q (by simp))
    | int j => obtain ⟨t', rfl⟩ := ry; exact PySem.EqMixed.ne_str_int (fin_bl I q (by simp))
    | str j => obtain ⟨t', rfl⟩ := ry; exact ne_str (fin_bl I q (congrArg not dec_str))
    | _ => exact absurd (show false = true from hs) Bool.false_ne_true
  | byt i =>
    obtain ⟨t, rfl⟩ := rx
    cases y with
    | byt j => obtain ⟨t', rfl⟩ := ry; exact PySem.W.ne_bytes (fin_bl I q (congrArg not dec_byt))
    | _ => exact absurd (show false = true from hs) Bool.false_ne_true
  | _ => cases y <;> exact absurd (show false = true from hs) Bool.false_ne_true

theorem op_lt : OpR X (compareOp .Lt) (rI0 fun i j => .bl (decide (i < j))) := opB0 fun _ _ _ _ _ _ _ q => lt_int q
theorem op_ge : OpR X (compareOp .GtE) (rI0 fun i j => .bl (decide (j ≤ i))) := opB0 fun _ _ _ _ _ _ _ q => ge_int q
theorem op_isN : OpR X (compareOp .Is) (fun x y H Q => y = .non ∧ Q (.bl (decide (x = .non))) H) := by
  intro pins s σ H x y v u Q I rx ry h
  obtain ⟨rfl, q⟩ := h
  cases ry
  refine is_none_gen (fin_bl I q ?_)
  cases x <;> first
    | (cases rx; rfl)
    | (obtain ⟨t, rfl⟩ := rx; rfl)
theorem OpR.or {f : Value → Value → Sem Value} {r r' : R2} (h : OpR X f r) (h' : OpR X f r') : OpR X f (fun x y H Q => r x y H Q ∨ r' x y H Q) := by
  intro pins s σ H x y v u Q I rx ry q
  rcases q with q | q
  · exact h pins s σ H x y v u Q I rx ry q
  · exact h' pins s σ H x y v u Q I rx ry q

theorem nomark (b : Expr) {op : CmpOp} (h : op ≠ .In := by decide) (h2 : op ≠ .NotIn := by decide) : behindInMarks op b = false := by
  have e1 : (op == CmpOp.In) = false := by cases op <;> first | rfl | exact absurd rfl h
  have e2 : (op == CmpOp.NotIn) = false := by cases op <;> first | rfl | exact absurd rfl h2
  cases b <;> simp [behindInMarks, e1, e2]
theorem pe_cmpR {op : CmpOp} {r : R2} (ho : OpR X (compareOp op) r) (ha : PE X a ta) (hb : PE X b tb) (hm : behindInMarks op b = false) : PE X (.Compare a [op] [b] pos) (tOp r ta tb) := by
  intro pins s σ H Q I h
  exact wpAny_Compare1 (binT ha hb I h fun v u s2 x y H2 I2 rx ry q => ho pins s2 σ H2 x y v u Q I2 rx ry q) hm
noncomputable def tTest (t : TE) : TT := fun σ H Q => t σ H fun x H' => ∃ k, x = .bl k ∧ Q k H'
theorem pt_cmpR {op : CmpOp} {r : R2} (ho : OpR X (compareOp op) r) (ha : PE X a ta) (hb : PE X b tb) (hm : behindInMarks op b = false) : PT X (.Compare a [op] [b] pos) (tTest (tOp r ta tb)) := by
  intro pins s σ H Q I h
  refine wpAny_isTrue_Compare1 (thn (ha pins s σ H _ I h) fun v s1 ⟨x, H1, I1, r1, q1⟩ => thn (hb pins s1 σ H1 _ I1 q1) fun u s2 ⟨y, H2, I2, r2, q2⟩ =>
    thn (ho pins s2 σ H2 x y v u _ I2 r1 r2 q2) fun c s3 ⟨z, H3, I3, r3, k, e, q3⟩ => ?_) hm
  subst e
  cases r3
  exact wpAny_truthy_bool ⟨H3, I3, q3⟩
theorem line63 : (sizeLine : Nat) < 2 ^ 63 := by rw [sizeLine_eq]; decide
theorem vals1 {x : V} {us : List Value} (r : Vals [x] us) : ∃ u, us = [u] ∧ RelV x u := by
  cases r with
  | cons r1 r2 => cases r2; exact ⟨_, rfl, r1⟩
theorem call_abs : CallR X (.builtin "abs") (fun xs H Q => ∃ i, xs = [.int i] ∧ Q (.int (if i < 0 then -i else i)) H) := by
  intro pins s σ H xs us Q I r h
  obtain ⟨i, rfl, q⟩ := h
  obtain ⟨u, rfl, t, rfl⟩ := vals1 r
  exact call_abs_int fun u tk => ⟨.int (if i < 0 then -i else i), H, I.tok _, ⟨_, rfl⟩, q⟩
theorem call_int1 : CallR X (.type "int") (fun xs H Q => (∃ i, xs = [.int i] ∧ Q (.int i) H) ∨ ∃ k, xs = [.bl k] ∧ Q (.int (if k then 1 else 0)) H) := by
  intro pins s σ H xs us Q I r h
  rcases h with ⟨i, rfl, q⟩ | ⟨k, rfl, q⟩
  · obtain ⟨u, rfl, t, rfl⟩ := vals1 r
    exact call_int_int ⟨.int i, H, I, ⟨_, rfl⟩, q⟩
  · obtain ⟨u, rfl, r1⟩ := vals1 r
    cases r1
    exact call_int_bool ⟨.int (if k then 1 else 0), H, I.tok _, ⟨_, rfl⟩, q⟩
end
end L2

namespace L2
open PySem PySem.Spec PyProof.Rows

structure ObjM (h : Heap) (x dx C : Addr) (mA : Str → Option Value) : Prop where
  obj : h.get? x = some (PySem.W.instObj C dx)
  ns : h.Ns1 dx mA
  ne : dx ≠ x

theorem lookIn_ns {h : Heap} {dx : Addr} {mA : Str → Option Value} (n : h.Ns1 dx mA) : ∃ od, h.get? dx = some od ∧ ∀ name, PySem.W.lookIn name od = some (mA name) := by
  obtain ⟨o, es, ep, ho, hd, hk, _, hm⟩ := n
  refine ⟨o, ho, fun name => ?_⟩
  have e := hm name
  unfold nsFind findBy at e
  rw [← Array.find?_toList] at e
  unfold PySem.W.lookIn
  rw [hd]
  dsimp only
  split
  · rename_i y q
    rw [q] at e
    exact congrArg some e
  · rename_i q
    rw [q] at e
    have a : es.toList.any (·.refKey) = false := by
      rw [List.any_eq_false]
      intro y hy
      obtain ⟨z, t, hkey⟩ := hk y (Array.mem_toList_iff.mp hy)
      simp [DictEntry.refKey, hkey]
    have a' : ¬ es.toList.any (·.refKey) = true := by rw [a]; exact Bool.false_ne_true
    rw [if_neg a']
    exact congrArg some e

theorem ObjM.look {h : Heap} {x dx C : Addr} {mA : Str → Option Value} (I : ObjM h x dx C mA) : ∃ od, PySem.W.InstAt h x (PySem.W.instObj C dx) C (some od) ∧ ∀ name, PySem.W.lookIn name od = some (mA name) :=
  let ⟨od, ho, hl⟩ := lookIn_ns I.ns
  ⟨od, ⟨I.obj, rfl, rfl, ho⟩, hl⟩

section
variable {prog : Program} {w : World} {A : Around} {E : Value → Shared → Prop} {s : Shared} {K : PySem.W.Frag} {x dx C f : Addr} {mA : Str → Option Value} {name : Str} {v : Value}

end

theorem RelO.none_of {o : Option Value} (r : RelO none o) : o = none := by
  cases o with
  | none => rfl
  | some u => exact (show False from r).elim
section
variable {P : Program} {w : World} {H H' : Hp} {h h' : Heap} {a C dx : Addr} {fs fs' : List (Str × V)}
theorem ins_get (hok : HOk P w H h) (e : H a = some (.ins C dx fs)) : ∃ mA, ObjM h a dx C mA ∧ (∀ f, RelO (fs.lookup f) (mA f)) ∧ PySem.Within mA (fs.map (·.1)) ∧ fs.length ≤ 1000 ∧ H dx = some (.own a) := by
  obtain ⟨d, z, ne, ob, mA, n, r, q⟩ := (show ObjOk P w H h a (.ins C dx fs) from hok a _ e)
  exact ⟨mA, ⟨ob, n, ne⟩, r, q, z, d⟩
end

structure Cls (K : PySem.W.Frag) (C : Addr) : Prop where
  pg : PySem.W.plainGet K C Str.empty = true
  hd : PySem.W.hasDictIn K C = true
  po : PySem.W.plainOver K C = true
  sa : PySem.W.findIn K (.ref C) "__setattr__" = some (some (.builtin "object.__setattr__"))
theorem Cls.get {K : PySem.W.Frag} {C : Addr} (c : Cls K C) (f : Str) : PySem.W.plainGet K C f = true := c.pg
section
variable {X : Cx} {pins : List (Addr × Obj)} {σ : St} {H : Hp} {s : Shared} {a C dx : Addr} {fs : List (Str × V)} {f : Str} {v : V} {A : Around} {E : Value → Shared → Prop}

theorem Inv.made (I : Inv X pins σ H s) : Inv X pins σ (upd (upd H s.heap.objs.size (.own (s.heap.objs.size + 1))) (s.heap.objs.size + 1) (.ins C s.heap.objs.size []))
    { s with heap := (s.heap.push PySem.W.emptyDict).push (PySem.W.instObj C s.heap.objs.size) } := by
  have e1 : (s.heap.push PySem.W.emptyDict).get? s.heap.objs.size = some PySem.W.emptyDict := Heap.get?_push_size s.heap rfl
  have e2 : ((s.heap.push PySem.W.emptyDict).push (PySem.W.instObj C s.heap.objs.size)).get? (s.heap.objs.size + 1) = some (PySem.W.instObj C s.heap.objs.size) := by
    have := Heap.get?_push_size (s.heap.push PySem.W.emptyDict) (o := PySem.W.instObj C s.heap.objs.size) rfl
    rwa [Heap.size_push] at this
  have e3 : (s.heap.push PySem.W.emptyDict).Ns s.heap.objs.size (fun _ => none) := ⟨PySem.W.emptyDict, #[], _, e1, rfl, (fun e he => absurd he (by simp)), fun _ => rfl⟩
  have I1 := I.laid (a := s.heap.objs.size) (o := .own (s.heap.objs.size + 1)) (h' := s.heap.push PySem.W.emptyDict) (t' := s.toks) (fun b u q => Heap.get?_push_of_some _ q) (Nat.le_refl _) ⟨_, e1⟩
  refine I1.laid (a := s.heap.objs.size + 1) (o := .ins C s.heap.objs.size []) (t' := s.toks) (fun b u q => Heap.get?_push_of_some _ q) (Nat.le_of_eq (Heap.size_push _ _)) ?_
  have ne : s.heap.objs.size ≠ s.heap.objs.size + 1 := Nat.ne_of_lt (Nat.lt_succ_self _)
  refine ⟨by rw [upd_ne ne, upd_same], Nat.zero_le _, ne, e2, fun _ => none, (Heap.Ns1.of_empty e3).at fun o q => Heap.get?_push_of_some _ q, fun _ => True.intro, fun y hy => absurd rfl hy⟩

end

section
variable {X : Cx} {o e value : Expr} {f : Str} {pos pos' tpos : Pos} {ta tv : TE}
end

section
variable {X : Cx} {pins : List (Addr × Obj)} {σ : St} {H : Hp} {s : Shared} {A : Around} {E : Value → Shared → Prop} {Q : Value → Shared → Prop} {c : Value} {b : Bool}
inductive TyOf (K : PySem.W.Frag) (H : Hp) : V → Value → Prop where
  | non : TyOf K H .non (.type "NoneType")
  | bl (x : Bool) : TyOf K H (.bl x) (.type "bool")
  | int (i : Int) : TyOf K H (.int i) (.type "int")
  | str (x : Str) : TyOf K H (.str x) (.type "str")
  | flt (x : UInt64) : TyOf K H (.flt x) (.type "float")
  | lst {a : Addr} {xs : List V} (e : H a = some (.lst xs)) : TyOf K H (.ref a) (.type "list")
  | frz {a : Addr} {o : Obj} {xs : List V} (e : H a = some (.frz o (.lst xs))) : TyOf K H (.ref a) (.type "list")
  | tup {a : Addr} {xs : List V} (e : H a = some (.tup xs)) : TyOf K H (.ref a) (.type "tuple")
  | dK {a : Addr} {kvs : List (Key × V)} (e : H a = some (.dK kvs)) : TyOf K H (.ref a) (.type "dict")
  | dT {a : Addr} {kvs : List (List Key × V)} (e : H a = some (.dT kvs)) : TyOf K H (.ref a) (.type "dict")
  | ins {a C dx : Addr} {fs : List (Str × V)} (e : H a = some (.ins C dx fs)) (cl : Cls K C) (ha : PySem.W.findIn K (.ref C) "__class__" = some (some (.builtin "object.__class__")))
      (hn : PySem.W.specialIn K (.builtin "object.__class__") "__get__" = some (some (.builtin "getset_descriptor.__get__"))) (htk : PySem.W.takesIn K (.builtin "object.__class__") = some true)
      (hm : PySem.W.mroIn K C (.type "object") = some true) : TyOf K H (.ref a) (.ref C)
theorem isinst_ok {x : V} {u t : Value} (I : Inv X pins σ H s) (rx : RelV x u) (ty : TyOf X.K H x t) (e : PySem.W.kitOne X.K t c = some b) (h : ∀ tk, Q (.bool b) { s with toks := tk }) :
    wpAny (model X.prog X.w) A (call (.builtin "isinstance") [u, c]) Q E s := by
  cases ty with
  | non => cases (show u = Value.none from rx); exact PySem.W.kia_one PySem.W.kitx_none I.kIn True.intro e (fun z => nomatch z) h
  | bl y => cases (show u = Value.bool y from rx); exact PySem.W.kia_one PySem.W.kitx_bool I.kIn True.intro e (fun z => nomatch z) h
  | int i => obtain ⟨t, q⟩ := (show ∃ t, u = Value.int i t from rx); cases q; exact PySem.W.kia_one PySem.W.kitx_int I.kIn True.intro e (fun z => nomatch z) h
  | str y => obtain ⟨t, q⟩ := (show ∃ t, u = Value.str y t from rx); cases q; exact PySem.W.kia_one PySem.W.kitx_str I.kIn True.intro e (fun z => nomatch z) h
  | flt y => obtain ⟨t, q⟩ := (show ∃ t, u = Value.float y t from rx); cases q; exact PySem.W.kia_one PySem.W.kitx_float I.kIn True.intro e (fun z => nomatch z) h
  | @lst a xs ea =>
    cases (show u = Value.ref a from rx)
    obtain ⟨_, _, n, _, h1⟩ := (show ObjOk X.prog X.w H s.heap a (.lst xs) from I.hok a _ ea)
    exact PySem.W.kia_one PySem.W.kitx_list I.kIn ⟨_, h1, rfl⟩ e (fun z => nomatch z) h
  | @frz a ob xs ea =>
    cases (show u = Value.ref a from rx)
    obtain ⟨_, _, _, n, _, h1⟩ := (show ObjOk X.prog X.w H s.heap a (.frz ob (.lst xs)) from I.hok a _ ea)
    exact PySem.W.kia_one PySem.W.kitx_list I.kIn ⟨_, h1, rfl⟩ e (fun z => nomatch z) h
  | @tup a xs ea =>
    cases (show u = Value.ref a from rx)
    obtain ⟨_, _, _, p⟩ := (show ObjOk X.prog X.w H s.heap a (.tup xs) from I.hok a _ ea)
    obtain ⟨o, h1, h2, _⟩ := p
    exact PySem.W.kia_one PySem.W.kitx_tuple I.kIn ⟨o, h1, h2⟩ e (fun z => nomatch z) h
  | @dK a kvs ea =>
    cases (show u = Value.ref a from rx)
    obtain ⟨_, _, vs, _, p⟩ := (show ObjOk X.prog X.w H s.heap a (.dK kvs) from I.hok a _ ea)
    obtain ⟨o, es, ep, h1, h2, _⟩ := p
    exact PySem.W.kia_one PySem.W.kitx_dict I.kIn ⟨o, h1, h2.1⟩ e (fun z => nomatch z) h
  | @dT a kvs ea =>
    cases (show u = Value.ref a from rx)
    obtain ⟨_, _, xs, _, o, es, ep, h1, h2, _⟩ := (show ObjOk X.prog X.w H s.heap a (.dT kvs) from I.hok a _ ea)
    exact PySem.W.kia_one PySem.W.kitx_dict I.kIn ⟨o, h1, h2.1⟩ e (fun z => nomatch z) h
  | @ins a C dx fs ea cl ha hn htk hm =>
    cases (show u = Value.ref a from rx)
    obtain ⟨mA, O, _⟩ := ins_get I.hok ea
    obtain ⟨od, J, _⟩ := O.look
    exact PySem.W.kia_one (PySem.W.kitx_own (cl.get _) cl.hd ha hn htk hm) I.kIn J e (fun z => nomatch z) h
end
end L2

namespace L2
open PySem PySem.Spec PyProof.Rows

structure Room (k : Nat) (A : Around) : Prop where
  hd : A.handled = none
  dp : A.depth + 3 * k + 5 < recursionLimit
  un : A.units + 16 * k + 200 < cLine
theorem Room.mono {j k : Nat} {A : Around} (r : Room k A) (h : j ≤ k) : Room j A := ⟨r.hd, by have := r.dp; omega, by have := r.un; omega⟩
theorem Room.deeper {k : Nat} {A : Around} (r : Room (k + 1) A) (env : Env) : Room k (A.deeper env) :=
  ⟨r.hd, by have := r.dp; show A.depth + 1 + 3 * k + 5 < _; omega, by have := r.un; show A.units + 3 + 16 * k + 200 < _; omega⟩
theorem Room.in1 {k : Nat} {A : Around} (r : Room (k + 1) A) : Room k A.in1 :=
  ⟨r.hd, by have := r.dp; show A.depth + 3 * k + 5 < _; omega, by have := r.un; show A.units + 1 + 16 * k + 200 < _; omega⟩
theorem Room.depth {k : Nat} {A : Around} (r : Room k A) : A.depth < recursionLimit := by have := r.dp; omega
theorem Room.units {k : Nat} {A : Around} (r : Room k A) : A.units + 64 < cLine := by have := r.un; omega
noncomputable def tNil : TA := fun _ H Q => Q [] H
noncomputable def tCons (ta : TE) (tr : TA) : TA := fun σ H Q => ta σ H fun x H1 => tr σ H1 fun xs H2 => Q (x :: xs) H2
section
variable {X : Cx} {e : Expr} {es : List Expr} {te : TE} {t : TA} {pos : Pos}
theorem pa_nil : PA X [] tNil := fun _ _ _ _ H Q I h => Calls.spliced_nil ⟨[], H, I, .nil, h⟩
theorem pa_cons (ha : PE X e te) (hr : PA X es t) (hs : starEach (e :: es) X.env = (false, eval e X.env) :: starEach es X.env := by rfl) : PA X (e :: es) (tCons te t) := by
  intro pos pins s σ H Q I h
  rw [hs]
  show wpAny _ _ (spliced ((false, eval e X.env) :: backTo pos (starEach es X.env))) _ _ s
  refine Calls.spliced_cons (thn (ha pins s σ H _ I h) fun u s1 ⟨x, H1, I1, r1, q1⟩ => ?_)
  exact thn (hr pos pins s1 σ H1 _ I1 q1) fun us s2 ⟨xs, H2, I2, r2, q2⟩ => ⟨x :: xs, H2, I2, .cons r1 r2, q2⟩

noncomputable def tTup (t : TA) : TE := fun σ H Q => t σ H fun xs H1 => xs.length ≤ sizeLine ∧ ∀ p, H1 p = none → Q (.ref p) (upd H1 p (.tup xs))
noncomputable def tLst (t : TA) : TE := fun σ H Q => t σ H fun xs H1 => xs.length ≤ sizeLine ∧ ∀ p, H1 p = none → Q (.ref p) (upd H1 p (.lst xs))
theorem pe_tup {x1} (h : PA X es t) : PE X (.Tuple es x1 pos) (tTup t) := by
  intro pins s σ H Q I hq
  refine wpAny_Tuple_spliced (thn (h pos pins s σ H _ I hq) fun us s1 ⟨xs, H1, I1, r, z, q⟩ => ⟨by rw [← r.length]; exact z, ?_⟩)
  have hf : H1 s1.heap.objs.size = none := I1.hok.fresh (Nat.le_refl _)
  refine ⟨.ref s1.heap.objs.size, upd H1 s1.heap.objs.size (.tup xs), I1.laid (t' := s1.toks) (fun b u e => Heap.get?_push_of_some _ e) (Nat.le_refl _) ?_, rfl, q _ hf⟩
  exact ⟨z, us, r, ⟨_, Heap.get?_push_size _ rfl, rfl, _, rfl⟩⟩
theorem pe_lst (h : PA X es t) : PE X (.List es pos) (tLst t) := by
  intro pins s σ H Q I hq
  refine wpAny_List_spliced (thn (h pos pins s σ H _ I hq) fun us s1 ⟨xs, H1, I1, r, z, q⟩ => ⟨by rw [← r.length]; exact z, ?_⟩)
  have hf : H1 s1.heap.objs.size = none := I1.hok.fresh (Nat.le_refl _)
  refine ⟨.ref s1.heap.objs.size, upd H1 s1.heap.objs.size (.lst xs), I1.laid (t' := s1.toks) (fun b u e => Heap.get?_push_of_some _ e) (Nat.le_refl _) ?_, rfl, q _ hf⟩
  exact ⟨z, us, 0, r, Heap.get?_push_size _ rfl⟩
end

noncomputable abbrev Sp := List V → Hp → VK → XK → Prop
noncomputable abbrev CXT := List Env → Hp → Shared → XK → Value → Shared → Prop

structure Env0 (P : Program) (w : World) (K : PySem.W.Frag) (mg : Str → Option Value) (base : Heap) (A : Around) (outer : List Env) (s : Shared) (H : Hp) : Prop where
  frames : A.frames = some outer
  mod : Mod K mg base
  bs : ∀ b o, base.get? b = some o → s.heap.get? b = some o ∧ H b = none
  bsz : base.objs.size ≤ s.heap.objs.size
  funs : s.heap.FunFrames base outer
  frf : ∀ b ∈ frs outer, H b = none
  hok : HOk P w H s.heap
  bare : AllBare s.gens
noncomputable def CE (outer : List Env) (P : Program) (w : World) (H : Hp) (s : Shared) (Q : VK) (u : Value) (s' : Shared) : Prop :=
  ∃ v H', s'.os = s.os ∧ AllBare s'.gens ∧ Un (frs outer) [] H H' s.heap s'.heap ∧ HOk P w H' s'.heap ∧ RelV v u ∧ Q v H'
noncomputable def CR (CX : CXT) (outer : List Env) (P : Program) (w : World) (H : Hp) (s : Shared) (Q : VK) (E : XK) (r : Result) (s' : Shared) : Prop :=
  match r with
  | .ok (.ret u) => CE outer P w H s Q u s'
  | .ok _ => False
  | .error e => CX outer H s E e s'
structure FnOk (P : Program) (w : World) (K : PySem.W.Frag) (mg : Str → Option Value) (base : Heap) (CX : CXT) (k : Nat) (f : Addr) (fd : FuncData) (ps : List Str) (sp : Sp) : Prop where
  len : ∀ vs H Q E, sp vs H Q E → vs.length = ps.length
  run : ∀ (A : Around) (outer : List Env) (s : Shared) (H : Hp) (args : Args) (us : List Value) (vs : List V) (Q : VK) (E : XK), Room k A → Env0 P w K mg base A outer s H → BindsTo s fd args (ps.zip us) → Vals vs us → sp vs H Q E →
    codeAny (model P w) A (.call (.ref f) args) (CR CX outer P w H s Q E) s
theorem FnOk.mono {P : Program} {w : World} {K : PySem.W.Frag} {mg : Str → Option Value} {base : Heap} {CX : CXT} {j k : Nat} {f : Addr} {fd : FuncData} {ps : List Str} {sp : Sp} (F : FnOk P w K mg base CX j f fd ps sp) (h : j ≤ k) :
    FnOk P w K mg base CX k f fd ps sp := ⟨F.len, fun A outer s H args us vs Q E hr => F.run A outer s H args us vs Q E (hr.mono h)⟩
theorem FnOk.imp {P : Program} {w : World} {K : PySem.W.Frag} {mg : Str → Option Value} {base : Heap} {CX : CXT} {k : Nat} {f : Addr} {fd : FuncData} {ps : List Str} {sp sp' : Sp} (F : FnOk P w K mg base CX k f fd ps sp)
    (h : ∀ vs H Q E, sp' vs H Q E → sp vs H Q E) : FnOk P w K mg base CX k f fd ps sp' :=
  ⟨fun vs H Q E q => F.len vs H Q E (h _ _ _ _ q), fun A outer s H args us vs Q E hr he hb hv hs => F.run A outer s H args us vs Q E hr he hb hv (h _ _ _ _ hs)⟩

theorem Env0.in1 {P : Program} {w : World} {K : PySem.W.Frag} {mg : Str → Option Value} {base : Heap} {A : Around} {outer : List Env} {s : Shared} {H : Hp} (e : Env0 P w K mg base A outer s H) :
    Env0 P w K mg base A.in1 outer s H := ⟨e.frames, e.mod, e.bs, e.bsz, e.funs, e.frf, e.hok, e.bare⟩

section
variable {X : Cx} {pins : List (Addr × Obj)} {σ : St} {H : Hp} {s s' : Shared}
theorem Inv.env0 (I : Inv X pins σ H s) : Env0 X.prog X.w X.K X.mg X.base X.A X.stack s H :=
  ⟨I.ok.frames, I.ok.mod, I.bs, Nat.le_trans I.ok.bsz I.sz, I.stack, I.stkFree, I.hok, I.bare⟩
theorem Inv.after {Q : VK} {u : Value} (I : Inv X pins σ H s) (h : CE X.stack X.prog X.w H s Q u s') : EP X pins σ Q u s' := by
  obtain ⟨v, H', os, bare, un, hok, r, q⟩ := h
  obtain ⟨hh, g, d, t, os'⟩ := s'
  obtain rfl : os' = s.os := os
  exact ⟨v, H', I.call (h' := hh) (g' := g) (d' := d) (t' := t) (ch := []) un hok bare (fun b z => absurd z (by simp)), r, q⟩
end

noncomputable def tCall (sp : Sp) (dvs : List V) (E : XK) (t : TA) : TE := fun σ H Q => t σ H fun vs H1 => sp (vs ++ dvs) H1 Q E
noncomputable def Binds (K : PySem.W.Frag) (fd : FuncData) (ps : List Str) (ds : List Value) : Prop :=
  ∀ (s : Shared) (us : List Value), K.In s.heap → (us ++ ds).length = ps.length → BindsTo s fd ⟨us, []⟩ (ps.zip (us ++ ds))
theorem Binds.all {K : PySem.W.Frag} {fd : FuncData} {ps : List Str} (h : ∀ us : List Value, us.length = ps.length → bindArgs fd ⟨us, []⟩ = pure (ps.zip us)) : Binds K fd ps [] := fun s us _ hl => by
  rw [List.append_nil] at hl ⊢
  exact .of_eq (h us hl)

noncomputable def Passes (CX : CXT) (X : Cx) (E : XK) : Prop := ∀ (pins : List (Addr × Obj)) (σ : St) (H : Hp) (s : Shared) (e : Value) (s' : Shared), Inv X pins σ H s → CX X.stack H s E e s' → X.xe e s'

section
variable {X : Cx} {CX : CXT} {k : Nat} {f C : Addr} {fd : FuncData} {ps : List Str} {sp : Sp} {dvs : List V} {ds : List Value} {E : XK} {x m : Str} {p pos apos : Pos} {e o : Expr} {es : List Expr} {ta : TE} {t : TA}

theorem run_fn {pins : List (Addr × Obj)} {σ : St} {H : Hp} {s : Shared} {Q : VK} {us : List Value} {vs : List V} (F : FnOk X.prog X.w X.K X.mg X.base CX k f fd ps sp) (hr : Room k X.A) (hb : Binds X.K fd ps ds) (hd : Vals dvs ds) (hx : Passes CX X E)
    (I : Inv X pins σ H s) (r : Vals vs us) (h : sp (vs ++ dvs) H Q E) : wpAny (model X.prog X.w) X.A (call (.ref f) us) (EP X pins σ Q) X.xe s := by
  have r2 : Vals (vs ++ dvs) (us ++ ds) := r.append hd
  have hl : (us ++ ds).length = ps.length := by rw [← r2.length]; exact F.len _ _ _ _ h
  refine wpAny_call (codeAny_mono (F.run X.A X.stack s H ⟨us, []⟩ (us ++ ds) (vs ++ dvs) Q E hr I.env0 (hb s us I.kIn hl) r2 h) fun r s' hq => ?_)
  cases r with
  | error e => exact hx pins σ H s e s' I hq
  | ok fl =>
    cases fl with
    | ret u => exact I.after hq
    | next => exact False.elim hq
    | brk => exact False.elim hq
    | cont => exact False.elim hq

theorem pe_call (F : FnOk X.prog X.w X.K X.mg X.base CX k f fd ps sp) (hr : Room k X.A) (hg : Gl X x) (hm : X.mg x = some (.ref f)) (hk : PySem.W.keepIn X.K (.ref f) = true) (hb : Binds X.K fd ps ds) (hd : Vals dvs ds) (hx : Passes CX X E)
    (ha : PA X (e :: es) t) (hdb : (x == ("__debug__" : Str)) = false := by decide) (he : starEach (e :: es) X.env = (false, eval e X.env) :: starEach es X.env := by rfl) (hpl : (backTo pos (starEach es X.env)).any (·.1) = false := by rfl) :
    PE X (.Call (.Name x p) (e :: es) [] pos) (tCall sp dvs E t) := by
  intro pins s σ H Q I h
  refine wpAny_Call_Name_kw (ld_glob I hg hm ?_ hdb)
  refine PySem.W.callWith_K (h₀ := X.base) I.ok.mod.kin hk (thn (ha pos pins s σ H _ I h) fun us s1 ⟨vs, H1, I1, r, q⟩ => ⟨I1.kIn, ?_⟩) he hpl
  exact run_fn F hr hb hd hx I1 r q
end

section
variable {X : Cx} {CX : CXT} {k : Nat} {f C : Addr} {fd : FuncData} {ps ks : List Str} {sp : Sp} {E : XK} {x m : Str} {p pos apos kpos : Pos} {e o : Expr} {es : List Expr} {kws : List Keyword} {te ta : TE} {t tk : TA} {nm : Option Str}
variable {g : List Value → List Value → List Value} {gV : List V → List V → List V}
end

structure FnScope (N P : List Str) (sc : Scope) : Prop where
  kind : sc.kind = .function
  co : sc.isCoroutine = false
  gen : sc.isGenerator = false
  nd : N.Nodup
  pre : N.take P.length = P
  par : ∀ x ∈ P, sc.names.lookup x = some .local ∨ sc.names.lookup x = some .cell
  nofree : ∀ y ∈ sc.names, y.2 ≠ .free

theorem bindL_out {kindOf : Str → Option NameKind} {x : Str} : ∀ {binds : List (Str × Value)} {m : Str → Option Value}, (∀ v, (x, v) ∉ binds) → bindL kindOf binds m x = m x
  | [], _, _ => rfl
  | (n, v) :: r, m, h => by
    unfold bindL
    rw [bindL_out fun w hw => h w (List.mem_cons_of_mem _ hw)]
    split
    · have : x ≠ n := by rintro rfl; exact h v List.mem_cons_self
      simp [this]
    · rfl
theorem bindC_out {kindOf : Str → Option NameKind} {x : Str} : ∀ {binds : List (Str × Value)} {m : Str → Option Value}, (∀ v, (x, v) ∉ binds) → bindC kindOf binds m x = m x
  | [], _, _ => rfl
  | (n, v) :: r, m, h => by
    unfold bindC
    rw [bindC_out fun w hw => h w (List.mem_cons_of_mem _ hw)]
    split
    · rfl
    · have : x ≠ n := by rintro rfl; exact h v List.mem_cons_self
      simp [this]
theorem bindL_get {kindOf : Str → Option NameKind} {x : Str} {v : Value} : ∀ {P : List Str} {vs : List Value} {i : Nat} {m : Str → Option Value}, P.Nodup → P[i]? = some x → vs[i]? = some v → kindOf x = some .local →
    bindL kindOf (P.zip vs) m x = some v
  | [], _, _, _, _, h, _, _ => by simp at h
  | _ :: _, [], _, _, _, _, h, _ => by simp at h
  | p :: P, w :: vs, 0, m, nd, h1, h2, hk => by
    simp at h1 h2; subst h1; subst h2
    show bindL kindOf ((p, w) :: P.zip vs) m p = _
    unfold bindL
    rw [bindL_out fun v hv => (List.nodup_cons.mp nd).1 (List.of_mem_zip hv).1, if_pos hk]
    simp
  | p :: P, w :: vs, i + 1, m, nd, h1, h2, hk => by
    show bindL kindOf ((p, w) :: P.zip vs) m x = _
    unfold bindL
    exact bindL_get (i := i) (List.nodup_cons.mp nd).2 (by simpa using h1) (by simpa using h2) hk
theorem bindC_get {kindOf : Str → Option NameKind} {x : Str} {v : Value} : ∀ {P : List Str} {vs : List Value} {i : Nat} {m : Str → Option Value}, P.Nodup → P[i]? = some x → vs[i]? = some v → kindOf x ≠ some .local →
    bindC kindOf (P.zip vs) m x = some v
  | [], _, _, _, _, h, _, _ => by simp at h
  | _ :: _, [], _, _, _, _, h, _ => by simp at h
  | p :: P, w :: vs, 0, m, nd, h1, h2, hk => by
    simp at h1 h2; subst h1; subst h2
    show bindC kindOf ((p, w) :: P.zip vs) m p = _
    unfold bindC
    rw [bindC_out fun v hv => (List.nodup_cons.mp nd).1 (List.of_mem_zip hv).1, if_neg hk]
    simp
  | p :: P, w :: vs, i + 1, m, nd, h1, h2, hk => by
    show bindC kindOf ((p, w) :: P.zip vs) m x = _
    unfold bindC
    exact bindC_get (i := i) (List.nodup_cons.mp nd).2 (by simpa using h1) (by simpa using h2) hk

noncomputable def start (N : List Str) (vs : List V) : St := vs.map some ++ List.replicate (N.length - vs.length) none

noncomputable def cxOf (CX : CXT) (P : Program) (w : World) (K : PySem.W.Frag) (mg : Str → Option Value) (base : Heap) (N : List Str) (qual : Str) (scope : Scope) (f : Addr) (cd : Value) (A : Around) (outer : List Env) (s : Shared) (H : Hp) (E : XK) : Cx where
  prog := P
  w := w
  K := K
  mg := mg
  base := base
  A := A.deeper (envOfC qual scope s.heap.objs.size f cd)
  N := N
  s₀ := s
  H₀ := H
  env := envOfC qual scope s.heap.objs.size f cd
  outer := outer
  stack := envOfC qual scope s.heap.objs.size f cd :: outer
  ex := []
  calm := true
  fn := fun _ => true
  pn := []
  xe := fun e s' => wpAny (model P w) (A.deeper (envOfC qual scope s.heap.objs.size f cd)) (leaving (envOfC qual scope s.heap.objs.size f cd) e) (fun _ s'' => CX outer H s E e s'') (fun e' s'' => CX outer H s E e' s'') s'

theorem cell_has {sc : Scope} {n : Nat} {x : Str} (h : sc.names.lookup x = some .cell) : ∃ c, (cellsFrom n sc.names []).lookup x = some c := by
  have q := PySem.W.cellsFrom_some sc.names n [] (.inl h)
  exact Option.isSome_iff_exists.mp q

theorem inv_start {CX : CXT} {P : Program} {w : World} {K : PySem.W.Frag} {mg : Str → Option Value} {base : Heap} {N ps : List Str} {qual : Str} {scope : Scope} {f : Addr} {cd : Value} {A : Around} {outer : List Env} {s s1 : Shared} {H : Hp} {E : XK} {us : List Value} {vs : List V}
    (S : FnScope N ps scope) (hd : A.handled = none) (e0 : Env0 P w K mg base A outer s H) (hl : vs.length = ps.length) (r : Vals vs us)
    (x : InCallC s s.heap.objs.size (bindL (envOfC qual scope s.heap.objs.size f cd).kindOf (ps.zip us) fun _ => none) (cellsFrom (s.heap.objs.size + 1) scope.names []) (bindC (envOfC qual scope s.heap.objs.size f cd).kindOf (ps.zip us) fun _ => none) s1) :
    Inv (cxOf CX P w K mg base N qual scope f cd A outer s H E) [] (start N vs) H s1 := by
  have hpl : ps.length ≤ N.length := by have := congrArg List.length S.pre; rw [List.length_take] at this; omega
  obtain ⟨h1, tk, rfl, hk⟩ := x.done
  have noA : ∀ b : Addr, b ∉ (cxOf CX P w K mg base N qual scope f cd A outer s H E).ex := fun b z => absurd (show b ∈ ([] : List Addr) from z) (by simp)
  refine ⟨⟨e0.mod, S.kind, rfl, rfl, Nat.le_refl _, fun y z c h1 h2 => ?_, fun y hy => ?_, fun y c _ h => ?_, fun _ => hd, Around.frames_deeper e0.frames, .inr ⟨rfl, rfl⟩, fun b z => absurd z (noA b), e0.bs, e0.bsz, fun b _ _ => noA b, fun b z => absurd z (noA b), e0.funs, e0.frf⟩,
    rfl, e0.bare, Un.kept hk, ⟨_, x.toInCall.ns, fun i y v h1 h2 h3 => ?_⟩, fun y c h => ⟨_, x.cell y c h⟩, e0.hok.fresh (Nat.le_refl _), fun y c h => ?_, fun p hp => absurd (show p ∈ ([] : List (Addr × Obj)) from hp) (by simp), e0.hok.kept hk, ?_⟩
  · exact name_of_addr x.apart (PySem.mem_of_lookup h1) (PySem.mem_of_lookup h2)
  · have hy : scope.names.lookup y = some .cell ∨ scope.names.lookup y = some .free := hy
    rcases hy with hy | hy
    · exact cell_has hy
    · exact absurd rfl (S.nofree _ (PySem.mem_of_lookup hy))
  · exact Nat.le_of_lt (x.above y c (PySem.mem_of_lookup h))
  · have hi : i < vs.length := by
      unfold start at h2
      by_cases hi : i < vs.length
      · exact hi
      · rw [List.getElem?_append_right (by simpa using hi)] at h2
        rw [List.getElem?_replicate] at h2
        split at h2 <;> cases h2
    have ha : vs[i]? = some v := by
      unfold start at h2
      rw [List.getElem?_append_left (by simpa using hi), List.getElem?_map] at h2
      cases e : vs[i]? with
      | none => rw [e] at h2; cases h2
      | some a => rw [e] at h2; cases h2; rfl
    obtain ⟨u, hu, rv⟩ := r.get ha
    have hp : ps[i]? = some y := by
      rw [← S.pre, List.getElem?_take_of_lt (by omega)]; exact h1
    have ndP : ps.Nodup := by rw [← S.pre]; exact S.nd.sublist (List.take_sublist _ _)
    refine ⟨u, rv, ?_⟩
    rcases S.par y (List.mem_of_getElem? hp) with k | k
    · exact .inl ⟨k, bindL_get ndP hp hu k⟩
    · obtain ⟨c, e⟩ := cell_has (n := s.heap.objs.size + 1) k
      refine .inr ⟨.inl k, c, e, ?_⟩
      have q := x.cell y c e
      rw [bindC_get ndP hp hu (by show scope.names.lookup y ≠ _; rw [k]; decide)] at q
      exact q
  · exact e0.hok.fresh (Nat.le_of_lt (x.above y c (PySem.mem_of_lookup h)))
  · unfold start
    show _ = N.length
    rw [List.length_append, List.length_map, List.length_replicate]
    omega

theorem fn_of {CX : CXT} {P : Program} {w : World} {K : PySem.W.Frag} {mg : Str → Option Value} {base : Heap} {k : Nat} {f : Addr} {name qual : Str} {params : Arguments} {body : List Stmt} {scope : Scope} {dV kV doc pm cdv ct oc : Value} {an od : Option Addr}
    {osl : Array (Option Value)} {N ps : List Str} {sp : Sp} (lk : K.lookup f = some ⟨oc, od, .func (PySem.W.fnOf name qual params body scope dV kV doc pm an cdv ct), osl⟩) (hcd : PySem.W.codeIn K cdv qual = true) (S : FnScope N ps scope)
    (len : ∀ vs H Q E, sp vs H Q E → vs.length = ps.length)
    (hbody : ∀ (A : Around) (outer : List Env) (s : Shared) (H : Hp) (vs : List V) (Q : VK) (E : XK), Room k (A.deeper (envOfC qual scope s.heap.objs.size f cdv)) → sp vs H Q E →
      ∃ t, PSs (cxOf CX P w K mg base N qual scope f cdv A outer s H E) body t ∧ t { nx := fun _ H' => Q .non H', rt := Q } (start N vs) H) :
    FnOk P w K mg base CX (k + 1) f (PySem.W.fnOf name qual params body scope dV kV doc pm an cdv ct) ps sp := by
  refine ⟨len, fun A outer s H args us vs Q E hr e0 hb r hsp => ?_⟩
  have hl := len _ _ _ _ hsp
  have KX : K.In s.heap := e0.mod.kin.keeps fun b o e => (e0.bs b o e).1
  have lim : s.heap.NoLimit := e0.mod.nolimit.keeps fun b o e => (e0.bs b o e).1
  have hkind : ∀ y ∈ ps.zip us, scope.names.lookup y.1 = some .local ∨ (scope.names.lookup y.1 = some .cell ∧ ((cellsFrom (s.heap.objs.size + 1) scope.names []).lookup y.1).isSome = true) := fun ⟨n, v⟩ hy => by
    rcases S.par n (List.of_mem_zip hy).1 with q | q
    · exact .inl q
    · exact .inr ⟨q, PySem.W.cellsFrom_some _ _ _ (.inl q)⟩
  refine codeAny_call_function hr.depth (KX _ _ lk) rfl S.co S.gen rfl (PySem.W.codeRec_of KX hcd) (hb _ _ _ _ ?_)
  refine wpAny_newFunctionEnv_cells S.kind hkind fun env he s1 x => ?_
  subst he
  refine ⟨lim.keeps x.toInCall.keep, codeAny_func ?_⟩
  obtain ⟨t, ht, hq⟩ := hbody A outer s H vs Q E (hr.deeper _) hsp
  have I : Inv (cxOf CX P w K mg base N qual scope f cdv A outer s H E) [] (start N vs) H s1 := inv_start S hr.hd e0 hl r x
  refine wpAny_mono (ht [] s1 (start N vs) H _ I hq) (fun fl s' hs => ?_) fun e s' hs => hs
  have fin : ∀ {σ' : St} {H' : Hp} {v : V} {u : Value}, Inv (cxOf CX P w K mg base N qual scope f cdv A outer s H E) [] σ' H' s' → RelV v u → Q v H' → CE outer P w H s Q u s' :=
    fun {σ' H' v u} J rv q => ⟨v, H', J.os, J.bare, J.base, J.hok, rv, q⟩
  cases fl with
  | ret u =>
    obtain ⟨v, σ', H', J, rv, q⟩ := hs
    exact fin J rv q
  | next =>
    obtain ⟨σ', H', J, q⟩ := hs
    exact fin (v := V.non) (u := Value.none) J rfl q
  | brk =>
    obtain ⟨_, _, _, q⟩ := hs
    exact False.elim q
  | cont =>
    obtain ⟨_, _, _, q⟩ := hs
    exact False.elim q
end L2

namespace L2
open PySem PySem.Spec PyProof.Rows
section
variable {X : Cx} {x : Str} {p pos : Pos} {e : Expr} {es : List Expr} {t : TA} {id T : String} {r : List V → Hp → VK → Prop}

noncomputable def tCB (r : List V → Hp → VK → Prop) (t : TA) : TE := fun σ H Q => t σ H fun vs H1 => r vs H1 Q
theorem pe_callB (hc : CallR X (.builtin id) r) (hg : Gl X x) (hm : X.mg x = none) (hv : bootBuiltins x = some (.builtin id)) (ha : PA X (e :: es) t) (hn : x ≠ "__name__" := by decide) (hdb : (x == ("__debug__" : Str)) = false := by decide)
    (he : starEach (e :: es) X.env = (false, eval e X.env) :: starEach es X.env := by rfl) (hpl : (backTo pos (starEach es X.env)).any (·.1) = false := by rfl) : PE X (.Call (.Name x p) (e :: es) [] pos) (tCB r t) := by
  intro pins s σ H Q I h
  refine wpAny_Call_Name_kw (ld_blt I hg hm hv ?_ hn hdb)
  exact PyProof.Rows.callWith_builtin1 (thn (ha pos pins s σ H _ I h) fun us s1 ⟨vs, H1, I1, r1, q1⟩ => hc pins s1 σ H1 vs us Q I1 r1 q1) he hpl
theorem pe_callTy (hc : CallR X (.type T) r) (hg : Gl X x) (hm : X.mg x = none) (hv : bootBuiltins x = some (.type T)) (ha : PA X (e :: es) t) (hn : x ≠ "__name__" := by decide) (hdb : (x == ("__debug__" : Str)) = false := by decide)
    (he : starEach (e :: es) X.env = (false, eval e X.env) :: starEach es X.env := by rfl) (hpl : (backTo pos (starEach es X.env)).any (·.1) = false := by rfl) : PE X (.Call (.Name x p) (e :: es) [] pos) (tCB r t) := by
  intro pins s σ H Q I h
  refine wpAny_Call_Name_kw (ld_blt I hg hm hv ?_ hn hdb)
  exact PyProof.Rows.callWith_type1 (thn (ha pos pins s σ H _ I h) fun us s1 ⟨vs, H1, I1, r1, q1⟩ => hc pins s1 σ H1 vs us Q I1 r1 q1) he hpl
end
end L2

namespace HT
open PySem PyProof.Rows

section
open PySem.SeqAt
open PySem.AutoSeq1 (wpAny_loadPart')
open PySem.MeetsSeq PySem.MeetsSeq2 PySem.MeetsSeq3

end

section
variable {prog : Program} {w : World} {A : Around} {E : Value → Shared → Prop} {s : Shared}

theorem cat_tup {t b : Addr} {vs ws : List Value} {Q : Value → Shared → Prop} (ht : IsTup s.heap t vs.toArray) (hb : IsTup s.heap b ws.toArray) (hv : vs ≠ [])
    (h1 : ws = [] → Q (.ref t) s) (h2 : ws ≠ [] → Q (.ref s.heap.objs.size) { s with heap := s.heap.push { cls := .type "tuple", data := .seq (vs ++ ws).toArray } })
    (hsz : vs.length + ws.length ≤ sizeLine) : wpAny (model prog w) A (binaryOp .Add (.ref t) (.ref b)) Q E s := by
  obtain ⟨⟨cls, dd, data, sl⟩, ho, hc, n, hd⟩ := id ht
  obtain ⟨⟨cls2, dd2, data2, sl2⟩, ho2, hc2, n2, hd2⟩ := id hb
  simp only at hc hd hc2 hd2
  subst hc hd hc2 hd2
  have e : vs.toArray ++ ws.toArray = (vs ++ ws).toArray := by simp
  by_cases hw : ws = []
  · exact concat_meets ⟨_, ho, rfl⟩ ⟨_, ho2, rfl⟩ noFill_tuple_add seq_tuple_add PySem.F.slot_tuple_add PySem.F.entry_tuple_add (PySem.F.args_tuple_add_2 _ _)
      (tuple_addW1 t b vs.toArray ws.toArray n n2 dd dd2 sl sl2 (by simpa using hv) (by simp [hw])) ⟨ho, ho2, h1 hw⟩
  · refine concat_meets ⟨_, ho, rfl⟩ ⟨_, ho2, rfl⟩ noFill_tuple_add seq_tuple_add PySem.F.slot_tuple_add PySem.F.entry_tuple_add (PySem.F.args_tuple_add_2 _ _)
      (tuple_addW2 t b vs.toArray ws.toArray n n2 dd dd2 sl sl2 (by simpa using hv) (by simpa using hw) (by rw [List.size_toArray, List.size_toArray]; exact hsz)) ⟨ho, ho2, ?_⟩
    rw [e]
    exact h2 hw

noncomputable def sIx (n d : Nat) : Option Int → Nat
  | none => d
  | some v => if v < 0 then (v + (n : Int)).toNat else min v.toNat n
theorem sIx_none (n d : Nat) : sIx n d none = d := rfl
theorem sIx_nat (n d k : Nat) : sIx n d (some (k : Int)) = min k n := by
  show (if (k : Int) < 0 then ((k : Int) + (n : Int)).toNat else min (k : Int).toNat n) = min k n
  rw [if_neg (by omega), Int.toNat_natCast]
theorem sIx_le (n d : Nat) (hd : d ≤ n) (o : Option Int) : sIx n d o ≤ n := by
  cases o with
  | none => exact hd
  | some v =>
    show (if v < 0 then (v + (n : Int)).toNat else min v.toNat n) ≤ n
    by_cases hv : v < 0
    · rw [if_pos hv]; omega
    · rw [if_neg hv]; exact Nat.min_le_right _ _
theorem clip_eq (v : Int) (n d : Nat) : (if v < 0 then max (v + (n : Int)) 0 else min v (n : Int)) = ((sIx n d (some v) : Nat) : Int) := by
  show (if v < 0 then max (v + (n : Int)) 0 else min v (n : Int)) = (((if v < 0 then (v + (n : Int)).toNat else min v.toNat n) : Nat) : Int)
  by_cases hv : v < 0
  · simp only [if_pos hv]; omega
  · simp only [if_neg hv]; omega
theorem adjust_gen (lo hi : Option Int) (n : Nat) : Builtin.Slice.sliceAdjust lo hi 1 (n : Int) = (((sIx n 0 lo : Nat) : Int), ((sIx n n hi : Nat) : Int)) := by
  have h1 : ¬ ((1 : Int) < 0) := by omega
  unfold Builtin.Slice.sliceAdjust
  simp only [h1, if_false]
  refine Prod.ext ?_ ?_
  · cases lo with
    | none => rfl
    | some v => exact clip_eq v n 0
  · cases hi with
    | none => rfl
    | some v => exact clip_eq v n n
theorem places_gen (i j : Nat) : Builtin.Slice.slicePlaces (i : Int) (j : Int) 1 = j - i := by
  unfold Builtin.Slice.slicePlaces
  have h1 : (1 : Int) > 0 := by omega
  simp only [h1, if_true, Int.ediv_one]
  split <;> omega
theorem slicePart_ {v : Value} {o : Option Int} {Q : Option Int → Shared → Prop} (p : IsPart v o) (h : Q o s) : wpAny (model prog w) A (Builtin.Slice.slicePartIndex v) Q E s := by
  cases p with
  | none => exact slicePart_none h
  | int i t => exact slicePart_int h
theorem sliceApplied_gen {sl : Addr} {vl vu : Value} {lo hi : Option Int} {n : Nat} {Q : Int × Int × Nat → Shared → Prop} (hs : s.heap.IsSliceOf sl vl vu .none) (pl : IsPart vl lo) (pu : IsPart vu hi)
    (h : Q (((sIx n 0 lo : Nat) : Int), 1, sIx n n hi - sIx n 0 lo) s) : wpAny (model prog w) A (Builtin.Slice.sliceApplied (.ref sl) (pure (n : Int))) Q E s := by
  obtain ⟨os, hos, hcs, hds⟩ := id hs
  unfold Builtin.Slice.sliceApplied Builtin.Slice.sliceFields
  refine wpAny_bind (wpAny_bind (wpAny_field hos hds (x := vl) rfl (wpAny_bind (wpAny_field hos hds (x := vu) rfl (wpAny_bind (wpAny_field hos hds (x := .none) rfl (wpAny_pure ?_)))))))
  refine wpAny_bind (slicePart_none ?_)
  show wpAny _ _ (if ((1 : Int) == 0) = true then _ else _) _ _ s
  rw [if_neg (by decide)]
  refine wpAny_bind (slicePart_ pl (wpAny_bind (slicePart_ pu (wpAny_bind (wpAny_pure ?_)))))
  show wpAny _ _ (match Builtin.Slice.sliceAdjust lo hi 1 (n : Int) with | (lo, hi) => pure (lo, (1 : Int), Builtin.Slice.slicePlaces lo hi 1)) _ _ s
  rw [adjust_gen lo hi n]
  show wpAny _ _ (pure (((sIx n 0 lo : Nat) : Int), (1 : Int), Builtin.Slice.slicePlaces ((sIx n 0 lo : Nat) : Int) ((sIx n n hi : Nat) : Int) 1)) _ _ s
  rw [places_gen]
  exact wpAny_pure h
theorem pick_gen (xs : Array Value) (i k : Nat) : ((List.range k).filterMap fun (m : Nat) => xs[((i : Int) + (m : Int) * 1).toNat]?).toArray = ((xs.toList.drop i).take k).toArray := by
  have e : (fun (m : Nat) => xs[((i : Int) + (m : Int) * 1).toNat]?) = fun m => xs[i + m]? := by
    funext m
    have : ((i : Int) + (m : Int) * 1).toNat = i + m := by omega
    rw [this]
  rw [e]
  have := pick_run xs i k
  rw [List.filterMap_map] at this
  have e2 : ((fun x => xs[x]?) ∘ fun x => i + x) = fun m => xs[i + m]? := rfl
  rw [e2] at this
  rw [this]

theorem getItem_tuple_cut {t sl : Addr} {items : Array Value} {vl vu : Value} {lo hi : Option Int} {Q : Value → Shared → Prop} (ht : IsTup s.heap t items) (hs : s.heap.IsSliceOf sl vl vu .none) (pl : IsPart vl lo) (pu : IsPart vu hi)
    (hw : ¬ (sIx items.size 0 lo = 0 ∧ sIx items.size items.size hi = items.size))
    (h : Q (.ref s.heap.objs.size) { s with heap := s.heap.push { cls := .type "tuple", data := .seq ((items.toList.drop (sIx items.size 0 lo)).take (sIx items.size items.size hi - sIx items.size 0 lo)).toArray } })
    (hsz : items.size ≤ sizeLine) : wpAny (model prog w) A (getItem (.ref t) (.ref sl)) Q E s := by
  have htake : sizeOk (.seq ((items.toList.drop (sIx items.size 0 lo)).take (sIx items.size items.size hi - sIx items.size 0 lo)).toArray) := by
    show ((items.toList.drop (sIx items.size 0 lo)).take (sIx items.size items.size hi - sIx items.size 0 lo)).toArray.size ≤ sizeLine
    rw [List.size_toArray, List.length_take, List.length_drop, Array.length_toList]
    omega
  have hj : sIx items.size items.size hi ≤ items.size := sIx_le _ _ (Nat.le_refl _) hi
  obtain ⟨os, hos, hcs, hds⟩ := id hs
  have hTs : s.TypeIs (.ref sl) "slice" := ⟨os, hos, hcs⟩
  unfold getItem
  try with_reducible refine wpAny_holding ?_
  first | refine wpAny_bind (wpAny_pure ?_) | skip
  refine wpAny_bind (wpAny_sequenceKey ht.typeIs (by decide) ?_)
  refine wpAny_bind (wpAny_callSpecial?_slot (name := Str.ofString "__getitem__") ht.typeIs PyProof.Rows.slot_tuple_getitem
    (wpAny_call_entry PyProof.Rows.slot_tuple_getitem ht.typeIs entry_tuple_getitem ?_ (args_tuple_getitem _ _)))
  show wpAny _ _ (Builtin.Tuple.tupleItemsOf (.ref t) >>= _) _ _ s
  refine wpAny_bind (tupleItemsOf_ ht ?_)
  refine wpAny_bind (wpAny_typeOf hTs ?_)
  rw [if_pos (by decide)]
  refine wpAny_bind (sliceApplied_gen hs pl pu ?_)
  have hno : ¬ ((((sIx items.size 0 lo : Nat) : Int) == 0 && (1 : Int) == 1 && (sIx items.size items.size hi - sIx items.size 0 lo) == items.size) = true) := by
    intro q
    rw [Bool.and_eq_true, Bool.and_eq_true] at q
    have q1 : ((sIx items.size 0 lo : Nat) : Int) = 0 := eq_of_beq q.1.1
    have q2 : sIx items.size items.size hi - sIx items.size 0 lo = items.size := eq_of_beq q.2
    exact hw ⟨by omega, by omega⟩
  show wpAny _ _ (if (((sIx items.size 0 lo : Nat) : Int) == 0 && (1 : Int) == 1 && (sIx items.size items.size hi - sIx items.size 0 lo) == items.size) = true then _ else _) _ _ s
  rw [if_neg hno, pick_gen]
  first
    | exact wpAny_bind (m := Builtin.Tuple.tupleExact _) (wpAny_newObj_type (wpAny_pure ⟨_, rfl, wpAny_pure h⟩) htake)
    | exact wpAny_bind (m := Builtin.Tuple.tupleExact _) (wpAny_newObj_type (wpAny_bind (wpAny_pure (wpAny_pure ⟨_, rfl, wpAny_pure h⟩))) htake)
    | exact wpAny_bind (wpAny_bind (m := Builtin.Tuple.tupleExact _) (wpAny_newObj_type (wpAny_pure (wpAny_pure ⟨_, rfl, wpAny_pure h⟩)) htake))
    | exact wpAny_bind (wpAny_bind (m := Builtin.Tuple.tupleExact _) (wpAny_newObj_type (wpAny_pure ⟨_, rfl, wpAny_pure h⟩) htake))
end
end HT

namespace L2
open PySem PySem.Spec PyProof.Rows

noncomputable abbrev TO := St → Hp → (Option Int → Hp → Prop) → Prop
noncomputable def PO (X : Cx) (e : Option Expr) (t : TO) : Prop :=
  ∀ (pins : List (Addr × Obj)) (s : Shared) (σ : St) (H : Hp) (Q : Option Int → Hp → Prop), Inv X pins σ H s → t σ H Q →
    wpAny (model X.prog X.w) X.A (evalPart e X.env) (fun u s' => ∃ o H', Inv X pins σ H' s' ∧ IsPart u o ∧ Q o H') X.xe s
noncomputable def tNoPart : TO := fun _ H Q => Q none H
noncomputable def tPart (t : TE) : TO := fun σ H Q => t σ H fun x H1 => ∃ i, x = .int i ∧ Q (some i) H1

section
variable {X : Cx} {e : Expr} {te : TE} {lo hi : Option Expr} {tl th : TO} {pos p2 : Pos}

theorem po_none : PO X none tNoPart := by
  intro pins s σ H Q I h
  rw [evalPart_none]
  exact wpAny_pure ⟨none, H, I, .none, h⟩
theorem po_some (h : PE X e te) : PO X (some e) (tPart te) := by
  intro pins s σ H Q I hw
  rw [evalPart_some]
  refine thn (h pins s σ H _ I hw) fun u s1 ⟨x, H1, I1, r1, q1⟩ => ?_
  obtain ⟨i, rfl, q⟩ := q1
  obtain ⟨t, rfl⟩ := r1
  exact ⟨some i, H1, I1, .int i t, q⟩

noncomputable def SlR (X : Cx) (r : V → Option Int → Option Int → Hp → VK → Prop) : Prop :=
  ∀ (pins : List (Addr × Obj)) (s : Shared) (σ : St) (H : Hp) (x : V) (v vl vu : Value) (lo hi : Option Int) (sl : Addr) (Q : VK), Inv X pins σ H s → RelV x v → s.heap.IsSliceOf sl vl vu .none → IsPart vl lo → IsPart vu hi → r x lo hi H Q →
    ∃ T id, typeLookup (.type T) "__getitem__" = pure (some (.builtin id)) ∧ s.TypeIs v T ∧ wpAny (model X.prog X.w) X.A (getItem v (.ref sl)) (EP X pins σ Q) X.xe s
theorem SlR.or {r r' : V → Option Int → Option Int → Hp → VK → Prop} (h : SlR X r) (h' : SlR X r') : SlR X (fun x lo hi H Q => r x lo hi H Q ∨ r' x lo hi H Q) := by
  intro pins s σ H x v vl vu lo hi sl Q I rx hs pl pu q
  rcases q with q | q
  · exact h pins s σ H x v vl vu lo hi sl Q I rx hs pl pu q
  · exact h' pins s σ H x v vl vu lo hi sl Q I rx hs pl pu q
noncomputable def tSl (r : V → Option Int → Option Int → Hp → VK → Prop) (te : TE) (tl th : TO) : TE := fun σ H Q => te σ H fun x H1 => tl σ H1 fun l H2 => th σ H2 fun u H3 => r x l u H3 Q
theorem pe_slice {r : V → Option Int → Option Int → Hp → VK → Prop} (hr : SlR X r) (he : PE X e te) (hl : PO X lo tl) (hu : PO X hi th) : PE X (.Subscript e (.Slice lo hi none p2) pos) (tSl r te tl th) := by
  intro pins s σ H Q I h
  refine Subscript_ (thn (he pins s σ H _ I h) fun v s1 ⟨x, H1, I1, r1, q1⟩ => ?_)
  refine wpAny_Slice (thn (hl pins s1 σ H1 _ I1 q1) fun vl s2 ⟨l, H2, I2, pl, q2⟩ => thn (hu pins s2 σ H2 _ I2 q2) fun vu s3 ⟨u, H3, I3, pu, q3⟩ => ?_)
  rw [evalPart_none]
  refine wpAny_pure ?_
  have I4 : Inv X pins σ H3 { s3 with heap := s3.heap.push { cls := .type "slice", data := .fields #[vl, vu, .none] } } := I3.kept (t' := s3.toks) fun b ob q => Heap.get?_push_of_some _ q
  obtain ⟨T, id, hT, ht, hg⟩ := hr pins { s3 with heap := s3.heap.push { cls := .type "slice", data := .fields #[vl, vu, .none] } } σ H3 x v vl vu l u s3.heap.objs.size Q I4 r1 (Heap.IsSliceOf.new ..) pl pu q3
  show wpAny (model X.prog X.w) X.A (subscriptTail e (.Slice lo hi none p2) v (.ref s3.heap.objs.size)) (EP X pins σ Q) X.xe { s3 with heap := s3.heap.push { cls := .type "slice", data := .fields #[vl, vu, .none] } }
  exact tail_any (ops := [.ref s3.heap.objs.size, v]) ht hT hg (by with_unfolding_all rfl)

noncomputable def cutV (xs : List V) (lo hi : Option Int) : List V := (xs.drop (HT.sIx xs.length 0 lo)).take (HT.sIx xs.length xs.length hi - HT.sIx xs.length 0 lo)
theorem cutV_length (xs : List V) (lo hi : Option Int) : (cutV xs lo hi).length ≤ xs.length := by
  unfold cutV
  rw [List.length_take, List.length_drop]
  omega
noncomputable def rSlT (K : PySem.W.Frag) : V → Option Int → Option Int → Hp → VK → Prop := fun x lo hi H Q => ∃ a xs, x = .ref a ∧ SqT K H a xs ∧
  ¬ (HT.sIx xs.length 0 lo = 0 ∧ HT.sIx xs.length xs.length hi = xs.length) ∧ ∀ p, H p = none → Q (.ref p) (upd H p (.tup (cutV xs lo hi)))
theorem sl_tup : SlR X (rSlT X.K) := by
  intro pins s σ H x v vl vu lo hi sl Q I rx hs pl pu h
  obtain ⟨a, xs, rfl, hx, hw, q⟩ := h
  cases rx
  obtain ⟨its, r, ht, hz⟩ := I.tuple hx
  have hlen : its.toArray.size = xs.length := by rw [List.size_toArray]; exact r.length.symm
  refine ⟨"tuple", _, PyProof.Rows.slot_tuple_getitem.lookup, ht.typeIs, ?_⟩
  refine HT.getItem_tuple_cut ht hs pl pu (by rw [hlen]; exact hw) ?_ (by rw [hlen]; exact hz)
  rw [hlen]
  refine ⟨.ref s.heap.objs.size, _, I.laid (t' := s.toks) (o := .tup (cutV xs lo hi)) (fun b ob q => Heap.get?_push_of_some _ q) (Nat.le_refl _) ?_, rfl, q _ (I.hok.fresh (Nat.le_refl _))⟩
  exact ⟨Nat.le_trans (cutV_length xs lo hi) hz, _, (r.drop (HT.sIx xs.length 0 lo)).take (HT.sIx xs.length xs.length hi - HT.sIx xs.length 0 lo), IsTup.new _ _⟩

noncomputable def rCatT (K : PySem.W.Frag) : R2 := fun x y H Q => ∃ a b xs ys, x = .ref a ∧ y = .ref b ∧ SqT K H a xs ∧ SqT K H b ys ∧ xs ≠ [] ∧ xs.length + ys.length ≤ sizeLine ∧
  (ys = [] → Q (.ref a) H) ∧ (ys ≠ [] → ∀ p, H p = none → Q (.ref p) (upd H p (.tup (xs ++ ys))))
theorem Vals.nil_iff {xs : List V} {us : List Value} (r : Vals xs us) : us = [] ↔ xs = [] := by
  cases r with
  | nil => simp
  | cons _ _ => simp
theorem op_catT : OpR X (binaryOp .Add) (rCatT X.K) := by
  intro pins s σ H x y v u Q I rx ry h
  obtain ⟨a, b, xs, ys, rfl, rfl, ha, hb, hx, hz, q1, q2⟩ := h
  cases rx
  cases ry
  obtain ⟨its, r1, p1, _⟩ := I.tuple ha
  obtain ⟨its2, r2, p2, _⟩ := I.tuple hb
  refine HT.cat_tup p1 p2 (fun z => hx (r1.nil_iff.mp z)) (fun z => ⟨.ref a, H, I, rfl, q1 (r2.nil_iff.mp z)⟩) (fun z => ?_) (by rw [← r1.length, ← r2.length]; exact hz)
  refine ⟨.ref s.heap.objs.size, _, I.laid (t' := s.toks) (o := .tup (xs ++ ys)) (fun b ob q => Heap.get?_push_of_some _ q) (Nat.le_refl _) ?_, rfl, q2 (fun w => z (r2.nil_iff.mpr w)) _ (I.hok.fresh (Nat.le_refl _))⟩
  exact ⟨by rw [List.length_append]; exact hz, _, r1.append r2, IsTup.new _ _⟩
end
end L2

namespace L2
open PySem PySem.Spec PyProof.Rows

noncomputable def ixN (n : Nat) (i : Int) : Option Nat := if 0 ≤ i then (if i < n then some i.toNat else none) else if -(n : Int) ≤ i then some (i + n).toNat else none
noncomputable def atI {α : Type} (xs : List α) (i : Int) : Option α := (ixN xs.length i).bind fun j => xs[j]?
theorem ixN_seq {n : Nat} {i : Int} {j : Nat} (h : ixN n i = some j) : seqIndex? i n = some j ∧ j < n ∧ -(n : Int) ≤ i ∧ i < n := by
  unfold ixN at h
  by_cases h0 : 0 ≤ i
  · rw [if_pos h0] at h
    by_cases h1 : i < n
    · rw [if_pos h1] at h
      have e : i.toNat = j := Option.some.inj h
      exact ⟨by rw [seqIndex_of h0 h1, e], by omega, by omega, h1⟩
    · rw [if_neg h1] at h; cases h
  · rw [if_neg h0] at h
    by_cases h1 : -(n : Int) ≤ i
    · rw [if_pos h1] at h
      have e : (i + n).toNat = j := Option.some.inj h
      exact ⟨by rw [seqIndex_neg (by omega) h1, e], by omega, h1, by omega⟩
    · rw [if_neg h1] at h; cases h
theorem atI_get {α : Type} {xs : List α} {i : Int} {v : α} (h : atI xs i = some v) : ∃ j, seqIndex? i xs.length = some j ∧ xs[j]? = some v ∧ j < xs.length ∧ -(xs.length : Int) ≤ i ∧ i < xs.length := by
  unfold atI at h
  cases e : ixN xs.length i with
  | none => rw [e] at h; cases h
  | some j =>
    rw [e] at h
    obtain ⟨h1, h2, h3, h4⟩ := ixN_seq e
    exact ⟨j, h1, h, h2, h3, h4⟩
theorem atI_nat {α : Type} {xs : List α} {j : Nat} {v : α} (h : xs[j]? = some v) : atI xs (j : Int) = some v := by
  have hj : j < xs.length := (List.getElem?_eq_some_iff.mp h).1
  have e : ixN xs.length (j : Int) = some j := by
    unfold ixN
    rw [if_pos (by omega), if_pos (by omega)]; simp
  unfold atI; rw [e]; exact h
noncomputable def PlainIx (b : Expr) : Prop := ∀ o i, subscripted b false o i = operate [o, i] (getItem o i)
noncomputable def IxR (X : Cx) (r : R2) : Prop :=
  ∀ (value slice : Expr) (pins : List (Addr × Obj)) (s : Shared) (σ : St) (H : Hp) (x y : V) (v u : Value) (Q : VK), Inv X pins σ H s → RelV x v → RelV y u → r x y H Q →
    subscripted slice false v u = operate [v, u] (getItem v u) → wpAny (model X.prog X.w) X.A (subscriptTail value slice v u) (EP X pins σ Q) X.xe s
noncomputable def MtR (X : Cx) (id : String) (r : V → List V → Hp → VK → Prop) : Prop :=
  ∀ (pins : List (Addr × Obj)) (s : Shared) (σ : St) (H : Hp) (x : V) (xs : List V) (v : Value) (us : List Value) (Q : VK), Inv X pins σ H s → RelV x v → Vals xs us → r x xs H Q →
    wpAny (model X.prog X.w) X.A (call (.builtin id) (v :: us)) (EP X pins σ Q) X.xe s
section
variable {X : Cx} {a b : Expr} {ta tb : TE} {pos : Pos}
theorem IxR.or {r r' : R2} (h : IxR X r) (h' : IxR X r') : IxR X (fun x y H Q => r x y H Q ∨ r' x y H Q) := by
  intro value slice pins s σ H x y v u Q I rx ry q hs
  rcases q with q | q
  · exact h value slice pins s σ H x y v u Q I rx ry q hs
  · exact h' value slice pins s σ H x y v u Q I rx ry q hs
theorem MtR.or {id : String} {r r' : V → List V → Hp → VK → Prop} (h : MtR X id r) (h' : MtR X id r') : MtR X id (fun x xs H Q => r x xs H Q ∨ r' x xs H Q) := by
  intro pins s σ H x xs v us Q I rx rs q
  rcases q with q | q
  · exact h pins s σ H x xs v us Q I rx rs q
  · exact h' pins s σ H x xs v us Q I rx rs q
theorem pe_ix {r : R2} (hr : IxR X r) (ha : PE X a ta) (hb : PE X b tb) (hs : PlainIx b) : PE X (.Subscript a b pos) (tOp r ta tb) := by
  intro pins s σ H Q I h
  exact Subscript_ (binT ha hb I h fun v u s2 x y H2 I2 rx ry q => hr a b pins s2 σ H2 x y v u Q I2 rx ry q (hs _ _))

noncomputable def rIxL (K : PySem.W.Frag) : R2 := fun x y H Q => ∃ p xs i v, x = .ref p ∧ y = .int i ∧ SqL K H p xs ∧ atI xs i = some v ∧ Q v H
noncomputable def rIxT (K : PySem.W.Frag) : R2 := fun x y H Q => ∃ p xs i v, x = .ref p ∧ y = .int i ∧ SqT K H p xs ∧ atI xs i = some v ∧ Q v H
theorem ix_list : IxR X (rIxL X.K) := by
  intro value slice pins s σ H x y v u Q I rx ry h hs
  obtain ⟨p, xs, i, z, rfl, rfl, hq, he, q⟩ := h
  cases rx
  obtain ⟨t, rfl⟩ := ry
  obtain ⟨its, r, pl, hz⟩ := I.list hq
  obtain ⟨j, h1, h2, h3, h4, h5⟩ := atI_get he
  obtain ⟨w, ew, rw'⟩ := r.get h2
  have hl := r.length
  have hn := line63
  have fin : EP X pins σ Q w s := ⟨z, H, I, rw', q⟩
  by_cases h0 : 0 ≤ i
  · have hj : i.toNat = j := by
      rw [seqIndex_of h0 h5] at h1
      exact Option.some.inj h1
    exact item_listR pl.isList h0 (by omega) (by rw [hj]; simpa using ew) fin hs
  · have hj : (i + (its.toArray.size : Int)).toNat = j := by
      rw [seqIndex_neg (by omega) h4] at h1
      rw [List.size_toArray, ← hl]
      exact Option.some.inj h1
    exact subscriptTail_builtinR (x := w) pl.isList.typeIs slot_list_getitem.lookup
      (wpAny_getItem_list_neg (Q := fun r s' => r = w ∧ EP X pins σ Q r s') pl.isList (by omega) (by rw [List.size_toArray] <;> omega) (by omega) (by rw [hj]; simpa using ew) ⟨rfl, fin⟩) hs
theorem ix_tup : IxR X (rIxT X.K) := by
  intro value slice pins s σ H x y v u Q I rx ry h hs
  obtain ⟨p, xs, i, z, rfl, rfl, hq, he, q⟩ := h
  cases rx
  obtain ⟨t, rfl⟩ := ry
  obtain ⟨its, r, pl, hz⟩ := I.tuple hq
  obtain ⟨j, h1, h2, h3, h4, h5⟩ := atI_get he
  obtain ⟨w, ew, rw'⟩ := r.get h2
  have hl := r.length
  have hn := line63
  have fin : EP X pins σ Q w s := ⟨z, H, I, rw', q⟩
  exact subscriptTail_builtinR (x := w) pl.typeIs slot_tuple_getitem.lookup
    (getItem_tuple (j := j) (Q := fun r s' => r = w ∧ EP X pins σ Q r s') pl (by omega) (by omega) (by rw [List.size_toArray, ← hl]; exact h1) (by simpa using ew) ⟨rfl, fin⟩) hs
theorem mapSeq_set (its : List Value) (n j : Nat) (u : Value) : Obj.mapSeq (·.setIfInBounds j u) { cls := .type "list", data := .seq its.toArray n } = { cls := .type "list", data := .seq (its.set j u).toArray n } := by
  simp [Obj.mapSeq]
theorem Inv.lst {pins : List (Addr × Obj)} {σ : St} {H : Hp} {s : Shared} {p : Addr} {xs : List V} (I : Inv X pins σ H s) (h : H p = some (.lst xs)) :
    ∃ (its : List Value) (n : Nat), Vals xs its ∧ s.heap.get? p = some { cls := .type "list", data := .seq its.toArray n } ∧ xs.length ≤ sizeLine := by
  obtain ⟨z, its, n, r, e⟩ := I.hok p _ h
  exact ⟨its, n, r, e, z⟩
theorem Inv.lstUpd {pins : List (Addr × Obj)} {σ : St} {H : Hp} {s : Shared} {p : Addr} {xs ys : List V} {its its' : List Value} {n n' : Nat} {f : Obj → Obj} (I : Inv X pins σ H s) (h : H p = some (.lst xs))
    (ho : s.heap.get? p = some { cls := .type "list", data := .seq its.toArray n }) (hf : f { cls := .type "list", data := .seq its.toArray n } = { cls := .type "list", data := .seq its'.toArray n' }) (r : Vals ys its') (hz : ys.length ≤ sizeLine) (t : Nat) :
    Inv X pins σ (upd H p (.lst ys)) { s with heap := s.heap.update p f, toks := t } := by
  have e : (s.heap.update p f).get? p = some { cls := .type "list", data := .seq its'.toArray n' } := by
    rw [Heap.get?_update_self f ho (by rw [hf] <;> rfl), hf]
  refine I.write (x := p) (e := p) (by rw [h]; trivial) (.inl rfl) (fun b u hb q => (Heap.get?_update_other _ _ (Ne.symm hb)).trans q) ⟨_, e⟩ ?_
  exact ⟨hz, its', n', r, e⟩
noncomputable def rSetL : V → V → V → Hp → (Hp → Prop) → Prop := fun o i v H Q => ∃ p xs k j, o = .ref p ∧ i = .int k ∧ H p = some (.lst xs) ∧ ixN xs.length k = some j ∧ Q (upd H p (.lst (xs.set j v)))
theorem set_list : PSet X rSetL := by
  intro pins s σ H o i v ov iv u Q I ro ri rv h
  obtain ⟨p, xs, k, j, rfl, rfl, hp, hj, q⟩ := h
  cases ro
  obtain ⟨t, rfl⟩ := ri
  obtain ⟨its, n, r, ho, hz⟩ := I.lst hp
  obtain ⟨h1, h2, h3, h4⟩ := ixN_seq hj
  have hl := r.length
  have hn := line63
  have I' : Inv X pins σ (upd H p (.lst (xs.set j v))) { s with heap := s.heap.update p (Obj.mapSeq (·.setIfInBounds j u)) } :=
    I.lstUpd hp ho (mapSeq_set its n j u) (r.set rv j) (by rw [List.length_set]; exact hz) s.toks
  by_cases h0 : 0 ≤ k
  · have hk : k.toNat = j := by
      rw [seqIndex_of h0 h4] at h1
      exact Option.some.inj h1
    exact PySem.W.ki_setAt ho h0 (by omega) (by rw [List.size_toArray, ← hl]; exact h4) (by rw [hk]; exact ⟨_, I', q⟩)
  · have hk : (k + (its.toArray.size : Int)).toNat = j := by
      rw [seqIndex_neg (by omega) h3] at h1
      rw [List.size_toArray, ← hl]
      exact Option.some.inj h1
    exact PySem.W.ki_setBack ho (by omega) (by rw [List.size_toArray, ← hl]; exact h3) (by omega) (by rw [hk]; exact ⟨_, I', q⟩)

theorem slice_bounds (lo hi : Option Int) (n : Nat) : (sliceBounds lo hi none n).1 = ((HT.sIx n 0 lo : Nat) : Int) ∧ (sliceBounds lo hi none n).2.1 = ((HT.sIx n n hi : Nat) : Int) ∧ (sliceBounds lo hi none n).2.2 = 1 := by
  refine ⟨?_, ?_, rfl⟩
  · cases lo with
    | none => simp [sliceBounds, HT.sIx]
    | some i =>
      simp only [sliceBounds, HT.sIx, Option.getD_none, show (1 : Int) > 0 by decide, if_true]
      by_cases h : i < 0
      · simp only [h, if_true] <;> omega
      · simp only [h, if_false] <;> omega
  · cases hi with
    | none => simp [sliceBounds, HT.sIx]
    | some i =>
      simp only [sliceBounds, HT.sIx, Option.getD_none, show (1 : Int) > 0 by decide, if_true]
      by_cases h : i < 0
      · simp only [h, if_true] <;> omega
      · simp only [h, if_false] <;> omega
theorem slicePick_cut (its : List Value) (lo hi : Option Int) : slicePick its.toArray lo hi none = ((its.drop (HT.sIx its.length 0 lo)).take (HT.sIx its.length its.length hi - HT.sIx its.length 0 lo)).toArray := by
  obtain ⟨h1, h2, h3⟩ := slice_bounds lo hi its.toArray.size
  unfold slicePick
  rw [h1, h2, h3]
  simp only [sliceRange_one, pick_run, List.size_toArray] <;> rfl
noncomputable def rSlL (K : PySem.W.Frag) : V → Option Int → Option Int → Hp → VK → Prop := fun x lo hi H Q => ∃ a xs, x = .ref a ∧ SqL K H a xs ∧ ∀ p, H p = none → Q (.ref p) (upd H p (.lst (cutV xs lo hi)))
theorem sl_list : SlR X (rSlL X.K) := by
  intro pins s σ H x v vl vu lo hi sl Q I rx hs pl pu h
  obtain ⟨a, xs, rfl, hx, q⟩ := h
  cases rx
  obtain ⟨its, r, ht, hz⟩ := I.list hx
  have hlen := r.length
  refine ⟨"list", _, slot_list_getitem.lookup, ht.isList.typeIs, ?_⟩
  refine wpAny_getItem_list_slice ht.isList hs pl pu .none (by simp) ?_ (by rw [List.size_toArray] <;> omega)
  rw [slicePick_cut, ← hlen]
  refine ⟨.ref s.heap.objs.size, _, I.laid (t' := s.toks) (o := .lst (cutV xs lo hi)) (fun b ob q => Heap.get?_push_of_some _ q) (Nat.le_refl _) ?_, rfl, q _ (I.hok.fresh (Nat.le_refl _))⟩
  exact ⟨Nat.le_trans (cutV_length xs lo hi) hz, _, 0, (r.drop (HT.sIx xs.length 0 lo)).take (HT.sIx xs.length xs.length hi - HT.sIx xs.length 0 lo), Heap.get?_push_size _ rfl⟩

noncomputable def flatV : V → Bool
  | .non => true
  | .bl _ => true
  | .int _ => true
  | .str _ => true
  | _ => false
noncomputable def eqV : V → V → Bool
  | .non, .non => true
  | .bl a, .bl b => a == b
  | .bl a, .int b => (if a then 1 else 0) == b
  | .int a, .bl b => a == (if b then 1 else 0)
  | .int a, .int b => a == b
  | .str a, .str b => a == b
  | _, _ => false
theorem eqAt_V {A : Around} {s : Shared} {y x : V} {u v : Value} (ry : RelV y u) (rx : RelV x v) (fy : flatV y = true) (fx : flatV x = true) : SeqAt.EqAt A s u v (eqV y x) := by
  cases y with
  | non =>
    cases ry
    cases x with
    | non => cases rx; exact SeqAt.EqAt.same _
    | bl b => cases rx; exact SeqAt.EqAt.none_bool b
    | int b => obtain ⟨t, rfl⟩ := rx; exact SeqAt.EqAt.none_int b t
    | str b => obtain ⟨t, rfl⟩ := rx; exact SeqAt.EqAt.none_str b t
    | _ => exact absurd (show false = true from fx) Bool.false_ne_true
  | bl a =>
    cases ry
    cases x with
    | non => cases rx; exact SeqAt.EqAt.bool_none a
    | bl b => cases rx; exact SeqAt.EqAt.bool_bool a b
    | int b => obtain ⟨t, rfl⟩ := rx; exact SeqAt.EqAt.bool_int a b t
    | str b => obtain ⟨t, rfl⟩ := rx; exact SeqAt.EqAt.bool_str a b t
    | _ => exact absurd (show false = true from fx) Bool.false_ne_true
  | int a =>
    obtain ⟨t', rfl⟩ := ry
    cases x with
    | non => cases rx; exact SeqAt.EqAt.int_none a t'
    | bl b => cases rx; exact SeqAt.EqAt.int_bool a t' b
    | int b => obtain ⟨t, rfl⟩ := rx; exact SeqAt.EqAt.int_int a t' b t
    | str b => obtain ⟨t, rfl⟩ := rx; exact SeqAt.EqAt.int_str a t' b t
    | _ => exact absurd (show false = true from fx) Bool.false_ne_true
  | str a =>
    obtain ⟨t', rfl⟩ := ry
    cases x with
    | non => cases rx; exact SeqAt.EqAt.str_none a t'
    | bl b => cases rx; exact SeqAt.EqAt.str_bool a t' b
    | int b => obtain ⟨t, rfl⟩ := rx; exact SeqAt.EqAt.str_int a t' b t
    | str b => obtain ⟨t, rfl⟩ := rx; exact SeqAt.EqAt.str_str a t' b t
    | _ => exact absurd (show false = true from fx) Bool.false_ne_true
  | _ => exact absurd (show false = true from fy) Bool.false_ne_true
noncomputable def eqU (x : V) (u : Value) : Bool := match u with
  | .none => eqV .non x
  | .bool b => eqV (.bl b) x
  | .int i _ => eqV (.int i) x
  | .str z _ => eqV (.str z) x
  | _ => false
theorem eqU_of {x y : V} {u : Value} (r : RelV y u) (f : flatV y = true) : eqU x u = eqV y x := by
  cases y with
  | non => cases r; rfl
  | bl b => cases r; rfl
  | int i => obtain ⟨t, rfl⟩ := r; rfl
  | str z => obtain ⟨t, rfl⟩ := r; rfl
  | _ => exact absurd (show false = true from f) Bool.false_ne_true
theorem any_eqU {x : V} : ∀ {xs : List V} {us : List Value}, Vals xs us → xs.all flatV = true → us.any (eqU x) = xs.any fun y => eqV y x
  | _, _, .nil, _ => rfl
  | y :: xs, u :: us, .cons r t, f => by
    rw [List.all_cons, Bool.and_eq_true] at f
    rw [List.any_cons, List.any_cons, eqU_of r f.1, any_eqU t f.2]
theorem mem_eqAt {A : Around} {s : Shared} {x : V} {v : Value} (rx : RelV x v) (fx : flatV x = true) : ∀ {xs : List V} {us : List Value}, Vals xs us → xs.all flatV = true → ∀ u ∈ us, SeqAt.EqAt A s u v (eqU x u)
  | _, _, .nil, _ => fun u hu => by cases hu
  | y :: xs, u :: us, .cons r t, f => fun u' hu => by
    rw [List.all_cons, Bool.and_eq_true] at f
    rcases List.mem_cons.mp hu with rfl | hu
    · rw [eqU_of r f.1]; exact eqAt_V r rx f.1 fx
    · exact mem_eqAt rx fx t f.2 u' hu
noncomputable def inV (x : V) (xs : List V) : Bool := xs.any fun y => eqV y x
noncomputable def rIn (K : PySem.W.Frag) (neg : Bool) : R2 := fun x y H Q => ∃ p xs, y = .ref p ∧ (SqL K H p xs ∨ SqT K H p xs) ∧ flatV x = true ∧ xs.all flatV = true ∧ Q (.bl (if neg then !inV x xs else inV x xs)) H
theorem op_notIn_seq : OpR X (compareOp .NotIn) (rIn X.K true) := by
  intro pins s σ H x y v u Q I rx ry h
  obtain ⟨p, xs, rfl, hq, fx, fs, q⟩ := h
  cases ry
  rcases hq with hq | hq
  · obtain ⟨its, r, pl, hz⟩ := I.list hq
    refine SeqAt.notIn_listAt (eqU x) pl.isList (fun w hw => mem_eqAt rx fx r fs w (by simpa using hw)) ⟨.bl _, H, I, rfl, ?_⟩
    rw [show its.toArray.any (eqU x) = its.any (eqU x) by simp, any_eqU r fs]
    exact q
  · obtain ⟨its, r, pl, hz⟩ := I.tuple hq
    refine SeqAt.notIn_tupleAt (eqU x) pl (fun w hw => mem_eqAt rx fx r fs w (by simpa using hw)) ⟨.bl _, H, I, rfl, ?_⟩
    rw [show its.toArray.any (eqU x) = its.any (eqU x) by simp, any_eqU r fs]
    exact q
theorem call_len_seq : CallR X (.builtin "len") (fun xs H Q => ∃ p ys, xs = [.ref p] ∧ (SqL X.K H p ys ∨ SqT X.K H p ys) ∧ Q (.int ys.length) H) := by
  intro pins s σ H xs us Q I r h
  obtain ⟨p, ys, rfl, hq, q⟩ := h
  obtain ⟨u, rfl, rx⟩ := vals1 r
  cases rx
  have hn := line63
  rcases hq with hq | hq
  · obtain ⟨its, r', pl, hz⟩ := I.list hq
    have hlen := r'.length
    exact Calls.call_len_list pl.isList (by simp only [List.size_toArray] <;> omega) ⟨.int ys.length, H, I.tok _, ⟨s.toks + 1, by rw [List.size_toArray, hlen]⟩, q⟩
  · obtain ⟨its, r', pl, hz⟩ := I.tuple hq
    have hlen := r'.length
    exact len_tuple pl (by simp only [List.size_toArray] <;> omega) ⟨.int ys.length, H, I.tok _, ⟨s.toks + 1, by rw [List.size_toArray, hlen]⟩, q⟩
theorem CallR.or {f : Value} {r r' : List V → Hp → VK → Prop} (h : CallR X f r) (h' : CallR X f r') : CallR X f (fun xs H Q => r xs H Q ∨ r' xs H Q) := by
  intro pins s σ H xs us Q I rs q
  rcases q with q | q
  · exact h pins s σ H xs us Q I rs q
  · exact h' pins s σ H xs us Q I rs q
theorem call_list_of : CallR X (.type "list") (fun xs H Q => ∃ p ys, xs = [.ref p] ∧ (SqL X.K H p ys ∨ SqT X.K H p ys) ∧ ∀ l, H l = none → Q (.ref l) (upd H l (.lst ys))) := by
  intro pins s σ H xs us Q I r h
  obtain ⟨p, ys, rfl, hq, q⟩ := h
  obtain ⟨u, rfl, rx⟩ := vals1 r
  cases rx
  have fin : ∀ (its : List Value), Vals ys its → ys.length ≤ sizeLine → ∀ (h' : Heap) (c' : Nat), (∀ b o', s.heap.get? b = some o' → h'.get? b = some o') →
      h'.get? s.heap.objs.size = some { cls := .type "list", dict := none, data := .seq its.toArray c', slots := #[] } → EP X pins σ Q (.ref s.heap.objs.size) { s with heap := h' } := fun its r' hz h' c' kp e =>
    ⟨.ref s.heap.objs.size, _, I.laid (t' := s.toks) kp (Nat.le_refl _) (show ObjOk X.prog X.w _ h' _ (.lst ys) from ⟨hz, its, c', r', e⟩), rfl, q _ (I.hok.fresh (Nat.le_refl _))⟩
  rcases hq with hq | hq
  · obtain ⟨its, r', pl, hz⟩ := I.list hq
    have hlen := r'.length
    obtain ⟨o, ho, hc, n, hd⟩ := pl.isList
    exact call_list_seq p (.inl rfl) ho hc hd (fun h' c' kp e => fin its r' hz h' c' kp e) (by simp only [List.size_toArray] <;> omega)
  · obtain ⟨its, r', pl, hz⟩ := I.tuple hq
    have hlen := r'.length
    obtain ⟨o, ho, hc, n, hd⟩ := pl
    exact call_list_seq p (.inr rfl) ho hc hd (fun h' c' kp e => fin its r' hz h' c' kp e) (by simp only [List.size_toArray] <;> omega)
theorem call_tuple_of : CallR X (.type "tuple") (fun xs H Q => ∃ p ys, xs = [.ref p] ∧ ((SqL X.K H p ys ∧ ∀ l, H l = none → Q (.ref l) (upd H l (.tup ys))) ∨ (SqT X.K H p ys ∧ Q (.ref p) H))) := by
  intro pins s σ H xs us Q I r h
  obtain ⟨p, ys, rfl, h⟩ := h
  obtain ⟨u, rfl, rx⟩ := vals1 r
  cases rx
  rcases h with ⟨hq, q⟩ | ⟨hq, q⟩
  · obtain ⟨its, r', pl, hz⟩ := I.list hq
    have hlen := r'.length
    refine call_tuple_list pl.isList (fun h' kp => ?_) (by simp only [List.size_toArray] <;> omega)
    have I1 : Inv X pins σ H { s with heap := h' } := I.kept (t' := s.toks) kp
    have I2 : Inv X pins σ (upd H h'.objs.size (.tup ys)) { s with heap := h'.push { cls := .type "tuple", data := .seq its.toArray } } :=
      I1.laid (t' := s.toks) (fun b o e => Heap.get?_push_of_some _ e) (Nat.le_refl _) (show ObjOk X.prog X.w _ _ _ (.tup ys) from ⟨hz, its, r', IsTup.new _ _⟩)
    exact ⟨.ref h'.objs.size, _, I2, rfl, q _ (I1.hok.fresh (Nat.le_refl _))⟩
  · obtain ⟨its, r', pl, hz⟩ := I.tuple hq
    exact call_tuple_same pl ⟨.ref p, H, I, rfl, q⟩

noncomputable def tyV (K : PySem.W.Frag) (T : String) (x : V) (H : Hp) : Prop := match x with
  | .str _ => T = "str"
  | .int _ => T = "int"
  | .ref p => (T = "list" ∧ ∃ xs, SqL K H p xs) ∨ (T = "tuple" ∧ ∃ o, K.lookup p = some o ∧ o.cls = .type "tuple" ∧ o.dict = none) ∨
      (T = "dict" ∧ ((∃ kvs, H p = some (.dK kvs)) ∨ ∃ kvs, H p = some (.dT kvs))) ∨ (T = "set" ∧ ∃ S n, H p = some (.set S n))
  | _ => False
theorem tyV_is {pins : List (Addr × Obj)} {σ : St} {H : Hp} {s : Shared} {T : String} {x : V} {v : Value} (I : Inv X pins σ H s) (r : RelV x v) (ty : tyV X.K T x H) :
    s.TypeIs v T ∧ ∀ a, v = .ref a → ∃ ob, s.heap.get? a = some ob ∧ ob.dict = none := by
  cases x with
  | str z =>
    obtain ⟨t, rfl⟩ := r
    cases (show T = "str" from ty)
    exact ⟨typeIs_str s z t, fun _ e => nomatch e⟩
  | int i =>
    obtain ⟨t, rfl⟩ := r
    cases (show T = "int" from ty)
    exact ⟨typeIs_int s i t, fun _ e => nomatch e⟩
  | ref p =>
    cases r
    rcases ty with ⟨rfl, xs, hq⟩ | ⟨rfl, o, hk, hc, hd⟩ | ⟨rfl, hk⟩ | ⟨rfl, S, n, hk⟩
    · obtain ⟨its, _, pl, _⟩ := I.list hq
      refine ⟨pl.isList.typeIs, fun a e => ?_⟩
      cases e
      obtain ⟨o, n, e, c, hd, _⟩ := pl
      exact ⟨o, e, hd⟩
    · refine ⟨⟨o, I.kIn p o hk, hc⟩, fun a e => ?_⟩
      cases e
      exact ⟨o, I.kIn _ o hk, hd⟩
    · have z : ∃ o, s.heap.get? p = some o ∧ o.ExactDict := by
        rcases hk with ⟨kvs, hk⟩ | ⟨kvs, hk⟩
        · obtain ⟨_, _, _, _, o, _, _, e, ex, _⟩ := I.hok p _ hk
          exact ⟨o, e, ex⟩
        · obtain ⟨_, _, _, _, o, _, _, e, ex, _⟩ := I.hok p _ hk
          exact ⟨o, e, ex⟩
      obtain ⟨o, e, ex⟩ := z
      refine ⟨⟨o, e, ex.1⟩, fun a e2 => ?_⟩
      cases e2
      exact ⟨o, e, ex.2.1⟩
    · obtain ⟨o, _, _, _, e, ex, _⟩ := I.hok p _ hk
      refine ⟨⟨o, e, ex.1⟩, fun a e2 => ?_⟩
      cases e2
      exact ⟨o, e, ex.2.1⟩
  | _ => exact False.elim ty
noncomputable def tBM0 (K : PySem.W.Frag) (T : String) (r : V → List V → Hp → VK → Prop) (to : TE) : TE := fun σ H Q => to σ H fun x H1 => tyV K T x H1 ∧ r x [] H1 Q
noncomputable def tBM (K : PySem.W.Frag) (T : String) (r : V → List V → Hp → VK → Prop) (to : TE) (t : TA) : TE := fun σ H Q => to σ H fun x H1 => tyV K T x H1 ∧ t σ H1 fun xs H2 => r x xs H2 Q
variable {o e : Expr} {es : List Expr} {to : TE} {t : TA} {name : Str} {apos cpos : Pos} {T id : String} {r : V → List V → Hp → VK → Prop}
theorem pe_bm (pa : PlainAttrs T) (slot : Slot T name id) (hty : typeOf (.builtin id) = pure (.type "method_descriptor")) (hm : MtR X id r) (ho : PE X o to) (ha : PA X (e :: es) t)
    (hbase : attributeBase o name X.env (eval o X.env) = eval o X.env := by rfl)
    (hfew : ((backTo cpos (starEach (e :: es) X.env)).all (fun x => !x.1) && (backToKw cpos (keywordEach [] X.env)).all (fun x => x.1.isSome)
      && decide ((e :: es).length + ([] : List Keyword).length + (if ([] : List Keyword).isEmpty then 0 else 1) < 30)) = true := by rfl)
    (hline : (apos.endLine == cpos.line) = true := by rfl) (hs : starEach (e :: es) X.env = (false, eval e X.env) :: starEach es X.env := by rfl) (hplain : (backTo cpos (starEach es X.env)).any (·.1) = false := by rfl) :
    PE X (.Call (.Attribute o name apos) (e :: es) [] cpos) (tBM X.K T r to t) := by
  intro pins s σ H Q I h
  refine wpAny_Call_method_late hbase hfew hline rfl (thn (ho pins s σ H _ I h) fun v s1 ⟨x, H1, I1, r1, ty, q1⟩ => ?_)
  obtain ⟨h1, h2⟩ := tyV_is I1 r1 ty
  refine ⟨T, id, pa, slot, hty, h1, h2, ?_⟩
  have hA := ha cpos pins s1 σ H1 _ I1 q1
  rw [hs] at hA ⊢
  refine Calls.callWith_builtin (by show (false || (backTo cpos (starEach es X.env)).any (·.1)) = false; rw [hplain] <;> rfl) (Calls.evalArgs_plain ?_)
  exact thn hA fun us s2 ⟨vs, H2, I2, r2, q2⟩ => hm pins s2 σ H2 x vs v us Q I2 r1 r2 q2
end
end L2

namespace L2
open PySem PySem.Spec PyProof.Rows

noncomputable def MtM (X : Cx) (id : String) (r : V → List V → Hp → VK → Prop) : Prop :=
  ∀ (pins : List (Addr × Obj)) (s : Shared) (σ : St) (H : Hp) (x : V) (xs : List V) (v : Value) (us : List Value) (Q : VK), Inv X pins σ H s → RelV x v → Vals xs us → r x xs H Q →
    wpAny (model X.prog X.w) X.A (call (.builtin id) (v :: us)) (EP X pins σ Q) X.xe s

theorem Vals.one : ∀ {x : V} {us : List Value}, Vals [x] us → ∃ u, us = [u] ∧ RelV x u
  | _, _, .cons r .nil => ⟨_, rfl, r⟩
theorem Vals.two : ∀ {x y : V} {us : List Value}, Vals [x, y] us → ∃ u v, us = [u, v] ∧ RelV x u ∧ RelV y v
  | _, _, _, .cons r (.cons q .nil) => ⟨_, _, rfl, r, q⟩
theorem Vals.zero : ∀ {us : List Value}, Vals [] us → us = []
  | _, .nil => rfl
theorem Vals.eraseIdx : ∀ {xs : List V} {us : List Value} (i : Nat), Vals xs us → Vals (xs.eraseIdx i) (us.eraseIdx i)
  | _, _, _, .nil => .nil
  | _, _, 0, .cons _ t => t
  | _, _, i + 1, .cons r t => .cons r (Vals.eraseIdx i t)
theorem Vals.reverse {xs : List V} {us : List Value} (h : Vals xs us) : Vals xs.reverse us.reverse := by
  induction h with
  | nil => exact .nil
  | cons r t ih => rw [List.reverse_cons, List.reverse_cons]; exact Vals.append ih (.cons r .nil)
section
variable {X : Cx} {pins : List (Addr × Obj)} {σ : St} {H : Hp} {s : Shared} {l b : Addr} {xs ys zs : List V}

theorem Inv.lset {its its' : List Value} {n : Nat} {f : Array Value → Array Value} {t' : Nat} (I : Inv X pins σ H s) (hH : H l = some (.lst xs))
    (e : s.heap.get? l = some { cls := .type "list", data := .seq its.toArray n }) (hf : f its.toArray = its'.toArray) (hv : Vals ys its') (hz : ys.length ≤ sizeLine) :
    Inv X pins σ (upd H l (.lst ys)) { s with heap := s.heap.update l (Obj.mapSeq f), toks := t' } := by
  have q := PySem.IsL.update e f
  rw [hf] at q
  refine I.write (x := l) (e := l) (by rw [hH]; exact trivial) (.inl rfl) (fun b' u hb hu => (Heap.get?_update_other s.heap (Obj.mapSeq f) (Ne.symm hb)).trans hu) ⟨_, q⟩ ?_
  exact ⟨hz, its', _, hv, q⟩
theorem Inv.lnew {its : List Value} {t' : Nat} (I : Inv X pins σ H s) (hv : Vals ys its) (hz : ys.length ≤ sizeLine) :
    Inv X pins σ (upd H s.heap.objs.size (.lst ys)) { s with heap := s.heap.push { cls := .type "list", data := .seq its.toArray }, toks := t' } :=
  I.laid (fun _ _ q => Heap.get?_push_of_some _ q) (Nat.le_refl _) ⟨hz, its, 0, hv, Heap.get?_push_size _ rfl⟩
theorem Inv.fresh (I : Inv X pins σ H s) : H s.heap.objs.size = none := I.hok.fresh (Nat.le_refl _)
theorem Inv.lstM (I : Inv X pins σ H s) (hH : H l = some (.lst xs)) : xs.length ≤ sizeLine ∧ ∃ (its : List Value) (n : Nat), Vals xs its ∧ xs.length = its.length ∧ s.heap.get? l = some { cls := .type "list", data := .seq its.toArray n } := by
  obtain ⟨z, its, n, r, e⟩ := I.hok l _ hH
  exact ⟨z, its, n, r, r.length, e⟩

end

section
variable {X : Cx}

noncomputable def rAppend : V → List V → Hp → VK → Prop := fun x vs H Q => ∃ l xs y, x = .ref l ∧ vs = [y] ∧ H l = some (.lst xs) ∧ xs.length < sizeLine ∧ Q .non (upd H l (.lst (xs ++ [y])))
theorem mt_append : MtM X "list.append" rAppend := by
  intro pins s σ H x vs v us Q I rx rv h
  obtain ⟨l, xs, y, rfl, rfl, hH, hz, q⟩ := h
  cases rx
  obtain ⟨u, rfl, ru⟩ := rv.one
  obtain ⟨z, its, n, r, hl, e⟩ := I.lstM hH
  refine call_meets F.slot_list_append ⟨_, e, rfl⟩ F.entry_list_append (F.args_list_append_2 _ _) (PySem.list_append l its.toArray n u (by rw [List.size_toArray]; omega)) ⟨e, ?_⟩
  refine ⟨.non, _, I.lset (its' := its ++ [u]) hH e (by simp) (r.append (.cons ru .nil)) ?_, rfl, q⟩
  rw [List.length_append, List.length_singleton]
  omega

noncomputable def rCat : R2 := fun x y H Q => ∃ l b xs zs, x = .ref l ∧ y = .ref b ∧ H l = some (.lst xs) ∧ H b = some (.lst zs) ∧ xs.length + zs.length ≤ sizeLine ∧ ∀ p, H p = none → Q (.ref p) (upd H p (.lst (xs ++ zs)))
theorem op_cat : OpR X (binaryOp .Add) rCat := by
  intro pins s σ H x y v u Q I rx ry h
  obtain ⟨l, b, xs, zs, rfl, rfl, hH, hB, hz, q⟩ := h
  cases rx
  cases ry
  obtain ⟨z, its, n, r, hl, e⟩ := I.lstM hH
  obtain ⟨z2, its2, n2, r2, hl2, e2⟩ := I.lstM hB
  refine PySem.P.add_list e e2 ?_ (by rw [List.size_toArray, List.size_toArray]; omega)
  have ea : its.toArray ++ its2.toArray = (its ++ its2).toArray := by simp
  rw [ea]
  exact ⟨.ref _, _, I.lnew (t' := s.toks) (r.append r2) (by rw [List.length_append]; omega), rfl, q _ I.fresh⟩
end

section
variable {prog : Program} {w : World} {A : Around} {E : Value → Shared → Prop} {s : Shared}
set_option maxRecDepth 100000 in
end

section
variable {X : Cx}
end
end L2

namespace Att
open PySem PySem.W PySem.Calls PyProof.Rows

theorem ints_of_wellAll {P : Params} {h : Heap} : ∀ (ns : List Int) (vs : List Value), WellAll P h vs (ns.map WData.int) → IntsAre vs ns := by
  intro ns
  induction ns with
  | nil =>
    intro vs w
    rw [List.map_nil] at w
    cases w
    exact .nil
  | cons n ns ih =>
    intro vs w
    rw [List.map_cons] at w
    cases w with
    | cons a b =>
      cases a
      exact .cons _ _ (ih _ b)

theorem script_of {l : OpenLaw} {n : Nat} (hn : l.most = some n) {P : Params} {h : Heap} {args : List WData} {vals : List Value}
    (hpre : l.row.toRowW.claim.pre args = true) (hwl : WellAll P h vals args) :
    ∃ a vs ns, vals = [Value.ref a] ∧ args = [WData.list (ns.map WData.int)] ∧ h.get? a = some { cls := .type "list", data := .seq vs.toArray } ∧ IntsAre vs ns ∧ ns.length ≤ n := by
  have hsh : WShape.hasAll [] args [.list .int] = true := (pre_splitW hpre).1
  have hc : l.pre.holds [] { args := args } = true := (pre_splitW hpre).2
  obtain ⟨d, r, rfl, h1, h2⟩ := hasAllW_cons hsh
  obtain rfl := hasAllW_nil h2
  obtain ⟨xs, rfl, h3⟩ := hasW_list h1
  obtain ⟨ns, rfl⟩ := items_int h3
  have hlen : ns.length ≤ n := by
    unfold OpenLaw.pre at hc
    have h4 : (WTm.not (.lt (.lit (.int (n : Int))) (.len (.arg 0)))).holds [] { args := [.list (ns.map .int)] } = true := by
      have h4 := (holds_andW hc).1
      rw [hn] at h4
      exact h4
    have h5 := condW_of h4 (w_not (w_lt w_lit (w_len_list (w_arg rfl))))
    rw [List.length_map] at h5
    refine Nat.le_of_not_lt fun q => ?_
    have q' : (n : Int) < ((ns.length : Nat) : Int) := by omega
    first
      | (rw [decide_eq_true q'] at h5; exact absurd h5 (by decide))
      | (simp at h5; omega)
  cases hwl with
  | cons w1 w2 =>
    cases w2
    cases w1 with
    | list ho hall => exact ⟨_, _, ns, rfl, rfl, ho, ints_of_wellAll ns _ hall, hlen⟩

theorem post_true (l : OpenLaw) (args : List WData) : l.row.toRowW.claim.post args (.bool true) args = true :=
  postW_of (r := l.row.toRowW) (X := (true == true))
    (show WShape.has [] (.bool true) .bool = true by first | rfl | decide | simp [WShape.has, WShape.arms, WShape.armsAll])
    (show (WTm.eq .res (.lit (.bool true))).value [] { args := args, res := some (.bool true), after := args } = some (.bool (true == true)) from w_eq_bool (w_res rfl) w_lit) rfl

theorem attach_call {l : OpenLaw} {n : Nat} {q : Program} {loose : List Str} {XP : (Str → Option Value) → Heap → Prop} {YP : World → Heap → Prop} {d : DefRec}
    (hn : l.most = some n) (hdf : d.params.defaults = [])
    (call : ∀ (w : World) (s₀ s₁ : Shared) (mg mb : Str → Option Value) (fa : Addr) (o : Obj) (pm cd doc : Value) (a : Addr) (vs : List Value) (ns : List Int),
      Ground q loose [] XP w s₀ mg mb s₁.heap → YP w s₁.heap →
      s₁.heap.get? fa = some o → o.data = .func (docDef d.name d.params d.body d.scope pm cd doc) → s₁.heap.CodeRec cd d.name → mg d.name = some (.ref fa) →
      s₁.heap.get? a = some { cls := .type "list", data := .seq vs.toArray } → IntsAre vs ns → ns.length ≤ n → s₁.gens = #[] →
      codeAny (model l.prog w) callerA (.call (.ref fa) ⟨[.ref a], []⟩) (fun r s' => r = .ok (.ret (.bool true)) ∧ OldK s₁.heap s'.heap ∧ s'.os = s₁.os ∧ AllBare s'.gens) s₁) :
    WalkO q loose XP YP l.row.toRowW d [] (fun f vs => PySem.call f vs) := by
  intro w s₀ s₁ mg mb G Y fa o pm cd doc dV kV ho hd hcd hD hmg hg args vals as hpre hlay hrd hwl hlo
  obtain rfl : dV = .none := Dflts.none hD hdf
  obtain rfl : kV = .none := Dflts.noKw hD
  obtain ⟨a, vs, ns, rfl, rfl, hobj, hints, hlen⟩ := script_of hn hpre hwl
  refine enter_call (codeAny_mono (call w s₀ s₁ mg mb fa o pm cd doc a vs ns G Y ho (fd_plain hd) hcd hmg hobj hints hlen hg) fun r s' hq => ?_)
  obtain ⟨rfl, h2, h3, h4⟩ := hq
  exact ⟨.inl ⟨.bool true, .bool true, [], rfl, fun _ => rfl, .bool true, post_true l _, fun _ => ⟨List.Pairwise.nil, fun _ hm => (nomatch hm)⟩⟩, h2, h3, h4⟩

section
variable {prog : Program} {w : World} {A : Around} {E : Value → Shared → Prop} {s : Shared} {K : Frag}

noncomputable def ledger (h : Heap) (L d : Addr) : List (Addr × Obj) := (List.range h.objs.size).filterMap fun a => if a = L ∨ a = d then none else (h.get? a).map fun o => (a, o)
end
end Att

namespace L2
open PySem PySem.Spec PyProof.Rows

theorem vals_ints : ∀ {vs : List Value} {ns : List Int}, IntsAre vs ns → Vals (ns.map V.int) vs
  | _, _, .nil => .nil
  | _, _, .cons n t h => .cons ⟨t, rfl⟩ (vals_ints h)

noncomputable def Only (H : Hp) : Prop := ∀ b, H b = none ∨ ∃ o xs, H b = some (.frz o (.lst xs))

theorem law_call {P : Program} {w : World} {K : PySem.W.Frag} {mg mb : Str → Option Value} {CX : CXT} {k : Nat} {fa a : Addr} {fd : FuncData} {x : Str} {sp : Sp} {s₁ : Shared} {vs : List Value} {ns : List Int}
    (KX : K.In s₁.heap) (hns : s₁.heap.Ns mainGlobals mg) (hb : s₁.heap.Ns builtinsNs mb) (hbb : ∀ x : Str, x ≠ "__name__" → mb x = bootBuiltins x) (hlim : s₁.heap.NoLimit) (hg : s₁.gens = #[])
    (ha : s₁.heap.get? a = some { cls := .type "list", data := .seq vs.toArray }) (hi : IntsAre vs ns) (hl : ns.length ≤ sizeLine) (hr : Room k callerA)
    (F : ∀ base : Heap, K.In base → base.Ns mainGlobals mg → FnOk P w K mg base CX k fa fd [x] sp) (hbind : ∀ (s : Shared) (u : Value), BindsTo s fd ⟨[u], []⟩ [(x, u)])
    (hsp : ∀ H : Hp, Only H → SqL K H a (ns.map V.int) → sp [.ref a] H (fun v _ => v = .bl true) fun _ _ _ => False)
    (hCX : ∀ H e s', CX [] H s₁ (fun _ _ _ => False) e s' → False) :
    codeAny (model P w) callerA (.call (.ref fa) ⟨[.ref a], []⟩) (fun r s' => r = .ok (.ret (.bool true)) ∧ OldK s₁.heap s'.heap ∧ s'.os = s₁.os ∧ AllBare s'.gens) s₁ := by
  have rv := vals_ints hi
  have lenV := hi.length
  -- from an abstract heap in which nothing but the script may be tracked
  have core : ∀ H : Hp, Only H → SqL K H a (ns.map V.int) → HOk P w H s₁.heap → (∀ b, H b ≠ none → b = a) → (H a ≠ none → K.lookup a = none) →
      codeAny (model P w) callerA (.call (.ref fa) ⟨[.ref a], []⟩) (fun r s' => r = .ok (.ret (.bool true)) ∧ OldK s₁.heap s'.heap ∧ s'.os = s₁.os ∧ AllBare s'.gens) s₁ := by
    intro H hO hS hok hA hK
    have base_of : ∀ {b : Addr} {o : Obj}, s₁.heap.get? b = some o → H b = none → (hidT s₁.heap H).get? b = some o := fun e n => hidT_get e n
    have noA : ∀ {b : Addr} {o : Obj} {es : Array DictEntry} {ep : Nat}, s₁.heap.get? b = some o → o.data = .dict es ep → H b = none := fun {b o es ep} e d => by
      cases q : H b with
      | none => rfl
      | some u =>
        have e' : b = a := hA b (by rw [q]; simp)
        subst e'
        rw [ha] at e; cases e
        have d' : Data.seq vs.toArray _ = Data.dict es ep := d
        cases d'
    have nsK : ∀ {b : Addr} {m : Str → Option Value}, s₁.heap.Ns b m → (hidT s₁.heap H).Ns b m := fun {b m} ⟨o, es, ep, e, d, r⟩ => ⟨o, es, ep, base_of e (noA e d), d, r⟩
    have hKb : K.In (hidT s₁.heap H) := fun b o e => base_of (KX b o e) (by
      cases q : H b with
      | none => rfl
      | some u =>
        have e' : b = a := hA b (by rw [q]; simp)
        subst e'
        rw [hK (by rw [q]; simp)] at e; cases e)
    have hM : Mod K mg (hidT s₁.heap H) := ⟨hKb, nsK hns, ⟨mb, nsK hb, hbb⟩, let ⟨mc, h1, h2⟩ := hlim; ⟨mc, nsK h1, h2⟩⟩
    have e0 : Env0 P w K mg (hidT s₁.heap H) callerA [] s₁ H := ⟨rfl, hM, fun b o e => of_hidT e, Nat.le_of_eq (hidT_size _ _), trivial, fun b hb => absurd (show b ∈ ([] : List Addr) from hb) (by simp), hok, .of_eq hg⟩
    refine codeAny_mono ((F _ hKb (nsK hns)).run callerA [] s₁ H ⟨[.ref a], []⟩ [.ref a] [.ref a] _ _ hr e0 (hbind s₁ (.ref a)) (.cons rfl .nil) (hsp H hO hS)) fun r s' h => ?_
    cases r with
    | error e => exact (hCX H e s' h).elim
    | ok fl =>
      cases fl with
      | next => exact False.elim h
      | brk => exact False.elim h
      | cont => exact False.elim h
      | ret u =>
        obtain ⟨v, H', os, bare, un, hok', r', q⟩ := h
        have q' : v = .bl true := q
        subst q'
        obtain rfl : u = Value.bool true := r'
        refine ⟨rfl, OldK.of_keep fun b o e => ?_, os, bare⟩
        cases q : H b with
        | none => exact un.keep b o e q (by intro z; exact absurd (show b ∈ ([] : List Addr) from z) (by simp)) (by simp)
        | some u =>
          rcases hO b with z | ⟨ob, xs, z⟩
          · rw [q] at z; cases z
          · have z2 := un.frzs b ob _ z
            obtain ⟨e1, _⟩ := hok b _ z
            obtain ⟨e2, _⟩ := hok' b _ z2
            rw [e] at e1; cases e1
            exact e2
  cases hk : K.lookup a with
  | some o =>
    -- the script is one of the module's own objects
    have e := KX a o hk
    rw [ha] at e
    cases e
    refine core (fun _ => none) (fun _ => .inl rfl) (.inr ⟨_, vs.toArray, _, hk, rfl, rfl, rfl, by rw [List.size_toArray, lenV]; exact hl, by simpa using rv⟩) (fun b u z => by have z' : (none : Option HO) = some u := z; cases z') (fun b z => absurd rfl z) fun z => absurd rfl z
  | none =>
    refine core (fun b => if b = a then some (.frz { cls := .type "list", data := .seq vs.toArray } (.lst (ns.map V.int))) else none) (fun b => ?_) (.inl (.inr ⟨{ cls := .type "list", data := .seq vs.toArray }, if_pos rfl⟩)) (fun b u z => ?_) (fun b z => ?_) fun _ => hk
    · by_cases hb : b = a
      · exact .inr ⟨_, _, if_pos hb⟩
      · exact .inl (if_neg hb)
    · by_cases hb : b = a
      · have z' := (if_pos hb).symm.trans z
        cases z'
        subst hb
        exact ⟨ha, by rw [List.length_map]; exact hl, vs, _, rv, ha⟩
      · have z' := (if_neg hb).symm.trans z
        cases z'
    · by_cases hb : b = a
      · exact hb
      · exact absurd (if_neg hb) z
end L2

namespace L2
open PySem PySem.Spec PyProof.Rows

noncomputable abbrev KOf {K : PySem.W.Frag} {h : Heap} (_ : K.In h) : PySem.W.Frag := K

theorem walk_of {l : PySem.W.OpenLaw} {n k : Nat} {q : Program} {loose : List Str} {XP : (Str → Option Value) → Heap → Prop} {YP : World → Heap → Prop} {d : DefRec} {K : Params → PySem.W.Frag} {CX : World → CXT} {sp : World → Sp} {x : Str}
    (hn : l.most = some n) (hn2 : n ≤ sizeLine) (hdf : d.params.defaults = []) (hr : Room k callerA)
    (hY : ∀ (w : World) (h : Heap), YP w h → (K w.params).In h)
    (F : ∀ (w : World) (mg : Str → Option Value) (fa : Addr) (h : Heap), (K w.params).In h → h.Ns mainGlobals mg → mg d.name = some (.ref fa) →
      ∃ fd : FuncData, (∀ (s : Shared) (u : Value), BindsTo s fd ⟨[u], []⟩ [(x, u)]) ∧
        ∀ base : Heap, (K w.params).In base → base.Ns mainGlobals mg → FnOk l.prog w (K w.params) mg base (CX w) k fa fd [x] (sp w))
    (hsp : ∀ (w : World) (H : Hp) (a : Addr) (ns : List Int), ns.length ≤ n → Only H → SqL (K w.params) H a (ns.map V.int) → sp w [.ref a] H (fun v _ => v = .bl true) fun _ _ _ => False)
    (hCX : ∀ (w : World) (H : Hp) (s : Shared) (e : Value) (s' : Shared), CX w [] H s (fun _ _ _ => False) e s' → False) :
    PySem.W.WalkO q loose XP YP l.row.toRowW d [] (fun f vs => PySem.call f vs) := by
  refine Att.attach_call hn hdf fun w s₀ s₁ mg mb fa o pm cd doc a vs ns G Y ho hd hcd hmg hobj hints hlen hg => ?_
  have KX := hY w _ Y
  obtain ⟨fd, hb, hF⟩ := F w mg fa _ KX G.T.g hmg
  exact law_call KX G.T.g G.T.b G.T.builtins G.T.nolimit hg hobj hints (Nat.le_trans hlen hn2) hr hF hb (fun H hO hS => hsp w H a ns hlen hO hS) fun H e s' => hCX w H s₁ e s'
end L2


namespace L2
open PySem PySem.Spec PyProof.Rows

noncomputable def defArgs (s : Stmt) : Arguments := match s with
  | .FunctionDef _ a _ _ _ _ _ _ _ _ => a
  | _ => { posonlyargs := [], args := [], vararg := none, kwonlyargs := [], kw_defaults := [], kwarg := none, defaults := [] }
noncomputable def defBody (s : Stmt) : List Stmt := match s with
  | .FunctionDef _ _ b _ _ _ _ _ _ _ => b
  | _ => []
noncomputable def defScope (s : Stmt) : Scope := match s with
  | .FunctionDef _ _ _ _ _ _ sc _ _ _ => sc
  | _ => { kind := .function, names := [], isGenerator := false, isCoroutine := false }

noncomputable abbrev CX0 : CXT := fun _ _ _ _ _ _ => False
noncomputable abbrev E0 : XK := fun _ _ _ => False
theorem pass0 {X : Cx} : Passes CX0 X E0 := fun _ _ _ _ _ _ _ h => h.elim

structure Fun (K : PySem.W.Frag) (x qual : Str) (st : Stmt) (f : Addr) (fd : FuncData) : Prop where
  ex : ∃ (oc : Value) (od : Option Addr) (kV doc pm : Value) (an : Option Addr) (cdv ct : Value) (osl : Array (Option Value)),
    fd = PySem.W.fnOf x qual (defArgs st) (defBody st) (defScope st) .none kV doc pm an cdv ct ∧ K.lookup f = some ⟨oc, od, .func fd, osl⟩ ∧ PySem.W.codeIn K cdv qual = true
  kp : PySem.W.keepIn K (.ref f) = true
section
variable {P : Program} {w : World} {K : PySem.W.Frag} {mg : Str → Option Value} {base : Heap}
theorem Fun.ok {x qual : Str} {st : Stmt} {f : Addr} {fd : FuncData} {N ps : List Str} {k : Nat} {sp : Sp} (F : Fun K x qual st f fd) (S : FnScope N ps (defScope st)) (len : ∀ vs H Q E, sp vs H Q E → vs.length = ps.length)
    (hbody : ∀ (cdv : Value) (A : Around) (outer : List Env) (s : Shared) (H : Hp) (vs : List V) (Q : VK) (E : XK), Room k (A.deeper (envOfC qual (defScope st) s.heap.objs.size f cdv)) → sp vs H Q E →
      ∃ t, PSs (cxOf CX0 P w K mg base N qual (defScope st) f cdv A outer s H E).nox (defBody st) t ∧ t { nx := fun _ H' => Q .non H', rt := Q } (start N vs) H) : FnOk P w K mg base CX0 (k + 1) f fd ps sp := by
  obtain ⟨oc, od, kV, doc, pm, an, cdv, ct, osl, rfl, lk, hcd⟩ := F.ex
  refine fn_of lk hcd S len fun A outer s H vs Q E hr hsp => ?_
  obtain ⟨t, h, q⟩ := hbody cdv A outer s H vs Q E hr hsp
  exact ⟨t, h.nox, q⟩
theorem Fun.binds {x qual : Str} {st : Stmt} {f : Addr} {fd : FuncData} {ps : List Str} (F : Fun K x qual st f fd)
    (h : ∀ (kV doc pm : Value) (an : Option Addr) (cdv ct : Value) (us : List Value), us.length = ps.length → bindArgs (PySem.W.fnOf x qual (defArgs st) (defBody st) (defScope st) .none kV doc pm an cdv ct) ⟨us, []⟩ = pure (ps.zip us)) : Binds K fd ps [] := by
  obtain ⟨oc, od, kV, doc, pm, an, cdv, ct, osl, rfl, lk, hcd⟩ := F.ex
  exact .all (h kV doc pm an cdv ct)
theorem fun_mk {x qual : Str} {st : Stmt} {f : Addr} {oc : Value} {od an : Option Addr} {osl : Array (Option Value)} {kV doc pm cdv ct : Value} (l : K.lookup f = some ⟨oc, od, .func (PySem.W.fnOf x qual (defArgs st) (defBody st) (defScope st) .none kV doc pm an cdv ct), osl⟩)
    (c : PySem.W.codeIn K cdv qual = true) (k : PySem.W.keepIn K (.ref f) = true) : Fun K x qual st f (PySem.W.fnOf x qual (defArgs st) (defBody st) (defScope st) .none kV doc pm an cdv ct) := ⟨⟨oc, od, kV, doc, pm, an, cdv, ct, osl, rfl, l, c⟩, k⟩
end
theorem small1000 {n : Nat} (h : n ≤ 1000) : n < sizeLine := Nat.lt_of_le_of_lt h (by decide)

section
variable {X : Cx}
theorem pv (i : Nat) {x : Str} {pos : Pos} (hN : X.N[i]? = some x := by rfl) (hv : Vis X.env.scope x := by first | exact Or.inl rfl | exact Or.inr (Or.inl rfl) | exact Or.inr (Or.inr rfl)) (hd : (x == ("__debug__" : Str)) = false := by decide)
    (hcd : (x == ("__classdict__" : Str)) = false := by decide) : PE X (.Name x pos) (tVar i) := pe_var hN hv hd hcd
end

theorem iteF {A B : Prop} (h : B) : if false = true then A else B := by
  rw [if_neg Bool.false_ne_true]
  exact h
theorem iteT {A B : Prop} (h : A) : if true = true then A else B := by
  rw [if_pos rfl]
  exact h
theorem ite2 {c A B : Prop} [Decidable c] (h1 : c → A) (h2 : ¬ c → B) : if c then A else B := by
  by_cases h : c
  · rw [if_pos h]
    exact h1 h
  · rw [if_neg h]
    exact h2 h
noncomputable def Same (H H' : Hp) : Prop := ∀ b o, H b = some o → H' b = some o
theorem Same.refl (H : Hp) : Same H H := fun _ _ h => h
theorem Same.trans {H H1 H2 : Hp} (a : Same H H1) (b : Same H1 H2) : Same H H2 := fun c o h => b c o (a c o h)
theorem Same.free {H H' : Hp} (e : Same H H') {l : Addr} (h : H' l = Option.none) : H l = Option.none := by
  cases q : H l with
  | none => rfl
  | some o =>
    rw [e l o q] at h
    cases h
theorem Same.seq {K : PySem.W.Frag} {H H' : Hp} {a : Addr} {xs : List V} (e : Same H H') (h : SqL K H a xs) : SqL K H' a xs := by
  rcases h with (h | ⟨o, h⟩) | h
  · exact .inl (.inl (e _ _ h))
  · exact .inl (.inr ⟨o, e _ _ h⟩)
  · exact .inr h

end L2

set_option maxHeartbeats 4000000
namespace L2
open PySem PySem.Spec PyProof.Rows

noncomputable def clOf (env : Env) : List (Str × NameKind) → List (Str × Addr) → List (Str × Addr)
  | [], cs => cs
  | (n, k) :: r, cs => clOf env r (if k == .free then (n, (env.cells.lookup n).getD 0) :: cs else cs)
theorem clOf_lookup {env : Env} {n : Str} {c : Addr} : ∀ {l : List (Str × NameKind)} {cs : List (Str × Addr)}, (∀ y ∈ l, y.2 = .free → ∃ c, env.cells.lookup y.1 = some c) →
    (clOf env l cs).lookup n = some c → cs.lookup n = some c ∨ env.cells.lookup n = some c
  | [], _, _, h => .inl h
  | (m, k) :: r, cs, hl, h => by
    have hr : ∀ y ∈ r, y.2 = .free → ∃ c, env.cells.lookup y.1 = some c := fun y hy => hl y (List.mem_cons_of_mem _ hy)
    rcases clOf_lookup hr h with q | q
    · by_cases hk : (k == NameKind.free) = true
      · rw [if_pos hk] at q
        obtain ⟨c', e⟩ := hl (m, k) List.mem_cons_self (by simpa using hk)
        rw [List.lookup_cons] at q
        cases hm : n == m with
        | true =>
          rw [hm] at q
          have q' : (env.cells.lookup m).getD 0 = c := Option.some.inj q
          have em : n = m := by simpa using hm
          rw [e] at q'
          have q2 : c' = c := q'
          rw [em, e, q2]
          exact .inr rfl
        | false =>
          rw [hm] at q
          exact .inl q
      · rw [if_neg hk] at q
        exact .inl q
    · exact .inr q
theorem clOf_has {env : Env} {n : Str} : ∀ {l : List (Str × NameKind)} {cs : List (Str × Addr)}, ((n, NameKind.free) ∈ l ∨ ∃ c, cs.lookup n = some c) → ∃ c, (clOf env l cs).lookup n = some c
  | [], _, h => by
    rcases h with h | h
    · simp at h
    · exact h
  | (m, k) :: r, cs, h => by
    refine clOf_has (l := r) ?_
    by_cases hn : (n, NameKind.free) ∈ r
    · exact .inl hn
    · refine .inr ?_
      rcases h with h | ⟨c, h⟩
      · rcases List.mem_cons.mp h with e | e
        · cases e
          rw [if_pos (by decide)]
          exact ⟨(env.cells.lookup n).getD 0, by rw [List.lookup_cons]; simp⟩
        · exact absurd e hn
      · by_cases hk : (k == NameKind.free) = true
        · rw [if_pos hk, List.lookup_cons]
          cases hm : n == m with
          | true => exact ⟨_, rfl⟩
          | false => exact ⟨c, h⟩
        · rw [if_neg hk]
          exact ⟨c, h⟩
theorem closure_is {scope : Scope} {env : Env} (h : ∀ y ∈ scope.names, y.2 = .free → ∃ c, env.cells.lookup y.1 = some c) : closureFor scope env = pure (clOf env scope.names []) := by
  have go : ∀ (l : List (Str × NameKind)) (cs : List (Str × Addr)), (∀ y ∈ l, y.2 = .free → ∃ c, env.cells.lookup y.1 = some c) →
      (forIn l cs (fun (x : Str × NameKind) (r : List (Str × Addr)) => if x.2 == NameKind.free then (do let a ← cellOf env x.1; pure (ForInStep.yield ((x.1, a) :: r))) else (pure (ForInStep.yield r) : Sem _)) : Sem _) = pure (clOf env l cs) := by
    intro l
    induction l with
    | nil => intro cs _; rfl
    | cons y r ih =>
      intro cs hl
      obtain ⟨n, k⟩ := y
      have hr : ∀ y ∈ r, y.2 = .free → ∃ c, env.cells.lookup y.1 = some c := fun y hy => hl y (List.mem_cons_of_mem _ hy)
      rw [List.forIn_cons]
      by_cases hk : (k == NameKind.free) = true
      · obtain ⟨c, e⟩ := hl (n, k) List.mem_cons_self (by simpa using hk)
        have e1 : cellOf env n = pure c := by unfold cellOf; rw [show env.cells.lookup n = some c from e]
        dsimp only
        rw [if_pos hk, e1]
        simp only [pure_bind]
        rw [ih _ hr]
        show _ = pure (clOf env r _)
        rw [if_pos hk, show env.cells.lookup n = some c from e]
        all_goals rfl
      · dsimp only
        rw [if_neg hk]
        simp only [pure_bind]
        rw [ih _ hr]
        show _ = pure (clOf env r _)
        rw [if_neg hk]
  have e : closureFor scope env = (forIn scope.names ([] : List (Str × Addr)) (fun (x : Str × NameKind) (r : List (Str × Addr)) => if x.2 == NameKind.free then (do let a ← cellOf env x.1; pure (ForInStep.yield ((x.1, a) :: r))) else (pure (ForInStep.yield r) : Sem _)) : Sem _) := by
    unfold closureFor
    first
      | rfl
      | (simp only [bind_pure]; rfl)
      | (simp; done)
  rw [e]
  exact go _ _ h

theorem relabel_free {env : Env} : ∀ {names : List (Str × NameKind)} {x : Str}, names.lookup x = some .free →
    (names.map fun (n, k) => if (k == NameKind.free && env.scope.kind == .function && env.kindOf n == some .cell) then (n, NameKind.cell) else (n, k)).lookup x = some .cell ∨
    (names.map fun (n, k) => if (k == NameKind.free && env.scope.kind == .function && env.kindOf n == some .cell) then (n, NameKind.cell) else (n, k)).lookup x = some .free
  | [], _, h => by simp at h
  | (n, k) :: r, x, h => by
    have ih := @relabel_free env r x
    cases hx : x == n with
    | true =>
      simp only [List.lookup_cons, hx] at h
      cases h
      by_cases hc : (NameKind.free == NameKind.free && env.scope.kind == .function && env.kindOf n == some .cell) = true
      · refine .inl ?_
        rw [List.map_cons]
        dsimp only
        rw [if_pos hc, List.lookup_cons, hx]
      · refine .inr ?_
        rw [List.map_cons]
        dsimp only
        rw [if_neg hc, List.lookup_cons, hx]
    | false =>
      simp only [List.lookup_cons, hx] at h
      rw [List.map_cons]
      dsimp only
      by_cases hc : (k == NameKind.free && env.scope.kind == .function && env.kindOf n == some .cell) = true
      · rw [if_pos hc, List.lookup_cons, hx]; exact ih h
      · rw [if_neg hc, List.lookup_cons, hx]; exact ih h
structure CompOk (X : Cx) (scope : Scope) (x : Str) (fr : List (Str × Nat)) : Prop where
  kind : scope.kind = .function
  cell : ∀ y ∈ scope.names, y.2 ≠ .cell
  free : ∀ y ∈ scope.names, y.2 = .free → X.env.kindOf y.1 = some .cell ∨ X.env.kindOf y.1 = some .free
  loc : ∀ y ∈ scope.names, y.2 = .local → scope.names.lookup y.1 = some .local
  name : scope.names.lookup x = some .local
  nd : (x :: fr.map (·.1)).Nodup
  fr : ∀ p ∈ fr, X.N[p.2]? = some p.1 ∧ scope.names.lookup p.1 = some .free

noncomputable def frees (fr : List (Str × Nat)) (σ : St) : St := fr.map fun p => σ.getD p.2 none
section
variable {X : Cx} {scope : Scope} {x : Str} {fr : List (Str × Nat)}
theorem CompOk.cells {pins : List (Addr × Obj)} {σ : St} {H : Hp} {s : Shared} (c : CompOk X scope x fr) (I : Inv X pins σ H s) : ∀ y ∈ scope.names, y.2 = .free → ∃ c, X.env.cells.lookup y.1 = some c :=
  fun y hy hf => I.ok.has y.1 (c.free y hy hf)
theorem CompOk.was {pins : List (Addr × Obj)} {σ : St} {H : Hp} {s : Shared} (c : CompOk X scope x fr) (I : Inv X pins σ H s) {y : Str} {b : Addr} (h : (clOf X.env scope.names []).lookup y = some b) : X.env.cells.lookup y = some b := by
  rcases clOf_lookup (c.cells I) h with q | q
  · simp at q
  · exact q

noncomputable def tSetC (i : Nat) (te : TE) : TS := fun D σ H => te σ H fun v H1 => D.nx (σ.set i (some v)) H1
end

section
variable {K : PySem.W.Frag} {b a : Addr} {xs : List V} {te : TE} {fr : List (Str × Nat)} {σ : St} {H : Hp} {Q : VK}
end
end L2

namespace L2
open PySem PySem.Spec PyProof.Rows

theorem ObjOk.there {P : Program} {w : World} {H : Hp} {h : Heap} {a : Addr} {o : HO} (x : ObjOk P w H h a o) : ∃ ob, h.get? a = some ob := by
  cases o with
  | lst xs => obtain ⟨_, _, _, _, e⟩ := x; exact ⟨_, e⟩
  | tup xs => obtain ⟨_, _, _, ob, e, _⟩ := x; exact ⟨ob, e⟩
  | dK kvs => obtain ⟨_, _, _, _, o, _, _, e, _⟩ := x; exact ⟨_, e⟩
  | dT kvs => obtain ⟨_, _, _, _, o, _, _, e, _⟩ := x; exact ⟨_, e⟩
  | set S n => obtain ⟨o, _, _, _, e, _⟩ := x; exact ⟨_, e⟩
  | ins C dx fs => obtain ⟨_, _, _, e, _⟩ := x; exact ⟨_, e⟩
  | own y => exact x
  | xd fs => obtain ⟨_, ⟨_, _, _, e, _⟩, _⟩ := x; exact ⟨_, e⟩
  | rng lo hi => obtain ⟨_, _, _, e⟩ := x; exact ⟨_, e⟩
  | frz ob u => exact ⟨_, x.1⟩
  | tbl ps => exact ⟨_, x⟩
  | met f y => exact ⟨_, x⟩
  | ext φ => exact x.2.1

noncomputable abbrev Cov (fs : List Addr) (h₀ : Heap) (H : Hp) (h B : Heap) : Prop := ∀ b o, h.get? b = some o → b ∉ fs → ((∃ o', h₀.get? b = some o') ∨ ∃ u, H b = some u) → B.get? b = some o
noncomputable def FlyX (X : Cx) (pins : List (Addr × Obj)) (H : Hp) (e : Addr) (C : Value) (h : Heap) : Prop := ∃ B a0, Heap.FlyingW B X.stack e C a0 h ∧ Cov (frs X.stack) X.s₀.heap H h B ∧ ∀ p ∈ X.pn ++ pins, B.get? p.1 = some p.2
noncomputable def CX1 (P : Program) (w : World) : CXT := fun outer H s E ev s' => ∃ e C H' B a0, ev = .ref e ∧ s'.os = s.os ∧ AllBare s'.gens ∧ Un (frs outer) [] H H' s.heap s'.heap ∧ HOk P w H' s'.heap ∧
  Heap.FlyingW B outer e C a0 s'.heap ∧ Cov (frs outer) s.heap H' s'.heap B ∧ E C none H'
noncomputable abbrev XE := St → Value → Hp → Prop
noncomputable def Lands (X : Cx) (EX : XE) : Prop := ∀ (pins : List (Addr × Obj)) (σ : St) (H : Hp) (s : Shared) (e : Addr) (C : Value), Inv X pins σ H s → FlyX X pins H e C s.heap → EX σ C H → X.xe (.ref e) s
noncomputable def LandsN (X : Cx) (EX : XE) : Prop := ∀ (pins : List (Addr × Obj)) (σ : St) (H : Hp) (s : Shared) (h' : Heap) (e : Addr) (C : Value) (vs : List Value), Inv X pins σ H s → Heap.MadeExcOf s.heap h' e C vs → EX σ C H → X.xe (.ref e) { s with heap := h' }

theorem fly_out {X : Cx} {pins : List (Addr × Obj)} {σ : St} {H : Hp} {s : Shared} {h'' B : Heap} (I : Inv X pins σ H s) (hst : X.stack = X.env :: X.outer) (hfr : X.env.frame = some X.env.locals) (hex : X.ex = [])
    (stay : B.StaysIn h'') (sm : s.heap.UpToSlots h'') (cov : Cov (frs X.stack) X.s₀.heap H s.heap B) :
    Un X.fs [] X.H₀ H X.s₀.heap h'' ∧ HOk X.prog X.w H h'' ∧ Cov X.fs X.s₀.heap H h'' B := by
  have u := I.base
  rw [hex] at u
  have hfs : frs X.stack = X.env.locals :: X.fs := by
    rw [hst]
    unfold frs
    rw [List.filterMap_cons, hfr]
    rfl
  have old : ∀ b o, X.s₀.heap.get? b = some o → b ∉ X.fs → b ∉ frs X.stack := fun b o e hb hm => by
    rw [hfs] at hm
    rcases List.mem_cons.mp hm with z | z
    · exact absurd (Nat.lt_of_lt_of_le (Heap.lt_size e) I.ok.above) (by rw [z]; exact Nat.lt_irrefl _)
    · exact hb z
  have trk : ∀ b v, H b = some v → b ∉ frs X.stack := fun b v e hm => by
    have := I.stkFree b hm
    rw [e] at this
    cases this
  have keepO : ∀ b o, s.heap.get? b = some o → b ∉ frs X.stack → ((∃ o', X.s₀.heap.get? b = some o') ∨ ∃ v, H b = some v) → h''.get? b = some o := fun b o e hb hc => stay b o (cov b o e hb hc)
  have frm : ∀ b, b ∈ X.fs → ∀ o, s.heap.get? b = some o → ∃ sl, h''.get? b = some { o with slots := sl } := fun b hb o e => by
    obtain ⟨_, o', e', nf⟩ := I.funs.mem hb
    rw [e] at e'
    cases e'
    exact sm b o e nf
  refine ⟨⟨fun b o e n hb hx => ?_, fun b o e n hb hx => ?_, u.free, fun b o e hx => ?_, u.tups, u.frzs, u.tbls⟩, fun a o ha => ?_, fun b o e hb hc => ?_⟩
  · exact keepO b o (u.keep b o e n hb hx) (old b o e hb) (.inl ⟨o, e⟩)
  · obtain ⟨sl, e1⟩ := u.slot b o e n hb hx
    obtain ⟨sl', e2⟩ := frm b hb _ e1
    exact ⟨sl', e2⟩
  · obtain ⟨o1, e1⟩ := u.there b o e hx
    by_cases hb : b ∈ X.fs
    · obtain ⟨sl, e2⟩ := frm b hb _ e1
      exact ⟨_, e2⟩
    · exact ⟨o1, keepO b o1 e1 (old b o e hb) (.inl ⟨o, e⟩)⟩
  · refine (I.hok a o ha).stay (fun b v hb q => ?_) (fun _ q => q) fun _ _ q => q
    rcases hb with hb | hb
    · subst hb
      exact keepO b v q (trk b o ha) (.inr ⟨o, ha⟩)
    · exact keepO b v q (trk b _ hb) (.inr ⟨_, hb⟩)
  · rcases hc with ⟨o', e'⟩ | ⟨v, e'⟩
    · obtain ⟨o1, e1⟩ := u.there b o' e' (by simp)
      have q := keepO b o1 e1 (old b o' e' hb) (.inl ⟨o', e'⟩)
      rw [e] at q
      cases q
      exact cov b o e1 (old b o' e' hb) (.inl ⟨o', e'⟩)
    · obtain ⟨o1, e1⟩ := (I.hok b v e').there
      have q := keepO b o1 e1 (trk b v e') (.inr ⟨v, e'⟩)
      rw [e] at q
      cases q
      exact cov b o e1 (trk b v e') (.inr ⟨v, e'⟩)

section
variable {P : Program} {w : World} {K : PySem.W.Frag} {mg : Str → Option Value} {base : Heap} {N : List Str} {qual : Str} {scope : Scope} {f : Addr} {cd : Value} {A : Around} {outer : List Env} {s₀ : Shared} {H₀ : Hp} {E : XK}
theorem landsN_def : LandsN (cxOf (CX1 P w) P w K mg base N qual scope f cd A outer s₀ H₀ E) (fun _ C H => E C none H) := by
  intro pins σ H s h' e C vs I M hE
  have hfu := I.stack
  have hid := PySem.W.funFrames_hide (as := frs (cxOf (CX1 P w) P w K mg base N qual scope f cd A outer s₀ H₀ E).stack) hfu (fun env he a ha => List.mem_filterMap.mpr ⟨env, he, ha⟩)
  refine wpAny_leaves_madeW (s := { s with heap := h' }) (h := s.heap) I.ok.frames rfl (fun b o q => PySem.W.of_hideAll _ q) hid M fun h'' t fl'' _ _ sm => ?_
  obtain ⟨un, ok, cv⟩ := fly_out I rfl rfl rfl fl''.1 ((Heap.UpToSlots.of_keeps M.keeps).trans sm) fun b o q hb _ => PySem.W.hideAll_get _ q hb
  exact ⟨e, C, H, _, _, rfl, I.os, I.bare, un, ok, fl'', cv, hE⟩
end

section
variable {X : Cx} {EX : XE} {k : Nat} {f : Addr} {fd : FuncData} {ps : List Str} {sp : Sp} {dvs : List V} {ds : List Value} {x : Str} {p pos : Pos} {e : Expr} {es : List Expr} {t : TA}
noncomputable def tCallX (sp : Sp) (dvs : List V) (EX : XE) (t : TA) : TE := fun σ H Q => t σ H fun vs H1 => sp (vs ++ dvs) H1 Q fun C _ H' => EX σ C H'
theorem run_fnX {pins : List (Addr × Obj)} {σ : St} {H : Hp} {s : Shared} {Q : VK} {us : List Value} {vs : List V} (F : FnOk X.prog X.w X.K X.mg X.base (CX1 X.prog X.w) k f fd ps sp) (hr : Room k X.A) (hb : Binds X.K fd ps ds) (hd : Vals dvs ds) (hx : Lands X EX)
    (hex : X.ex = []) (I : Inv X pins σ H s) (r : Vals vs us) (h : sp (vs ++ dvs) H Q fun C _ H' => EX σ C H') : wpAny (model X.prog X.w) X.A (call (.ref f) us) (EP X pins σ Q) X.xe s := by
  have r2 : Vals (vs ++ dvs) (us ++ ds) := r.append hd
  have hl : (us ++ ds).length = ps.length := by rw [← r2.length]; exact F.len _ _ _ _ h
  refine wpAny_call (codeAny_mono (F.run X.A X.stack s H ⟨us, []⟩ (us ++ ds) (vs ++ dvs) Q _ hr I.env0 (hb s us I.kIn hl) r2 h) fun r s' hq => ?_)
  cases r with
  | error ev =>
    obtain ⟨e, C, H', B, a0, rfl, os, bare, un, ok, fl, cov, q⟩ := hq
    have J : Inv X pins σ H' s' := I.call' os un ok bare fun b z => absurd z (by simp)
    refine hx pins σ H' s' e C J ⟨B, a0, fl, fun b o e1 hb hc => cov b o e1 hb ?_, fun p hp => ?_⟩ q
    · rcases hc with ⟨o', e'⟩ | hc
      · obtain ⟨o2, e2⟩ := I.base.there b o' e' (by rw [hex]; simp)
        exact .inl ⟨o2, e2⟩
      · exact .inr hc
    · obtain ⟨e1, n1, ne, nf, _⟩ := J.pin p hp
      refine cov p.1 p.2 e1 (fun hm => ?_) (.inl ⟨_, (I.pin p hp).1⟩)
      rcases List.mem_cons.mp (I.stkSub p.1 hm) with z | z
      · exact ne z
      · exact nf z
  | ok fl =>
    cases fl with
    | ret u => exact I.after hq
    | next => exact False.elim hq
    | brk => exact False.elim hq
    | cont => exact False.elim hq
theorem pe_callX (F : FnOk X.prog X.w X.K X.mg X.base (CX1 X.prog X.w) k f fd ps sp) (hr : Room k X.A) (hg : Gl X x) (hm : X.mg x = some (.ref f)) (hk : PySem.W.keepIn X.K (.ref f) = true) (hb : Binds X.K fd ps ds) (hd : Vals dvs ds) (hx : Lands X EX)
    (ha : PA X (e :: es) t) (hex : X.ex = [] := by rfl) (hdb : (x == ("__debug__" : Str)) = false := by decide) (he : starEach (e :: es) X.env = (false, eval e X.env) :: starEach es X.env := by rfl) (hpl : (backTo pos (starEach es X.env)).any (·.1) = false := by rfl) :
    PE X (.Call (.Name x p) (e :: es) [] pos) (tCallX sp dvs EX t) := by
  intro pins s σ H Q I h
  refine wpAny_Call_Name_kw (ld_glob I hg hm ?_ hdb)
  refine PySem.W.callWith_K (h₀ := X.base) I.ok.mod.kin hk (thn (ha pos pins s σ H _ I h) fun us s1 ⟨vs, H1, I1, r, q⟩ => ⟨I1.kIn, ?_⟩) he hpl
  exact run_fnX F hr hb hd hx hex I1 r q
theorem passes1 {P : Program} {w : World} {Y : Cx} : Passes (CX1 P w) Y E0 := fun _ _ _ _ _ _ _ h => by
  obtain ⟨_, _, _, _, _, _, _, _, _, _, _, _, q⟩ := h
  exact q.elim
end

theorem excObj {K : PySem.W.Frag} {h : Heap} {C : Addr} {bmB : List Value} {newId : String} (KX : K.In h) (hq : PySem.W.excIn K C bmB newId = true) :
    ∃ bm N nm qn bs hd sn sub ab col dd k0 k1 k2 k3 k5 mN, h.get? C = some (excClassObj nm qn C N bs bm hd sn sub ab col dd k0 k1 k2 k3 k5 newId) ∧ h.Ns N mN ∧ mN "__init__" = none ∧ OwnTail h bmB bm := by
  revert hq
  unfold PySem.W.excIn
  split
  · next dd cd sl lk =>
    split
    · next C1 bm k0 k1 k2 k3 nw k5 em es =>
      intro hq
      simp only [Bool.and_eq_true, beq_iff_eq, Bool.not_eq_true'] at hq
      obtain ⟨⟨⟨⟨⟨e1, e2⟩, e3⟩, e4⟩, e5⟩, e6⟩ := hq
      subst e1 e2
      cases cd with
      | mk nm bs mro ns qn hd sn sub ab col del =>
        have em' : mro = Value.ref C1 :: bm := em
        have e3' : del = false := e3
        subst em' e3'
        have esl : sl = #[k0, k1, k2, k3, some (Value.builtin nw), k5] := by
          cases sl with
          | mk l => exact congrArg Array.mk es
        subst esl
        exact ⟨bm, ns, nm, qn, bs, hd, sn, sub, ab, col, dd, k0, k1, k2, k3, k5, _, KX _ _ lk, Heap.Ns.of_isNs (PySem.W.isNs_of_in KX e5), PySem.W.nsMap_none_of_in KX e5 e6, PySem.W.tail_of_in KX e4⟩
    · intro z; cases z
  · intro z; cases z
theorem OwnTail.up {h h' : Heap} {bmB bm : List Value} (T : OwnTail h bmB bm) (k : ∀ b o, h.get? b = some o → h'.get? b = some o) : OwnTail h' bmB bm := T.keeps k

section
variable {X : Cx} {EX : XE} {C : Addr} {x : Str} {np cpos pos : Pos} {e₀ : Expr} {rest : List Expr} {t : TA} {bmB : List Value} {B newId initId : String}
noncomputable def tRaise (C : Addr) (EX : XE) (t : TA) : TS := fun _ σ H => t σ H fun vs H1 => vs.length ≤ sizeLine ∧ EX σ (.ref C) H1
theorem ps_raise (hc : X.calm = true) (hx : LandsN X EX) (hg : Gl X x) (hm : X.mg x = some (.ref C)) (hC : PySem.W.excIn X.K C bmB newId = true) (FB : ExcBaseFacts B newId initId bmB) (ha : PA X (e₀ :: rest) t)
    (hdb : (x == ("__debug__" : Str)) = false := by decide) (he : starEach (e₀ :: rest) X.env = (false, eval e₀ X.env) :: starEach rest X.env := by rfl) (hpl : (backTo cpos (starEach rest X.env)).any (·.1) = false := by rfl) :
    PS X (.Raise (some (.Call (.Name x np) (e₀ :: rest) [] cpos)) none pos) (tRaise C EX t) := by
  intro pins s σ H D I h
  obtain ⟨bm, N, nm, q, bs, hd, sn, sub, ab, col, dd, k0, k1, k2, k3, k5, mN, hcls, hns, hni, T⟩ := excObj I.mod.kin hC
  have hpl' : (backTo cpos (starEach (e₀ :: rest) X.env)).any (·.1) = false := by
    rw [he]
    show (false || (backTo cpos (starEach rest X.env)).any (·.1)) = false
    rw [hpl]
    rfl
  refine wpAny_Raise_call_subT (C := C) (nm := nm) (q := q) (N := N) (bs := bs) (bm := bm) (hdct := hd) (sn := sn) (sub := sub) (ab := ab) (col := col) (dd := dd) (k0 := k0) (k1 := k1) (k2 := k2) (k3 := k3) (k5 := k5) FB (mN := mN) (T.hasType FB.hasBase) (I.ok.hd hc) hpl' hni
    (ld_glob I hg hm ⟨rfl, ?_⟩ hdb)
  have hw := ha cpos pins s σ H _ I h
  rw [he] at hw ⊢
  refine Calls.evalArgs_plain (thn hw fun us s2 ⟨vs, H2, I2, r, z, q2⟩ => ⟨rfl, ?_, I2.bk _ _ hcls, hns.keeps I2.bk, T.keeps I2.bk, fun h' e M => hx pins σ H2 s2 h' e _ us I2 M q2⟩)
  show us.length ≤ sizeLine
  rw [← r.length]
  exact z
end

section
variable {X : Cx} {pins : List (Addr × Obj)} {σ : St} {H : Hp} {s : Shared}
theorem Inv.flown {h' B : Heap} (I : Inv X pins σ H s) (hst : X.stack = X.env :: X.outer) (hfr : X.env.frame = some X.env.locals) (hex : X.ex = []) (stay : B.StaysIn h') (sm : s.heap.UpToSlots h') (cov : Cov (frs X.stack) X.s₀.heap H s.heap B)
    (hp : ∀ p ∈ X.pn ++ pins, B.get? p.1 = some p.2) : Inv X pins σ H { s with heap := h' } := by
  obtain ⟨un, ok, _⟩ := fly_out I hst hfr hex stay sm cov
  have cl : ∀ c v, s.heap.IsCell c v → h'.IsCell c v := fun c v ⟨o, e, d⟩ => by
    obtain ⟨sl, e'⟩ := sm c o e fun vs z => by rw [d] at z; cases z
    exact ⟨_, e', d⟩
  refine ⟨I.ok, I.os, I.bare, by rw [hex]; exact un, ?_, fun x c e => ?_, I.free, I.freeC, fun p hm => ?_, ok, I.len⟩
  · obtain ⟨m, hn, hl⟩ := I.loc
    refine ⟨m, sm.ns hn, fun i x v e1 e2 e3 => ?_⟩
    obtain ⟨u, r, l⟩ := hl i x v e1 e2 e3
    refine ⟨u, r, ?_⟩
    rcases l with l | ⟨k, c, e, z⟩
    · exact .inl l
    · exact .inr ⟨k, c, e, cl c _ z⟩
  · obtain ⟨v, z⟩ := I.cell x c e
    exact ⟨v, cl c v z⟩
  · obtain ⟨_, r⟩ := I.pin p hm
    exact ⟨stay _ _ (hp p hm), r⟩
noncomputable def ExcAt (e : Addr) (C : Value) : HO := .ext fun h => ∃ o, h.get? e = some o ∧ o.cls = C
theorem Inv.trackE {e : Addr} {C : Value} {oe : Obj} {vs : Array Value} (I : Inv X pins σ H s) (he : s.heap.get? e = some oe) (hc : oe.cls = C) (hd : oe.data = .fields vs) (hn : H e = none) (hnew : X.s₀.heap.get? e = none) (hpn : ∀ p ∈ X.pn ++ pins, p.1 ≠ e) :
    Inv X pins σ (upd H e (ExcAt e C)) s := by
  have ne : ∀ b u, H b = some u → b ≠ e := fun b u q z => by rw [z, hn] at q; cases q
  have nL : X.env.locals ≠ e := fun z => by
    obtain ⟨m, ⟨o, es, ep, ho, hdd, _⟩, _⟩ := I.loc
    rw [z, he] at ho
    cases ho
    rw [hd] at hdd
    cases hdd
  have nC : ∀ x c, X.env.cells.lookup x = some c → c ≠ e := fun x c q z => by
    obtain ⟨v, o, ho, hdd⟩ := I.cell x c q
    rw [z, he] at ho
    cases ho
    rw [hd] at hdd
    cases hdd
  have u := I.base
  refine ⟨I.ok, I.os, I.bare, ⟨u.keep, u.slot, fun b o q n hx => ?_, u.there, fun b xs q => ?_, fun b o v q => ?_, fun b ps q => ?_⟩, I.loc, I.cell, ?_, fun x c q => ?_, fun p hp => ?_, fun a o q => ?_, I.len⟩
  · rw [upd_ne (fun z => by rw [z, hnew] at q; cases q)]
    exact u.free b o q n hx
  · have := u.tups b xs q
    rw [upd_ne (ne _ _ this)]
    exact this
  · have := u.frzs b o v q
    rw [upd_ne (ne _ _ this)]
    exact this
  · obtain ⟨m, e1⟩ := u.tbls b ps q
    exact ⟨m, by rw [upd_ne (ne _ _ e1)]; exact e1⟩
  · rw [upd_ne nL]; exact I.free
  · rw [upd_ne (nC x c q)]; exact I.freeC x c q
  · obtain ⟨e1, n1, r⟩ := I.pin p hp
    exact ⟨e1, by rw [upd_ne (hpn p hp)]; exact n1, r⟩
  · by_cases ha : a = e
    · subst ha
      rw [upd_same] at q
      cases q
      exact ⟨⟨oe, he, hc⟩, ⟨oe, he⟩, fun h1 h2 ⟨o, e1, r⟩ k => ⟨o, k o e1, r⟩⟩
    · rw [upd_ne ha] at q
      exact (I.hok a o q).stay (fun _ _ _ z => z) (fun b z => by rw [upd_ne (ne _ _ z)]; exact z) fun b xs z => by rw [upd_ne (ne _ _ z)]; exact z
theorem Inv.unbind {h' : Heap} {m : Str → Option Value} {u : Option Value} {i : Nat} {n : Str} (I : Inv X pins σ H s) (hN : X.N.Nodup) (hi : X.N[i]? = some n) (hl : X.env.scope.names.lookup n = some .local)
    (hn : s.heap.Ns X.env.locals m) (hn' : h'.Ns X.env.locals (fun x => if x = n then u else m x)) (hs : Heap.SameBut X.env.locals s.heap h') (hm : ∀ (j : Nat) x v, X.N[j]? = some x → σ[j]? = some (some v) → Vis X.env.scope x → ∃ u, RelV v u ∧ Look X.env s.heap m x u) :
    Inv X pins (σ.set i none) H { s with heap := h' } := by
  obtain ⟨oL, esL, epL, hoL, _⟩ := id hn
  have nL : ∀ b o, X.s₀.heap.get? b = some o → b ≠ X.env.locals := fun b o e => Nat.ne_of_lt (Nat.lt_of_lt_of_le (Heap.lt_size e) I.ok.above)
  have kp : ∀ b o, b ≠ X.env.locals → s.heap.get? b = some o → h'.get? b = some o := fun b o hb e => (hs.2 b hb).trans e
  have nT : ∀ b v, H b = some v → b ≠ X.env.locals := fun b v e z => by rw [z, I.free] at e; cases e
  have u0 := I.base
  refine ⟨I.ok, I.os, I.bare, ⟨fun b o e n hb hx => kp b o (nL b o e) (u0.keep b o e n hb hx), fun b o e n hb hx => ?_, u0.free, fun b o e hx => ?_, u0.tups, u0.frzs, u0.tbls⟩, ⟨_, hn', fun j x v e1 e2 e3 => ?_⟩, fun x c e => ?_, I.free, I.freeC, fun p hp => ?_, fun a o e => ?_, by simpa using I.len⟩
  · obtain ⟨sl, e1⟩ := u0.slot b o e n hb hx
    exact ⟨sl, kp b _ (nL b o e) e1⟩
  · obtain ⟨o1, e1⟩ := u0.there b o e hx
    exact ⟨o1, kp b o1 (nL b o e) e1⟩
  · have hj : j ≠ i := fun z => by
      subst z
      have hlt : j < σ.length := by rw [I.len]; exact (List.getElem?_eq_some_iff.mp hi).1
      rw [List.getElem?_set_self hlt] at e2
      cases e2
    rw [List.getElem?_set_ne (Ne.symm hj)] at e2
    have hx : x ≠ n := fun z => hj (nodup_ix hN e1 (z ▸ hi))
    obtain ⟨w, r, l⟩ := hm j x v e1 e2 e3
    refine ⟨w, r, ?_⟩
    rcases l with ⟨k, e⟩ | ⟨k, c, e, z⟩
    · exact .inl ⟨k, by simp [hx, e]⟩
    · exact .inr ⟨k, c, e, z.sameBut hs (I.cne x c e)⟩
  · obtain ⟨v, z⟩ := I.cell x c e
    exact ⟨v, z.sameBut hs (I.cne x c e)⟩
  · obtain ⟨e1, n1, ne, r⟩ := I.pin p hp
    exact ⟨kp _ _ ne e1, n1, ne, r⟩
  · refine (I.hok a o e).stay (fun b v hb q => kp b v ?_ q) (fun _ q => q) fun _ _ q => q
    rcases hb with hb | hb
    · rw [hb]; exact nT a o e
    · exact nT b _ hb
end

noncomputable abbrev Cx.body (X : Cx) (pn : List (Addr × Obj)) (E : Value → Shared → Prop) : Cx := { X with pn := pn, xe := E }
noncomputable abbrev Cx.suite (X : Cx) (e : Addr) : Cx := { X with A := X.A.mark (some (.ref e)), calm := false, xe := fun _ _ => False }
section
variable {X : Cx} {pins pins' : List (Addr × Obj)} {σ : St} {H : Hp} {s : Shared} {E : Value → Shared → Prop} {e : Addr}
theorem Inv.intry (I : Inv X pins σ H s) : Inv (X.body (X.pn ++ pins) E) [] σ H s :=
  ⟨⟨I.ok.mod, I.ok.kind, I.ok.glob, I.ok.blt, I.ok.above, I.ok.inj, I.ok.has, I.ok.cab, I.ok.hd, I.ok.frames, I.ok.stk, I.ok.exf, I.ok.bs, I.ok.bsz, I.ok.noex, I.ok.exfs, I.ok.funs, I.ok.frf⟩,
    I.os, I.bare, I.base, I.loc, I.cell, I.free, I.freeC, fun p hp => I.pin p (by simpa using hp), I.hok, I.len⟩
theorem Inv.offtry (I : Inv (X.body (X.pn ++ pins) E) pins' σ H s) : Inv X pins σ H s :=
  ⟨⟨I.ok.mod, I.ok.kind, I.ok.glob, I.ok.blt, I.ok.above, I.ok.inj, I.ok.has, I.ok.cab, I.ok.hd, I.ok.frames, I.ok.stk, I.ok.exf, I.ok.bs, I.ok.bsz, I.ok.noex, I.ok.exfs, I.ok.funs, I.ok.frf⟩,
    I.os, I.bare, I.base, I.loc, I.cell, I.free, I.freeC, fun p hp => I.pin p (List.mem_append_left _ hp), I.hok, I.len⟩
theorem Inv.insuite (I : Inv X pins σ H s) : Inv (X.suite e) pins σ H s :=
  ⟨⟨I.ok.mod, I.ok.kind, I.ok.glob, I.ok.blt, I.ok.above, I.ok.inj, I.ok.has, I.ok.cab, (fun z => by cases z), I.ok.frames, I.ok.stk, I.ok.exf, I.ok.bs, I.ok.bsz, I.ok.noex, I.ok.exfs, I.ok.funs, I.ok.frf⟩,
    I.os, I.bare, I.base, I.loc, I.cell, I.free, I.freeC, I.pin, I.hok, I.len⟩
theorem Inv.offsuite (I : Inv (X.suite e) pins σ H s) (ok : X.Ok) : Inv X pins σ H s :=
  ⟨ok, I.os, I.bare, I.base, I.loc, I.cell, I.free, I.freeC, I.pin, I.hok, I.len⟩
theorem SP.offtry {D : Ends} {f : Flow} (h : SP (X.body (X.pn ++ pins) E) [] D f s) : SP X pins D f s := by
  cases f with
  | next => obtain ⟨σ', H', J, q⟩ := h; exact ⟨σ', H', J.offtry, q⟩
  | brk => obtain ⟨σ', H', J, q⟩ := h; exact ⟨σ', H', J.offtry, q⟩
  | cont => obtain ⟨σ', H', J, q⟩ := h; exact ⟨σ', H', J.offtry, q⟩
  | ret u => obtain ⟨v, σ', H', J, r, q⟩ := h; exact ⟨v, σ', H', J.offtry, r, q⟩
end
noncomputable def Ends.gone (D : Ends) (i : Nat) : Ends := { nx := fun σ H => D.nx (σ.set i none) H, rt := D.rt, bk := fun σ H => D.bk (σ.set i none) H, ct := fun σ H => D.ct (σ.set i none) H }
noncomputable def tTry (K : PySem.W.Frag) (C0 : Addr) (i : Nat) (tb : XE → TS) (ts : TS) : TS := fun D σ H =>
  tb (fun σ' C H' => PySem.W.exmOne K C (.ref C0) = some true ∧ ∀ e, H' e = none → ts (D.gone i) (σ'.set i (some (.ref e))) (upd H' e (ExcAt e C))) D σ H
section
variable {X : Cx} {C0 : Addr} {x n : Str} {np hpos pos : Pos} {i : Nat} {body suite : List Stmt} {b₀ : Stmt} {tb : XE → TS} {ts : TS}
theorem gone_ok {pins : List (Addr × Obj)} {D : Ends} {f : Flow} {s : Shared} {e : Addr} (ok : X.Ok) (hN : X.N.Nodup) (hi : X.N[i]? = some n) (hl : X.env.scope.names.lookup n = some .local) (h : SP (X.suite e) pins (D.gone i) f s) :
    wpAny (model X.prog X.w) X.A (do bindName X.env n .none; unbindBehindTheSuite X.env n hpos) (fun _ s' => SP X pins D f s') X.xe s := by
  have hcls : (X.env.scope.kind == .class || (X.env.scope.kind == .module && X.env.locals != X.env.globals)) = false := by rw [ok.kind]; rfl
  have main : ∀ (σ' : St) (H' : Hp), Inv (X.suite e) pins σ' H' s → ∀ (R : Shared → Prop), (∀ s', Inv X pins (σ'.set i none) H' s' → R s') →
      wpAny (model X.prog X.w) X.A (do bindName X.env n .none; unbindBehindTheSuite X.env n hpos) (fun _ s' => R s') X.xe s := by
    intro σ' H' J R hR
    have J1 := J.offsuite ok
    refine wpAny_bind (wpAny_bindName (store_ok (v := .non) J1 hN hi (.inl hl) rfl (fun s1 J2 => ?_) (.inr hl)))
    obtain ⟨m, hn, hm⟩ := J2.loc
    have hlt : i < σ'.length := by rw [J1.len]; exact (List.getElem?_eq_some_iff.mp hi).1
    obtain ⟨u, ru, lk⟩ := hm i n .non hi (List.getElem?_set_self hlt) (.inl hl)
    have hmn : m n = some u := by
      rcases lk with ⟨_, z⟩ | ⟨z, _⟩
      · exact z
      · rcases z with z | z <;> (have z' : X.env.scope.names.lookup n = _ := z; rw [hl] at z'; cases z')
    unfold unbindBehindTheSuite
    refine wpAny_onRaise (wpAny_mono (wpAny_unbindName_local hl hn hmn hcls fun h' v hn' hs => ?_) (fun _ _ q => q) fun _ _ q => wpAny_standAt q)
    refine hR _ ?_
    have J3 := J2.unbind hN hi hl hn hn' hs hm
    rw [List.set_set] at J3
    exact J3
  cases f with
  | next => obtain ⟨σ', H', J, q⟩ := h; exact main σ' H' J _ fun s' J' => ⟨_, H', J', q⟩
  | brk => obtain ⟨σ', H', J, q⟩ := h; exact main σ' H' J _ fun s' J' => ⟨_, H', J', q⟩
  | cont => obtain ⟨σ', H', J, q⟩ := h; exact main σ' H' J _ fun s' J' => ⟨_, H', J', q⟩
  | ret u => obtain ⟨v, σ', H', J, r, q⟩ := h; exact main σ' H' J _ fun s' J' => ⟨v, _, H', J', r, q⟩
theorem ps_try (hst : X.stack = X.env :: X.outer) (hfr : X.env.frame = some X.env.locals) (hex : X.ex = []) (hN : X.N.Nodup) (hi : X.N[i]? = some n) (hl : X.env.scope.names.lookup n = some .local)
    (hg : Gl X x) (hm : X.mg x = some (.ref C0)) (hb : ∀ pn E EX, Lands (X.body pn E) EX → PSs (X.body pn E) body (tb EX)) (hs : ∀ e, PSs (X.suite e) (b₀ :: suite) ts)
    (hdb : (x == ("__debug__" : Str)) = false := by decide) : PS X (.Try body [.ExceptHandler (some (.Name x np)) (some n) (b₀ :: suite) hpos] [] [] pos) (tTry X.K C0 i tb ts) := by
  intro pins s σ H D I h
  refine wpAny_Try_except (wpAny_mono (hb (X.pn ++ pins) (fun ev s₁ => wpAny (model X.prog X.w) X.A (noteFrame ev X.env) (fun _ s₂ => wpAny (model X.prog X.w) X.A (setFlight ev none) (fun _ s₃ =>
    wpAny (model X.prog X.w) X.A (handleBy ev X.env [.ExceptHandler (some (.Name x np)) (some n) (b₀ :: suite) hpos]) (SP X pins D) X.xe s₃) X.xe s₂) X.xe s₁) _ ?_ [] s σ H D I.intry h) (fun f s1 q => ?_) fun _ _ q => q)
  · -- an exception arrives
    intro pins' σ' H' s1 e C J F hE
    obtain ⟨hmt, hsuite⟩ := hE
    have J1 : Inv X pins σ' H' s1 := J.offtry
    obtain ⟨B, a0, fl, cov, cvp⟩ := F
    have fl' : Heap.FlyingW B (X.env :: X.outer) e C a0 s1.heap := hst ▸ fl
    have hfrm : X.A.frames = some (X.env :: X.outer) := I.ok.frames.trans (by rw [hst])
    have pn1 : ∀ p ∈ X.pn ++ pins, B.get? p.1 = some p.2 := fun p hp => cvp p (List.mem_append_left _ hp)
    -- where e lies
    have notB : ∀ b o, B.get? b = some o → b ≠ e := fun b o q z => by have := fl'.2.1; rw [← z, q] at this; cases this
    obtain ⟨oe1, vs1, he1, hc1, hd1, _⟩ := fl'.first
    have nfr : e ∉ frs X.stack := fun hm => by
      obtain ⟨_, o, ho, nf⟩ := J1.stack.mem hm
      rw [he1] at ho
      cases ho
      exact nf vs1 hd1
    have hEn : H' e = none := by
      cases q : H' e with
      | none => rfl
      | some v => exact absurd rfl (notB e _ (cov e _ he1 nfr (.inr ⟨v, q⟩)))
    have hE0 : X.s₀.heap.get? e = none := by
      cases q : X.s₀.heap.get? e with
      | none => rfl
      | some o => exact absurd rfl (notB e _ (cov e _ he1 nfr (.inl ⟨o, q⟩)))
    refine wpAny_looks_onW hfrm hfr fl' fun h4 held4 sm4 => ?_
    refine wpAny_landsW held4 fun h5 fl5 sm5 => ?_
    have J5 : Inv X pins σ' H' { s1 with heap := h5 } := J1.flown hst hfr hex fl5.1 (sm4.trans sm5) cov pn1
    have J5' : Inv (X.suite e) pins σ' H' { s1 with heap := h5 } := J5.insuite
    obtain ⟨ob, hob, hobc⟩ := fl5.there
    refine wpAny_handleBy_cons (codeAny_handlers_test (ld_glob (X := X.suite e) J5' hg hm ?_ hdb)) (by intro q; cases q)
    have LT : PySem.W.Looks (model X.prog X.w) h5 (typeOf (.ref e)) C := by
      rw [← hobc]
      exact (PySem.W.Looks.ld hob).andThen .now
    refine (PySem.W.exm_one J5.kIn LT hmt).here ?_
    show codeAny _ _ _ _ _
    refine codeAny_handlers_suite_as ?_
    refine lands_againW fl5 fun h6 fl6 sm6 => ?_
    have J6 : Inv X pins σ' H' { s1 with heap := h6 } := J1.flown hst hfr hex fl6.1 ((sm4.trans sm5).trans sm6) cov pn1
    obtain ⟨oe, vs, he, hc, hd, _⟩ := fl6.first
    have J7 := J6.trackE he hc hd hEn hE0 fun p hp => notB _ _ (pn1 p hp)
    refine store_ok (X := X.suite e) J7.insuite hN hi (.inl hl) (show RelV (.ref e) (.ref e) from rfl) (fun s8 J8 => ?_) (.inr hl)
    refine wpAny_mono (hs e pins s8 _ _ _ J8 (hsuite e hEn)) (fun f s9 q => ?_) fun _ _ q => q.elim
    exact gone_ok I.ok hN hi hl q
  · cases f with
    | next => exact wpAny_execs_nil (SP.offtry q)
    | brk => exact SP.offtry q
    | cont => exact SP.offtry q
    | ret u => exact SP.offtry q
end
end L2

namespace L2
open PySem PySem.Spec PyProof.Rows
section
variable {X : Cx}
theorem op_mulB : OpR X (binaryOp .Mult) (rI (fun i j => IntMulOk i j) fun i j => .int (i * j)) := opI fun _ _ _ _ _ _ _ hc q => mul_int q hc
noncomputable def CDivB (_ j : Int) : Prop := j ≠ 0 ∧ j.natAbs.log2 < 9000
theorem op_fdivB : OpR X (binaryOp .FloorDiv) (rI CDivB fun i j => .int (i.fdiv j)) := opI fun _ _ _ _ _ _ _ hc q => floordiv_int hc.1 q (.inl (PyProof.noPylong_of_log2 hc.2))
end

mutual
inductive Dt (K : PySem.W.Frag) (H : Hp) : V → PyData → Prop
  | non : Dt K H .non .none
  | bl (b) : Dt K H (.bl b) (.bool b)
  | int (i) : Dt K H (.int i) (.int i)
  | str (x) : Dt K H (.str x) (.str x)
  | lst {a xs ds} : SqL K H a xs → Dts K H xs ds → Dt K H (.ref a) (.list ds)
  | tup {a xs ds} : SqT K H a xs → Dts K H xs ds → Dt K H (.ref a) (.tuple ds)
inductive Dts (K : PySem.W.Frag) (H : Hp) : List V → List PyData → Prop
  | nil : Dts K H [] []
  | cons {x xs d ds} : Dt K H x d → Dts K H xs ds → Dts K H (x :: xs) (d :: ds)
end
theorem Dts.ints {K : PySem.W.Frag} {H : Hp} : ∀ (ns : List Int), Dts K H (ns.map V.int) (ns.map PyData.int)
  | [] => .nil
  | n :: r => .cons (.int n) (Dts.ints r)
section
variable {X : Cx} {pins : List (Addr × Obj)} {σ : St} {H : Hp} {s : Shared}
mutual
theorem Dt.reads (I : Inv X pins σ H s) : ∀ {x : V} {d : PyData} {u : Value}, Dt X.K H x d → RelV x u → ∃ as, Reads s.heap u d as
  | _, _, _, .non, r => by cases (show _ = Value.none from r); exact ⟨_, .none⟩
  | _, _, _, .bl b, r => by cases (show _ = Value.bool b from r); exact ⟨_, .bool b⟩
  | _, _, _, .int i, r => by obtain ⟨t, e⟩ := (show ∃ t, _ = Value.int i t from r); cases e; exact ⟨_, .int i t⟩
  | _, _, _, .str x, r => by obtain ⟨t, e⟩ := (show ∃ t, _ = Value.str x t from r); cases e; exact ⟨_, .str x t⟩
  | _, _, _, .lst (a := a) h hd, r => by
    cases (show _ = Value.ref a from r)
    obtain ⟨its, rv, ⟨o, n, e, c, _, dd⟩, _⟩ := I.list h
    obtain ⟨as, q⟩ := Dts.reads I hd rv
    exact ⟨_, .list e c dd (by simpa using q)⟩
  | _, _, _, .tup (a := a) h hd, r => by
    cases (show _ = Value.ref a from r)
    obtain ⟨its, rv, ⟨o, e, c, n, dd⟩, _⟩ := I.tuple h
    obtain ⟨as, q⟩ := Dts.reads I hd rv
    exact ⟨_, .tuple e c dd (by simpa using q)⟩
theorem Dts.reads (I : Inv X pins σ H s) : ∀ {xs : List V} {ds : List PyData} {us : List Value}, Dts X.K H xs ds → Vals xs us → ∃ as, ReadsAll s.heap us ds as
  | _, _, _, .nil, r => by cases r; exact ⟨_, .nil⟩
  | _, _, _, .cons h t, r => by
    cases r with
    | cons r1 r2 =>
      obtain ⟨as, q1⟩ := Dt.reads I h r1
      obtain ⟨bs, q2⟩ := Dts.reads I t r2
      exact ⟨_, .cons q1 q2⟩
end
end
section
variable {X : Cx}
noncomputable def rEqD (K : PySem.W.Frag) : R2 := fun x y H Q => ∃ d d', Dt K H x d ∧ Dt K H y d' ∧ SeqAt.shaped d = true ∧ SeqAt.shaped d' = true ∧ SeqAt.noMix d d' = true ∧ Q (.bl (same d d')) H
noncomputable def rNeD (K : PySem.W.Frag) : R2 := fun x y H Q => ∃ d d', Dt K H x d ∧ Dt K H y d' ∧ SeqAt.shaped d = true ∧ SeqAt.shaped d' = true ∧ SeqAt.noMix d d' = true ∧ Q (.bl (!same d d')) H
theorem op_eqD (hu : X.A.units + 64 < cLine) : OpR X (compareOp .Eq) (rEqD X.K) := by
  intro pins s σ H x y v u Q I rx ry h
  obtain ⟨d, d', h1, h2, s1, s2, mx, q⟩ := h
  obtain ⟨as, r1⟩ := h1.reads I rx
  obtain ⟨bs, r2⟩ := h2.reads I ry
  exact eq_dataH_same r1 r2 s1 s2 hu mx ⟨.bl (same d d'), H, I, rfl, q⟩
theorem op_neD (hu : X.A.units + 64 < cLine) : OpR X (compareOp .NotEq) (rNeD X.K) := by
  intro pins s σ H x y v u Q I rx ry h
  obtain ⟨d, d', h1, h2, s1, s2, mx, q⟩ := h
  obtain ⟨as, r1⟩ := h1.reads I rx
  obtain ⟨bs, r2⟩ := h2.reads I ry
  exact ne_dataH_same r1 r2 s1 s2 hu mx ⟨.bl (!same d d'), H, I, rfl, q⟩
end

theorem PI.or {X : Cx} {tg l : Expr} {wi wi' : TI} (h : PI X tg l wi) (h' : PI X tg l wi') : PI X tg l (fun σ H R => wi σ H R ∨ wi' σ H R) := by
  intro pins s σ H R I q
  rcases q with q | q
  · exact h pins s σ H R I q
  · exact h' pins s σ H R I q

structure ExcCls (K : PySem.W.Frag) (C : Addr) : Prop where
  ga : PySem.W.findIn K (.ref C) "__getattribute__" = some (some (.builtin "BaseException.__getattribute__"))
  gt : PySem.W.findIn K (.ref C) "__getattr__" = some none
  ca : PySem.W.findIn K (.ref C) "__class__" = some (some (.builtin "object.__class__"))
  cg : PySem.W.specialIn K (.builtin "object.__class__") "__get__" = some (some (.builtin "getset_descriptor.__get__"))
  tk : PySem.W.takesIn K (.builtin "object.__class__") = some true
  ob : PySem.W.mroIn K C (.type "object") = some true
  bx : PySem.W.mroIn K C (.type "BaseException") = some true
  cl : (PySem.W.clsIn K C).isSome = true
theorem exc_class {prog : Program} {w : World} {A : Around} {E : Value → Shared → Prop} {s : Shared} {K : PySem.W.Frag} {x C : Addr} {Q : Option Value → Shared → Prop} (F : ExcCls K C) (KX : K.In s.heap) (ho : ∃ o, s.heap.get? x = some o ∧ o.cls = .ref C)
    (h : Q (some (.ref C)) { s with toks := s.toks + 1 }) : wpAny (model prog w) A (getAttr? (.ref x) "__class__") Q E s := by
  obtain ⟨hh, g, d, t, os⟩ := s
  obtain ⟨o, ho, hc⟩ := ho
  have L0 : PySem.W.Looks (model prog w) hh (typeOf (.ref x)) (.ref C) := hc ▸ (PySem.W.Looks.ld ho).andThen .now
  have L1 := PySem.W.looks_findIn (M := model prog w) KX F.ga
  have L2 := PySem.W.looks_findIn (M := model prog w) KX F.gt
  have L3 := PySem.W.looks_findIn (M := model prog w) KX F.ca
  have L4 := PySem.W.looks_specialIn (M := model prog w) KX F.cg
  have L5 := PySem.W.looks_takesIn (M := model prog w) KX F.tk
  have L6 := PySem.W.looks_mroIn (M := model prog w) KX F.ob
  have L7 := PySem.W.looks_mroIn (M := model prog w) KX F.bx
  unfold getAttr? getAttrBy? getAttrBy
  refine wpAny_bind (wpAny_mkText (wpAny_bind (wpAny_attempt (wpAny_holding (wpAny_bind (L0.at (wpAny_bind (L1.at ?_))))))))
  show wpAny _ _ (getAttrByItsOwn _ _ _ _ _ _) _ _ _
  unfold getAttrByItsOwn
  refine wpAny_bind (show wpAny _ _ (hookBefore (.ref C)) _ _ _ from L2.at ?_)
  refine wpAny_bind (wpAny_attempt (wpAny_holding ?_))
  show wpAny _ _ (boundAndCalled _ _ _) _ _ _
  unfold boundAndCalled
  rw [PySem.F.attr_ValueError.ga.bind (.ref x)]
  refine wpAny_bind (wpAny_pure (wpAny_call ?_))
  refine codeAny_call_builtin PySem.F.attr_ValueError.ga.plain PySem.F.entry_bexc_ga ?_
  have hk : builtinKind "BaseException.__getattribute__" = some .slot := by decide +kernel
  have hsplit : splitId "BaseException.__getattribute__" = some ("BaseException", "__getattribute__") := by decide +kernel
  have hargs := PySem.F.args_bexc_ga (.ref x) (.str "__class__" t)
  have LI : PySem.W.Looks (model prog w) hh (isInstance (.ref x) (.type "BaseException")) true := L0.andThen L7
  show wpAny _ _ (checkBuiltinCall "BaseException.__getattribute__" ⟨[.ref x, .str "__class__" t], []⟩) _ _ _
  simp only [checkBuiltinCall, hk, hsplit]
  refine wpAny_bind (LI.at ?_)
  repeat wp_step
  rw [hc]
  refine L3.at ?_
  refine wpAny_bind (show wpAny _ _ (Builtin.ObjectAttr.getOf (some (.builtin "object.__class__"))) _ _ _ from L4.at ?_)
  have LD : PySem.W.Looks (model prog w) hh (Builtin.ObjectAttr.dataDescriptor? (some (.builtin "object.__class__")) (some (.builtin "getset_descriptor.__get__"))) (some (.builtin "getset_descriptor.__get__", .builtin "object.__class__")) := L5.andThen .now
  refine wpAny_bind (LD.at ?_)
  repeat wp_step
  have LO : PySem.W.Looks (model prog w) hh (isInstance (.ref x) (.type "object")) true := L0.andThen L6
  refine codeAny_call_builtin PySem.W.KF.slot_gs.plain PySem.W.KF.entry_gs (PySem.W.KF.slot_gs.check _ _ _ _ _ _ _ _ PySem.W.KF.type_class (PySem.W.KF.args_gs _ _ _) ?_)
  (unfold Builtin.«getset_descriptor.__get__» Builtin.Getset_descriptor.descrGet; rw [PySem.W.dga_obj]; refine wpAny_bind (wpAny_pure ?_))
  (unfold Builtin.Getset_descriptor.descrGetter Builtin.Getset_descriptor.descrCheckInstance Builtin.Getset_descriptor.descrNameAndClass; simp only [PySem.W.KF.owner_class])
  refine wpAny_bind (wpAny_bind (wpAny_pure (wpAny_bind (LO.at (wpAny_pure ?_)))))
  repeat wp_step
  refine ⟨Code.quiet_builtin _ (by decide +kernel), codeAny_builtin PySem.W.KF.entry_class ?_⟩
  (unfold Builtin.«object.__class__» shownTypeOf; repeat wp_step)
  rw [hc]
  exact wpAny_pure (wpAny_pure h)
theorem kitx_exc {K : PySem.W.Frag} {x C : Addr} (F : ExcCls K C) : PySem.W.KitX K (.ref x) (.ref C) (fun h => ∃ o, h.get? x = some o ∧ o.cls = .ref C) where
  ty := fun M h _ ⟨o, ho, hc⟩ => hc ▸ (PySem.W.Looks.ld ho).andThen .now
  it := fun M h KX _ => by
    have q := F.cl
    unfold PySem.W.clsIn at q
    split at q
    · next lk =>
      intro A' Q' E' s' k z
      (unfold isType loadHead; exact wpAny_bind (wpAny_loadPart (k _ _ (KX _ _ lk)) (wpAny_pure z)))
    · cases q
  ne := fun h tp dd its n sl KX htp => by
    have q := F.cl
    refine Bool.eq_false_iff.mpr fun z => ?_
    have e : C = tp := Value.ref.inj (beq_iff_eq.mp z)
    subst e
    unfold PySem.W.clsIn at q
    split at q
    · next lk => exact absurd ((KX _ _ lk).symm.trans htp) (by intro z2; cases z2)
    · cases q
  ca := fun KX p k => exc_class F KX p k
inductive TyX (K : PySem.W.Frag) (H : Hp) : V → Value → Prop where
  | ty {x : V} {t : Value} (h : TyOf K H x t) : TyX K H x t
  | exc {e C : Addr} (h : H e = some (ExcAt e (.ref C))) (F : ExcCls K C) : TyX K H (.ref e) (.ref C)
  | tupS {a : Addr} {xs : List V} (h : SqT K H a xs) : TyX K H (.ref a) (.type "tuple")
noncomputable def clsV : V → Value
  | .ty n => .type n
  | .ref a => .ref a
  | _ => .none
noncomputable def isCls : V → Bool
  | .ty _ => true
  | .ref _ => true
  | _ => false
noncomputable def rIsi (K : PySem.W.Frag) : List V → Hp → VK → Prop := fun vs H Q => ∃ x c t b, vs = [x, c] ∧ TyX K H x t ∧ isCls c = true ∧ PySem.W.kitOne K t (clsV c) = some b ∧ Q (.bl b) H
theorem call_isi {X : Cx} : CallR X (.builtin "isinstance") (rIsi X.K) := by
  intro pins s σ H xs us Q I rv h
  obtain ⟨x, c, t, b, rfl, ty, ic, e, q⟩ := h
  obtain ⟨u, w, rfl, r1, r2⟩ := rv.two
  have ew : w = clsV c := by
    cases c <;> first | exact r2 | cases ic
  subst ew
  have fin : ∀ tk, EP X pins σ Q (.bool b) { s with toks := tk } := fun tk => ⟨.bl b, H, I.tok tk, rfl, q⟩
  cases ty with
  | ty h => exact isinst_ok I r1 h e fin
  | exc h F =>
    obtain rfl : u = _ := r1
    obtain ⟨φ, _, _⟩ := (show ObjOk X.prog X.w H s.heap _ (ExcAt _ _) from I.hok _ _ h)
    exact PySem.W.kia_one (kitx_exc F) I.kIn φ e (fun z => nomatch z) fin
  | tupS h =>
    obtain rfl : u = _ := r1
    obtain ⟨its, _, ⟨o, h1, h2, _⟩, _⟩ := I.tuple h
    exact PySem.W.kia_one PySem.W.kitx_tuple I.kIn ⟨o, h1, h2⟩ e (fun z => nomatch z) fin

structure RoomA (k : Nat) (A : Around) : Prop where
  dp : A.depth + 3 * k + 5 < recursionLimit
  un : A.units + 16 * k + 200 < cLine
theorem Room.a {k : Nat} {A : Around} (r : Room k A) : RoomA k A := ⟨r.dp, r.un⟩
theorem RoomA.mono {j k : Nat} {A : Around} (r : RoomA k A) (h : j ≤ k) : RoomA j A := ⟨by have := r.dp; omega, by have := r.un; omega⟩
theorem RoomA.deeper {k : Nat} {A : Around} (r : RoomA (k + 1) A) (env : Env) : RoomA k (A.deeper env) :=
  ⟨by have := r.dp; show A.depth + 1 + 3 * k + 5 < _; omega, by have := r.un; show A.units + 3 + 16 * k + 200 < _; omega⟩
theorem RoomA.mark {k : Nat} {A : Around} (r : RoomA k A) (v : Option Value) : RoomA k (A.mark v) := ⟨r.dp, r.un⟩
theorem RoomA.calm {k : Nat} {A : Around} (r : RoomA k A) : Room k { A with handled := none } := ⟨rfl, r.dp, r.un⟩
structure FnOkA (P : Program) (w : World) (K : PySem.W.Frag) (mg : Str → Option Value) (base : Heap) (k : Nat) (f : Addr) (fd : FuncData) (ps : List Str) (sp : Sp) : Prop where
  len : ∀ vs H Q E, sp vs H Q E → vs.length = ps.length
  run : ∀ (A : Around) (outer : List Env) (s : Shared) (H : Hp) (args : Args) (us : List Value) (vs : List V) (Q : VK) (E : XK), RoomA k A → Env0 P w K mg base A outer s H → BindsTo s fd args (ps.zip us) → Vals vs us → sp vs H Q E →
    codeAny (model P w) A (.call (.ref f) args) (CR CX0 outer P w H s Q E) s
theorem FnOkA.ok {P : Program} {w : World} {K : PySem.W.Frag} {mg : Str → Option Value} {base : Heap} {k : Nat} {f : Addr} {fd : FuncData} {ps : List Str} {sp : Sp} (F : FnOkA P w K mg base k f fd ps sp) : FnOk P w K mg base CX0 k f fd ps sp :=
  ⟨F.len, fun A outer s H args us vs Q E hr => F.run A outer s H args us vs Q E hr.a⟩
noncomputable abbrev cxA (P : Program) (w : World) (K : PySem.W.Frag) (mg : Str → Option Value) (base : Heap) (N : List Str) (qual : Str) (scope : Scope) (f : Addr) (cd : Value) (A : Around) (outer : List Env) (s : Shared) (H : Hp) (E : XK) : Cx :=
  { cxOf CX0 P w K mg base N qual scope f cd A outer s H E with calm := false, xe := fun _ _ => False }
section
variable {P : Program} {w : World} {K : PySem.W.Frag} {mg : Str → Option Value} {base : Heap}
theorem Fun.okA {x qual : Str} {st : Stmt} {f : Addr} {fd : FuncData} {N ps : List Str} {k : Nat} {sp : Sp} (F : Fun K x qual st f fd) (S : FnScope N ps (defScope st)) (len : ∀ vs H Q E, sp vs H Q E → vs.length = ps.length)
    (hbody : ∀ (cdv : Value) (A : Around) (outer : List Env) (s : Shared) (H : Hp) (vs : List V) (Q : VK) (E : XK), RoomA k (A.deeper (envOfC qual (defScope st) s.heap.objs.size f cdv)) → sp vs H Q E →
      ∃ t, PSs (cxA P w K mg base N qual (defScope st) f cdv A outer s H E) (defBody st) t ∧ t { nx := fun _ H' => Q .non H', rt := Q } (start N vs) H) : FnOkA P w K mg base (k + 1) f fd ps sp := by
  obtain ⟨oc, od, kV, doc, pm, an, cdv, ct, osl, rfl, lk, hcd⟩ := F.ex
  refine ⟨len, fun A outer s H args us vs Q E hr e0 hb r hsp => ?_⟩
  have hl := len _ _ _ _ hsp
  have kp : ∀ b o, base.get? b = some o → s.heap.get? b = some o := fun b o e => (e0.bs b o e).1
  have hkind : ∀ y ∈ ps.zip us, (defScope st).names.lookup y.1 = some .local ∨ ((defScope st).names.lookup y.1 = some .cell ∧ ((cellsFrom (s.heap.objs.size + 1) (defScope st).names []).lookup y.1).isSome = true) := fun ⟨n, v⟩ hy => by
    rcases S.par n (List.of_mem_zip hy).1 with q | q
    · exact .inl q
    · exact .inr ⟨q, PySem.W.cellsFrom_some _ _ _ (.inl q)⟩
  refine codeAny_call_function (by have := hr.dp; omega) (e0.mod.kin.keeps kp _ _ lk) rfl S.co S.gen rfl (PySem.W.codeRec_of (e0.mod.kin.keeps kp) hcd) (hb _ _ _ _ ?_)
  refine wpAny_newFunctionEnv_cells S.kind hkind fun env he s1 x => ?_
  subst he
  refine ⟨(e0.mod.nolimit.keeps kp).keeps x.toInCall.keep, codeAny_func ?_⟩
  obtain ⟨t, ht, hq⟩ := hbody cdv A outer s H vs Q E (hr.deeper _) hsp
  have I0 : Inv (cxOf CX0 P w K mg base N qual (defScope st) f cdv { A with handled := none } outer s H E) [] (start N vs) H s1 :=
    inv_start S rfl (⟨e0.frames, e0.mod, e0.bs, e0.bsz, e0.funs, e0.frf, e0.hok, e0.bare⟩ : Env0 P w K mg base { A with handled := none } outer s H) hl r x
  have I : Inv (cxA P w K mg base N qual (defScope st) f cdv A outer s H E) [] (start N vs) H s1 :=
    ⟨⟨I0.ok.mod, I0.ok.kind, I0.ok.glob, I0.ok.blt, I0.ok.above, I0.ok.inj, I0.ok.has, I0.ok.cab, (fun z => by cases z), Around.frames_deeper e0.frames, I0.ok.stk, I0.ok.exf, I0.ok.bs, I0.ok.bsz, I0.ok.noex, I0.ok.exfs, I0.ok.funs, I0.ok.frf⟩,
      I0.os, I0.bare, I0.base, I0.loc, I0.cell, I0.free, I0.freeC, I0.pin, I0.hok, I0.len⟩
  refine wpAny_mono (ht [] s1 (start N vs) H _ I hq) (fun fl s' hs => ?_) fun _ _ z => z.elim
  cases fl with
  | ret u => obtain ⟨v, σ', H', J, rv, q⟩ := hs; exact ⟨v, H', J.os, J.bare, J.base, J.hok, rv, q⟩
  | next => obtain ⟨σ', H', J, q⟩ := hs; exact ⟨.non, H', J.os, J.bare, J.base, J.hok, rfl, q⟩
  | brk => obtain ⟨_, _, _, q⟩ := hs; exact q.elim
  | cont => obtain ⟨_, _, _, q⟩ := hs; exact q.elim
end
section
variable {X : Cx} {k : Nat} {f : Addr} {fd : FuncData} {ps : List Str} {sp : Sp} {dvs : List V} {ds : List Value} {x : Str} {p pos : Pos} {e : Expr} {es : List Expr} {t : TA}
theorem pe_callA (F : FnOkA X.prog X.w X.K X.mg X.base k f fd ps sp) (hr : RoomA k X.A) (hg : Gl X x) (hm : X.mg x = some (.ref f)) (hk : PySem.W.keepIn X.K (.ref f) = true) (hb : Binds X.K fd ps ds) (hd : Vals dvs ds)
    (ha : PA X (e :: es) t) (hdb : (x == ("__debug__" : Str)) = false := by decide) (he : starEach (e :: es) X.env = (false, eval e X.env) :: starEach es X.env := by rfl) (hpl : (backTo pos (starEach es X.env)).any (·.1) = false := by rfl) :
    PE X (.Call (.Name x p) (e :: es) [] pos) (tCall sp dvs E0 t) := by
  intro pins s σ H Q I h
  refine wpAny_Call_Name_kw (ld_glob I hg hm ?_ hdb)
  refine PySem.W.callWith_K (h₀ := X.base) I.ok.mod.kin hk (thn (ha pos pins s σ H _ I h) fun us s1 ⟨vs, H1, I1, r, q⟩ => ⟨I1.kIn, ?_⟩) he hpl
  have r2 : Vals (vs ++ dvs) (us ++ ds) := r.append hd
  have hl : (us ++ ds).length = ps.length := by rw [← r2.length]; exact F.len _ _ _ _ q
  refine wpAny_call (codeAny_mono (F.run X.A X.stack s1 H1 ⟨us, []⟩ (us ++ ds) (vs ++ dvs) Q E0 hr I1.env0 (hb s1 us I1.kIn hl) r2 q) fun r s' hq => ?_)
  cases r with
  | error e => exact False.elim hq
  | ok fl =>
    cases fl with
    | ret u => exact I1.after hq
    | next => exact False.elim hq
    | brk => exact False.elim hq
    | cont => exact False.elim hq
end
end L2

namespace L2
open PySem PySem.Spec PyProof.Rows
section
variable {X : Cx}
theorem op_eqZ : OpR X (compareOp .Eq) (rI0 fun i j => .bl (decide (i = j))) := opB0 fun i j _ _ _ _ _ q => eq_int (by rw [Bool.beq_eq_decide_eq]; exact q)
theorem op_neZ : OpR X (compareOp .NotEq) (rI0 fun i j => .bl (!decide (i = j))) := opB0 fun i j _ _ _ _ _ q => ne_int (by rw [bne, Bool.beq_eq_decide_eq]; exact q)
theorem PS.nox {st : Stmt} {t : TS} (h : PS X.nox st t) : PS X st t := fun pins s σ H D I hw =>
  wpAny_mono (h pins s σ H D (I.wish _) hw) (fun _ _ q => q.unwish) fun _ _ z => z.elim
end
section
variable {P : Program} {w : World} {K : PySem.W.Frag} {mg : Str → Option Value} {base : Heap}
theorem Fun.okX {x qual : Str} {st : Stmt} {f : Addr} {fd : FuncData} {N ps : List Str} {k : Nat} {sp : Sp} (F : Fun K x qual st f fd) (S : FnScope N ps (defScope st)) (len : ∀ vs H Q E, sp vs H Q E → vs.length = ps.length)
    (hbody : ∀ (cdv : Value) (A : Around) (outer : List Env) (s : Shared) (H : Hp) (vs : List V) (Q : VK) (E : XK), Room k (A.deeper (envOfC qual (defScope st) s.heap.objs.size f cdv)) → sp vs H Q E →
      ∃ t, PSs (cxOf (CX1 P w) P w K mg base N qual (defScope st) f cdv A outer s H E) (defBody st) t ∧ t { nx := fun _ H' => Q .non H', rt := Q } (start N vs) H) : FnOk P w K mg base (CX1 P w) (k + 1) f fd ps sp := by
  obtain ⟨oc, od, kV, doc, pm, an, cdv, ct, osl, rfl, lk, hcd⟩ := F.ex
  exact fn_of lk hcd S len fun A outer s H vs Q E hr hsp => hbody cdv A outer s H vs Q E hr hsp
end
end L2
namespace Att
open PySem PySem.W PySem.Calls PyProof.Rows
theorem ofPy_ints : ∀ ns : List Int, ofPys (ns.map PyData.int) = ns.map WData.int
  | [] => rfl
  | n :: r => by
    show ofPy (.int n) :: ofPys (r.map PyData.int) = _
    rw [ofPy_ints r]
    rfl
theorem lay_bits {ns : List Int} (h : (WData.list (ns.map WData.int)).layable = true) : ∀ n ∈ ns, Builtin.Int.intBits n ≤ 1048576 := fun n hn => by
  have e : ofPy (.list (ns.map PyData.int)) = WData.list (ns.map WData.int) := by
    show WData.list (ofPys (ns.map PyData.int)) = _
    rw [ofPy_ints]
  have sh : PySem.Spec.Shape.has (.list .int) (.list (ns.map PyData.int)) = true := by
    simp [PySem.Spec.Shape.has]
  exact intBits_le_of_item hn (layable0_of_all (lay0_ofPy (s := .list .int) rfl sh (by rw [e]; exact h)))
theorem attach_callB {l : OpenLaw} {n : Nat} {q : Program} {loose : List Str} {XP : (Str → Option Value) → Heap → Prop} {YP : World → Heap → Prop} {d : DefRec} (hn : l.most = some n) (hdf : d.params.defaults = [])
    (call : ∀ (w : World) (s₀ s₁ : Shared) (mg mb : Str → Option Value) (fa : Addr) (a : Addr) (vs : List Value) (ns : List Int), Ground q loose [] XP w s₀ mg mb s₁.heap → YP w s₁.heap → mg d.name = some (.ref fa) →
      s₁.heap.get? a = some { cls := .type "list", data := .seq vs.toArray } → IntsAre vs ns → ns.length ≤ n → (∀ m ∈ ns, Builtin.Int.intBits m ≤ 1048576) → s₁.gens = #[] →
      codeAny (model l.prog w) callerA (.call (.ref fa) ⟨[.ref a], []⟩) (fun r s' => r = .ok (.ret (.bool true)) ∧ OldK s₁.heap s'.heap ∧ s'.os = s₁.os ∧ AllBare s'.gens) s₁) :
    WalkO q loose XP YP l.row.toRowW d [] (fun f vs => PySem.call f vs) := by
  intro w s₀ s₁ mg mb G Y fa o pm cd doc dV kV ho hd hcd hD hmg hg args vals as hpre hlay hrd hwl hlo
  obtain rfl : dV = .none := Dflts.none hD hdf
  obtain rfl : kV = .none := Dflts.noKw hD
  obtain ⟨a, vs, ns, rfl, rfl, hobj, hints, hlen⟩ := script_of hn hpre hwl
  have hb := lay_bits (layableW_arg hlay _ List.mem_cons_self)
  refine enter_call (codeAny_mono (call w s₀ s₁ mg mb fa a vs ns G Y hmg hobj hints hlen hb hg) fun r s' hq => ?_)
  obtain ⟨rfl, h2, h3, h4⟩ := hq
  exact ⟨.inl ⟨.bool true, .bool true, [], rfl, fun _ => rfl, .bool true, post_true l _, fun _ => ⟨List.Pairwise.nil, fun _ hm => (nomatch hm)⟩⟩, h2, h3, h4⟩
end Att
namespace L2
open PySem PySem.Spec PyProof.Rows
noncomputable def spLaw (K : PySem.W.Frag) : Sp := fun vs H Q _ => ∃ (a : Addr) (ns : List Int), vs = [.ref a] ∧ SqL K H a (ns.map V.int) ∧ ns.length ≤ 63 ∧ (∀ m ∈ ns, Builtin.Int.intBits m ≤ 1048576) ∧ ∀ H', Q (.bl true) H'
theorem walkB {l : PySem.W.OpenLaw} {k : Nat} {q : Program} {loose : List Str} {XP : (Str → Option Value) → Heap → Prop} {YP : World → Heap → Prop} {d : DefRec} {K : Params → PySem.W.Frag} {x : Str}
    (hn : l.most = some 63) (hdf : d.params.defaults = []) (hr : Room k callerA) (hY : ∀ (w : World) (h : Heap), YP w h → (K w.params).In h)
    (F : ∀ (w : World) (mg : Str → Option Value) (fa : Addr) (h : Heap), (K w.params).In h → h.Ns mainGlobals mg → mg d.name = some (.ref fa) →
      ∃ fd : FuncData, (∀ (s : Shared) (u : Value), BindsTo s fd ⟨[u], []⟩ [(x, u)]) ∧ ∀ base : Heap, (K w.params).In base → base.Ns mainGlobals mg → FnOk l.prog w (K w.params) mg base CX0 k fa fd [x] (spLaw (K w.params))) :
    PySem.W.WalkO q loose XP YP l.row.toRowW d [] (fun f vs => PySem.call f vs) := by
  refine Att.attach_callB hn hdf fun w s₀ s₁ mg mb fa a vs ns G Y hmg hobj hints hlen hb hg => ?_
  have KX := hY w _ Y
  obtain ⟨fd, hbn, hF⟩ := F w mg fa _ KX G.T.g hmg
  exact law_call KX G.T.g G.T.b G.T.builtins G.T.nolimit hg hobj hints (Nat.le_trans hlen (by decide)) hr hF hbn (fun H _ hS => ⟨a, ns, rfl, hS, hlen, hb, fun _ => rfl⟩) fun H e s' z => z
theorem for_st {wi : TI} {g : TG} {tb : TS} {D : Ends} {σ : St} {H : Hp} (h : ∀ B : TS, B = tb → wi σ H fun J H1 => ∃ W : Nat → Nat → St → Hp → Prop, (∃ m, W 0 m σ H1) ∧ ∀ i m σ H, W i m σ H →
    (J.stop i H ∧ D.nx σ H) ∨ (J.go i H ∧ ∃ N : St → Hp → Prop, (∀ σ' H', N σ' H' → ∃ m', m' < m ∧ W (i + 1) m' σ' H') ∧ ∀ x H', J.yld i H x H' → g x σ H' fun σ2 H2 => B { D with nx := N, ct := N, bk := D.nx } σ2 H2)) : tFor wi g tb D σ H := h _ rfl
theorem while_st {c : TT} {tb : TS} {D : Ends} {σ : St} {H : Hp} (h : ∀ B : TS, B = tb → ∃ W : Nat → St → Hp → Prop, (∃ m, W m σ H) ∧ ∀ m σ H, W m σ H →
    c σ H fun b H1 => if b = true then ∃ N : St → Hp → Prop, (∀ σ' H', N σ' H' → ∃ m', m' < m ∧ W m' σ' H') ∧ B { D with nx := N, ct := N, bk := D.nx } σ H1 else D.nx σ H1) : tWhile c tb D σ H := h _ rfl
theorem st {t u : TS} {D : Ends} {σ : St} {H : Hp} (h : ∀ NX : St → Hp → Prop, NX = u D → t { D with nx := NX } σ H) : tSeq t u D σ H := h _ rfl
section
variable {g : Int → Int → V} {C : Int → Int → Prop} {f : Int → V} {i j : Int} {H : Hp} {Q : VK}
theorem rd_rI0 : rI0 g (.int i) (.int j) H Q = Q (g i j) H := propext ⟨fun ⟨_, _, e1, e2, q⟩ => by cases e1; cases e2; exact q, fun q => ⟨_, _, rfl, rfl, q⟩⟩
theorem rd_rI : rI C g (.int i) (.int j) H Q = (C i j ∧ Q (g i j) H) := propext ⟨fun ⟨_, _, e1, e2, q⟩ => by cases e1; cases e2; exact q, fun q => ⟨_, _, rfl, rfl, q⟩⟩
theorem rd_rU : rU f (.int i) H Q = Q (f i) H := propext ⟨fun ⟨_, e1, q⟩ => by cases e1; exact q, fun q => ⟨_, rfl, q⟩⟩
end
theorem Same.new {H : Hp} {a : Addr} {o : HO} (h : H a = none) : Same H (upd H a o) := fun b u e => by rw [upd_ne (ne_of_none e h)]; exact e
theorem Same.over {H H1 : Hp} {a : Addr} {o : HO} (h : H a = none) (s : Same H H1) : Same H (upd H1 a o) := fun b u e => by rw [upd_ne (ne_of_none e h)]; exact s b u e
theorem Same.tup {K : PySem.W.Frag} {H H' : Hp} {a : Addr} {xs : List V} (e : Same H H') (h : SqT K H a xs) : SqT K H' a xs := by
  rcases h with (h | ⟨o, h⟩) | h
  · exact .inl (.inl (e _ _ h))
  · exact .inl (.inr ⟨o, e _ _ h⟩)
  · exact .inr h
section
variable {K : PySem.W.Frag} {a b : Addr} {xs : List V} {te : TE} {fr : List (Str × Nat)} {σ : St} {H : Hp} {Q : VK}
noncomputable def CompP (H : Hp) (a : Addr) (R : Nat → V → Prop) (i : Nat) (H1 : Hp) : Prop := Same H H1 ∧ ∃ ys : List V, H1 a = some (.lst ys) ∧ ys.length = i ∧ ∀ j y, ys[j]? = some y → R j y
theorem CompP.start (ha : H a = none) (R : Nat → V → Prop) : CompP H a R 0 (upd H a (.lst [])) := ⟨Same.new ha, [], upd_same, rfl, fun j y e => by simp at e⟩
theorem CompP.next {R : Nat → V → Prop} {i : Nat} {H1 H2 : Hp} {y : V} (ha : H a = none) (h : CompP H a R i H1) (s : Same H1 H2) (r : R i y) (hz : i < sizeLine) :
    ∃ zs, H2 a = some (.lst zs) ∧ zs.length < sizeLine ∧ CompP H a R (i + 1) (upd H2 a (.lst (zs ++ [y]))) := by
  obtain ⟨s1, ys, e, hl, hr⟩ := h
  refine ⟨ys, s _ _ e, by omega, Same.over ha (s1.trans s), _, upd_same, by simp [hl], fun j z q => ?_⟩
  by_cases hj : j < ys.length
  · rw [List.getElem?_append_left hj] at q
    exact hr j z q
  · rw [List.getElem?_append_right (by omega)] at q
    have : j = i := by
      by_cases h0 : j - ys.length = 0
      · omega
      · rw [List.getElem?_eq_none (by simp; omega)] at q
        cases q
    subst this
    rw [show j - ys.length = 0 by omega] at q
    cases Option.some.inj q
    exact r
end
theorem list_is {α β : Type} {ys : List β} {xs : List α} {f : α → β} (hl : ys.length = xs.length) (h : ∀ (j : Nat) (y : β), ys[j]? = some y → ∃ x, xs[j]? = some x ∧ y = f x) : ys = xs.map f := by
  refine List.ext_getElem (by simpa using hl) fun i h1 h2 => ?_
  obtain ⟨x, e1, e2⟩ := h i ys[i] (by simp [h1])
  obtain ⟨hx, e3⟩ := List.getElem?_eq_some_iff.mp e1
  rw [List.getElem_map, e2, e3]
end L2

namespace L2
open PySem PySem.Spec PyProof.Rows
noncomputable def relab (sc scope : Scope) : Scope := { scope with names := scope.names.map fun (n, k) => if (k == .free && sc.kind == .function && sc.names.lookup n == some .cell) then (n, .cell) else (n, k) }
theorem relab_is {scope sc : Scope} {env : Env} (h : env.scope = sc) : relabel scope env = relab sc scope := by subst h; rfl
theorem own_app : ∀ (names : List (Str × NameKind)) (n : Nat) (acc : List (Str × Addr)), cellsFrom n names acc = cellsFrom n names [] ++ acc
  | [], _, _ => rfl
  | (x, k) :: r, n, acc => by
    unfold cellsFrom
    split
    · rw [own_app r (n + 1) ((x, n) :: acc), own_app r (n + 1) [(x, n)], List.append_assoc]
      rfl
    · exact own_app r n acc
theorem own_mem {y : Str} {b : Addr} : ∀ {names : List (Str × NameKind)} {n : Nat} {acc : List (Str × Addr)}, (y, b) ∈ cellsFrom n names acc → (y, b) ∈ acc ∨ (y, NameKind.cell) ∈ names
  | [], _, _, h => .inl h
  | (x, k) :: r, n, acc, h => by
    unfold cellsFrom at h
    split at h
    · rename_i hk
      rcases own_mem h with q | q
      · rcases List.mem_cons.mp q with e | e
        · have ek : k = .cell := by simpa using hk
          cases e
          exact .inr (by rw [ek]; exact List.mem_cons_self)
        · exact .inl e
      · exact .inr (List.mem_cons_of_mem _ q)
    · rcases own_mem h with q | q
      · exact .inl q
      · exact .inr (List.mem_cons_of_mem _ q)
theorem own_has {y : Str} : ∀ {names : List (Str × NameKind)} {n : Nat} {acc : List (Str × Addr)}, ((y, NameKind.cell) ∈ names ∨ ∃ b, acc.lookup y = some b) → ∃ b, (cellsFrom n names acc).lookup y = some b
  | [], _, _, h => by
    rcases h with h | h
    · simp at h
    · exact h
  | (x, k) :: r, n, acc, h => by
    unfold cellsFrom
    split
    · rename_i hk
      refine own_has ?_
      rcases h with h | ⟨b, h⟩
      · rcases List.mem_cons.mp h with e | e
        · cases e
          exact .inr ⟨n, by rw [List.lookup_cons]; simp⟩
        · exact .inl e
      · rw [List.lookup_cons]
        cases hx : y == x with
        | true => exact .inr ⟨n, rfl⟩
        | false => exact .inr ⟨b, h⟩
    · rename_i hk
      refine own_has ?_
      rcases h with h | h
      · rcases List.mem_cons.mp h with e | e
        · cases e
          simp at hk
        · exact .inl e
      · exact .inr h
theorem relab_was {env : Env} {q : NameKind} : ∀ {names : List (Str × NameKind)} {x : Str},
    (names.map fun (n, k) => if (k == NameKind.free && env.scope.kind == .function && env.kindOf n == some .cell) then (n, NameKind.cell) else (n, k)).lookup x = some q →
    (q = .cell ∨ q = .free) → (x, NameKind.free) ∈ names ∨ (x, NameKind.cell) ∈ names
  | [], _, h, _ => by simp at h
  | (n, k) :: r, x, h, hq => by
    have ih := @relab_was env q r x
    rw [List.map_cons] at h
    dsimp only at h
    by_cases hc : (k == NameKind.free && env.scope.kind == .function && env.kindOf n == some .cell) = true
    · rw [if_pos hc, List.lookup_cons] at h
      cases hx : x == n with
      | true =>
        have ex : x = n := by simpa using hx
        have ek : k = .free := by
          have := (Bool.and_eq_true _ _ ▸ ((Bool.and_eq_true _ _ ▸ hc).1)).1
          simpa using this
        rw [ex, ek]
        exact .inl List.mem_cons_self
      | false =>
        rw [hx] at h
        exact (ih h hq).imp (List.mem_cons_of_mem _) (List.mem_cons_of_mem _)
    · rw [if_neg hc, List.lookup_cons] at h
      cases hx : x == n with
      | true =>
        rw [hx] at h
        have ex : x = n := by simpa using hx
        have ek : k = q := Option.some.inj h
        rcases hq with e | e
        · rw [ex, ek, e]; exact .inr List.mem_cons_self
        · rw [ex, ek, e]; exact .inl List.mem_cons_self
      | false =>
        rw [hx] at h
        exact (ih h hq).imp (List.mem_cons_of_mem _) (List.mem_cons_of_mem _)
theorem key_one {α : Type} {x : Str} {k k' : α} : ∀ {l : List (Str × α)}, (l.map (·.1)).Nodup → (x, k) ∈ l → (x, k') ∈ l → k = k'
  | (n, q) :: r, nd, h, h' => by
    obtain ⟨n1, n2⟩ := List.nodup_cons.mp nd
    rcases List.mem_cons.mp h with e | e <;> rcases List.mem_cons.mp h' with e' | e'
    · cases e; cases e'; rfl
    · cases e; exact absurd (List.mem_map.mpr ⟨_, e', rfl⟩) n1
    · cases e'; exact absurd (List.mem_map.mpr ⟨_, e, rfl⟩) n1
    · exact key_one n2 e e'
theorem newEnv_own {M : Model} {A : Around} {E : Value → Shared → Prop} {s : Shared} {scope : Scope} {globals : Addr} {cl : List (Str × Addr)} {qual : Str} {func : Option Addr} {code : Value} {env : Env} {bl : Addr} {Q : Env → Shared → Prop}
    (h : Q (newEnv scope s.heap.objs.size globals (cellsFrom (s.heap.objs.size + 1) scope.names cl) qual func code (some env) bl) { s with heap := pushCells (s.heap.push { cls := .type "dict", data := .dict #[] }) scope.names }) :
    wpAny M A (newFunctionEnv scope globals cl [] qual func code (some env) bl) Q E s := by
  simp only [newFunctionEnv, Option.isSome_some, if_true]
  refine wpAny_bind (wpAny_alloc ?_)
  refine wpAny_bind (wpAny_layCells _ (fun name kind cells => by cases hkc : kind == NameKind.cell <;> simp [hkc]) _ _ _ _ ?_)
  rw [show ({ s with heap := s.heap.push { cls := .type "dict", data := .dict #[] } } : Shared).heap.objs.size = s.heap.objs.size + 1 from Heap.size_push ..]
  exact wpAny_pure h

noncomputable def cxCompG (X : Cx) (scope : Scope) (N : List Str) (s : Shared) (H : Hp) (fp : List Addr) : Cx :=
  { X with N := N, s₀ := s, H₀ := H, env := compEnvC scope (cellsFrom (s.heap.objs.size + 1) scope.names (clOf X.env scope.names [])) s.heap.objs.size X.env, outer := X.stack, ex := fp, fn := fun y => scope.names.lookup y == some .cell, pn := [], xe := fun _ _ => False }
structure CompOkG (X : Cx) (sc scope : Scope) (xs : List Str) (fr : List (Str × Nat)) : Prop where
  hsc : X.env.scope = sc
  kind : scope.kind = .function
  nn : (scope.names.map (·.1)).Nodup
  free : ∀ y ∈ scope.names, y.2 = .free → sc.names.lookup y.1 = some .cell ∨ sc.names.lookup y.1 = some .free
  loc : ∀ y ∈ scope.names, y.2 = .local → scope.names.lookup y.1 = some .local
  fr : ∀ p ∈ fr, X.N[p.2]? = some p.1 ∧ scope.names.lookup p.1 = some .free
section
variable {X : Cx} {sc scope : Scope} {xs : List Str} {fr : List (Str × Nat)}
theorem CompOkG.free' (c : CompOkG X sc scope xs fr) : ∀ y ∈ scope.names, y.2 = .free → X.env.kindOf y.1 = some .cell ∨ X.env.kindOf y.1 = some .free := fun y hy hf => by
  unfold Env.kindOf
  rw [c.hsc]
  exact c.free y hy hf
theorem CompOkG.cells {pins : List (Addr × Obj)} {σ : St} {H : Hp} {s : Shared} (c : CompOkG X sc scope xs fr) (I : Inv X pins σ H s) : ∀ y ∈ scope.names, y.2 = .free → ∃ c, X.env.cells.lookup y.1 = some c :=
  fun y hy hf => I.ok.has y.1 (c.free' y hy hf)
theorem CompOkG.was {pins : List (Addr × Obj)} {σ : St} {H : Hp} {s : Shared} (c : CompOkG X sc scope xs fr) (I : Inv X pins σ H s) {y : Str} {b : Addr} (h : (clOf X.env scope.names []).lookup y = some b) : X.env.cells.lookup y = some b := by
  rcases clOf_lookup (c.cells I) h with q | q
  · simp at q
  · exact q
theorem cells_cases {names : List (Str × NameKind)} {n : Nat} {cl : List (Str × Addr)} {y : Str} {b : Addr} (h : (cellsFrom n names cl).lookup y = some b) : (cellsFrom n names []).lookup y = some b ∨ ((cellsFrom n names []).lookup y = none ∧ cl.lookup y = some b) := by
  rw [own_app, List.lookup_append] at h
  cases q : (cellsFrom n names []).lookup y with
  | none => rw [q] at h; exact .inr ⟨rfl, h⟩
  | some c => rw [q] at h; exact .inl h
theorem comp_startG {pins : List (Addr × Obj)} {σ : St} {H : Hp} {s : Shared} {fp : List Addr} (c : CompOkG X sc scope xs fr) (I : Inv X pins σ H s)
    (hf : ∀ b ∈ fp, FpOk X pins H b ∧ ∃ o, s.heap.get? b = some o) :
    Inv (cxCompG X scope (xs ++ fr.map (·.1)) s H fp) [] (xs.map (fun _ => none) ++ frees fr σ) H { s with heap := pushCells (s.heap.push { cls := .type "dict", data := .dict #[] }) scope.names } := by
  have k : ∀ b o, s.heap.get? b = some o → (pushCells (s.heap.push { cls := .type "dict", data := .dict #[] }) scope.names).get? b = some o := fun b o e => pushCells_keeps _ _ b o (Heap.get?_push_of_some _ e)
  have hn : (pushCells (s.heap.push { cls := .type "dict", data := .dict #[] }) scope.names).Ns s.heap.objs.size (fun _ => none) := (Heap.Ns.new s.heap (.type "dict")).keeps (pushCells_keeps _ _)
  have ok := cellsFrom_ok scope.names (s.heap.push { cls := .type "dict", data := .dict #[] }) (s.heap.objs.size + 1) [] ⟨fun _ _ hm => (nomatch hm), List.Pairwise.nil⟩ (by rw [Heap.size_push]; exact Nat.le_refl _)
  rw [Heap.size_push] at ok
  have I4 : Inv X pins σ H { s with heap := pushCells (s.heap.push { cls := .type "dict", data := .dict #[] }) scope.names } := I.kept (t' := s.toks) k
  generalize hh : pushCells (s.heap.push { cls := .type "dict", data := .dict #[] }) scope.names = h₁ at k hn ok I4
  have old : ∀ {y : Str} {b : Nat}, (clOf X.env scope.names []).lookup y = some b → b < s.heap.objs.size := fun {y b} e => by
    obtain ⟨v, z⟩ := I.cell y b (c.was I e)
    exact z.lt
  have own : ∀ {y : Str} {b : Nat}, (cellsFrom (s.heap.objs.size + 1) scope.names []).lookup y = some b → h₁.IsCell b none ∧ s.heap.objs.size + 1 ≤ b := fun {y b} e => ok.empty y b (mem_of_lookup e)
  refine ⟨⟨I.ok.mod, c.kind, I.ok.glob, I.ok.blt, Nat.le_refl _, fun y z b h1 h2 => ?_, fun y hy => ?_, fun y b h0 h1 => ?_, I.ok.hd, I.ok.frames, .inl rfl, fun b hb => ?_, fun b o e => ?_, ?_, fun b o e hb => ?_, fun b hb hs => ?_, ?_, fun b hb => ?_⟩,
    rfl, I.bare, Un.kept k, ⟨_, hn, fun i y v h1 h2 h3 => ?_⟩, fun y b h => ?_, ?_, fun y b h => ?_, fun p hp => absurd (show p ∈ ([] : List (Addr × Obj)) from hp) (by simp), I4.hok, ?_⟩
  · rcases cells_cases h1 with e1 | ⟨_, e1⟩ <;> rcases cells_cases h2 with e2 | ⟨_, e2⟩
    · exact name_of_addr ok.apart (mem_of_lookup e1) (mem_of_lookup e2)
    · exact absurd (Nat.lt_of_lt_of_le (old e2) (Nat.le_of_succ_le (own e1).2)) (Nat.lt_irrefl _)
    · exact absurd (Nat.lt_of_lt_of_le (old e1) (Nat.le_of_succ_le (own e2).2)) (Nat.lt_irrefl _)
    · exact I.ok.inj y z b (c.was I e1) (c.was I e2)
  · show ∃ b, (cellsFrom (s.heap.objs.size + 1) scope.names (clOf X.env scope.names [])).lookup y = some b
    have hm : (y, NameKind.free) ∈ scope.names ∨ (y, NameKind.cell) ∈ scope.names := by
      rcases hy with hy | hy
      · exact relab_was hy (.inl rfl)
      · exact relab_was hy (.inr rfl)
    rcases hm with hm | hm
    · exact own_has (.inr (clOf_has (.inl hm)))
    · exact own_has (.inl hm)
  · have hy : scope.names.lookup y = some .cell := by
      have h0' : (scope.names.lookup y == some NameKind.cell) = true := h0
      simpa using h0'
    rcases cells_cases h1 with e1 | ⟨e1, _⟩
    · have := (own e1).2
      show s.heap.objs.size ≤ b
      omega
    · obtain ⟨b', e⟩ := own_has (n := s.heap.objs.size + 1) (acc := []) (.inl (mem_of_lookup hy))
      rw [e1] at e
      cases e
  · obtain ⟨⟨_, _, _, _, f5, _⟩, o, e⟩ := hf b hb
    refine ⟨Nat.ne_of_lt (Heap.lt_size e), fun y b' h => ?_⟩
    rcases cells_cases h with e1 | ⟨_, e1⟩
    · exact fun z => absurd (Nat.lt_of_lt_of_le (Heap.lt_size e) (Nat.le_of_succ_le (z ▸ (own e1).2))) (Nat.lt_irrefl _)
    · exact f5 y b' (c.was I e1)
  · exact I.bs b o e
  · exact Nat.le_trans I.ok.bsz I.sz
  · obtain ⟨⟨_, _, _, f4, _, _⟩, _⟩ := hf b hb
    rcases f4 with z | z
    · exact I.ok.noex b o e z
    · exact absurd (Nat.lt_of_lt_of_le (Heap.lt_size e) (Nat.le_trans I.ok.bsz z)) (Nat.lt_irrefl _)
  · obtain ⟨⟨_, f2, f3, _, _, _⟩, _⟩ := hf b hb
    rcases List.mem_cons.mp (I.stkSub b hs) with z | z
    · exact f2 z
    · exact f3 z
  · exact I.stack
  · exact I.stkFree b hb
  · have h1' : (xs ++ fr.map (·.1))[i]? = some y := h1
    by_cases hi : i < xs.length
    · rw [List.getElem?_append_left (by simpa using hi), List.getElem?_map] at h2
      cases q : xs[i]? with
      | none => rw [q] at h2; cases h2
      | some z => rw [q] at h2; cases Option.some.inj h2
    · rw [List.getElem?_append_right (by omega)] at h1'
      rw [List.getElem?_append_right (by simpa using hi), List.length_map] at h2
      generalize i - xs.length = j at h1' h2
      rw [List.getElem?_map] at h1'
      unfold frees at h2
      rw [List.getElem?_map] at h2
      cases e : fr[j]? with
      | none => rw [e] at h1'; cases h1'
      | some p =>
        rw [e] at h1' h2
        have e1 : p.1 = y := Option.some.inj h1'
        have e2 : σ.getD p.2 none = some v := Option.some.inj h2
        obtain ⟨n1, n2⟩ := c.fr p (List.mem_of_getElem? e)
        have e3 : σ[p.2]? = some (some v) := by
          rw [List.getD_eq_getElem?_getD] at e2
          cases q : σ[p.2]? with
          | none => rw [q] at e2; cases e2
          | some o => rw [q] at e2; have e2' : o = some v := e2; rw [e2']
        subst e1
        have hm : (p.1, NameKind.free) ∈ scope.names := PySem.mem_of_lookup n2
        have kd := c.free' _ hm rfl
        obtain ⟨m', _, hl⟩ := I4.loc
        obtain ⟨u, ru, lk⟩ := hl p.2 p.1 v n1 e3 (.inr kd)
        refine ⟨u, ru, .inr ⟨relabel_free n2, ?_⟩⟩
        rcases lk with ⟨k1, _⟩ | ⟨_, b, q, z⟩
        · rcases kd with kd | kd <;> (rw [kd] at k1; cases k1)
        · obtain ⟨b', q'⟩ := clOf_has (env := X.env) (l := scope.names) (cs := []) (.inl hm)
          have e4 := c.was I q'
          rw [q] at e4
          cases e4
          refine ⟨b, ?_, z⟩
          show (cellsFrom (s.heap.objs.size + 1) scope.names (clOf X.env scope.names [])).lookup p.1 = some b
          rw [own_app, List.lookup_append]
          cases w : (cellsFrom (s.heap.objs.size + 1) scope.names []).lookup p.1 with
          | none => exact q'
          | some b2 =>
            rcases own_mem (mem_of_lookup w) with w | w
            · simp at w
            · cases key_one c.nn hm w
  · rcases cells_cases h with e1 | ⟨_, e1⟩
    · exact ⟨none, (own e1).1⟩
    · exact I4.cell y b (c.was I e1)
  · exact I.hok.fresh (Nat.le_refl _)
  · rcases cells_cases h with e1 | ⟨_, e1⟩
    · exact I.hok.fresh (by have := (own e1).2; omega)
    · exact I4.freeC y b (c.was I e1)
  · show (xs.map (fun _ => none) ++ frees fr σ).length = (xs ++ fr.map (·.1)).length
    simp [frees]
end

noncomputable abbrev TOx := St → Hp → (Option V → Hp → Prop) → Prop
noncomputable def tEl (te : TE)  : TOx := fun σ H Q => te σ H fun y H' => Q (some y) H'
noncomputable def tElIf (tc : TT) (te : TE)  : TOx := fun σ H Q => tc σ H fun b H1 => if b = true then te σ H1 (fun y H' => Q (some y) H') else Q none H1
noncomputable def turnOf (elt : Expr) (ifs : List Expr) (env : Env) (M : Model) (A : Around) (Q : Option Value → Shared → Prop) (E : Value → Shared → Prop) (s : Shared) : Prop :=
  match ifs with
  | [] => wpAny M A (eval elt env) (fun x s1 => Q (some x) s1) E s
  | [c] => wpAny M A (isTrue c env (eval c env)) (fun b s1 => if b = true then wpAny M A (eval elt env) (fun x s2 => Q (some x) s2) E s1 else Q none s1) E s
  | _ => False
noncomputable def POx (X : Cx) (elt : Expr) (ifs : List Expr) (t : TOx) : Prop := ∀ (pins : List (Addr × Obj)) (s : Shared) (σ : St) (H : Hp) (Q : Option V → Hp → Prop), Inv X pins σ H s → t σ H Q →
  turnOf elt ifs X.env (model X.prog X.w) X.A (fun o s' => ∃ v H', Inv X pins σ H' s' ∧ (match o, v with | some u, some y => RelV y u | none, none => True | _, _ => False) ∧ Q v H') X.xe s
theorem po_el {X : Cx} {elt : Expr} {te : TE} (h : PE X elt te) : POx X elt [] (tEl te) := fun pins s σ H Q I hw =>
  thn (h pins s σ H _ I hw) fun u s1 ⟨y, H1, I1, r1, q1⟩ => ⟨some y, H1, I1, r1, q1⟩
theorem po_if {X : Cx} {elt c : Expr} {tc : TT} {te : TE} (hc : PT X c tc) (h : PE X elt te) : POx X elt [c] (tElIf tc te) := fun pins s σ H Q I hw => by
  refine thn (hc pins s σ H _ I hw) fun b s1 ⟨H1, I1, q1⟩ => ?_
  cases b with
  | true =>
    rw [if_pos rfl] at q1 ⊢
    exact thn (h pins s1 σ H1 _ I1 q1) fun u s2 ⟨y, H2, I2, r2, q2⟩ => ⟨some y, H2, I2, r2, q2⟩
  | false =>
    rw [if_neg Bool.false_ne_true] at q1 ⊢
    exact ⟨none, H1, I1, trivial, q1⟩
theorem codeAny_compLoop_gen {prog : Program} {w : World} {A : Around} {R : Result → Shared → Prop} {s : Shared} {elt target iter : Expr} {ifs : List Expr} {scope : Scope} {pos : Pos} {it acc : Value} {env : Env} (I : Nat → Shared → Prop)
    (turn : ∀ n s, I n s → wpAny (model prog w) A (pyNext it) (fun r s₁ => match r with
      | none => R (.ok .next) s₁
      | some v => wpAny (model prog w) A (letOwnedTupleGo target it v) (fun _ s₁' => wpAny (model prog w) A (assign target env v) (fun _ s₂ => turnOf elt ifs env (model prog w) A (fun o s₃ => match o with
          | some x => wpAny (model prog w) A (call (.builtin "list.append") [acc, x]) (fun _ s₄ => ∃ m, m < n ∧ I m s₄) (fun _ _ => False) s₃
          | none => ∃ m, m < n ∧ I m s₃)
          (fun _ _ => False) s₂) (fun _ _ => False) s₁') (fun _ _ => False) s₁) (fun _ _ => False) s)
    (n : Nat) (h : I n s) (hifs : ifs.length ≤ 1) :
    codeAny (model prog w) A (.compLoop (.ListComp elt [⟨target, iter, ifs, 0⟩] scope pos) 0 it acc env) R s := by
  refine codeAny_loop rfl I (fun n s hI => ?_) n h
  show wpAny _ _ ((compTurn (.ListComp elt [⟨target, iter, ifs, 0⟩] scope pos) 0 it acc env).onRaise (fun x => do noteFrame x env; theTreesLotGoes x)) _ _ s
  refine wpAny_noted ?_
  have T := turn n s hI
  match ifs, hifs, T with
  | [], _, T =>
    rw [compTurn_list1]
    refine wpAny_bind (wpAny_standAt (wpAny_bind (wpAny_mono T (fun r s₁ h₁ => ?_) fun _ _ h' => h'.elim)))
    cases r with
    | none => exact wpAny_pure h₁
    | some v =>
      refine wpAny_bind (wpAny_mono h₁ (fun _ s₁' h₁' => ?_) fun _ _ h' => h'.elim)
      exact wpAny_bind (wpAny_mono h₁' (fun _ s₂ h₂ => wpAny_bind (wpAny_bind (wpAny_mono (show wpAny _ _ _ _ _ _ from h₂) (fun x s₃ h₃ => wpAny_bind (wpAny_mono h₃
        (fun _ s₄ h₄ => wpAny_pure (wpAny_pure ⟨rfl, h₄⟩)) fun _ _ h' => h'.elim)) fun _ _ h' => h'.elim))) fun _ _ h' => h'.elim)
  | [c], _, T =>
    have e1 : compTurn (.ListComp elt [⟨target, iter, [c], 0⟩] scope pos) 0 it acc env = (standAt iter.pos >>= fun _ => pyNext it >>= fun r => match r with
      | none => pure (.done .next)
      | some v => letOwnedTupleGo target it v >>= fun _ => assign target env v >>= fun _ => isTrue c env (eval c env) >>= fun ok =>
        (if ok = true then (eval elt env >>= fun x => call (.builtin "list.append") [acc, x] >>= fun _ => pure ()) >>= fun _ => again (.compLoop (.ListComp elt [⟨target, iter, [c], 0⟩] scope pos) 0 it acc env)
          else again (.compLoop (.ListComp elt [⟨target, iter, [c], 0⟩] scope pos) 0 it acc env))) := by
      unfold compTurn
      simp only [List.forIn_cons, List.forIn_nil, if_true, bind_assoc, pure_bind, List.getElem?_cons_zero]
      rfl
    rw [e1]
    refine wpAny_bind (wpAny_standAt (wpAny_bind (wpAny_mono T (fun r s₁ h₁ => ?_) fun _ _ h' => h'.elim)))
    cases r with
    | none => exact wpAny_pure h₁
    | some v =>
      refine wpAny_bind (wpAny_mono h₁ (fun _ s₁' h₁' => ?_) fun _ _ h' => h'.elim)
      refine wpAny_bind (wpAny_mono h₁' (fun _ s₂ h₂ => wpAny_bind (wpAny_mono (show wpAny _ _ _ _ _ _ from h₂) (fun b s₃ h₃ => ?_) fun _ _ h' => h'.elim)) fun _ _ h' => h'.elim)
      cases b with
      | true =>
        rw [if_pos rfl] at h₃ ⊢
        exact wpAny_bind (wpAny_bind (wpAny_mono h₃ (fun x s₄ h₄ => wpAny_bind (wpAny_mono h₄ (fun _ s₅ h₅ => wpAny_pure (wpAny_pure ⟨rfl, h₅⟩)) fun _ _ h' => h'.elim)) fun _ _ h' => h'.elim))
      | false =>
        rw [if_neg Bool.false_ne_true] at h₃ ⊢
        exact wpAny_pure ⟨rfl, h₃⟩
  | _ :: _ :: _, hifs, T =>
    exact absurd hifs (by simp)
end L2
namespace L2
open PySem PySem.Spec PyProof.Rows
noncomputable def outTo (a : Addr) (N : Hp → Prop) : Option V → Hp → Prop
  | some y, H => ∃ zs, H a = some (.lst zs) ∧ zs.length < sizeLine ∧ N (upd H a (.lst (zs ++ [y])))
  | none, H => N H
noncomputable abbrev CompWG (J : It) (g : TG) (tt : TOx) (n : Nat) (fr : List (Str × Nat)) (σ : St) (a : Addr) (H : Hp) (Q : VK) : Prop :=
  ∃ W : Nat → Nat → Hp → Prop, (∃ m, W 0 m (upd H a (.lst []))) ∧ ∀ i m H2, W i m H2 → (J.stop i H2 ∧ Q (.ref a) H2) ∨
    (J.go i H2 ∧ ∃ N : Hp → Prop, (∀ H', N H' → ∃ m', m' < m ∧ W (i + 1) m' H') ∧ ∀ (ys : St) x H3, ys.length = n → J.yld i H2 x H3 →
      g x (ys ++ frees fr σ) H3 fun σ4 H4 => (∃ ys' : St, ys'.length = n ∧ σ4 = ys' ++ frees fr σ) ∧ tt σ4 H4 (outTo a N))
noncomputable def tCompG (wi : TI) (g : TG) (tt : TOx) (n : Nat) (fr : List (Str × Nat)) : TE := fun σ H Q => wi σ H fun J H1 => ∀ a, H1 a = none → CompWG J g tt n fr σ a H1 Q
section
variable {X : Cx} {sc scope : Scope} {xs : List Str} {fr : List (Str × Nat)} {elt tg iter : Expr} {ifs : List Expr} {g : TG} {tt : TOx}
theorem comp_coreG {pins : List (Addr × Obj)} {σ : St} {H : Hp} {s : Shared} {pos : Pos} {J : It} {fp : List Addr} {it : Addr} {tn : Nat → Heap → Prop} {Q : VK} {RR : Value → Addr → Result → Shared → Prop} {E : Value → Shared → Prop}
    (c : CompOkG X sc scope xs fr) (hc : X.calm = true) (hifs : ifs.length ≤ 1) (I : Inv X pins σ H s) (T : Turn X.prog X.w X.K tg J fp it tn) (t0 : tn 0 s.heap) (hf : ∀ b ∈ fp, FpOk X pins H b)
    (hg : ∀ (s₃ : Shared) (H₃ : Hp) (fp : List Addr), (cxCompG X scope (xs ++ fr.map (·.1)) s₃ H₃ fp).env.scope = relab sc scope → PG (cxCompG X scope (xs ++ fr.map (·.1)) s₃ H₃ fp) tg g)
    (he : ∀ (s₃ : Shared) (H₃ : Hp) (fp : List Addr), (cxCompG X scope (xs ++ fr.map (·.1)) s₃ H₃ fp).env.scope = relab sc scope → POx (cxCompG X scope (xs ++ fr.map (·.1)) s₃ H₃ fp) elt ifs tt)
    (hw : ∀ a, H a = none → CompWG J g tt xs.length fr σ a H Q)
    (hRR : ∀ a C H' s' m, s'.heap.Ns C m → Inv X pins σ H' s' → FpOk X pins H' C → Q (.ref a) H' → RR (.ref a) C (.ok .next) s') :
    wpAny (model X.prog X.w) X.A (newList []) (fun acc s₃ => wpAny (model X.prog X.w) X.A (newFunctionEnv scope X.env.globals (clOf X.env scope.names []) [] X.env.qual none .none (some X.env)) (fun cenv s₄ =>
      codeAny (model X.prog X.w) X.A (.compStart (.ListComp elt [⟨tg, iter, ifs, 0⟩] scope pos) 0 (.ref it) acc { cenv with scope := relabel scope X.env }) (RR acc cenv.locals) s₄) E s₃) E s := by
  obtain ⟨W, ⟨m0, w0⟩, turn⟩ := hw s.heap.objs.size I.fresh
  refine wpAny_newObj_type (newEnv_own ?_)
  have I3 : Inv X pins σ (upd H s.heap.objs.size (.lst [])) { s with heap := s.heap.push { cls := .type "list", dict := none, data := .seq ([] : List Value).toArray } } := I.lnew (ys := []) (its := []) (t' := s.toks) .nil (Nat.zero_le _)
  have kp : ∀ b o, s.heap.get? b = some o → (s.heap.push { cls := .type "list", dict := none, data := .seq ([] : List Value).toArray }).get? b = some o := fun b o e => Heap.get?_push_of_some _ e
  have un0 : Un (frs X.stack) fp H (upd H s.heap.objs.size (.lst [])) s.heap (s.heap.push { cls := .type "list", dict := none, data := .seq ([] : List Value).toArray }) := Un.laid kp (Nat.le_refl _) I.fresh
  dsimp only
  generalize hH2 : s.heap.push { cls := .type "list", dict := none, data := .seq ([] : List Value).toArray } = hp2 at I3 kp un0 ⊢
  have hsz : s.heap.objs.size ≤ hp2.objs.size := by rw [← hH2, Heap.size_push]; exact Nat.le_succ _
  have ft : ∀ b ∈ fp, ∃ o, s.heap.get? b = some o := fun b hb => let ⟨o, e, _⟩ := T.obj _ _ t0 b hb; ⟨o, e⟩
  have nea : ∀ b ∈ fp, b ≠ s.heap.objs.size := fun b hb => let ⟨_, e⟩ := ft b hb; Nat.ne_of_lt (Heap.lt_size e)
  have f3 : ∀ b ∈ fp, FpOk X pins (upd H s.heap.objs.size (.lst [])) b ∧ ∃ o, hp2.get? b = some o := fun b hb => by
    obtain ⟨o, e⟩ := ft b hb
    exact ⟨⟨by rw [upd_ne (nea b hb)]; exact (hf b hb).1, (hf b hb).2⟩, o, kp b o e⟩
  have J0 := comp_startG c I3 f3
  have k4 : ∀ b o, hp2.get? b = some o → (pushCells (hp2.push { cls := .type "dict", data := .dict #[] }) scope.names).get? b = some o := fun b o e => pushCells_keeps _ _ b o (Heap.get?_push_of_some _ e)
  have t4 : tn 0 (pushCells (hp2.push { cls := .type "dict", data := .dict #[] }) scope.names) := T.keep 0 _ _ t0 fun b hb o e => k4 b o (kp b o e)
  have esc : ∀ (s₃ : Shared) (H₃ : Hp) (fp : List Addr), (cxCompG X scope (xs ++ fr.map (·.1)) s₃ H₃ fp).env.scope = relab sc scope := fun _ _ _ => relab_is c.hsc
  have stat : ∀ {H' : Hp}, (∀ b ∈ fp, H' b = none) → ∀ b ∈ fp, FpOk (cxCompG X scope (xs ++ fr.map (·.1)) { s with heap := hp2 } (upd H s.heap.objs.size (.lst [])) fp) [] H' b := fun hn b hb => by
    obtain ⟨e1, e2⟩ := J0.ok.exf b hb
    exact ⟨hn b hb, e1, J0.ok.exfs b hb, .inl hb, e2, fun p hp => absurd (show p ∈ ([] : List (Addr × Obj)) from hp) (by simp)⟩
  have loop : codeAny (model X.prog X.w) X.A (.compLoop (.ListComp elt [⟨tg, iter, ifs, 0⟩] scope pos) 0 (.ref it) (.ref s.heap.objs.size) (compEnvC scope (cellsFrom (hp2.objs.size + 1) scope.names (clOf X.env scope.names [])) hp2.objs.size X.env))
      (RR (.ref s.heap.objs.size) hp2.objs.size) { s with heap := pushCells (hp2.push { cls := .type "dict", data := .dict #[] }) scope.names } := by
    refine codeAny_compLoop_gen (fun n s' => ∃ i, ∃ ys : St, ∃ H', ys.length = xs.length ∧ Inv (cxCompG X scope (xs ++ fr.map (·.1)) { s with heap := hp2 } (upd H s.heap.objs.size (.lst [])) fp) [] (ys ++ frees fr σ) H' s' ∧ tn i s'.heap ∧ (∀ b ∈ fp, H' b = none) ∧ W i n H')
      ?_ m0 ⟨0, xs.map fun _ => none, _, by simp, J0, t4, fun b hb => (f3 b hb).1.1, w0⟩ hifs
    rintro n s3 ⟨i, ys, H3, hys, K3, st3, fr3, w3⟩
    rcases turn i n H3 w3 with ⟨stop, qn⟩ | ⟨go, N, hN, step⟩
    · refine thn (T.done (cxCompG X scope (xs ++ fr.map (·.1)) { s with heap := hp2 } (upd H s.heap.objs.size (.lst [])) fp) rfl rfl rfl hc i [] s3 _ H3 (fun _ _ => False) K3 (stat fr3) st3 stop) fun r s4 ⟨hr, K4⟩ => ?_
      subst hr
      obtain ⟨m4, hn4, _⟩ := K4.loc
      have K5 : Inv X pins σ H3 s4 := I.call' K4.os (un0.trans K4.base) K4.hok K4.bare fun b hb => let f := hf b hb; ⟨f.2.2.2.1, f.2.1, f.2.2.2.2.1, f.2.2.2.2.2⟩
      exact hRR _ _ H3 s4 m4 hn4 K5 (I.fpOk hsz K4.free) qn
    · refine thn (T.item (cxCompG X scope (xs ++ fr.map (·.1)) { s with heap := hp2 } (upd H s.heap.objs.size (.lst [])) fp) rfl rfl rfl hc i [] s3 _ H3 (fun _ _ => False) K3 (stat fr3) st3 go) fun r s4 ⟨u, hr, h4⟩ => ?_
      subst hr
      refine thn h4 fun _ s5 ⟨y, H5, K5, r5, y5, st5, fr5⟩ => ?_
      have K5' := K5.pinned (stat fr5) (T.obj _ _ st5)
      refine thn (hg _ _ _ (esc _ _ _) _ s5 _ H5 y u _ K5' r5 (step ys y H5 hys y5)) fun _ s6 ⟨σ6, H6, K6, ⟨ys6, hl6, e6⟩, q6⟩ => ?_
      subst e6
      have fin : ∀ (s8 : Shared) (H8 : Hp), Inv (cxCompG X scope (xs ++ fr.map (·.1)) { s with heap := hp2 } (upd H s.heap.objs.size (.lst [])) fp) ([] ++ pinsAt fp s5.heap) (ys6 ++ frees fr σ) H8 s8 → N H8 →
          ∃ m, m < n ∧ ∃ i, ∃ ys : St, ∃ H', ys.length = xs.length ∧ Inv (cxCompG X scope (xs ++ fr.map (·.1)) { s with heap := hp2 } (upd H s.heap.objs.size (.lst [])) fp) [] (ys ++ frees fr σ) H' s8 ∧ tn i s8.heap ∧ (∀ b ∈ fp, H' b = none) ∧ W i m H' := by
        intro s8 H8 K8 n8
        obtain ⟨m', hm, w8⟩ := hN H8 n8
        refine ⟨m', hm, i + 1, ys6, H8, hl6, K8.unpinned, T.keep _ _ _ st5 fun b hb o e => (K8.pin (b, o) (List.mem_append_right _ (List.mem_append_right _ (mem_pinsAt hb e)))).1, fun b hb => ?_, w8⟩
        obtain ⟨o, e, d⟩ := T.obj _ _ st5 b hb
        exact (K8.pin (b, o) (List.mem_append_right _ (List.mem_append_right _ (mem_pinsAt hb e)))).2.1
      have h7 := he _ _ _ (esc _ _ _) _ s6 _ H6 _ K6 q6
      have mono : ∀ {Q Q' : Option Value → Shared → Prop} {E : Value → Shared → Prop} {s' : Shared} {env : Env}, (∀ o s1, Q o s1 → Q' o s1) → turnOf elt ifs env (model X.prog X.w) X.A Q E s' → turnOf elt ifs env (model X.prog X.w) X.A Q' E s' := by
        intro Q Q' E s' env hq ht
        unfold turnOf at ht ⊢
        match ifs, hifs, ht with
        | [], _, ht => exact wpAny_mono ht (fun x s1 q => hq _ _ q) fun _ _ e => e
        | [c], _, ht =>
          refine wpAny_mono ht (fun b s1 q => ?_) fun _ _ e => e
          split at q
          · rename_i hb; rw [if_pos hb]; exact wpAny_mono q (fun x s2 q => hq _ _ q) fun _ _ e => e
          · rename_i hb; rw [if_neg hb]; exact hq _ _ q
        | _ :: _ :: _, hifs, _ => exact absurd hifs (by simp)
      refine mono (fun o s7 ⟨z7, H7, K7, r7, q7⟩ => ?_) h7
      cases o with
      | none =>
        cases z7 with
        | none => exact fin s7 H7 K7 q7
        | some z => exact r7.elim
      | some v7 =>
        cases z7 with
        | none => exact r7.elim
        | some z7 =>
          obtain ⟨zs, hz, hl, w7⟩ := q7
          exact thn (mt_append _ s7 _ H7 (.ref s.heap.objs.size) [z7] (.ref s.heap.objs.size) [v7] (fun _ H8 => N H8) K7 rfl (.cons r7 .nil) ⟨_, zs, z7, rfl, rfl, hz, hl, w7⟩) fun _ s8 ⟨_, H8, K8, _, n8⟩ => fin s8 H8 K8 n8
  exact codeAny_compStart_list loop (T.self _ 0 _ _ _ t4 loop)
variable {wi : TI}
theorem pe_compG {pos : Pos} (c : CompOkG X sc scope xs fr) (hc : X.calm = true) (hi : PI X tg iter wi)
    (hg : ∀ (s₃ : Shared) (H₃ : Hp) (fp : List Addr), (cxCompG X scope (xs ++ fr.map (·.1)) s₃ H₃ fp).env.scope = relab sc scope → PG (cxCompG X scope (xs ++ fr.map (·.1)) s₃ H₃ fp) tg g)
    (he : ∀ (s₃ : Shared) (H₃ : Hp) (fp : List Addr), (cxCompG X scope (xs ++ fr.map (·.1)) s₃ H₃ fp).env.scope = relab sc scope → POx (cxCompG X scope (xs ++ fr.map (·.1)) s₃ H₃ fp) elt ifs tt)
    (hifs : ifs.length ≤ 1 := by exact Nat.le_of_ble_eq_true rfl) (hs : ∀ x, foldedSetIterable iter X.env x = pure x := by intro _; rfl) : PE X (.ListComp elt [⟨tg, iter, ifs, 0⟩] scope pos) (tCompG wi g tt xs.length fr) := by
  intro pins s σ H Q I h
  rw [eval_ListComp]
  refine wpAny_comprehension_free (use := none) rfl hs (closure_is (c.cells I)) c.kind c.loc (thn (hi pins s σ H _ I h) fun v s1 h1 => thn h1 fun itv s2 h2 => ?_)
  obtain ⟨it, fp, tn, J, H2, e, I2, T, t2, f2, hw⟩ := h2
  subst e
  refine comp_coreG (RR := fun acc C => compPost (model X.prog X.w) X.A X.xe none (EP X pins σ Q) acc C) c hc hifs I2 T t2 f2 hg he hw ?_
  intro a C H' s' m hn K f q
  exact ⟨m, hn, fun h' hs' => ⟨.ref a, H', K.turned (t' := s'.toks) (fun b o hb e => (hs'.2 b hb).trans e) f.1 f.2.1 f.2.2.2.1 f.2.2.2.2.1 f.2.2.2.2.2, rfl, q⟩⟩
theorem ps_setCG {pos spos py : Pos} {y : Str} {i : Nat} (c : CompOkG X sc scope xs fr) (hc : X.calm = true) (hN : X.N.Nodup) (hy : X.N[i]? = some y) (hl : X.env.scope.names.lookup y = some .local) (hi : PI X tg iter wi)
    (hg : ∀ (s₃ : Shared) (H₃ : Hp) (fp : List Addr), (cxCompG X scope (xs ++ fr.map (·.1)) s₃ H₃ fp).env.scope = relab sc scope → PG (cxCompG X scope (xs ++ fr.map (·.1)) s₃ H₃ fp) tg g)
    (he : ∀ (s₃ : Shared) (H₃ : Hp) (fp : List Addr), (cxCompG X scope (xs ++ fr.map (·.1)) s₃ H₃ fp).env.scope = relab sc scope → POx (cxCompG X scope (xs ++ fr.map (·.1)) s₃ H₃ fp) elt ifs tt)
    (hsw : swapsWith (.ListComp elt [⟨tg, iter, ifs, 0⟩] scope pos) (some (.Name y py)) spos.line X.env = pure true := by rfl)
    (hifs : ifs.length ≤ 1 := by exact Nat.le_of_ble_eq_true rfl) (hs : ∀ x, foldedSetIterable iter X.env x = pure x := by intro _; rfl) : PS X (.Assign [.Name y py] (.ListComp elt [⟨tg, iter, ifs, 0⟩] scope pos) spos) (tSetC i (tCompG wi g tt xs.length fr)) := by
  intro pins s σ H D I h
  rw [exec_Assign_Name_used _ _ _ _ hsw]
  refine wpAny_bind (wpAny_standAt (wpAny_bind ?_))
  show wpAny _ _ (do let _ ← comprehension (.ListComp elt [⟨tg, iter, ifs, 0⟩] scope pos) scope X.env _ (newList []) false (eval iter X.env) (some (assign (.Name y py) X.env))) _ _ s
  refine wpAny_bind (wpAny_mono (wpAny_comprehension_free (use := some (assign (.Name y py) X.env)) (Q := fun _ s' => SP X pins D .next s') rfl hs (closure_is (c.cells I)) c.kind c.loc
    (thn (hi pins s σ H _ I h) fun v s1 h1 => thn h1 fun itv s2 h2 => ?_)) (fun _ s' hq => wpAny_pure (wpAny_pure hq)) fun _ _ e => e)
  obtain ⟨it, fp, tn, J, H2, e, I2, T, t2, f2, hw⟩ := h2
  subst e
  refine comp_coreG (RR := fun acc C => compPost (model X.prog X.w) X.A X.xe (some (assign (.Name y py) X.env)) (fun _ s' => SP X pins D .next s') acc C) (Q := fun v H1 => D.nx (σ.set i (some v)) H1) c hc hifs I2 T t2 f2 hg he hw ?_
  intro a C H' s' m hn K f q
  show wpAny _ _ (assign (.Name y py) X.env (.ref a)) _ _ _
  refine wpAny_assign_Name (store_ok2 K hN hy (.inl hl) (show RelV (.ref a) (.ref a) from rfl) (fun s'' K2 ⟨b, sb, hb⟩ => ?_) (.inr hl))
  have hCb : C ≠ b := by
    rcases hb with e | e
    · rw [e]; exact f.2.1
    · exact Ne.symm (f.2.2.2.2.1 y b e)
  refine ⟨m, hn.sameBut sb hCb, fun h' hs' => ?_⟩
  exact ⟨_, H', K2.turned (t' := s''.toks) (fun b o hb e => (hs'.2 b hb).trans e) f.1 f.2.1 f.2.2.2.1 f.2.2.2.2.1 f.2.2.2.2.2, q⟩
end
noncomputable def compGB (sc : Scope) (N : List Str) (scope : Scope) (fr : List (Str × Nat)) : Bool :=
  decide (scope.kind = .function) && decide ((scope.names.map (·.1)).Nodup) && decide (∀ y ∈ scope.names, y.2 = .free → sc.names.lookup y.1 = some .cell ∨ sc.names.lookup y.1 = some .free) &&
  decide (∀ y ∈ scope.names, y.2 = .local → scope.names.lookup y.1 = some .local) && decide (∀ p ∈ fr, N[p.2]? = some p.1 ∧ scope.names.lookup p.1 = some .free)
theorem compG_ok {X : Cx} {sc scope : Scope} {N xs : List Str} {fr : List (Str × Nat)} (h1 : X.env.scope = sc) (h2 : X.N = N) (h : compGB sc N scope fr = true) : CompOkG X sc scope xs fr := by
  unfold compGB at h
  simp only [Bool.and_eq_true, decide_eq_true_eq] at h
  obtain ⟨⟨⟨⟨e1, e2⟩, e3⟩, e4⟩, e5⟩ := h
  subst h2
  exact ⟨h1, e1, e2, e3, e4, e5⟩
noncomputable def nameB (sc : Scope) (N : List Str) (i : Nat) (x : Str) : Bool := decide (N.Nodup) && decide (N[i]? = some x) && (decide (sc.names.lookup x = some .local))
theorem pg_own {X : Cx} {sc : Scope} {N : List Str} {i : Nat} {x : Str} {pos : Pos} (h1 : X.env.scope = sc) (h2 : X.N = N) (h : nameB sc N i x = true) : PG X (.Name x pos) (gName i) := by
  unfold nameB at h
  simp only [Bool.and_eq_true, decide_eq_true_eq] at h
  subst h1 h2
  exact pg_name h.1.1 h.1.2 (.inl h.2) (.inr h.2)
theorem pg_ownC {X : Cx} {sc : Scope} {N : List Str} {i : Nat} {x : Str} {pos : Pos} (h1 : X.env.scope = sc) (h2 : X.N = N) (h : (decide (N.Nodup) && decide (N[i]? = some x) && (decide (sc.names.lookup x = some .cell))) = true) (hf : X.fn x = true) : PG X (.Name x pos) (gName i) := by
  simp only [Bool.and_eq_true, decide_eq_true_eq] at h
  subst h1 h2
  exact pg_name h.1.1 h.1.2 (.inr h.2) (.inl hf)
end L2

namespace L2
open PySem PySem.Spec PyProof.Rows
noncomputable def SqB (b : Bool) (K : PySem.W.Frag) (H : Hp) (a : Addr) (xs : List V) : Prop := match b with | false => SqL K H a xs | true => SqT K H a xs
noncomputable def ItB (b : Bool) (h : Heap) (it a : Addr) (i : Nat) : Prop := match b with | false => h.IsListIter it a i | true => h.IsTupleIter it a i
noncomputable def seqB (b : Bool) (h : Heap) (a : Addr) (its : Array Value) : Prop := match b with | false => h.IsList a its | true => h.IsTuple a its
noncomputable def nmB (b : Bool) : String := match b with | false => "list_iterator" | true => "tuple_iterator"
theorem ItB.at {b : Bool} {h h' : Heap} {it a : Addr} {i : Nat} (x : ItB b h it a i) (e : ∀ o, h.get? it = some o → h'.get? it = some o) : ItB b h' it a i := by
  cases b
  · exact Heap.IsListIter.at x e
  · exact Heap.IsTupleIter.at x e
theorem seqB.at {b : Bool} {h h' : Heap} {a : Addr} {its : Array Value} (x : seqB b h a its) (e : ∀ o, h.get? a = some o → h'.get? a = some o) : seqB b h' a its := by
  cases b
  · exact Heap.IsList.at x e
  · obtain ⟨o, ho, r⟩ := x
    exact ⟨o, e o ho, r⟩
theorem ItB.lt {b : Bool} {h : Heap} {it a : Addr} {i : Nat} (x : ItB b h it a i) : ∃ o, h.get? it = some o ∧ ∀ v, o.data ≠ .cell v := by
  cases b
  · obtain ⟨o, e, c, d⟩ := x
    exact ⟨o, e, fun v z => by rw [d] at z; cases z⟩
  · obtain ⟨o, e, c, d⟩ := x
    exact ⟨o, e, fun v z => by rw [d] at z; cases z⟩
section
variable {prog : Program} {w : World} {A : Around} {E : Value → Shared → Prop} {s : Shared}
theorem nextT_item {it t : Addr} {i : Nat} {items} {x : Value} {Q : Value → Shared → Prop} (hit : s.heap.IsTupleIter it t i) (ht : s.heap.IsTuple t items) (hx : items[i]? = some x)
    (hQ : ∀ h', h'.IsTupleIter it t (i + 1) → Heap.SameBut it s.heap h' → Q x { s with heap := h' }) : wpAny (model prog w) A (Builtin.SmallTypes.nextOf (.ref it)) Q E s := by
  obtain ⟨o, ho, hc, hd⟩ := id hit
  obtain ⟨ol, hol, _, nl, hdl⟩ := ht
  unfold Builtin.SmallTypes.nextOf
  refine wpAny_bind (wpAny_callSpecial?_slot (name := Str.ofString "__next__") hit.typeIs F.slot_tuple_iterator_next
    (wpAny_call_entry F.slot_tuple_iterator_next hit.typeIs F.entry_tuple_iterator_next ?_ (F.args_tuple_iterator_next_1 _)))
  show wpAny _ _ (field (.ref it) 0 >>= _) _ _ s
  refine wpAny_bind (wpAny_field ho hd (x := .ref t) rfl ?_)
  show wpAny _ _ (if (Value.ref t == Value.none) = true then _ else _) _ _ s
  rw [if_neg (show ¬ ((Value.ref t == Value.none) = true) from Bool.false_ne_true)]
  show wpAny _ _ (field (.ref it) 1 >>= _) _ _ s
  refine wpAny_bind (wpAny_field ho hd (x := .int i 0) rfl ?_)
  show wpAny _ _ (seqItems? (.ref t) >>= _) _ _ s
  refine wpAny_bind (wpAny_seqItems hol hdl ?_)
  simp only [Int.toNat_natCast, hx]
  refine wpAny_bind (wpAny_setField ho hd (by simp) (wpAny_pure ⟨x, rfl, wpAny_pure (hQ _ ?_ (Heap.SameBut.update ..))⟩))
  exact ⟨_, Heap.get?_update_self _ ho (Obj.isFreed_of_fields (Obj.data_mapFields hd _)), (Obj.cls_mapFields ..).trans hc, by
    rw [Obj.data_mapFields hd]; simp [rawInt]⟩
theorem nextT_end {it t : Addr} {i : Nat} {items} {Q : Value → Shared → Prop} (hh : A.handled = none) (hit : s.heap.IsTupleIter it t i) (ht : s.heap.IsTuple t items) (hx : items[i]? = none)
    (hE : ∀ h' e, Heap.ExtBut it s.heap h' → (∃ o, h'.get? e = some o ∧ o.cls = .type "StopIteration") → E (.ref e) { s with heap := h' }) : wpAny (model prog w) A (Builtin.SmallTypes.nextOf (.ref it)) Q E s := by
  obtain ⟨o, ho, hc, hd⟩ := id hit
  obtain ⟨ol, hol, _, nl, hdl⟩ := ht
  unfold Builtin.SmallTypes.nextOf
  refine wpAny_bind (wpAny_callSpecial?_slot (name := Str.ofString "__next__") hit.typeIs F.slot_tuple_iterator_next
    (wpAny_call_entry F.slot_tuple_iterator_next hit.typeIs F.entry_tuple_iterator_next ?_ (F.args_tuple_iterator_next_1 _)))
  show wpAny _ _ (field (.ref it) 0 >>= _) _ _ s
  refine wpAny_bind (wpAny_field ho hd (x := .ref t) rfl ?_)
  show wpAny _ _ (if (Value.ref t == Value.none) = true then _ else _) _ _ s
  rw [if_neg (show ¬ ((Value.ref t == Value.none) = true) from Bool.false_ne_true)]
  show wpAny _ _ (field (.ref it) 1 >>= _) _ _ s
  refine wpAny_bind (wpAny_field ho hd (x := .int i 0) rfl ?_)
  show wpAny _ _ (seqItems? (.ref t) >>= _) _ _ s
  refine wpAny_bind (wpAny_seqItems hol hdl ?_)
  simp only [Int.toNat_natCast, hx]
  refine wpAny_bind (wpAny_rule (wpAny_bind (wpAny_setField ho hd (by simp) ?_)))
  show wpAny _ _ (newExc (.type "StopIteration") [] >>= _) _ _ _
  refine wpAny_bind ?_
  simp only [newExc, newTuple]
  refine wpAny_bind (wpAny_newObj_type ?_ (by size_fits))
  refine wpAny_bind (m := firstArgMember _ _) (wpAny_of_eq (a := Value.none) (by first | rfl | (simp only [firstArgMember]; rfl)) ?_)
  refine wpAny_newObj_type ?_ (by size_fits)
  simp only [raiseNew]
  refine wpAny_bind (wpAny_handled ?_)
  first | rw [show A.in1.handled = none from hh] | rw [hh]
  refine wpAny_bind (wpAny_pure (wpAny_throw ?_))
  exact hE _ _ (((Heap.SameBut.update ..).extBut.push _).push _) ⟨_, Heap.get?_push_size _ rfl, rfl⟩
theorem nextB_item {b : Bool} {it l : Addr} {i : Nat} {items : Array Value} {x : Value} {Q : Value → Shared → Prop} (hit : ItB b s.heap it l i) (hl : seqB b s.heap l items) (hx : items[i]? = some x)
    (hQ : ∀ h', ItB b h' it l (i + 1) → Heap.SameBut it s.heap h' → Q x { s with heap := h' }) : wpAny (model prog w) A (Builtin.SmallTypes.nextOf (.ref it)) Q E s := by
  cases b
  · exact wpAny_nextOf_list_item hit hl hx hQ
  · exact nextT_item hit hl hx hQ
theorem nextB_end {b : Bool} {it l : Addr} {i : Nat} {items : Array Value} {Q : Value → Shared → Prop} (hh : A.handled = none) (hit : ItB b s.heap it l i) (hl : seqB b s.heap l items) (hx : items[i]? = none)
    (hE : ∀ h' e, Heap.ExtBut it s.heap h' → (∃ o, h'.get? e = some o ∧ o.cls = .type "StopIteration") → E (.ref e) { s with heap := h' }) : wpAny (model prog w) A (Builtin.SmallTypes.nextOf (.ref it)) Q E s := by
  cases b
  · exact wpAny_nextOf_list_end hh hit hl hx hE
  · exact nextT_end hh hit hl hx hE
theorem iterB {b : Bool} {l : Addr} {items : Array Value} {Q : Value → Shared → Prop} (hl : seqB b s.heap l items)
    (hQ : Q (.ref s.heap.objs.size) { s with heap := s.heap.push { cls := .type (nmB b), data := .fields #[.ref l, .int 0 0] } }) : wpAny (model prog w) A (pyIter (.ref l)) Q E s := by
  cases b
  · exact wpAny_pyIter_list hl hQ
  · exact wpAny_pyIter_tuple hl hQ
theorem iterB_new {b : Bool} {h : Heap} {l : Addr} : ItB b (h.push { cls := .type (nmB b), data := .fields #[.ref l, .int 0 0] }) h.objs.size l 0 := by
  cases b
  · exact ⟨_, Heap.get?_push_size _ rfl, rfl, rfl⟩
  · exact ⟨_, Heap.get?_push_size _ rfl, rfl, rfl⟩
theorem drawsB (b : Bool) (hh : A.handled = none) (it l : Addr) (hne : l ≠ it) (items : Array Value) :
    Draws prog w A it [it, l] items.size (fun i v => items[i]? = some v) (fun i h => ItB b h it l i ∧ seqB b h l items) where
  live := fun _ _ st => let ⟨o, ho, _⟩ := st.1.lt; ⟨o, ho⟩
  frame := fun _ _ _ st hk => ⟨st.1.at fun o e => hk it (by simp) o e, st.2.at fun o e => hk l (by simp) o e⟩
  item := fun i s Q E hi st hQ => by
    refine nextB_item st.1 st.2 (x := items[i]) (by simp [hi]) fun h' hit' hs' => ?_
    exact hQ _ h' s.toks (by simp [hi]) ⟨hit', st.2.at fun o e => (hs'.2 l hne).trans e⟩ hs'
  done := fun s Q E st hE => nextB_end hh st.1 st.2 (by simp) hE

theorem zipB_item {b1 b2 : Bool} {z TI TO i1 i2 l1 l2 : Addr} {k1 k2 : Nat} {xs ys : Array Value} {x y a b : Value} {Q : Option Value → Shared → Prop} (D : ZipApart z TI TO i1 i2 l1 l2)
    (hz : IsZip s.heap z TI TO .none) (hTI : IsPair s.heap TI (.ref i1) (.ref i2)) (hTO : IsPair s.heap TO a b)
    (h1 : ItB b1 s.heap i1 l1 k1) (h2 : ItB b2 s.heap i2 l2 k2) (hl1 : seqB b1 s.heap l1 xs) (hl2 : seqB b2 s.heap l2 ys) (hx : xs[k1]? = some x) (hy : ys[k2]? = some y)
    (hQ : ∀ h', IsZip h' z TI TO (rawInt s.heap.objs.size) → IsPair h' TO x y → ItB b1 h' i1 l1 (k1 + 1) → ItB b2 h' i2 l2 (k2 + 1) → IsPair h' s.heap.objs.size x y → h'.objs.size = s.heap.objs.size + 1 →
      (∀ c o, c ≠ z → c ≠ TO → c ≠ i1 → c ≠ i2 → s.heap.get? c = some o → h'.get? c = some o) → Q (some (.ref s.heap.objs.size)) { s with heap := h' }) :
    wpAny (model prog w) A (pyNext (.ref z)) Q E s := by
  have hT : s.TypeIs (.ref z) "zip" := ⟨_, hz, rfl⟩
  unfold pyNext
  refine wpAny_bind (wpAny_attempt (wpAny_callSpecial?_slot (name := Str.ofString "__next__") hT F.slot_zip_next (wpAny_call_entry F.slot_zip_next hT F.entry_zip_next ?_ (F.args_zip_next_1 _))))
  show wpAny _ _ (field (.ref z) 2 >>= _) _ _ _
  refine wpAny_bind (wpAny_field hz rfl (x := .bool false) rfl ?_)
  show wpAny _ _ (field (.ref z) 3 >>= _) _ _ _
  refine wpAny_bind (wpAny_field hz rfl (x := .ref TI) rfl ?_)
  refine wpAny_bind (wpAny_seqItems hTI rfl ?_)
  show wpAny _ _ (Builtin.SmallTypes.ownedTupleIsFree (.ref z) >>= _) _ _ _
  refine wpAny_bind ?_
  unfold Builtin.SmallTypes.ownedTupleIsFree
  refine wpAny_bind (wpAny_field hz rfl (x := .none) rfl (wpAny_pure ?_))
  simp only [if_true]
  refine wpAny_bind (wpAny_rule ?_)
  refine wpAny_bind (wpAny_field hz rfl (x := .ref TO) rfl ?_)
  refine wpAny_bind (wpAny_setField_rec hz (by simp) fun h₁ hz₁ hs₁ => ?_)
  replace hz₁ : IsZip h₁ z TI TO .ellipsis := hz₁
  refine wpAny_bind ?_
  simp only [List.zipIdx_cons, List.zipIdx_nil, List.forIn_cons, List.forIn_nil]
  refine wpAny_bind (wpAny_bind (wpAny_onRaise ?_))
  show wpAny _ _ (Builtin.SmallTypes.nextOf (.ref i1) >>= _) _ _ _
  refine wpAny_bind (nextB_item (h1.at fun o e => hs₁.extBut _ _ D.i1z e) (hl1.at fun o e => hs₁.extBut _ _ D.l1z e) hx fun h₂ h1₂ hs₂ => wpAny_pure ?_)
  have hTO₂ : IsPair h₂ TO a b := hs₂.extBut _ _ D.TOi1 (hs₁.extBut _ _ D.TOz hTO)
  refine wpAny_bind (wpAny_seqItems hTO₂ rfl ?_)
  refine wpAny_bind (wpAny_updateSeq_pair hTO₂ fun h₃ hTO₃ hs₃ => ?_)
  replace hTO₃ : IsPair h₃ TO x b := hTO₃
  refine wpAny_bind (wpAny_letGo (wpAny_pure ?_))
  refine wpAny_bind (wpAny_bind (wpAny_onRaise ?_))
  show wpAny _ _ (Builtin.SmallTypes.nextOf (.ref i2) >>= _) _ _ _
  refine wpAny_bind (nextB_item (h2.at fun o e => hs₃.extBut _ _ D.TOi2.symm (hs₂.extBut _ _ D.i12.symm (hs₁.extBut _ _ D.i2z e)))
    (hl2.at fun o e => hs₃.extBut _ _ D.l2TO (hs₂.extBut _ _ D.l2i1 (hs₁.extBut _ _ D.l2z e))) hy fun h₄ h2₄ hs₄ => wpAny_pure ?_)
  have hTO₄ : IsPair h₄ TO x b := hs₄.extBut _ _ D.TOi2 hTO₃
  refine wpAny_bind (wpAny_seqItems hTO₄ rfl ?_)
  refine wpAny_bind (wpAny_updateSeq_pair hTO₄ fun h₅ hTO₅ hs₅ => ?_)
  replace hTO₅ : IsPair h₅ TO x y := hTO₅
  refine wpAny_bind (wpAny_letGo (wpAny_pure (wpAny_pure ?_)))
  refine wpAny_bind (wpAny_seqItems hTO₅ rfl ?_)
  refine wpAny_bind (wpAny_newTuple ?_)
  have hsz : h₅.objs.size = s.heap.objs.size := by rw [hs₅.1, hs₄.1, hs₃.1, hs₂.1, hs₁.1]
  have hz₅ : IsZip h₅ z TI TO .ellipsis := hs₅.extBut _ _ D.TOz.symm (hs₄.extBut _ _ D.i2z.symm (hs₃.extBut _ _ D.TOz.symm (hs₂.extBut _ _ D.i1z.symm hz₁)))
  have hk₅ : ∀ c o, c ≠ z → c ≠ TO → c ≠ i1 → c ≠ i2 → s.heap.get? c = some o → h₅.get? c = some o := fun c o c1 c2 c3 c4 e =>
    hs₅.extBut _ _ c2 (hs₄.extBut _ _ c4 (hs₃.extBut _ _ c2 (hs₂.extBut _ _ c3 (hs₁.extBut _ _ c1 e))))
  have h1₅ : ItB b1 h₅ i1 l1 (k1 + 1) := h1₂.at fun o e => hs₅.extBut _ _ D.TOi1.symm (hs₄.extBut _ _ D.i12 (hs₃.extBut _ _ D.TOi1.symm e))
  have h2₅ : ItB b2 h₅ i2 l2 (k2 + 1) := h2₄.at fun o e => hs₅.extBut _ _ D.TOi2.symm e
  have hzlt : z < h₅.objs.size := Heap.lt_size hz₅
  show wpAny _ _ (Builtin.SmallTypes.ownedTupleHandOut (.ref z) (.ref h₅.objs.size) >>= _) _ _ _
  refine wpAny_bind ?_
  unfold Builtin.SmallTypes.ownedTupleHandOut
  have hz₆ : IsZip (h₅.push { cls := .type "tuple", data := .seq #[x, y] }) z TI TO .ellipsis := Heap.get?_push_of_some _ hz₅
  refine wpAny_bind (wpAny_setField_rec hz₆ (by simp) fun h₇ hz₇ hs₇ => ?_)
  replace hz₇ : IsZip h₇ z TI TO (rawInt h₅.objs.size) := hz₇
  refine wpAny_setField_rec hz₇ (by simp) fun h₈ hz₈ hs₈ => ?_
  replace hz₈ : IsZip h₈ z TI TO (rawInt h₅.objs.size) := hz₈
  have up : ∀ c o, c ≠ z → h₅.get? c = some o → h₈.get? c = some o := fun c o c1 e => hs₈.extBut _ _ c1 (hs₇.extBut _ _ c1 (Heap.get?_push_of_some _ e))
  have hT₈ : IsPair h₈ h₅.objs.size x y := hs₈.extBut _ _ (Nat.ne_of_gt hzlt) (hs₇.extBut _ _ (Nat.ne_of_gt hzlt) (Heap.get?_push_size _ rfl))
  have hz8 : h₈.objs.size = h₅.objs.size + 1 := by rw [hs₈.1, hs₇.1, Heap.size_push]
  rw [hsz] at hz₈ hT₈ hz8
  refine wpAny_pure ⟨_, rfl, wpAny_pure ?_⟩
  show Q (some (.ref h₅.objs.size)) _
  rw [hsz]
  exact hQ h₈ hz₈ (up _ _ D.TOz hTO₅) (h1₅.at fun o e => up _ o D.i1z e) (h2₅.at fun o e => up _ o D.i2z e) hT₈ hz8 fun c o c1 c2 c3 c4 e => up c o c1 (hk₅ c o c1 c2 c3 c4 e)
theorem zipB_end {b1 b2 : Bool} {z TI TO i1 i2 l1 l2 : Addr} {k1 k2 : Nat} {xs ys : Array Value} {a b : Value} {Q : Option Value → Shared → Prop} (hh : A.handled = none) (D : ZipApart z TI TO i1 i2 l1 l2)
    (hz : IsZip s.heap z TI TO .none) (hTI : IsPair s.heap TI (.ref i1) (.ref i2)) (hTO : IsPair s.heap TO a b)
    (h1 : ItB b1 s.heap i1 l1 k1) (h2 : ItB b2 s.heap i2 l2 k2) (hl1 : seqB b1 s.heap l1 xs) (hl2 : seqB b2 s.heap l2 ys) (hend : xs[k1]? = none ∨ ys[k2]? = none)
    (hQ : ∀ h', (∀ c o, c ≠ z → c ≠ TO → c ≠ i1 → c ≠ i2 → s.heap.get? c = some o → h'.get? c = some o) → Q none { s with heap := h' }) : wpAny (model prog w) A (pyNext (.ref z)) Q E s := by
  have hT : s.TypeIs (.ref z) "zip" := ⟨_, hz, rfl⟩
  unfold pyNext
  refine wpAny_bind (wpAny_attempt (wpAny_callSpecial?_slot (name := Str.ofString "__next__") hT F.slot_zip_next (wpAny_call_entry F.slot_zip_next hT F.entry_zip_next (Q := _) ?_ (F.args_zip_next_1 _))))
  show wpAny _ _ (field (.ref z) 2 >>= _) _ _ _
  refine wpAny_bind (wpAny_field hz rfl (x := .bool false) rfl ?_)
  show wpAny _ _ (field (.ref z) 3 >>= _) _ _ _
  refine wpAny_bind (wpAny_field hz rfl (x := .ref TI) rfl ?_)
  refine wpAny_bind (wpAny_seqItems hTI rfl ?_)
  show wpAny _ _ (Builtin.SmallTypes.ownedTupleIsFree (.ref z) >>= _) _ _ _
  refine wpAny_bind ?_
  unfold Builtin.SmallTypes.ownedTupleIsFree
  refine wpAny_bind (wpAny_field hz rfl (x := .none) rfl (wpAny_pure ?_))
  simp only [if_true]
  refine wpAny_bind (wpAny_rule ?_)
  refine wpAny_bind (wpAny_field hz rfl (x := .ref TO) rfl ?_)
  refine wpAny_bind (wpAny_setField_rec hz (by simp) fun h₁ hz₁ hs₁ => ?_)
  replace hz₁ : IsZip h₁ z TI TO .ellipsis := hz₁
  refine wpAny_bind ?_
  simp only [List.zipIdx_cons, List.zipIdx_nil, List.forIn_cons, List.forIn_nil]
  refine wpAny_bind (wpAny_bind (wpAny_onRaise ?_))
  show wpAny _ _ (Builtin.SmallTypes.nextOf (.ref i1) >>= _) _ _ _
  cases hx : xs[k1]? with
  | none =>
    refine wpAny_bind (nextB_end hh (h1.at fun o e => hs₁.extBut _ _ D.i1z e) (hl1.at fun o e => hs₁.extBut _ _ D.l1z e) hx fun h₂ e hs₂ he => ?_)
    obtain ⟨oe, hoe, hce⟩ := he
    have hz₂ : IsZip h₂ z TI TO .ellipsis := hs₂ _ _ D.i1z.symm hz₁
    have hez : e ≠ z := fun x => by subst x; rw [hz₂] at hoe; cases hoe; simp at hce
    refine wpAny_setField_rec hz₂ (by simp) fun h₃ _ hs₃ => ?_
    refine wpAny_bind (wpAny_isInstance (T := "StopIteration") (b := true) ⟨oe, hs₃.extBut _ _ hez hoe, hce⟩ isSubtype_stop ?_)
    exact wpAny_pure (hQ h₃ fun c o c1 _ c3 _ x => hs₃.extBut _ _ c1 (hs₂ _ _ c3 (hs₁.extBut _ _ c1 x)))
  | some x =>
    have hy : ys[k2]? = none := by rcases hend with h | h; rw [hx] at h; cases h; exact h
    refine wpAny_bind (nextB_item (h1.at fun o e => hs₁.extBut _ _ D.i1z e) (hl1.at fun o e => hs₁.extBut _ _ D.l1z e) hx fun h₂ h1₂ hs₂ => wpAny_pure ?_)
    have hTO₂ : IsPair h₂ TO a b := hs₂.extBut _ _ D.TOi1 (hs₁.extBut _ _ D.TOz hTO)
    refine wpAny_bind (wpAny_seqItems hTO₂ rfl ?_)
    refine wpAny_bind (wpAny_updateSeq_pair hTO₂ fun h₃ hTO₃ hs₃ => ?_)
    refine wpAny_bind (wpAny_letGo (wpAny_pure ?_))
    refine wpAny_bind (wpAny_bind (wpAny_onRaise ?_))
    show wpAny _ _ (Builtin.SmallTypes.nextOf (.ref i2) >>= _) _ _ _
    refine wpAny_bind (nextB_end hh (h2.at fun o e => hs₃.extBut _ _ D.TOi2.symm (hs₂.extBut _ _ D.i12.symm (hs₁.extBut _ _ D.i2z e)))
      (hl2.at fun o e => hs₃.extBut _ _ D.l2TO (hs₂.extBut _ _ D.l2i1 (hs₁.extBut _ _ D.l2z e))) hy fun h₄ e hs₄ he => ?_)
    obtain ⟨oe, hoe, hce⟩ := he
    have hz₄ : IsZip h₄ z TI TO .ellipsis := hs₄ _ _ D.i2z.symm (hs₃.extBut _ _ D.TOz.symm (hs₂.extBut _ _ D.i1z.symm hz₁))
    have hez : e ≠ z := fun x => by subst x; rw [hz₄] at hoe; cases hoe; simp at hce
    refine wpAny_setField_rec hz₄ (by simp) fun h₅ _ hs₅ => ?_
    refine wpAny_bind (wpAny_isInstance (T := "StopIteration") (b := true) ⟨oe, hs₅.extBut _ _ hez hoe, hce⟩ isSubtype_stop ?_)
    exact wpAny_pure (hQ h₅ fun c o c1 c2 c3 c4 x => hs₅.extBut _ _ c1 (hs₄ _ _ c4 (hs₃.extBut _ _ c2 (hs₂.extBut _ _ c3 (hs₁.extBut _ _ c1 x)))))
end
noncomputable abbrev zB1 (b1 : Bool) (h : Heap) (l1 : Addr) : Heap := h.push { cls := .type (nmB b1), data := .fields #[.ref l1, .int 0 0] }
noncomputable abbrev zB2 (b1 b2 : Bool) (h : Heap) (l1 l2 : Addr) : Heap := (zB1 b1 h l1).push { cls := .type (nmB b2), data := .fields #[.ref l2, .int 0 0] }
noncomputable abbrev zB3 (b1 b2 : Bool) (h : Heap) (l1 l2 : Addr) : Heap := (zB2 b1 b2 h l1 l2).push { cls := .type "tuple", data := .seq #[.ref h.objs.size, .ref (zB1 b1 h l1).objs.size] }
noncomputable abbrev zB4 (b1 b2 : Bool) (h : Heap) (l1 l2 : Addr) : Heap := (zB3 b1 b2 h l1 l2).push { cls := .type "tuple", data := .seq #[.none, .none] }
noncomputable abbrev zB5 (b1 b2 : Bool) (h : Heap) (l1 l2 : Addr) : Heap := (zB4 b1 b2 h l1 l2).push { cls := .type "zip", data := .fields #[.none, .bool false, .bool false, .ref (zB2 b1 b2 h l1 l2).objs.size, .ref (zB3 b1 b2 h l1 l2).objs.size] }
theorem meets_zipB (b1 b2 : Bool) (l1 l2 : Addr) (xs ys : Array Value) :
    Meets (Builtin.«zip.__new__» ⟨[.type "zip", .ref l1, .ref l2], []⟩) (fun _ R s => seqB b1 s.heap l1 xs ∧ seqB b2 s.heap l2 ys ∧
      R (.ok (.ret (.ref (zB4 b1 b2 s.heap l1 l2).objs.size))) { s with heap := zB5 b1 b2 s.heap l1 l2 }) :=
  .of_wp fun prog w A R s h => by
    obtain ⟨hp, g, d, tk, os⟩ := s; obtain ⟨hl1, hl2, h⟩ := h
    have hsub := sub_zip
    have hL1 : seqB b1 (Shared.heap ⟨hp, g, d, tk, os⟩) l1 xs := hl1
    have hL2 : seqB b2 (Shared.heap ⟨hp.push { cls := .type (nmB b1), data := .fields #[.ref l1, .int 0 0] }, g, d, tk, os⟩) l2 ys := hl2.at fun o e => Heap.get?_push_of_some _ e
    wp_walk using iterB hL1, iterB hL2
    exact ⟨_, rfl, h⟩
theorem call_zipB {prog : Program} {w : World} {A : Around} {E : Value → Shared → Prop} {s : Shared} {b1 b2 : Bool} {l1 l2 : Addr} {xs ys : Array Value} {Q : Value → Shared → Prop} (hl1 : seqB b1 s.heap l1 xs) (hl2 : seqB b2 s.heap l2 ys)
    (h : ∀ h', IsZip h' (s.heap.objs.size + 4) (s.heap.objs.size + 2) (s.heap.objs.size + 3) .none → IsPair h' (s.heap.objs.size + 2) (.ref s.heap.objs.size) (.ref (s.heap.objs.size + 1)) →
      IsPair h' (s.heap.objs.size + 3) .none .none → ItB b1 h' s.heap.objs.size l1 0 → ItB b2 h' (s.heap.objs.size + 1) l2 0 →
      (∀ c o, s.heap.get? c = some o → h'.get? c = some o) → Q (.ref (s.heap.objs.size + 4)) { s with heap := h' }) :
    wpAny (model prog w) A (call (.type "zip") [.ref l1, .ref l2]) Q E s := by
  refine callType_new F.called_zip (by decide) (F.typeCall_zip_2 _ _) (F.newCall_zip_2 _ _) (fun obj => F.args_object_init_3 obj _ _) F.entry_zip_new
    (meets_zipB b1 b2 l1 l2 xs ys) ⟨hl1, hl2, ?_⟩
  have z1 : (zB1 b1 s.heap l1).objs.size = s.heap.objs.size + 1 := Heap.size_push ..
  have z2 : (zB2 b1 b2 s.heap l1 l2).objs.size = s.heap.objs.size + 2 := by rw [Heap.size_push, z1]
  have z3 : (zB3 b1 b2 s.heap l1 l2).objs.size = s.heap.objs.size + 3 := by rw [Heap.size_push, z2]
  have z4 : (zB4 b1 b2 s.heap l1 l2).objs.size = s.heap.objs.size + 4 := by rw [Heap.size_push, z3]
  have g5 : (zB5 b1 b2 s.heap l1 l2).get? (zB4 b1 b2 s.heap l1 l2).objs.size = some _ := Heap.get?_push_size _ rfl
  have g4 : (zB5 b1 b2 s.heap l1 l2).get? (zB3 b1 b2 s.heap l1 l2).objs.size = some _ := Heap.get?_push_of_some _ (Heap.get?_push_size _ rfl)
  have g3 : (zB5 b1 b2 s.heap l1 l2).get? (zB2 b1 b2 s.heap l1 l2).objs.size = some _ := Heap.get?_push_of_some _ (Heap.get?_push_of_some _ (Heap.get?_push_size _ rfl))
  have u2 : ∀ c o, (zB2 b1 b2 s.heap l1 l2).get? c = some o → (zB5 b1 b2 s.heap l1 l2).get? c = some o := fun c o e => Heap.get?_push_of_some _ (Heap.get?_push_of_some _ (Heap.get?_push_of_some _ e))
  have g2 : ItB b2 (zB5 b1 b2 s.heap l1 l2) (zB1 b1 s.heap l1).objs.size l2 0 := iterB_new.at fun o e => u2 _ o e
  have g1 : ItB b1 (zB5 b1 b2 s.heap l1 l2) s.heap.objs.size l1 0 := iterB_new.at fun o e => u2 _ o (Heap.get?_push_of_some _ e)
  show _ ∧ _
  rw [z2, z3, z4] at g5
  rw [z1, z2] at g3
  rw [z3] at g4
  rw [z1] at g2
  rw [z4]
  exact ⟨⟨_, g5, rfl⟩, h _ g5 g3 g4 g1 g2 fun c o x => u2 c o (Heap.get?_push_of_some _ (Heap.get?_push_of_some _ x))⟩
end L2
namespace L2
open PySem PySem.Spec PyProof.Rows
section
variable {X : Cx} {pins : List (Addr × Obj)} {σ : St} {H : Hp} {s : Shared} {h' : Heap}
theorem Inv.seqB {b : Bool} {a : Addr} {xs : List V} (I : Inv X pins σ H s) (h : SqB b X.K H a xs) : ∃ its : List Value, Vals xs its ∧ L2.seqB b s.heap a its.toArray := by
  cases b
  · obtain ⟨its, rv, p, _⟩ := I.list h
    exact ⟨its, rv, p.isList⟩
  · obtain ⟨its, rv, p, _⟩ := I.tuple h
    exact ⟨its, rv, p⟩
theorem Inv.seqB_inj {b : Bool} {a : Addr} {xs ys : List V} (I : Inv X pins σ H s) (h : SqB b X.K H a xs) (h2 : SqB b X.K H a ys) : xs = ys := by
  cases b
  · exact I.list_inj h h2
  · exact I.tuple_inj h h2
theorem Inv.seq_ne {b : Bool} {a f : Addr} {xs : List V} (I : Inv X pins σ H s) (h : SqB b X.K H a xs) (hf : FpOk X pins H f) : a ≠ f := by
  have rd : ∀ u, Rd H a u → a ≠ f := fun u r z => by
    subst z
    rcases r with r | ⟨o, r⟩ <;> (rw [hf.1] at r; cases r)
  have kk : ∀ o, X.K.lookup a = some o → a ≠ f := fun o e z => by
    subst z
    have q := I.mod.kin a o e
    rcases hf.2.2.2.1 with w | w
    · exact I.ok.noex _ _ q w
    · exact absurd (Nat.lt_of_lt_of_le (Heap.lt_size q) (Nat.le_trans I.ok.bsz w)) (Nat.lt_irrefl _)
  cases b
  · rcases h with h | ⟨o, its, n, hk, _⟩
    · exact rd _ h
    · exact kk _ hk
  · rcases h with h | ⟨o, its, n, hk, _⟩
    · exact rd _ h
    · exact kk _ hk
theorem Inv.turnedNew {fp : List Addr} {n : Addr} {u : HO} {t' : Nat} (I : Inv X pins σ H s) (hf : ∀ b ∈ fp, FpOk X pins H b) (k : ∀ b o, b ∉ fp → s.heap.get? b = some o → h'.get? b = some o) (hn : s.heap.objs.size ≤ n)
    (new : ObjOk X.prog X.w (upd H n u) h' n u) : Inv X pins σ (upd H n u) { s with heap := h', toks := t' } := by
  have fn := I.hok.fresh hn
  have nfp : ∀ b v, H b = some v → b ∉ fp := fun b v e z => by rw [(hf b z).1] at e; cases e
  have nl : X.env.locals ∉ fp := fun z => (hf _ z).2.1 rfl
  refine I.step (g' := s.gens) (d' := s.drawn) (ch := fp) (fun b hb => ?_) (fun b o _ _ hc e _ => k b o hc e) (fun b o _ _ hc e _ => ⟨o.slots, k b o hc e⟩) (fun b o _ e z => ?_)
    (fun b o hc e => ⟨o, k b o hc e⟩) (fun b xs e => ?_) (fun b o v e => ?_) (fun b ps e => ⟨#[], ?_⟩) (fun m hm => ?_) (fun b v e => ?_) I.bare
  · obtain ⟨f0, f1, f2, f3, f4, f5⟩ := hf b hb
    exact ⟨f3, f1, f4, f5⟩
  · rw [upd_ne (Nat.ne_of_lt (Nat.lt_of_lt_of_le (Heap.lt_size e) hn))]
    exact z
  · rw [upd_ne (ne_of_none e fn)]; exact e
  · rw [upd_ne (ne_of_none e fn)]; exact e
  · rw [upd_ne (ne_of_none e fn), e]; simp
  · obtain ⟨o, es, ep, ho, r⟩ := hm
    exact ⟨o, es, ep, k _ o nl ho, r⟩
  · by_cases hb : b = n
    · subst hb
      rw [upd_same] at e
      cases e
      exact new
    · rw [upd_ne hb] at e
      refine (I.hok b v e).stay (fun c x hc q => k c x ?_ q) (fun c q => by rw [upd_ne (ne_of_none q fn)]; exact q) fun c xs q => by rw [upd_ne (ne_of_none q fn)]; exact q
      rcases hc with z | z
      · rw [z]; exact nfp b v e
      · exact nfp c _ z
theorem Inv.turnedL {fp : List Addr} {t' : Nat} (I : Inv X pins σ H s) (hf : ∀ b ∈ fp, FpOk X pins H b) (k : ∀ b o, b ∉ fp → s.heap.get? b = some o → h'.get? b = some o) : Inv X pins σ H { s with heap := h', toks := t' } := by
  have nfp : ∀ b v, H b = some v → b ∉ fp := fun b v e z => by rw [(hf b z).1] at e; cases e
  have nl : X.env.locals ∉ fp := fun z => (hf _ z).2.1 rfl
  refine I.step (g' := s.gens) (d' := s.drawn) (ch := fp) (fun b hb => ?_) (fun b o _ _ hc e _ => k b o hc e) (fun b o _ _ hc e _ => ⟨o.slots, k b o hc e⟩) (fun b o _ e z => z)
    (fun b o hc e => ⟨o, k b o hc e⟩) (fun b xs e => e) (fun b o v e => e) (fun b ps e => ⟨#[], by rw [e]; simp⟩) (fun m hm => ?_) (fun b v e => ?_) I.bare
  · obtain ⟨f0, f1, f2, f3, f4, f5⟩ := hf b hb
    exact ⟨f3, f1, f4, f5⟩
  · obtain ⟨o, es, ep, ho, r⟩ := hm
    exact ⟨o, es, ep, k _ o nl ho, r⟩
  · refine (I.hok b v e).stay (fun c x hc q => k c x ?_ q) (fun c q => q) fun c xs q => q
    rcases hc with z | z
    · rw [z]; exact nfp b v e
    · exact nfp c _ z
end
noncomputable def Itz (K : PySem.W.Frag) (b1 : Bool) (l1 : Addr) (b2 : Bool) (l2 : Addr) : It :=
  ⟨fun i H => ∃ xs ys x y, SqB b1 K H l1 xs ∧ SqB b2 K H l2 ys ∧ xs[i]? = some x ∧ ys[i]? = some y,
   fun i H v H' => ∃ p x y, v = .ref p ∧ H p = none ∧ H' = upd H p (.tup [x, y]) ∧ (∀ xs, SqB b1 K H l1 xs → xs[i]? = some x) ∧ ∀ ys, SqB b2 K H l2 ys → ys[i]? = some y,
   fun i H => ∃ xs ys, SqB b1 K H l1 xs ∧ SqB b2 K H l2 ys ∧ (xs[i]? = none ∨ ys[i]? = none)⟩
theorem vals_at {xs : List V} {its : List Value} {i : Nat} (r : Vals xs its) : xs[i]? = none → its.toArray[i]? = none := fun h => by
  have := r.none_of h
  simpa using this
theorem turn_zip {P : Program} {w : World} {K : PySem.W.Frag} {es : List Expr} {k : Nat} {pos : Pos} {b1 b2 : Bool} {z TI TO i1 i2 l1 l2 : Addr} (hd : [z, TI, TO, i1, i2].Nodup) :
    Turn P w K (.Tuple es k pos) (Itz K b1 l1 b2 l2) [z, TI, TO, i1, i2] z (fun i h => IsZip h z TI TO .none ∧ IsPair h TI (.ref i1) (.ref i2) ∧ (∃ a b, IsPair h TO a b) ∧ ItB b1 h i1 l1 i ∧ ItB b2 h i2 l2 i) where
  mem := by simp
  obj := fun i h ⟨hz, hTI, ⟨a, b, hTO⟩, h1, h2⟩ c hc => by
    simp only [List.mem_cons, List.not_mem_nil, or_false] at hc
    rcases hc with e | e | e | e | e <;> subst e
    · exact ⟨_, hz, fun v q => by have q' : Data.fields _ = Data.cell v := q; cases q'⟩
    · exact ⟨_, hTI, fun v q => by have q' : Data.seq _ _ = Data.cell v := q; cases q'⟩
    · exact ⟨_, hTO, fun v q => by have q' : Data.seq _ _ = Data.cell v := q; cases q'⟩
    · exact h1.lt
    · exact h2.lt
  keep := fun i h h' ⟨hz, hTI, ⟨a, b, hTO⟩, h1, h2⟩ kk => ⟨kk z (by simp) _ hz, kk TI (by simp) _ hTI, ⟨a, b, kk TO (by simp) _ hTO⟩, h1.at fun o e => kk i1 (by simp) o e, h2.at fun o e => kk i2 (by simp) o e⟩
  item := by
    intro X hP hw hK hc i pins s σ H E I hf st hg
    subst hP hw hK
    obtain ⟨hz, hTI, ⟨a, b, hTO⟩, h1, h2⟩ := st
    obtain ⟨xs, ys, x, y, q1, q2, e1, e2⟩ := hg
    obtain ⟨its1, r1, p1⟩ := I.seqB q1
    obtain ⟨its2, r2, p2⟩ := I.seqB q2
    obtain ⟨u1, hu1, ru1⟩ := r1.get e1
    obtain ⟨u2, hu2, ru2⟩ := r2.get e2
    have ne1 : ∀ f ∈ [z, TI, TO, i1, i2], l1 ≠ f := fun f hff => I.seq_ne q1 (hf f hff)
    have ne2 : ∀ f ∈ [z, TI, TO, i1, i2], l2 ≠ f := fun f hff => I.seq_ne q2 (hf f hff)
    simp only [List.nodup_cons, List.mem_cons, List.not_mem_nil, or_false, not_or, List.nodup_nil, and_true, not_false_eq_true] at hd
    obtain ⟨⟨d1, d2, d3, d4⟩, ⟨d5, d6, d7⟩, ⟨d8, d9⟩, d10⟩ := hd
    have D : ZipApart z TI TO i1 i2 l1 l2 := ⟨Ne.symm d1, Ne.symm d2, Ne.symm d3, Ne.symm d4, d5, d6, d7, d8, d9, d10, ne1 z (by simp), ne1 TO (by simp), ne1 i1 (by simp), ne1 i2 (by simp), ne2 z (by simp), ne2 TO (by simp), ne2 i1 (by simp), ne2 i2 (by simp)⟩
    refine zipB_item D hz hTI hTO h1 h2 p1 p2 (x := u1) (y := u2) (by simpa using hu1) (by simpa using hu2) fun h' a1 a2 a3 a4 a5 a6 a7 => ⟨_, rfl, ?_⟩
    refine wpAny_letOwnedTupleGo_zip a1 fun h'' hz' hs' => ?_
    have up : ∀ c o, c ∉ [z, TI, TO, i1, i2] → s.heap.get? c = some o → h''.get? c = some o := fun c o hc' e => by
      simp only [List.mem_cons, List.not_mem_nil, or_false, not_or] at hc'
      obtain ⟨c1, c2, c3, c4, c5⟩ := hc'
      exact hs'.extBut _ _ c1 (a7 c o c1 c3 c4 c5 e)
    have nz : s.heap.objs.size ≠ z := Nat.ne_of_gt (Heap.lt_size hz)
    have new : ObjOk X.prog X.w (upd H s.heap.objs.size (.tup [x, y])) h'' s.heap.objs.size (.tup [x, y]) :=
      ⟨by show 2 ≤ sizeLine; decide, [u1, u2], .cons ru1 (.cons ru2 .nil), ⟨_, hs'.extBut _ _ nz a5, rfl, _, rfl⟩⟩
    have I2 : Inv X pins σ (upd H s.heap.objs.size (.tup [x, y])) { s with heap := h'' } := I.turnedNew (t' := s.toks) hf up (Nat.le_refl _) new
    refine ⟨.ref s.heap.objs.size, _, I2, rfl, ⟨_, x, y, rfl, I.fresh, rfl, fun xs' q => by rw [I.seqB_inj q q1]; exact e1, fun ys' q => by rw [I.seqB_inj q q2]; exact e2⟩, ⟨hz', hs'.extBut _ _ D.TIz (a7 _ _ D.TIz D.TITO D.TIi1 D.TIi2 hTI), ⟨_, _, hs'.extBut _ _ D.TOz a2⟩, a3.at fun o e => hs'.extBut _ _ D.i1z e, a4.at fun o e => hs'.extBut _ _ D.i2z e⟩, fun c hc' => ?_⟩
    have hcf := (hf c hc').1
    rw [upd_ne]
    · exact hcf
    · intro e
      subst e
      simp only [List.mem_cons, List.not_mem_nil, or_false] at hc'
      rcases hc' with e | e | e | e | e
      · exact nz e
      · exact absurd (Heap.lt_size hTI) (by rw [← e]; exact Nat.lt_irrefl _)
      · exact absurd (Heap.lt_size hTO) (by rw [← e]; exact Nat.lt_irrefl _)
      · obtain ⟨o, q, _⟩ := h1.lt; exact absurd (Heap.lt_size q) (by rw [← e]; exact Nat.lt_irrefl _)
      · obtain ⟨o, q, _⟩ := h2.lt; exact absurd (Heap.lt_size q) (by rw [← e]; exact Nat.lt_irrefl _)
  done := by
    intro X hP hw hK hc i pins s σ H E I hf st hg
    subst hP hw hK
    obtain ⟨hz, hTI, ⟨a, b, hTO⟩, h1, h2⟩ := st
    obtain ⟨xs, ys, q1, q2, e1⟩ := hg
    obtain ⟨its1, r1, p1⟩ := I.seqB q1
    obtain ⟨its2, r2, p2⟩ := I.seqB q2
    have ne1 : ∀ f ∈ [z, TI, TO, i1, i2], l1 ≠ f := fun f hff => I.seq_ne q1 (hf f hff)
    have ne2 : ∀ f ∈ [z, TI, TO, i1, i2], l2 ≠ f := fun f hff => I.seq_ne q2 (hf f hff)
    simp only [List.nodup_cons, List.mem_cons, List.not_mem_nil, or_false, not_or, List.nodup_nil, and_true, not_false_eq_true] at hd
    obtain ⟨⟨d1, d2, d3, d4⟩, ⟨d5, d6, d7⟩, ⟨d8, d9⟩, d10⟩ := hd
    have D : ZipApart z TI TO i1 i2 l1 l2 := ⟨Ne.symm d1, Ne.symm d2, Ne.symm d3, Ne.symm d4, d5, d6, d7, d8, d9, d10, ne1 z (by simp), ne1 TO (by simp), ne1 i1 (by simp), ne1 i2 (by simp), ne2 z (by simp), ne2 TO (by simp), ne2 i1 (by simp), ne2 i2 (by simp)⟩
    refine zipB_end (I.ok.hd hc) D hz hTI hTO h1 h2 p1 p2 (e1.imp (vals_at r1) (vals_at r2)) fun h' a7 => ⟨rfl, I.turnedL (t' := s.toks) hf fun c o hc' e => ?_⟩
    simp only [List.mem_cons, List.not_mem_nil, or_false, not_or] at hc'
    obtain ⟨c1, c2, c3, c4, c5⟩ := hc'
    exact a7 c o c1 c3 c4 c5 e
  self := fun _ _ _ _ _ st h => wpAny_pyIter_zip st.1 h
section
variable {X : Cx}
noncomputable def iZip (K : PySem.W.Frag) (ta : TA) : TI := fun σ H R => ta σ H fun vs H1 => ∃ b1 b2 l1 l2, vs = [.ref l1, .ref l2] ∧ (∃ xs, SqB b1 K H1 l1 xs) ∧ (∃ ys, SqB b2 K H1 l2 ys) ∧ R (Itz K b1 l1 b2 l2) H1
theorem pi_zip {a b : Expr} {ta : TA} {es : List Expr} {k : Nat} {tp p pos : Pos} (hg : Gl X "zip") (hm : X.mg "zip" = none) (ha : PA X [a, b] ta) (hv : bootBuiltins "zip" = some (.type "zip") := by decide +kernel)
    (hs : starEach [a, b] X.env = [(false, eval a X.env), (false, eval b X.env)] := by rfl) (hs2 : starEach [b] X.env = [(false, eval b X.env)] := by rfl) :
    PI X (.Tuple es k tp) (.Call (.Name "zip" p) [a, b] [] pos) (iZip X.K ta) := by
  intro pins s σ H R I h
  refine Call_ (ld_blt I hg hm hv (PyProof.Rows.callWith_type1 (thn (ha pos pins s σ H _ I h) fun us s1 ⟨vs, H1, I1, r1, q1⟩ => ?_) (by rw [hs, hs2]) (by rw [hs2]; rfl)))
  obtain ⟨b1, b2, l1, l2, e, ⟨xs, q1⟩, ⟨ys, q2⟩, q⟩ := q1
  subst e
  cases r1 with
  | cons r rr =>
    cases rr with
    | cons r' rr =>
      cases rr
      cases r
      cases r'
      obtain ⟨its1, v1, p1⟩ := I1.seqB q1
      obtain ⟨its2, v2, p2⟩ := I1.seqB q2
      refine call_zipB p1 p2 fun h' a1 a2 a3 a4 a5 kp => ?_
      refine wpAny_pyIter_zip a1 ?_
      have lt : ∀ j, j ≤ 4 → s1.heap.objs.size ≤ s1.heap.objs.size + j := fun j _ => Nat.le_add_right _ _
      refine ⟨s1.heap.objs.size + 4, [s1.heap.objs.size + 4, s1.heap.objs.size + 2, s1.heap.objs.size + 3, s1.heap.objs.size, s1.heap.objs.size + 1], _, _, H1, rfl, I1.kept (t' := s1.toks) kp, turn_zip (b1 := b1) (b2 := b2) (l1 := l1) (l2 := l2) ?_, ⟨a1, a2, ⟨_, _, a3⟩, a4, a5⟩, fun c hc => ?_, q⟩
      · simp
      · have hle : s1.heap.objs.size ≤ c := by
          simp only [List.mem_cons, List.not_mem_nil, or_false] at hc
          rcases hc with e | e | e | e | e <;> subst e <;> first | exact Nat.le_refl _ | exact Nat.le_add_right _ _
        exact I1.fpOk hle (I1.hok.fresh hle)
end
end L2

namespace L2
open PySem PySem.Spec PyProof.Rows
open AutoSeq1 (wpAny_loadPart')
set_option maxRecDepth 100000 in
theorem meets_enumT (l : Addr) (items : Array Value) (n : Nat) (dct : Option Addr) (sl : Array (Option Value)) :
    Meets (Builtin.«enumerate.__new__» ⟨[.type "enumerate", .ref l], []⟩) (fun _ R s => s.heap.get? l = some { cls := .type "tuple", dict := dct, data := .seq items n, slots := sl } ∧
      R (.ok (.ret (.ref (s.heap.push { cls := .type "tuple_iterator", data := .fields #[.ref l, .int 0 0] }).objs.size)))
        { s with heap := (s.heap.push { cls := .type "tuple_iterator", data := .fields #[.ref l, .int 0 0] }).push { cls := .type "enumerate", data := .fields #[.none, .bool false, .ref s.heap.objs.size, rawInt 0, .none, .none] } }) :=
  .of_wp fun prog w A R s h => by
    obtain ⟨hp, g, d, tk, os⟩ := s; obtain ⟨hl, h⟩ := h
    have hsub := sub_enumerate
    have hL : Heap.IsTuple (Shared.heap ⟨hp, g, d, tk, os⟩) l items := ⟨_, hl, rfl, n, rfl⟩
    wp_walk using wpAny_loadPart' hl
    refine wpAny_stack_any fun st => wpAny_pure ?_
    split
    · rename_i c _ _ _ _ _
      cases (c == Value.type "enumerate")
      · wp_walk using wpAny_loadPart' hl, wpAny_pyIter_tuple hL
        exact ⟨_, rfl, h⟩
      · wp_walk using wpAny_loadPart' hl, wpAny_pyIter_tuple hL
        exact ⟨_, rfl, h⟩
    · wp_walk using wpAny_loadPart' hl, wpAny_pyIter_tuple hL
      exact ⟨_, rfl, h⟩
theorem call_enumB {prog : Program} {w : World} {A : Around} {E : Value → Shared → Prop} {s : Shared} {b : Bool} {l : Addr} {items : Array Value} {Q : Value → Shared → Prop} (hL : seqB b s.heap l items)
    (h : ∀ h', IsEnum h' (s.heap.objs.size + 1) s.heap.objs.size 0 .none → ItB b h' s.heap.objs.size l 0 →
      (∀ b o, s.heap.get? b = some o → h'.get? b = some o) → Q (.ref (s.heap.objs.size + 1)) { s with heap := h' }) :
    wpAny (model prog w) A (call (.type "enumerate") [.ref l]) Q E s := by
  cases b
  · exact call_enumerate_list hL fun h' a1 a2 a3 a4 => h h' a1 a2 a4
  · obtain ⟨⟨c, dct, dt, sl⟩, hl, hc, n, hd⟩ := hL
    replace hc : c = .type "tuple" := hc
    replace hd : dt = .seq items n := hd
    subst hc hd
    refine callType_new F.called_enumerate (by decide) (F.typeCall_enumerate_1 _) (F.newCall_enumerate_1 _) (fun obj => F.args_object_init_2 obj _) F.entry_enumerate_new
      (meets_enumT l items n dct sl) ⟨hl, ?_⟩
    have hz : (s.heap.push { cls := .type "tuple_iterator", data := .fields #[.ref l, .int 0 0] }).objs.size = s.heap.objs.size + 1 := Heap.size_push ..
    show _ ∧ _
    rw [hz]
    have he : IsEnum ((s.heap.push { cls := .type "tuple_iterator", data := .fields #[.ref l, .int 0 0] }).push
        { cls := .type "enumerate", data := .fields #[.none, .bool false, .ref s.heap.objs.size, rawInt 0, .none, .none] }) (s.heap.objs.size + 1) s.heap.objs.size 0 .none := by
      have := Heap.get?_push_size (s.heap.push { cls := .type "tuple_iterator", data := .fields #[.ref l, .int 0 0] })
        (o := { cls := .type "enumerate", data := .fields #[.none, .bool false, .ref s.heap.objs.size, rawInt 0, .none, .none] }) rfl
      rw [hz] at this; exact this
    refine ⟨⟨_, he, rfl⟩, h _ he ⟨_, Heap.get?_push_of_some _ (Heap.get?_push_size _ rfl), rfl, rfl⟩ fun b o x => Heap.get?_push_of_some _ (Heap.get?_push_of_some _ x)⟩
noncomputable def Ite (K : PySem.W.Frag) (b : Bool) (l : Addr) : It :=
  ⟨fun i H => ∃ xs x, SqB b K H l xs ∧ xs[i]? = some x,
   fun i H v H' => ∃ p x, v = .ref p ∧ H p = none ∧ H' = upd H p (.tup [.int i, x]) ∧ ∀ xs, SqB b K H l xs → xs[i]? = some x,
   fun i H => ∃ xs, SqB b K H l xs ∧ xs.length = i⟩
theorem turn_enum {P : Program} {w : World} {K : PySem.W.Frag} {es : List Expr} {k : Nat} {pos : Pos} {b : Bool} {e it l : Addr} (hd : e ≠ it) :
    Turn P w K (.Tuple es k pos) (Ite K b l) [e, it] e (fun i h => (∃ old, IsEnum h e it i old) ∧ ItB b h it l i) where
  mem := by simp
  obj := fun i h ⟨⟨old, hz⟩, h1⟩ c hc => by
    simp only [List.mem_cons, List.not_mem_nil, or_false] at hc
    rcases hc with e | e <;> subst e
    · exact ⟨_, hz, fun v q => by have q' : Data.fields _ = Data.cell v := q; cases q'⟩
    · exact h1.lt
  keep := fun i h h' ⟨⟨old, hz⟩, h1⟩ kk => ⟨⟨old, kk e (by simp) _ hz⟩, h1.at fun o q => kk it (by simp) o q⟩
  item := by
    intro X hP hw hK hc i pins s σ H E I hf st hg
    subst hP hw hK
    obtain ⟨⟨old, hz⟩, h1⟩ := st
    obtain ⟨xs, x, q1, e1⟩ := hg
    obtain ⟨its1, r1, p1⟩ := I.seqB q1
    obtain ⟨u1, hu1, ru1⟩ := r1.get e1
    have ne1 : ∀ f ∈ [e, it], l ≠ f := fun f hff => I.seq_ne q1 (hf f hff)
    have hlt : i < its1.toArray.size := by
      have := (List.getElem?_eq_some_iff.mp hu1).1
      simpa using this
    refine wpAny_pyNext_enum_itemD (drawsB b (show X.A.in1.handled = none from I.ok.hd hc) it l (ne1 it (by simp)) its1.toArray) hz ⟨h1, p1⟩ hlt hd (fun q => ?_) fun u h' tk hP a1 a2 a3 a4 a5 => ⟨_, rfl, ?_⟩
    · simp only [List.mem_cons, List.not_mem_nil, or_false] at q
      rcases q with q | q
      · exact hd q
      · exact ne1 e (by simp) q.symm
    have eu : u = u1 := by
      have : its1.toArray[i]? = some u1 := by simpa using hu1
      rw [this] at hP
      exact (Option.some.inj hP).symm
    subst eu
    refine wpAny_letOwnedTupleGo_enum a1 fun h'' hz' hs' => ?_
    have ne : s.heap.objs.size ≠ e := Nat.ne_of_gt (Heap.lt_size hz)
    have up : ∀ c o, c ∉ [e, it] → s.heap.get? c = some o → h''.get? c = some o := fun c o hc' q => by
      simp only [List.mem_cons, List.not_mem_nil, or_false, not_or] at hc'
      exact hs'.extBut _ _ hc'.1 (a5 c o hc'.1 hc'.2 q)
    have new : ObjOk X.prog X.w (upd H s.heap.objs.size (.tup [.int i, x])) h'' s.heap.objs.size (.tup [.int i, x]) :=
      ⟨by show 2 ≤ sizeLine; decide, [.int i tk, u], .cons ⟨tk, rfl⟩ (.cons ru1 .nil), ⟨_, hs'.extBut _ _ ne a3, rfl, _, rfl⟩⟩
    have I2 : Inv X pins σ (upd H s.heap.objs.size (.tup [.int i, x])) { s with heap := h'', toks := tk + 1 } := I.turnedNew (t' := tk + 1) hf up (Nat.le_refl _) new
    refine ⟨.ref s.heap.objs.size, _, I2, rfl, ⟨_, x, rfl, I.fresh, rfl, fun xs' q => by rw [I.seqB_inj q q1]; exact e1⟩, ⟨⟨u, by simpa using hz'⟩, a2.1.at fun o q => hs'.extBut _ _ (Ne.symm hd) q⟩, fun c hc' => ?_⟩
    have hcf := (hf c hc').1
    rw [upd_ne]
    · exact hcf
    · intro z
      subst z
      simp only [List.mem_cons, List.not_mem_nil, or_false] at hc'
      rcases hc' with z | z
      · exact ne z
      · obtain ⟨o, q, _⟩ := h1.lt; exact absurd (Heap.lt_size q) (by rw [← z]; exact Nat.lt_irrefl _)
  done := by
    intro X hP hw hK hc i pins s σ H E I hf st hg
    subst hP hw hK
    obtain ⟨⟨old, hz⟩, h1⟩ := st
    obtain ⟨xs, q1, e1⟩ := hg
    obtain ⟨its1, r1, p1⟩ := I.seqB q1
    have ne1 : ∀ f ∈ [e, it], l ≠ f := fun f hff => I.seq_ne q1 (hf f hff)
    have el : its1.toArray.size = i := by rw [List.size_toArray, ← r1.length, e1]
    refine wpAny_pyNext_enum_endD (drawsB b (show X.A.in1.handled = none from I.ok.hd hc) it l (ne1 it (by simp)) its1.toArray) hz ⟨by rw [el]; exact h1, p1⟩ fun h' hx => ⟨rfl, I.turnedL (t' := s.toks) hf fun c o hc' q => ?_⟩
    simp only [List.mem_cons, List.not_mem_nil, or_false, not_or] at hc'
    exact hx c o hc'.2 q
  self := fun _ _ _ _ _ st h => let ⟨⟨_, q⟩, _⟩ := st; wpAny_pyIter_enum q h
section
variable {X : Cx}
noncomputable def iEnum (K : PySem.W.Frag) (ta : TA) : TI := fun σ H R => ta σ H fun vs H1 => ∃ b l, vs = [.ref l] ∧ (∃ xs, SqB b K H1 l xs) ∧ R (Ite K b l) H1
theorem pi_enum {a : Expr} {ta : TA} {es : List Expr} {k : Nat} {tp p pos : Pos} (hg : Gl X "enumerate") (hm : X.mg "enumerate" = none) (ha : PA X [a] ta) (hv : bootBuiltins "enumerate" = some (.type "enumerate") := by decide +kernel)
    (hs : starEach [a] X.env = [(false, eval a X.env)] := by rfl) :
    PI X (.Tuple es k tp) (.Call (.Name "enumerate" p) [a] [] pos) (iEnum X.K ta) := by
  intro pins s σ H R I h
  refine Call_ (ld_blt I hg hm hv (PyProof.Rows.callWith_type1 (thn (ha pos pins s σ H _ I h) fun us s1 ⟨vs, H1, I1, r1, q1⟩ => ?_) hs rfl))
  obtain ⟨b, l, e, ⟨xs, q1⟩, q⟩ := q1
  subst e
  cases r1 with
  | cons r rr =>
    cases rr
    cases r
    obtain ⟨its1, v1, p1⟩ := I1.seqB q1
    refine call_enumB p1 fun h' a1 a2 kp => ?_
    refine wpAny_pyIter_enum a1 ?_
    refine ⟨s1.heap.objs.size + 1, [s1.heap.objs.size + 1, s1.heap.objs.size], _, _, H1, rfl, I1.kept (t' := s1.toks) kp, turn_enum (b := b) (l := l) (by simp), ⟨⟨_, a1⟩, a2⟩, fun c hc => ?_, q⟩
    have hle : s1.heap.objs.size ≤ c := by
      simp only [List.mem_cons, List.not_mem_nil, or_false] at hc
      rcases hc with e | e <;> subst e <;> first | exact Nat.le_refl _ | exact Nat.le_add_right _ _
    exact I1.fpOk hle (I1.hok.fresh hle)
theorem ints_items : ∀ {ns : List Int} {its : List Value}, Vals (ns.map V.int) its → ∃ xs : List (Int × Tok), its = xs.map (fun p => Value.int p.1 p.2) ∧ xs.map (·.1) = ns
  | [], _, .nil => ⟨[], rfl, rfl⟩
  | n :: r, _, .cons ⟨t, h⟩ q => by
    obtain ⟨xs, e1, e2⟩ := ints_items (ns := r) q
    exact ⟨(n, t) :: xs, by rw [h, e1]; rfl, by rw [List.map_cons, e2]⟩
theorem call_sum (hc : X.calm = true) : CallR X (.builtin "sum") (fun xs H Q => ∃ (p : Addr) (ns : List Int), xs = [.ref p] ∧ SqL X.K H p (ns.map V.int) ∧ Q (.int ns.sum) H) := by
  intro pins s σ H xs us Q I r h
  obtain ⟨p, ns, rfl, hq, q⟩ := h
  obtain ⟨u, rfl, rx⟩ := vals1 r
  cases rx
  obtain ⟨its, rv, pl, hz⟩ := I.list hq
  obtain ⟨ps, e1, e2⟩ := ints_items rv
  have hl : s.heap.IsList p (intItems ps.toArray) := by
    have := pl.isList
    rw [e1] at this
    simpa [intItems] using this
  refine sum_intListG (I.ok.hd hc) hl fun h' tk t' hk => ⟨.int ns.sum, H, I.kept (t' := tk) hk, ⟨t', ?_⟩, q⟩
  rw [preSum_eq, List.take_of_length_le (by simp)]
  simp [e2]
end
end L2

namespace L2
open PySem PySem.Spec PyProof.Rows
theorem SqB.or {b : Bool} {K : PySem.W.Frag} {H : Hp} {a : Addr} {xs : List V} (h : SqB b K H a xs) : SqL K H a xs ∨ SqT K H a xs := by
  cases b
  · exact .inl h
  · exact .inr h
theorem SqB.up {b : Bool} {K : PySem.W.Frag} {H H' : Hp} {a : Addr} {xs : List V} (h : SqB b K H a xs) (s : Same H H') : SqB b K H' a xs := by
  cases b
  · exact s.seq h
  · exact s.tup h
theorem SqB.lst {K : PySem.W.Frag} {H : Hp} {a : Addr} {xs : List V} (h : H a = some (.lst xs)) : SqB false K H a xs := SqL.of h
theorem SqB.tup {K : PySem.W.Frag} {H : Hp} {a : Addr} {xs : List V} (h : H a = some (.tup xs)) : SqB true K H a xs := SqT.of h
noncomputable def Its (K : PySem.W.Frag) (b : Bool) (a : Addr) : It := match b with | false => Itl K a | true => Itt K a
theorem Its.go {K : PySem.W.Frag} {b : Bool} {a : Addr} {xs : List V} {x : V} {i : Nat} {H : Hp} (h : SqB b K H a xs) (e : xs[i]? = some x) : (Its K b a).go i H := by
  cases b
  · exact ⟨xs, x, h, e⟩
  · exact ⟨xs, x, h, e⟩
theorem Its.stop {K : PySem.W.Frag} {b : Bool} {a : Addr} {xs : List V} {i : Nat} {H : Hp} (h : SqB b K H a xs) (e : xs.length ≤ i) : (Its K b a).stop i H := by
  cases b
  · exact ⟨xs, h, e⟩
  · exact ⟨xs, h, e⟩
theorem Its.yld {K : PySem.W.Frag} {b : Bool} {a : Addr} {xs : List V} {i : Nat} {H H' : Hp} {x : V} (h : SqB b K H a xs) (y : (Its K b a).yld i H x H') : H' = H ∧ xs[i]? = some x := by
  cases b
  · exact ⟨y.1, y.2 xs h⟩
  · exact ⟨y.1, y.2 xs h⟩
section
variable {X : Cx}
noncomputable def iSeq (K : PySem.W.Frag) (tl : TE) : TI := fun σ H R => tl σ H fun x H1 => ∃ b a, x = .ref a ∧ (∃ xs, SqB b K H1 a xs) ∧ R (Its K b a) H1
theorem pi_seq {tg l : Expr} {tl : TE} (hl : PE X l tl) : PI X tg l (iSeq X.K tl) := by
  intro pins s σ H R I h
  refine thn (hl pins s σ H _ I h) fun v s1 ⟨x, H1, I1, r1, q1⟩ => ?_
  obtain ⟨b, a, e, ⟨xs, hq⟩, q⟩ := q1
  subst e
  cases r1
  cases b
  · obtain ⟨its, rv, p, hz⟩ := I1.list hq
    refine wpAny_pyIter_list p.isList ?_
    refine ⟨s1.heap.objs.size, [s1.heap.objs.size], _, _, H1, rfl, I1.kept (t' := s1.toks) fun b o e => Heap.get?_push_of_some _ e, turn_list a _, ⟨_, Heap.get?_push_size _ rfl, rfl, rfl⟩, fun b hb => ?_, q⟩
    have e : b = s1.heap.objs.size := by simpa using hb
    subst e
    exact I1.fpOk (Nat.le_refl _) (I1.hok.fresh (Nat.le_refl _))
  · obtain ⟨its, rv, p, hz⟩ := I1.tuple hq
    refine wpAny_pyIter_tuple (show s1.heap.IsTuple a its.toArray from p) ?_
    refine ⟨s1.heap.objs.size, [s1.heap.objs.size], _, _, H1, rfl, I1.kept (t' := s1.toks) fun b o e => Heap.get?_push_of_some _ e, turn_tuple a _, ⟨_, Heap.get?_push_size _ rfl, rfl, rfl⟩, fun b hb => ?_, q⟩
    have e : b = s1.heap.objs.size := by simpa using hb
    subst e
    exact I1.fpOk (Nat.le_refl _) (I1.hok.fresh (Nat.le_refl _))
noncomputable def rIxB (K : PySem.W.Frag) : R2 := fun x y H Q => ∃ b p xs i v, x = .ref p ∧ y = .int i ∧ SqB b K H p xs ∧ atI xs i = some v ∧ Q v H
theorem ix_B : IxR X (rIxB X.K) := by
  intro value slice pins s σ H x y v u Q I rx ry h
  obtain ⟨b, p, xs, i, v', e1, e2, hq, ha, q⟩ := h
  cases b
  · exact ix_list value slice pins s σ H x y v u Q I rx ry ⟨p, xs, i, v', e1, e2, hq, ha, q⟩
  · exact ix_tup value slice pins s σ H x y v u Q I rx ry ⟨p, xs, i, v', e1, e2, hq, ha, q⟩
noncomputable def rLenB (K : PySem.W.Frag) : List V → Hp → VK → Prop := fun xs H Q => ∃ b p ys, xs = [.ref p] ∧ SqB b K H p ys ∧ Q (.int ys.length) H
theorem call_lenB : CallR X (.builtin "len") (rLenB X.K) := by
  intro pins s σ H xs us Q I r h
  obtain ⟨b, p, ys, e, hq, q⟩ := h
  exact call_len_seq pins s σ H xs us Q I r ⟨p, ys, e, hq.or, q⟩
noncomputable def rListB (K : PySem.W.Frag) : List V → Hp → VK → Prop := fun xs H Q => ∃ b p ys, xs = [.ref p] ∧ SqB b K H p ys ∧ ∀ l, H l = none → Q (.ref l) (upd H l (.lst ys))
theorem call_listB : CallR X (.type "list") (rListB X.K) := by
  intro pins s σ H xs us Q I r h
  obtain ⟨b, p, ys, e, hq, q⟩ := h
  exact call_list_of pins s σ H xs us Q I r ⟨p, ys, e, hq.or, q⟩
noncomputable def rTupB (K : PySem.W.Frag) : List V → Hp → VK → Prop := fun xs H Q => ∃ p ys, xs = [.ref p] ∧ ((SqL K H p ys ∧ ∀ l, H l = none → Q (.ref l) (upd H l (.tup ys))) ∨ (SqT K H p ys ∧ Q (.ref p) H))
theorem call_tupB : CallR X (.type "tuple") (rTupB X.K) := call_tuple_of
end
theorem for_seq {K : PySem.W.Frag} {b : Bool} {a : Addr} {xs : List V} {g : TG} {tb : TS} {D : Ends} {σ : St} {H : Hp} (Pv : Nat → St → Hp → Prop) (h0 : Pv 0 σ H) (hl : ∀ i σ H, i ≤ xs.length → Pv i σ H → SqB b K H a xs)
    (hs : ∀ i x σ H, xs[i]? = some x → Pv i σ H → g x σ H fun σ2 H2 => tb { D with nx := Pv (i + 1), ct := Pv (i + 1), bk := D.nx } σ2 H2) (hd : ∀ σ H, Pv xs.length σ H → D.nx σ H) :
    ∃ W : Nat → Nat → St → Hp → Prop, (∃ m, W 0 m σ H) ∧ ∀ i m σ H, W i m σ H →
      ((Its K b a).stop i H ∧ D.nx σ H) ∨ ((Its K b a).go i H ∧ ∃ N : St → Hp → Prop, (∀ σ' H', N σ' H' → ∃ m', m' < m ∧ W (i + 1) m' σ' H') ∧ ∀ x H', (Its K b a).yld i H x H' → g x σ H' fun σ2 H2 => tb { D with nx := N, ct := N, bk := D.nx } σ2 H2) := by
  cases b
  · exact for_list Pv h0 hl hs hd
  · exact for_tup Pv h0 hl hs hd
theorem for_enum {K : PySem.W.Frag} {b : Bool} {a : Addr} {xs : List V} {g : TG} {tb : TS} {D : Ends} {σ : St} {H : Hp} (Pv : Nat → St → Hp → Prop) (h0 : Pv 0 σ H) (hl : ∀ i σ H, i ≤ xs.length → Pv i σ H → SqB b K H a xs)
    (hs : ∀ i x p σ H, xs[i]? = some x → Pv i σ H → H p = none → g (.ref p) σ (upd H p (.tup [.int i, x])) fun σ2 H2 => tb { D with nx := Pv (i + 1), ct := Pv (i + 1), bk := D.nx } σ2 H2) (hd : ∀ σ H, Pv xs.length σ H → D.nx σ H) :
    ∃ W : Nat → Nat → St → Hp → Prop, (∃ m, W 0 m σ H) ∧ ∀ i m σ H, W i m σ H →
      ((Ite K b a).stop i H ∧ D.nx σ H) ∨ ((Ite K b a).go i H ∧ ∃ N : St → Hp → Prop, (∀ σ' H', N σ' H' → ∃ m', m' < m ∧ W (i + 1) m' σ' H') ∧ ∀ x H', (Ite K b a).yld i H x H' → g x σ H' fun σ2 H2 => tb { D with nx := N, ct := N, bk := D.nx } σ2 H2) := by
  refine ⟨fun i m σ H => m = xs.length - i ∧ i ≤ xs.length ∧ Pv i σ H, ⟨xs.length, by simp, Nat.zero_le _, h0⟩, ?_⟩
  rintro i m σ H ⟨rfl, hi, p⟩
  have q := hl i σ H hi p
  by_cases hlt : i < xs.length
  · refine .inr ⟨⟨xs, xs[i], q, by simp [hlt]⟩, Pv (i + 1), fun σ' H' p' => ⟨xs.length - (i + 1), by omega, rfl, hlt, p'⟩, fun x H' y => ?_⟩
    obtain ⟨r, x, rfl, hr, rfl, hx⟩ := y
    exact hs i x r σ H (hx xs q) p hr
  · have e : i = xs.length := by omega
    subst e
    exact .inl ⟨⟨xs, q, rfl⟩, hd σ H p⟩
noncomputable def SameX (a : Addr) (H H' : Hp) : Prop := ∀ b o, b ≠ a → H b = some o → H' b = some o
theorem Same.x {a : Addr} {H H' : Hp} (s : Same H H') : SameX a H H' := fun b o _ e => s b o e
section
variable {J : It} {g : TG} {tt : TOx} {te : TE} {n : Nat} {fr : List (Str × Nat)} {σ : St} {a : Addr} {H : Hp} {Q : VK} {K : PySem.W.Frag}
theorem cg_inv (len : Nat) (P : Nat → List V → Hp → Prop) (ha : H a = none) (hz : len ≤ 1000) (h0 : P 0 [] (upd H a (.lst [])))
    (hl : ∀ i zs H1, P i zs H1 → zs.length ≤ i) (mono : ∀ i zs H1 H2, P i zs H1 → SameX a H1 H2 → P i zs H2)
    (hgo : ∀ i H1, i < len → Same H H1 → J.go i H1) (hstop : ∀ H1, Same H H1 → J.stop len H1)
    (he : ∀ i H1 zs, i < len → Same H H1 → H1 a = some (.lst zs) → P i zs H1 → ∀ (ys : St) x H3, ys.length = n → J.yld i H1 x H3 → ∀ C : Option V → Hp → Prop,
      (∀ y H2, Same H1 H2 → P (i + 1) (zs ++ [y]) H2 → C (some y) H2) → (∀ H2, Same H1 H2 → P (i + 1) zs H2 → C none H2) →
      g x (ys ++ frees fr σ) H3 fun σ4 H4 => (∃ ys' : St, ys'.length = n ∧ σ4 = ys' ++ frees fr σ) ∧ tt σ4 H4 C)
    (hd : ∀ H1 ys, Same H H1 → H1 a = some (.lst ys) → P len ys H1 → Q (.ref a) H1) : CompWG J g tt n fr σ a H Q := by
  refine ⟨fun i m H1 => m = len - i ∧ i ≤ len ∧ Same H H1 ∧ ∃ zs, H1 a = some (.lst zs) ∧ P i zs H1, ⟨len, by simp, Nat.zero_le _, Same.new ha, [], upd_same, h0⟩, ?_⟩
  rintro i m H1 ⟨rfl, hi, s1, zs, ez, p⟩
  by_cases hlt : i < len
  · refine .inr ⟨hgo i H1 hlt s1, fun H' => i + 1 ≤ len ∧ Same H H' ∧ ∃ zs, H' a = some (.lst zs) ∧ P (i + 1) zs H', fun H' q => ⟨len - (i + 1), by omega, rfl, q⟩, fun ys x H3 hys hy => ?_⟩
    refine he i H1 zs hlt s1 ez p ys x H3 hys hy _ (fun y H2 s2 p2 => ?_) fun H2 s2 p2 => ?_
    · refine ⟨zs, s2 _ _ ez, small1000 (by have := hl i zs H1 p; omega), hlt, Same.over ha (s1.trans s2), _, upd_same, mono _ _ _ _ p2 fun b o hb e => ?_⟩
      rw [upd_ne hb]
      exact e
    · exact ⟨hlt, s1.trans s2, zs, s2 _ _ ez, p2⟩
  · have e : i = len := by omega
    subst e
    exact .inl ⟨hstop H1 s1, hd H1 zs s1 ez p⟩
theorem cg_rel (len : Nat) (R : Nat → V → Hp → Prop) (ha : H a = none) (hz : len ≤ 1000) (mono : ∀ i y H1 H2, R i y H1 → SameX a H1 H2 → R i y H2)
    (hgo : ∀ i H1, i < len → Same H H1 → J.go i H1) (hstop : ∀ H1, Same H H1 → J.stop len H1)
    (he : ∀ i H1 zs, i < len → Same H H1 → H1 a = some (.lst zs) → ∀ (ys : St) x H3, ys.length = n → J.yld i H1 x H3 → ∀ Q' : VK, (∀ y H2, Same H1 H2 → R i y H2 → Q' y H2) →
      g x (ys ++ frees fr σ) H3 fun σ4 H4 => (∃ ys' : St, ys'.length = n ∧ σ4 = ys' ++ frees fr σ) ∧ te σ4 H4 Q')
    (hd : ∀ H1 ys, Same H H1 → H1 a = some (.lst ys) → ys.length = len → (∀ j y, ys[j]? = some y → R j y H1) → Q (.ref a) H1) : CompWG J g (tEl te) n fr σ a H Q := by
  refine cg_inv len (fun i zs H1 => zs.length = i ∧ ∀ j y, zs[j]? = some y → R j y H1) ha hz ⟨rfl, fun j y e => by simp at e⟩ (fun i zs H1 p => Nat.le_of_eq p.1) (fun i zs H1 H2 p s => ⟨p.1, fun j y e => mono _ _ _ _ (p.2 j y e) s⟩) hgo hstop ?_ fun H1 ys s e p => hd H1 ys s e p.1 p.2
  intro i H1 zs hi s1 ez p ys x H3 hys hy C hC _
  refine he i H1 zs hi s1 ez ys x H3 hys hy _ fun y H2 s2 r => hC y H2 s2 ⟨by simp [p.1], fun j z e => ?_⟩
  by_cases hj : j < zs.length
  · rw [List.getElem?_append_left hj] at e
    exact mono _ _ _ _ (p.2 j z e) s2.x
  · rw [List.getElem?_append_right (by omega)] at e
    have e0 : j - zs.length = 0 := by
      by_cases h0 : j - zs.length = 0
      · exact h0
      · rw [List.getElem?_eq_none (by simp; omega)] at e; cases e
    rw [e0] at e
    cases Option.some.inj e
    have : j = i := by have := p.1; omega
    rw [this]
    exact r
theorem cg_seq {b : Bool} {l : Addr} {xs : List V} (R : Nat → V → Hp → Prop) (ha : H a = none) (hS : SqB b K H l xs) (hz : xs.length ≤ 1000) (mono : ∀ i y H1 H2, R i y H1 → SameX a H1 H2 → R i y H2)
    (he : ∀ i x H1 zs, xs[i]? = some x → Same H H1 → H1 a = some (.lst zs) → ∀ Q' : VK, (∀ y H2, Same H1 H2 → R i y H2 → Q' y H2) → te (some x :: frees fr σ) H1 Q')
    (hd : ∀ H1 ys, Same H H1 → H1 a = some (.lst ys) → ys.length = xs.length → (∀ j y, ys[j]? = some y → R j y H1) → Q (.ref a) H1) : CompWG (Its K b l) (gName 0) (tEl te) 1 fr σ a H Q := by
  refine cg_rel xs.length R ha hz mono (fun i H1 hi s => Its.go (hS.up s) (x := xs[i]) (by simp [hi])) (fun H1 s => Its.stop (hS.up s) (Nat.le_refl _)) ?_ hd
  intro i H1 zs hi s1 ez ys x H3 hys hy Q' hQ'
  obtain ⟨e1, e2⟩ := Its.yld (hS.up s1) hy
  subst e1
  match ys, hys with
  | [o], _ => exact ⟨⟨[some x], rfl, rfl⟩, he i x H3 zs e2 s1 ez Q' hQ'⟩
theorem cg_range {lo : Int} {len : Nat} (R : Nat → V → Hp → Prop) (ha : H a = none) (hz : len ≤ 1000) (mono : ∀ i y H1 H2, R i y H1 → SameX a H1 H2 → R i y H2)
    (he : ∀ (i : Nat) H1 zs, i < len → Same H H1 → H1 a = some (.lst zs) → ∀ Q' : VK, (∀ y H2, Same H1 H2 → R i y H2 → Q' y H2) → te (some (.int (lo + i)) :: frees fr σ) H1 Q')
    (hd : ∀ H1 ys, Same H H1 → H1 a = some (.lst ys) → ys.length = len → (∀ j y, ys[j]? = some y → R j y H1) → Q (.ref a) H1) : CompWG (Itr lo len) (gName 0) (tEl te) 1 fr σ a H Q := by
  refine cg_rel len R ha hz mono (fun i H1 hi s => hi) (fun H1 s => Nat.le_refl _) ?_ hd
  intro i H1 zs hi s1 ez ys x H3 hys hy Q' hQ'
  obtain ⟨e1, e2⟩ := hy
  subst e1 e2
  match ys, hys with
  | [o], _ => exact ⟨⟨[_], rfl, rfl⟩, he i H3 zs hi s1 ez Q' hQ'⟩
theorem cg_zip {b1 b2 : Bool} {l1 l2 : Addr} {xs ys : List V} (R : Nat → V → Hp → Prop) (ha : H a = none) (hS1 : SqB b1 K H l1 xs) (hS2 : SqB b2 K H l2 ys) (hlen : xs.length = ys.length) (hz : xs.length ≤ 1000) (mono : ∀ i y H1 H2, R i y H1 → SameX a H1 H2 → R i y H2)
    (he : ∀ i x y H1 zs, xs[i]? = some x → ys[i]? = some y → Same H H1 → H1 a = some (.lst zs) → ∀ Q' : VK, (∀ y H2, Same H1 H2 → R i y H2 → Q' y H2) → te (some x :: some y :: frees fr σ) H1 Q')
    (hd : ∀ H1 zs, Same H H1 → H1 a = some (.lst zs) → zs.length = xs.length → (∀ j y, zs[j]? = some y → R j y H1) → Q (.ref a) H1) :
    CompWG (Itz K b1 l1 b2 l2) (gTup K 2 (gCons (gName 0) (gCons (gName 1) gNil))) (tEl te) 2 fr σ a H Q := by
  refine cg_rel xs.length R ha hz mono (fun i H1 hi s => ⟨xs, ys, xs[i], ys[i], hS1.up s, hS2.up s, by simp [hi], by simp⟩) (fun H1 s => ⟨xs, ys, hS1.up s, hS2.up s, .inl (by simp)⟩) ?_ hd
  intro i H1 zs hi s1 ez os x H3 hos hy Q' hQ'
  obtain ⟨p, x, y, rfl, hp, rfl, hx, hy⟩ := hy
  refine ⟨p, [x, y], rfl, SqT.of upd_same, rfl, x, [y], rfl, y, [], rfl, rfl, ?_⟩
  match os, hos with
  | [o, o'], _ =>
    refine ⟨⟨[some x, some y], rfl, rfl⟩, he i x y _ zs (hx xs (hS1.up s1)) (hy ys (hS2.up s1)) (s1.trans (Same.new hp)) (Same.new hp _ _ ez) Q' fun y H2 s2 r => hQ' y H2 ((Same.new hp).trans s2) r⟩
theorem cg_enum {b : Bool} {l : Addr} {xs : List V} (R : Nat → V → Hp → Prop) (ha : H a = none) (hS : SqB b K H l xs) (hz : xs.length ≤ 1000) (mono : ∀ i y H1 H2, R i y H1 → SameX a H1 H2 → R i y H2)
    (he : ∀ i x H1 zs, xs[i]? = some x → Same H H1 → H1 a = some (.lst zs) → ∀ Q' : VK, (∀ y H2, Same H1 H2 → R i y H2 → Q' y H2) → te (some (.int i) :: some x :: frees fr σ) H1 Q')
    (hd : ∀ H1 zs, Same H H1 → H1 a = some (.lst zs) → zs.length = xs.length → (∀ j y, zs[j]? = some y → R j y H1) → Q (.ref a) H1) :
    CompWG (Ite K b l) (gTup K 2 (gCons (gName 0) (gCons (gName 1) gNil))) (tEl te) 2 fr σ a H Q := by
  refine cg_rel xs.length R ha hz mono (fun i H1 hi s => ⟨xs, xs[i], hS.up s, by simp [hi]⟩) (fun H1 s => ⟨xs, hS.up s, rfl⟩) ?_ hd
  intro i H1 zs hi s1 ez os x H3 hos hy Q' hQ'
  obtain ⟨p, x, rfl, hp, rfl, hx⟩ := hy
  refine ⟨p, [.int i, x], rfl, SqT.of upd_same, rfl, _, [x], rfl, x, [], rfl, rfl, ?_⟩
  match os, hos with
  | [o, o'], _ =>
    refine ⟨⟨[some (.int i), some x], rfl, rfl⟩, he i x _ zs (hx xs (hS.up s1)) (s1.trans (Same.new hp)) (Same.new hp _ _ ez) Q' fun y H2 s2 r => hQ' y H2 ((Same.new hp).trans s2) r⟩
end
noncomputable def MatB (b1 b2 : Bool) (K : PySem.W.Frag) (H : Hp) (a : Addr) (rows : List (List Int)) : Prop := ∃ ps : List Addr, SqB b1 K H a (ps.map V.ref) ∧ ps.length = rows.length ∧ ∀ (i : Nat) (p : Addr) (r : List Int), ps[i]? = some p → rows[i]? = some r → SqB b2 K H p (r.map V.int)
theorem MatB.up {b1 b2 : Bool} {K : PySem.W.Frag} {H H' : Hp} {a : Addr} {rows : List (List Int)} (h : MatB b1 b2 K H a rows) (s : Same H H') : MatB b1 b2 K H' a rows := let ⟨ps, h1, h2, h3⟩ := h; ⟨ps, h1.up s, h2, fun i p r e1 e2 => (h3 i p r e1 e2).up s⟩
noncomputable def RowR (a : Addr) (f : Nat → List Int) (j : Nat) (y : V) (H : Hp) : Prop := ∃ p, y = .ref p ∧ p ≠ a ∧ H p = some (.lst ((f j).map V.int))
theorem RowR.mono {a : Addr} {f : Nat → List Int} (i : Nat) (y : V) (H1 H2 : Hp) (h : RowR a f i y H1) (s : SameX a H1 H2) : RowR a f i y H2 := let ⟨p, e, n, q⟩ := h; ⟨p, e, n, s _ _ n q⟩
theorem MatB.of {K : PySem.W.Frag} {H : Hp} {a : Addr} {f : Nat → List Int} {ys : List V} (h : H a = some (.lst ys)) (hr : ∀ (j : Nat) y, ys[j]? = some y → RowR a f j y H) : MatB false false K H a ((List.range ys.length).map f) := by
  have hp : ∃ ps : List Addr, ys = ps.map V.ref := by
    clear h
    have : ∀ (zs : List V) (k : Nat), (∀ (j : Nat) y, zs[j]? = some y → RowR a f (j + k) y H) → ∃ ps : List Addr, zs = ps.map V.ref := by
      intro zs
      induction zs with
      | nil => intro k _; exact ⟨[], rfl⟩
      | cons z r ih =>
        intro k hz
        obtain ⟨p, e, _⟩ := hz 0 z rfl
        obtain ⟨ps, e2⟩ := ih (k + 1) fun j y q => by
          have := hz (j + 1) y (by simpa using q)
          rwa [Nat.add_assoc, Nat.add_comm 1 k] at this
        exact ⟨p :: ps, by rw [e, e2]; rfl⟩
    exact this ys 0 hr
  obtain ⟨ps, rfl⟩ := hp
  refine ⟨ps, SqB.lst h, by simp, fun i p r e1 e2 => ?_⟩
  obtain ⟨p', e, _, q⟩ := hr i (.ref p) (by simp [e1])
  cases e
  have hi : i < ps.length := (List.getElem?_eq_some_iff.mp e1).1
  have : r = f i := by
    rw [List.getElem?_map, List.length_map, List.getElem?_range hi] at e2
    exact (Option.some.inj e2).symm
  rw [this]
  exact SqB.lst q
end L2

namespace L2
open PySem PySem.Spec PyProof.Rows
noncomputable def iT : Nat → PyData → Bool
  | _, .int _ => true
  | n + 1, .list xs => xs.all (iT n)
  | n + 1, .tuple xs => xs.all (iT n)
  | _, _ => false
theorem iT_lay : ∀ (n : Nat) (d : PyData), iT n d = true → d.canLay0 = true ∧ d.depth ≤ n
  | 0, .int _, _ => by simp [PyData.canLay0, PyData.depth]
  | n + 1, .int _, _ => by simp [PyData.canLay0, PyData.depth]
  | n + 1, .list xs, h => by
    have all : ∀ ys : List PyData, ys.all (iT n) = true → PyData.canLayAll0 ys = true ∧ PyData.depthAll ys ≤ n := by
      intro ys
      induction ys with
      | nil => intro _; simp [PyData.canLayAll0, PyData.depthAll]
      | cons y r ih =>
        intro hy
        rw [List.all_cons, Bool.and_eq_true] at hy
        have h1 := iT_lay n y hy.1
        have h2 := ih hy.2
        simp only [PyData.canLayAll0, PyData.depthAll, Bool.and_eq_true]
        exact ⟨⟨h1.1, h2.1⟩, by omega⟩
    have := all xs (by simpa [iT] using h)
    simp only [PyData.canLay0, PyData.depth]
    exact ⟨this.1, by omega⟩
  | n + 1, .tuple xs, h => by
    have all : ∀ ys : List PyData, ys.all (iT n) = true → PyData.canLayAll0 ys = true ∧ PyData.depthAll ys ≤ n := by
      intro ys
      induction ys with
      | nil => intro _; simp [PyData.canLayAll0, PyData.depthAll]
      | cons y r ih =>
        intro hy
        rw [List.all_cons, Bool.and_eq_true] at hy
        have h1 := iT_lay n y hy.1
        have h2 := ih hy.2
        simp only [PyData.canLayAll0, PyData.depthAll, Bool.and_eq_true]
        exact ⟨⟨h1.1, h2.1⟩, by omega⟩
    have := all xs (by simpa [iT] using h)
    simp only [PyData.canLay0, PyData.depth]
    exact ⟨this.1, by omega⟩
theorem iT_mix : ∀ (n : Nat) (d d' : PyData), iT n d = true → iT n d' = true → SeqAt.noMix d d' = true := by
  intro n
  induction n with
  | zero => intro d d' h h'; cases d <;> simp [iT] at h <;> cases d' <;> simp [iT] at h' <;> simp [SeqAt.noMix]
  | succ n ih =>
    have all : ∀ ys zs : List PyData, ys.all (iT n) = true → zs.all (iT n) = true → SeqAt.noMixAll ys zs = true := by
      intro ys
      induction ys with
      | nil => intro zs _ _; cases zs <;> simp [SeqAt.noMixAll]
      | cons y r ihr =>
        intro zs hy hz
        cases zs with
        | nil => simp [SeqAt.noMixAll]
        | cons z t =>
          rw [List.all_cons, Bool.and_eq_true] at hy hz
          simp only [SeqAt.noMixAll, Bool.and_eq_true]
          exact ⟨ih y z hy.1 hz.1, ihr t hy.2 hz.2⟩
    intro d d' h h'
    cases d <;> simp only [iT, Bool.false_eq_true] at h <;> cases d' <;> simp only [iT, Bool.false_eq_true] at h' <;> simp only [SeqAt.noMix]
    · exact all _ _ h h'
    · exact all _ _ h h'
theorem iT_same : ∀ (n : Nat) (d d' : PyData), iT n d = true → iT n d' = true → (same d d' = true ↔ d = d') := by
  intro n
  induction n with
  | zero => intro d d' h h'; cases d <;> simp [iT] at h <;> cases d' <;> simp [iT] at h' <;> simp [same]
  | succ n ih =>
    have all : ∀ ys zs : List PyData, ys.all (iT n) = true → zs.all (iT n) = true → (sameAll ys zs = true ↔ ys = zs) := by
      intro ys
      induction ys with
      | nil => intro zs _ _; cases zs <;> simp [sameAll]
      | cons y r ihr =>
        intro zs hy hz
        cases zs with
        | nil => simp [sameAll]
        | cons z t =>
          rw [List.all_cons, Bool.and_eq_true] at hy hz
          simp only [sameAll, Bool.and_eq_true, List.cons.injEq]
          rw [ih y z hy.1 hz.1, ihr t hy.2 hz.2]
    intro d d' h h'
    cases d <;> simp only [iT, Bool.false_eq_true] at h <;> cases d' <;> simp only [iT, Bool.false_eq_true] at h' <;> simp only [same, beq_iff_eq, PyData.int.injEq, PyData.list.injEq, PyData.tuple.injEq, reduceCtorEq, Bool.false_eq_true]
    · exact all _ _ h h'
    · exact all _ _ h h'
theorem iT_shaped {n : Nat} {d : PyData} (hn : n ≤ 64) (h : iT n d = true) : SeqAt.shaped d = true := by
  have := iT_lay n d h
  unfold SeqAt.shaped
  rw [Bool.and_eq_true]
  exact ⟨this.1, decide_eq_true (by omega)⟩
section
variable {K : PySem.W.Frag} {H : Hp} {x y : V} {d d' : PyData} {Q : VK}
theorem eqD_of (n : Nat) (hn : n ≤ 64) (h1 : Dt K H x d) (h2 : Dt K H y d') (t1 : iT n d = true) (t2 : iT n d' = true) {b : Bool} (hb : b = true ↔ d = d') (q : Q (.bl b) H) : rEqD K x y H Q := by
  refine ⟨d, d', h1, h2, iT_shaped hn t1, iT_shaped hn t2, iT_mix n d d' t1 t2, ?_⟩
  have := iT_same n d d' t1 t2
  have e : same d d' = b := by
    cases hs : same d d' <;> cases b <;> simp_all
  rw [e]
  exact q
theorem neD_of (n : Nat) (hn : n ≤ 64) (h1 : Dt K H x d) (h2 : Dt K H y d') (t1 : iT n d = true) (t2 : iT n d' = true) {b : Bool} (hb : b = true ↔ d = d') (q : Q (.bl (!b)) H) : rNeD K x y H Q := by
  refine ⟨d, d', h1, h2, iT_shaped hn t1, iT_shaped hn t2, iT_mix n d d' t1 t2, ?_⟩
  have := iT_same n d d' t1 t2
  have e : same d d' = b := by
    cases hs : same d d' <;> cases b <;> simp_all
  rw [e]
  exact q
end
noncomputable def seqD (b : Bool) (ds : List PyData) : PyData := match b with | false => .list ds | true => .tuple ds
noncomputable def intsD (b : Bool) (ns : List Int) : PyData := seqD b (ns.map PyData.int)
noncomputable def matD (b1 b2 : Bool) (rows : List (List Int)) : PyData := seqD b1 (rows.map (intsD b2))
theorem iT_ints (b : Bool) (n : Nat) (ns : List Int) : iT (n + 1) (intsD b ns) = true := by
  have : (ns.map PyData.int).all (iT n) = true := by
    rw [List.all_eq_true]
    intro d hd
    obtain ⟨i, _, rfl⟩ := List.mem_map.mp hd
    cases n <;> rfl
  cases b <;> simpa [intsD, seqD, iT] using this
theorem iT_mat (b1 b2 : Bool) (n : Nat) (rows : List (List Int)) : iT (n + 2) (matD b1 b2 rows) = true := by
  have : (rows.map (intsD b2)).all (iT (n + 1)) = true := by
    rw [List.all_eq_true]
    intro d hd
    obtain ⟨i, _, rfl⟩ := List.mem_map.mp hd
    exact iT_ints b2 n i
  cases b1 <;> simpa [matD, seqD, iT] using this
theorem Dt.seqB {b : Bool} {K : PySem.W.Frag} {H : Hp} {a : Addr} {xs : List V} {ds : List PyData} (h : SqB b K H a xs) (hd : Dts K H xs ds) : Dt K H (.ref a) (seqD b ds) := by
  cases b
  · exact .lst h hd
  · exact .tup h hd
theorem Dt.intsB {b : Bool} {K : PySem.W.Frag} {H : Hp} {a : Addr} {ns : List Int} (h : SqB b K H a (ns.map V.int)) : Dt K H (.ref a) (intsD b ns) := Dt.seqB h (Dts.ints ns)
theorem Dt.matB {b1 b2 : Bool} {K : PySem.W.Frag} {H : Hp} {a : Addr} {rows : List (List Int)} (h : MatB b1 b2 K H a rows) : Dt K H (.ref a) (matD b1 b2 rows) := by
  obtain ⟨ps, h1, h2, h3⟩ := h
  refine Dt.seqB h1 ?_
  clear h1
  induction ps generalizing rows with
  | nil =>
    cases rows with
    | nil => exact .nil
    | cons r t => simp at h2
  | cons p ps ih =>
    cases rows with
    | nil => simp at h2
    | cons r t =>
      refine .cons (Dt.intsB (h3 0 p r rfl rfl)) (ih (by simpa using h2) fun i q z e1 e2 => h3 (i + 1) q z (by simpa using e1) (by simpa using e2))
end L2

namespace L2
open PySem PySem.Spec PyProof.Rows
section
variable {wi : TI} {g : TG} {tt : TOx} {te : TE} {tc : TT} {n : Nat} {fr : List (Str × Nat)} {σ : St} {H : Hp} {Q : VK}
theorem compE_st (h : ∀ B : TE, B = te → wi σ H fun J H1 => ∀ a, H1 a = none → CompWG J g (tEl B) n fr σ a H1 Q) : tCompG wi g (tEl te) n fr σ H Q := h _ rfl
theorem compI_st (h : ∀ (C : TT) (B : TE), C = tc → B = te → wi σ H fun J H1 => ∀ a, H1 a = none → CompWG J g (tElIf C B) n fr σ a H1 Q) : tCompG wi g (tElIf tc te) n fr σ H Q := h _ _ rfl rfl
end
noncomputable def seqO (b : Bool) (xs : List V) : HO := match b with | false => .lst xs | true => .tup xs
noncomputable def rSlB (K : PySem.W.Frag) : V → Option Int → Option Int → Hp → VK → Prop := fun x lo hi H Q => ∃ b a xs, x = .ref a ∧ SqB b K H a xs ∧
  (b = true → ¬ (HT.sIx xs.length 0 lo = 0 ∧ HT.sIx xs.length xs.length hi = xs.length)) ∧ ∀ p, H p = none → Q (.ref p) (upd H p (seqO b (cutV xs lo hi)))
theorem sl_B {X : Cx} : SlR X (rSlB X.K) := by
  intro pins s σ H x v vl vu lo hi sl Q I rx hs pl pu h
  obtain ⟨b, a, xs, e, hq, hw, q⟩ := h
  cases b
  · exact sl_list pins s σ H x v vl vu lo hi sl Q I rx hs pl pu ⟨a, xs, e, hq, q⟩
  · exact sl_tup pins s σ H x v vl vu lo hi sl Q I rx hs pl pu ⟨a, xs, e, hq, hw rfl, q⟩
noncomputable def MatL (H : Hp) (a : Addr) (rows : List (List Int)) : Prop := ∃ ps : List Addr, H a = some (.lst (ps.map V.ref)) ∧ ps.length = rows.length ∧ ∀ (i : Nat) (p : Addr) (r : List Int), ps[i]? = some p → rows[i]? = some r → p ≠ a ∧ H p = some (.lst (r.map V.int))
theorem MatL.b {K : PySem.W.Frag} {H : Hp} {a : Addr} {rows : List (List Int)} (h : MatL H a rows) : MatB false false K H a rows := let ⟨ps, h1, h2, h3⟩ := h; ⟨ps, SqB.lst h1, h2, fun i p r e1 e2 => SqB.lst (h3 i p r e1 e2).2⟩
theorem MatL.up {H H' : Hp} {a : Addr} {rows : List (List Int)} (h : MatL H a rows) (s : Same H H') : MatL H' a rows := let ⟨ps, h1, h2, h3⟩ := h; ⟨ps, s _ _ h1, h2, fun i p r e1 e2 => ⟨(h3 i p r e1 e2).1, s _ _ (h3 i p r e1 e2).2⟩⟩
theorem MatL.of {H : Hp} {a : Addr} {f : Nat → List Int} {ys : List V} (h : H a = some (.lst ys)) (hr : ∀ (j : Nat) y, ys[j]? = some y → RowR a f j y H) : MatL H a ((List.range ys.length).map f) := by
  have hp : ∃ ps : List Addr, ys = ps.map V.ref := by
    clear h
    have : ∀ (zs : List V) (k : Nat), (∀ (j : Nat) y, zs[j]? = some y → RowR a f (j + k) y H) → ∃ ps : List Addr, zs = ps.map V.ref := by
      intro zs
      induction zs with
      | nil => intro k _; exact ⟨[], rfl⟩
      | cons z r ih =>
        intro k hz
        obtain ⟨p, e, _⟩ := hz 0 z rfl
        obtain ⟨ps, e2⟩ := ih (k + 1) fun j y q => by
          have := hz (j + 1) y (by simpa using q)
          rwa [Nat.add_assoc, Nat.add_comm 1 k] at this
        exact ⟨p :: ps, by rw [e, e2]; rfl⟩
    exact this ys 0 hr
  obtain ⟨ps, rfl⟩ := hp
  refine ⟨ps, h, by simp, fun i p r e1 e2 => ?_⟩
  obtain ⟨p', e, n, q⟩ := hr i (.ref p) (by simp [e1])
  cases e
  have hi : i < ps.length := (List.getElem?_eq_some_iff.mp e1).1
  have : r = f i := by
    rw [List.getElem?_map, List.length_map, List.getElem?_range hi] at e2
    exact (Option.some.inj e2).symm
  rw [this]
  exact ⟨n, q⟩
theorem MatL.app {H : Hp} {l p : Addr} {M : List (List Int)} {r : List Int} (h : MatL H l M) (hp : H p = some (.lst (r.map V.int))) (ne : p ≠ l) : ∃ xs, H l = some (.lst xs) ∧ xs.length = M.length ∧ MatL (upd H l (.lst (xs ++ [.ref p]))) l (M ++ [r]) := by
  obtain ⟨ps, h1, h2, h3⟩ := h
  refine ⟨_, h1, by simp [h2], ps ++ [p], by rw [upd_same]; simp, by simp [h2], fun i q z e1 e2 => ?_⟩
  by_cases hi : i < ps.length
  · rw [List.getElem?_append_left hi] at e1
    rw [List.getElem?_append_left (by omega)] at e2
    obtain ⟨n, w⟩ := h3 i q z e1 e2
    exact ⟨n, by rw [upd_ne n]; exact w⟩
  · have e0 : i = ps.length := by
      have := (List.getElem?_eq_some_iff.mp e1).1
      simp at this
      omega
    subst e0
    rw [List.getElem?_append_right (Nat.le_refl _)] at e1
    rw [h2, List.getElem?_append_right (Nat.le_refl _)] at e2
    simp at e1 e2
    subst e1 e2
    exact ⟨ne, by rw [upd_ne ne]; exact hp⟩
theorem MatB.row {b1 b2 : Bool} {K : PySem.W.Frag} {H : Hp} {a : Addr} {rows : List (List Int)} (h : MatB b1 b2 K H a rows) {i : Nat} {r : List Int} (e : rows[i]? = some r) : ∃ ps : List Addr, ∃ p, SqB b1 K H a (ps.map V.ref) ∧ (ps.map V.ref)[i]? = some (.ref p) ∧ (ps.map V.ref).length = rows.length ∧ SqB b2 K H p (r.map V.int) := by
  obtain ⟨ps, h1, h2, h3⟩ := h
  have hi : i < ps.length := by have := (List.getElem?_eq_some_iff.mp e).1; omega
  exact ⟨ps, ps[i], h1, by simp [hi], by simp [h2], h3 i _ r (by simp [hi]) e⟩
theorem MatB.walk {b1 b2 : Bool} {K : PySem.W.Frag} {H : Hp} {a : Addr} {rows : List (List Int)} (h : MatB b1 b2 K H a rows) : ∃ xs : List V, SqB b1 K H a xs ∧ xs.length = rows.length ∧ ∀ (i : Nat) x, xs[i]? = some x → ∃ p r, x = .ref p ∧ rows[i]? = some r ∧ SqB b2 K H p (r.map V.int) := by
  obtain ⟨ps, h1, h2, h3⟩ := h
  refine ⟨_, h1, by simp [h2], fun i x e => ?_⟩
  rw [List.getElem?_map] at e
  cases q : ps[i]? with
  | none => rw [q] at e; cases e
  | some p =>
    rw [q] at e
    have hi : i < rows.length := by have := (List.getElem?_eq_some_iff.mp q).1; omega
    exact ⟨p, rows[i], (Option.some.inj e).symm, by simp [hi], h3 i p _ q (by simp [hi])⟩
theorem atI_at {α : Type} {xs : List α} {k : Nat} {x : α} {i : Int} (h : xs[k]? = some x) (hi : i = k) : atI xs i = some x := by
  subst hi
  exact atI_nat h
theorem ints_at {ns : List Int} {i : Nat} {x : V} (h : (ns.map V.int)[i]? = some x) : ∃ n, ns[i]? = some n ∧ x = .int n := by
  rw [List.getElem?_map] at h
  cases e : ns[i]? with
  | none => rw [e] at h; cases h
  | some n => rw [e] at h; exact ⟨n, rfl, (Option.some.inj h).symm⟩
theorem int_at {ns : List Int} {i : Nat} {n : Int} (h : ns[i]? = some n) : (ns.map V.int)[i]? = some (.int n) := by rw [List.getElem?_map, h]; rfl
theorem getD_of {ns : List Int} {k : Nat} {n : Int} (h : ns[k]? = some n) : ns.getD k 0 = n := by rw [List.getD_eq_getElem?_getD, h]; rfl
theorem getD_at {ns : List Int} {k : Nat} (h : k < ns.length) : ns[k]? = some (ns.getD k 0) := by simp [h]
theorem getD_mem {ns : List Int} {k : Nat} (h : k < ns.length) : ns.getD k 0 ∈ ns := by
  rw [show ns.getD k 0 = ns[k] by simp [h]]
  exact List.getElem_mem h
noncomputable def colI (k : Nat) (rows : List (List Int)) : List Int := rows.map fun r => r.getD k 0
noncomputable def dotI (ms ns : List Int) : Int := (List.zipWith (· * ·) ms ns).sum
noncomputable def turnM (w : Nat) (rows : List (List Int)) : List (List Int) := (List.range w).map fun k => colI k rows
noncomputable def mulM (w : Nat) (A B : List (List Int)) : List (List Int) := A.map fun r => (List.range w).map fun k => dotI r (colI k B)
end L2
namespace L2
open PySem PySem.Spec PyProof.Rows
section
variable {K : PySem.W.Frag} {g : TG} {tb : TS} {σ : St} {H : Hp} {nx : St → Hp → Prop} {rt : VK}
noncomputable abbrev LoopW (J : It) (g : TG) (tb : TS) (nx : St → Hp → Prop) (rt : VK) (σ : St) (H : Hp) : Prop := ∃ W : Nat → Nat → St → Hp → Prop, (∃ m, W 0 m σ H) ∧ ∀ i m σ H, W i m σ H →
  (J.stop i H ∧ nx σ H) ∨ (J.go i H ∧ ∃ N : St → Hp → Prop, (∀ σ' H', N σ' H' → ∃ m', m' < m ∧ W (i + 1) m' σ' H') ∧ ∀ x H', J.yld i H x H' → g x σ H' fun σ2 H2 => tb { nx := N, rt := rt, bk := nx, ct := N } σ2 H2)
theorem fr_range {lo : Int} {n : Nat} (Pv : Nat → St → Hp → Prop) (h0 : Pv 0 σ H)
    (hs : ∀ i σ H, i < n → Pv i σ H → g (.int (lo + i)) σ H fun σ2 H2 => tb { nx := Pv (i + 1), rt := rt, bk := nx, ct := Pv (i + 1) } σ2 H2) (hd : ∀ σ H, Pv n σ H → nx σ H) : LoopW (Itr lo n) g tb nx rt σ H :=
  for_range (D := { nx := nx, rt := rt, bk := nx, ct := nx }) Pv h0 hs hd
theorem fr_seq {b : Bool} {a : Addr} {xs : List V} (Pv : Nat → St → Hp → Prop) (h0 : Pv 0 σ H) (hl : ∀ i σ H, i ≤ xs.length → Pv i σ H → SqB b K H a xs)
    (hs : ∀ i x σ H, xs[i]? = some x → Pv i σ H → g x σ H fun σ2 H2 => tb { nx := Pv (i + 1), rt := rt, bk := nx, ct := Pv (i + 1) } σ2 H2) (hd : ∀ σ H, Pv xs.length σ H → nx σ H) : LoopW (Its K b a) g tb nx rt σ H :=
  for_seq (D := { nx := nx, rt := rt, bk := nx, ct := nx }) Pv h0 hl hs hd
theorem fr_enum {b : Bool} {a : Addr} {xs : List V} (Pv : Nat → St → Hp → Prop) (h0 : Pv 0 σ H) (hl : ∀ i σ H, i ≤ xs.length → Pv i σ H → SqB b K H a xs)
    (hs : ∀ i x p σ H, xs[i]? = some x → Pv i σ H → H p = none → g (.ref p) σ (upd H p (.tup [.int i, x])) fun σ2 H2 => tb { nx := Pv (i + 1), rt := rt, bk := nx, ct := Pv (i + 1) } σ2 H2) (hd : ∀ σ H, Pv xs.length σ H → nx σ H) : LoopW (Ite K b a) g tb nx rt σ H :=
  for_enum (D := { nx := nx, rt := rt, bk := nx, ct := nx }) Pv h0 hl hs hd
end
theorem mat_ix {b1 b2 : Bool} {K : PySem.W.Frag} {H : Hp} {a : Addr} {rows : List (List Int)} {i k : Nat} {r : List Int} {x : Int} {I J : Int} {Q : VK} (h : MatB b1 b2 K H a rows) (e : rows[i]? = some r) (e2 : r[k]? = some x) (hi : I = i) (hk : J = k) (q : Q (.int x) H) :
    rIxB K (.ref a) (.int I) H fun v H1 => rIxB K v (.int J) H1 Q := by
  obtain ⟨ps, p, k1, k2, k3, k4⟩ := h.row e
  exact ⟨b1, a, _, _, _, rfl, rfl, k1, atI_at k2 hi, b2, p, _, _, _, rfl, rfl, k4, atI_at (int_at e2) hk, q⟩
theorem mat_row {b1 b2 : Bool} {K : PySem.W.Frag} {H : Hp} {a : Addr} {rows : List (List Int)} {i : Nat} {r : List Int} {I : Int} {Q : VK} (h : MatB b1 b2 K H a rows) (e : rows[i]? = some r) (hi : I = i) (q : ∀ p, SqB b2 K H p (r.map V.int) → Q (.ref p) H) :
    rIxB K (.ref a) (.int I) H Q := by
  obtain ⟨ps, p, k1, k2, k3, k4⟩ := h.row e
  exact ⟨b1, a, _, _, _, rfl, rfl, k1, atI_at k2 hi, q p k4⟩
theorem mat_len {b1 b2 : Bool} {K : PySem.W.Frag} {H : Hp} {a : Addr} {rows : List (List Int)} {Q : VK} (h : MatB b1 b2 K H a rows) (q : Q (.int rows.length) H) : rLenB K [.ref a] H Q := by
  obtain ⟨ps, h1, h2, h3⟩ := h
  refine ⟨b1, a, _, rfl, h1, ?_⟩
  rw [List.length_map, h2]
  exact q
theorem ints_len {b : Bool} {K : PySem.W.Frag} {H : Hp} {a : Addr} {ns : List Int} {Q : VK} (h : SqB b K H a (ns.map V.int)) (q : Q (.int ns.length) H) : rLenB K [.ref a] H Q := by
  refine ⟨b, a, _, rfl, h, ?_⟩
  rw [List.length_map]
  exact q
end L2

namespace L2
open PySem PySem.Spec PyProof.Rows
section
variable {X : Cx} {tg : Expr}
end
section
variable {g : TG} {tb : TS} {σ : St} {H : Hp} {nx : St → Hp → Prop} {rt : VK}
end
noncomputable def RefRows (a : Addr) (H : Hp) (zs : List V) (M : List (List Int)) : Prop := ∃ ps : List Addr, zs = ps.map V.ref ∧ ps.length = M.length ∧ ∀ (j : Nat) (p : Addr) (r : List Int), ps[j]? = some p → M[j]? = some r → p ≠ a ∧ H p = some (.lst (r.map V.int))
theorem RefRows.nil {a : Addr} {H : Hp} : RefRows a H [] [] := ⟨[], rfl, rfl, fun j p r e => by simp at e⟩
theorem RefRows.len {a : Addr} {H : Hp} {zs : List V} {M : List (List Int)} (h : RefRows a H zs M) : zs.length = M.length := let ⟨ps, e, l, _⟩ := h; by rw [e, List.length_map, l]
theorem RefRows.mono {a : Addr} {H H' : Hp} {zs : List V} {M : List (List Int)} (h : RefRows a H zs M) (s : SameX a H H') : RefRows a H' zs M := let ⟨ps, e, l, q⟩ := h; ⟨ps, e, l, fun j p r e1 e2 => ⟨(q j p r e1 e2).1, s _ _ (q j p r e1 e2).1 (q j p r e1 e2).2⟩⟩
theorem RefRows.snoc {a p : Addr} {H : Hp} {zs : List V} {M : List (List Int)} {r : List Int} (h : RefRows a H zs M) (ne : p ≠ a) (hp : H p = some (.lst (r.map V.int))) : RefRows a H (zs ++ [.ref p]) (M ++ [r]) := by
  obtain ⟨ps, rfl, h2, h3⟩ := h
  refine ⟨ps ++ [p], by simp, by simp [h2], fun i q z e1 e2 => ?_⟩
  by_cases hi : i < ps.length
  · rw [List.getElem?_append_left hi] at e1
    rw [List.getElem?_append_left (by omega)] at e2
    exact h3 i q z e1 e2
  · have e0 : i = ps.length := by
      have := (List.getElem?_eq_some_iff.mp e1).1
      simp at this
      omega
    subst e0
    rw [List.getElem?_append_right (Nat.le_refl _)] at e1
    rw [h2, List.getElem?_append_right (Nat.le_refl _)] at e2
    simp at e1 e2
    subst e1 e2
    exact ⟨ne, hp⟩
theorem RefRows.mat {a : Addr} {H : Hp} {zs : List V} {M : List (List Int)} (h : H a = some (.lst zs)) (r : RefRows a H zs M) : MatL H a M := by
  obtain ⟨ps, rfl, h2, h3⟩ := r
  exact ⟨ps, h, h2, h3⟩
theorem MatL.refs {a : Addr} {H : Hp} {M : List (List Int)} (h : MatL H a M) : ∃ zs, H a = some (.lst zs) ∧ RefRows a H zs M := let ⟨ps, h1, h2, h3⟩ := h; ⟨_, h1, ps, rfl, h2, h3⟩
theorem cut_ints (ns : List Int) (lo hi : Option Int) : cutV (ns.map V.int) lo hi = ((ns.drop (HT.sIx ns.length 0 lo)).take (HT.sIx ns.length ns.length hi - HT.sIx ns.length 0 lo)).map V.int := by
  unfold cutV
  rw [List.length_map, List.map_take, List.map_drop]
theorem cut_to {ns : List Int} {k : Nat} (h : k ≤ ns.length) : cutV (ns.map V.int) none (some (k : Int)) = (ns.take k).map V.int := by
  rw [cut_ints, HT.sIx_none, HT.sIx_nat, Nat.min_eq_left h]
  simp
theorem cut_from {ns : List Int} {k : Nat} (h : k ≤ ns.length) : cutV (ns.map V.int) (some (k : Int)) none = (ns.drop k).map V.int := by
  rw [cut_ints, HT.sIx_none, HT.sIx_nat, Nat.min_eq_left h, List.take_of_length_le (by simp)]
end L2

namespace L2
open PySem PySem.Spec PyProof.Rows
section
variable {K : PySem.W.Frag} {H : Hp} {a a1 : Addr} {M : List (List Int)} {σ : St} {Q : VK} {b1 b2 : Bool}
noncomputable def MatT (H : Hp) (a : Addr) (rows : List (List Int)) : Prop := ∃ ps : List Addr, H a = some (.lst (ps.map V.ref)) ∧ ps.length = rows.length ∧ ∀ (i : Nat) (p : Addr) (r : List Int), ps[i]? = some p → rows[i]? = some r → H p = some (.tup (r.map V.int))
theorem copy_tup (hM : MatB b1 false K H a M) (hl : M.length ≤ 1000) (ha1 : H a1 = none) (hQ : ∀ H1, Same H H1 → MatT H1 a1 M → Q (.ref a1) H1) : CompWG (Its K b1 a) (gName 0) (tEl (tCB (rTupB K) (tCons (tVar 0) tNil))) 1 [] σ a1 H Q := by
  obtain ⟨xs, x1, x2, x3⟩ := hM.walk
  refine cg_seq (fun j y H1 => ∃ p r, y = .ref p ∧ M[j]? = some r ∧ p ≠ a1 ∧ H1 p = some (.tup (r.map V.int))) ha1 x1 (by omega) (fun i y H1 H2 ⟨p, r, e1, e2, e3, e4⟩ s => ⟨p, r, e1, e2, e3, s _ _ e3 e4⟩) ?_ ?_
  · intro i x H1 zs ex s1 ez Q' hQ'
    obtain ⟨p, r, rfl, er, hp⟩ := x3 i x ex
    exact ⟨_, rfl, p, _, rfl, .inl ⟨hp.up s1, fun l hl1 => hQ' _ _ (Same.new hl1) ⟨l, r, rfl, er, Ne.symm (ne_of_none ez hl1), upd_same⟩⟩⟩
  · intro H1 ys s1 e1 hly hr1
    have hps : ∃ ps : List Addr, ys = ps.map V.ref := by
      clear e1 hly
      have : ∀ (zs : List V), (∀ (j : Nat) y, zs[j]? = some y → ∃ p : Addr, y = .ref p) → ∃ ps : List Addr, zs = ps.map V.ref := by
        intro zs
        induction zs with
        | nil => intro _; exact ⟨[], rfl⟩
        | cons z r ih =>
          intro hz
          obtain ⟨p, e⟩ := hz 0 z rfl
          obtain ⟨ps, e2⟩ := ih fun j y q => hz (j + 1) y (by simpa using q)
          exact ⟨p :: ps, by rw [e, e2]; rfl⟩
      exact this ys fun j y e => let ⟨p, r, e1, _⟩ := hr1 j y e; ⟨p, e1⟩
    obtain ⟨ps, rfl⟩ := hps
    refine hQ H1 s1 ⟨ps, e1, by simp at hly; omega, fun i p r e2 e3 => ?_⟩
    obtain ⟨p', r', e4, e5, _, e6⟩ := hr1 i (.ref p) (by simp [e2])
    cases e4
    rw [e3] at e5
    cases e5
    exact e6
theorem MatT.tuple {l : Addr} (h : MatT H a M) (hl : H l = none) : ∃ zs, H a = some (.lst zs) ∧ MatB true true K (upd H l (.tup zs)) l M := by
  obtain ⟨ps, h1, h2, h3⟩ := h
  exact ⟨_, h1, ps, SqB.tup upd_same, h2, fun i p r e1 e2 => SqB.tup (Same.new hl _ _ (h3 i p r e1 e2))⟩
end
end L2

namespace L2
open PySem PySem.Spec PyProof.Rows
end L2
namespace L2
open PySem PySem.Spec PyProof.Rows
noncomputable def MkI (te : TE) (n : Int) : Prop := ∀ σ H Q, Q (.int n) H → te σ H Q
theorem MkI.pos (n : Int) : MkI (tC (.int n)) n := fun _ _ _ q => q
theorem MkI.neg (n : Int) : MkI (tUn (rU fun i => .int (-i)) (tC (.int n))) (-n) := fun _ _ _ q => ⟨n, rfl, q⟩
noncomputable def MkIs (ta : TA) (ns : List Int) : Prop := ∀ σ H Q, Q (ns.map V.int) H → ta σ H Q
theorem MkIs.nil : MkIs tNil [] := fun _ _ _ q => q
theorem MkIs.cons {te : TE} {ta : TA} {n : Int} {ns : List Int} (h : MkI te n) (h2 : MkIs ta ns) : MkIs (tCons te ta) (n :: ns) := fun σ H Q q => h σ H _ (h2 σ H _ q)
noncomputable def MkR (te : TE) (ns : List Int) : Prop := ∀ σ H Q, (∀ p H', Same H H' → H p = none → H' p = some (.lst (ns.map V.int)) → Q (.ref p) H') → te σ H Q
theorem MkR.of {ta : TA} {ns : List Int} (h : MkIs ta ns) (hz : ns.length ≤ 1000) : MkR (tLst ta) ns := fun σ H Q q => h σ H _ ⟨by rw [List.length_map]; exact Nat.le_of_lt (small1000 hz), fun l hl => q l _ (Same.new hl) hl upd_same⟩
noncomputable def MkRs (ta : TA) (M : List (List Int)) : Prop := ∀ σ H Q, (∀ ps H', Same H H' → RefRowsN H H' ps M → Q (ps.map V.ref) H') → ta σ H Q
where RefRowsN (H H' : Hp) (ps : List Addr) (M : List (List Int)) : Prop := ps.length = M.length ∧ ∀ (j : Nat) (p : Addr) (r : List Int), ps[j]? = some p → M[j]? = some r → H' p = some (.lst (r.map V.int))
theorem MkRs.nil : MkRs tNil [] := fun _ H Q q => q [] H (Same.refl _) ⟨rfl, fun j p r e => by simp at e⟩
theorem MkRs.cons {te : TE} {ta : TA} {ns : List Int} {M : List (List Int)} (h : MkR te ns) (h2 : MkRs ta M) : MkRs (tCons te ta) (ns :: M) := fun σ H Q q => h σ H _ fun p H1 s1 hp e1 => h2 σ H1 _ fun ps H2 s2 r => q (p :: ps) H2 (s1.trans s2) ⟨by simp [r.1], fun j p' r' e e' => by
  cases j with
  | zero => simp at e e'; subst e e'; exact s2 _ _ e1
  | succ j => exact r.2 j p' r' (by simpa using e) (by simpa using e')⟩
noncomputable def MkM (te : TE) (M : List (List Int)) : Prop := ∀ σ H Q, (∀ p H', Same H H' → H p = none → MatL H' p M → Q (.ref p) H') → te σ H Q
theorem MkM.of {ta : TA} {M : List (List Int)} (h : MkRs ta M) (hz : M.length ≤ 1000) : MkM (tLst ta) M := fun σ H Q q => h σ H _ fun ps H1 s1 r => ⟨by rw [List.length_map, r.1]; exact Nat.le_of_lt (small1000 hz), fun l hl => by
  have hn : H l = none := by cases e : H l with | none => rfl | some o => rw [s1 _ _ e] at hl; cases hl
  exact q l _ (s1.trans (Same.new hl)) hn ⟨ps, upd_same, r.1, fun i p z e1 e2 => ⟨ne_of_none (r.2 i p z e1 e2) hl, Same.new hl _ _ (r.2 i p z e1 e2)⟩⟩⟩
noncomputable def Mats (H : Hp) (p : Addr) (Ms : List (List (List Int))) : Prop := ∃ ps : List Addr, H p = some (.lst (ps.map V.ref)) ∧ ps.length = Ms.length ∧ ∀ (i : Nat) (q : Addr) (M : List (List Int)), ps[i]? = some q → Ms[i]? = some M → MatL H q M
theorem Mats.up {H H' : Hp} {p : Addr} {Ms : List (List (List Int))} (h : Mats H p Ms) (s : Same H H') : Mats H' p Ms := let ⟨ps, h1, h2, h3⟩ := h; ⟨ps, s _ _ h1, h2, fun i q M e1 e2 => (h3 i q M e1 e2).up s⟩
noncomputable def MkMs (ta : TA) (Ms : List (List (List Int))) : Prop := ∀ σ H Q, (∀ (ps : List Addr) H', Same H H' → ps.length = Ms.length → (∀ (i : Nat) (q : Addr) (M : List (List Int)), ps[i]? = some q → Ms[i]? = some M → MatL H' q M) → Q (ps.map V.ref) H') → ta σ H Q
theorem MkMs.nil : MkMs tNil [] := fun _ H Q q => q [] H (Same.refl _) rfl fun j p r e => by simp at e
theorem MkMs.cons {te : TE} {ta : TA} {M : List (List Int)} {Ms : List (List (List Int))} (h : MkM te M) (h2 : MkMs ta Ms) : MkMs (tCons te ta) (M :: Ms) := fun σ H Q q => h σ H _ fun p H1 s1 _ e1 => h2 σ H1 _ fun ps H2 s2 l r => q (p :: ps) H2 (s1.trans s2) (by simp [l]) fun j p' r' e e' => by
  cases j with
  | zero => simp at e e'; subst e e'; exact e1.up s2
  | succ j => exact r j p' r' (by simpa using e) (by simpa using e')
theorem MkMs.lst {ta : TA} {Ms : List (List (List Int))} (h : MkMs ta Ms) (hz : Ms.length ≤ 1000) {σ : St} {H : Hp} {Q : VK} (q : ∀ p H', Same H H' → Mats H' p Ms → Q (.ref p) H') : tLst ta σ H Q := h σ H _ fun ps H1 s1 l r => ⟨by rw [List.length_map, l]; exact Nat.le_of_lt (small1000 hz), fun a ha =>
  q a _ (s1.trans (Same.new ha)) ⟨ps, upd_same, l, fun i q M e1 e2 => (r i q M e1 e2).up (Same.new ha)⟩⟩
theorem Mats.at {K : PySem.W.Frag} {H : Hp} {p : Addr} {Ms : List (List (List Int))} {i : Nat} {M : List (List Int)} {I : Int} {Q : VK} (h : Mats H p Ms) (e : Ms[i]? = some M) (hi : I = i) (k : ∀ q, MatL H q M → Q (.ref q) H) : rIxB K (.ref p) (.int I) H Q := by
  obtain ⟨ps, h1, h2, h3⟩ := h
  have hlt : i < ps.length := by have := (List.getElem?_eq_some_iff.mp e).1; omega
  exact ⟨false, p, _, _, _, rfl, rfl, SqB.lst h1, atI_at (show (ps.map V.ref)[i]? = some (.ref ps[i]) by simp [hlt]) hi, k _ (h3 i _ M (by simp [hlt]) e)⟩
noncomputable def MatD (H0 H : Hp) (a : Addr) (rows : List (List Int)) : Prop := ∃ ps : List Addr, H a = some (.lst (ps.map V.ref)) ∧ ps.length = rows.length ∧ ps.Nodup ∧ ∀ (i : Nat) (p : Addr) (r : List Int), ps[i]? = some p → rows[i]? = some r → p ≠ a ∧ H0 p = none ∧ H p = some (.lst (r.map V.int))
theorem MatD.l {H0 H : Hp} {a : Addr} {rows : List (List Int)} (h : MatD H0 H a rows) : MatL H a rows := let ⟨ps, h1, h2, _, h3⟩ := h; ⟨ps, h1, h2, fun i p r e1 e2 => ⟨(h3 i p r e1 e2).1, (h3 i p r e1 e2).2.2⟩⟩
theorem MatD.up {H0 H H' : Hp} {a : Addr} {rows : List (List Int)} (h : MatD H0 H a rows) (s : Same H H') : MatD H0 H' a rows := let ⟨ps, h1, h2, n, h3⟩ := h; ⟨ps, s _ _ h1, h2, n, fun i p r e1 e2 => ⟨(h3 i p r e1 e2).1, (h3 i p r e1 e2).2.1, s _ _ (h3 i p r e1 e2).2.2⟩⟩
theorem MatD.row {H0 H : Hp} {a : Addr} {rows : List (List Int)} {i : Nat} {r : List Int} (h : MatD H0 H a rows) (e : rows[i]? = some r) : ∃ zs p, H a = some (.lst zs) ∧ zs[i]? = some (.ref p) ∧ zs.length = rows.length ∧ p ≠ a ∧ H0 p = none ∧ H p = some (.lst (r.map V.int)) ∧ ∀ r', MatD H0 (upd H p (.lst (r'.map V.int))) a (rows.set i r') := by
  obtain ⟨ps, h1, h2, hn, h3⟩ := h
  have hi : i < ps.length := by have := (List.getElem?_eq_some_iff.mp e).1; omega
  have hp := h3 i ps[i] r (by simp [hi]) e
  refine ⟨_, ps[i], h1, by simp [hi], by simp [h2], hp.1, hp.2.1, hp.2.2, fun r' => ⟨ps, by rw [upd_ne (Ne.symm hp.1)]; exact h1, by simp [h2], hn, fun j q z e1 e2 => ?_⟩⟩
  by_cases hj : j = i
  · subst hj
    have eq : q = ps[j] := by simp [hi] at e1; exact e1.symm
    subst eq
    rw [List.getElem?_set_self (by omega)] at e2
    cases e2
    exact ⟨hp.1, hp.2.1, upd_same⟩
  · rw [List.getElem?_set_ne (Ne.symm hj)] at e2
    obtain ⟨n1, n3, n2⟩ := h3 j q z e1 e2
    have : q ≠ ps[i] := fun w => by
      have hjl := (List.getElem?_eq_some_iff.mp e1)
      obtain ⟨hjl, ej⟩ := hjl
      exact hj ((List.getElem_inj hn).mp (ej.trans w))
    exact ⟨n1, n3, by rw [upd_ne this]; exact n2⟩
section
variable {K : PySem.W.Frag} {H : Hp} {a a1 : Addr} {M : List (List Int)} {σ : St} {Q : VK} {b1 b2 : Bool}
end
end L2
namespace L2
open PySem PySem.Spec PyProof.Rows
section
variable {X : Cx}
end
end L2
namespace L2
open PySem
end L2
namespace L2
open PySem PySem.Spec PyProof.Rows
noncomputable def isList : Expr → Bool
  | .List _ _ => true
  | _ => false
end L2

namespace L2
open PySem PySem.Spec PyProof.Rows
section
variable {X : Cx}
theorem bools_get : ∀ {bs : List Bool} {its : List Value}, Vals (bs.map V.bl) its → ∀ (i : Nat) (v : Value), its[i]? = some v → ∃ b, bs[i]? = some b ∧ v = .bool b
  | [], _, .nil, i, v, e => by simp at e
  | b :: r, _, .cons h q, i, v, e => by
    cases i with
    | zero => simp at e; subst e; exact ⟨b, rfl, h⟩
    | succ i => simpa using bools_get (bs := r) q i v (by simpa using e)
theorem range_anyB : ∀ bs : List Bool, ((List.range bs.length).any fun i => (bs[i]?).getD false) = bs.any id
  | [] => rfl
  | b :: bs => by
    have ih := range_anyB bs
    rw [List.length_cons, List.range_succ_eq_map, List.any_cons, List.any_cons, List.any_map]
    show (b || _) = (b || _)
    congr 1
theorem call_any (hc : X.calm = true) : CallR X (.builtin "any") (fun xs H Q => ∃ (p : Addr) (bs : List Bool), xs = [.ref p] ∧ SqL X.K H p (bs.map V.bl) ∧ Q (.bl (bs.any id)) H) := by
  intro pins s σ H xs us Q I r h
  obtain ⟨p, bs, rfl, hq, q⟩ := h
  obtain ⟨u, rfl, rx⟩ := vals1 r
  cases rx
  obtain ⟨its, rv, pl, hz⟩ := I.list hq
  have hl : s.heap.IsList p its.toArray := pl.isList
  have hlt : p < s.heap.objs.size := by obtain ⟨_, e, _⟩ := hl; exact Heap.lt_size e
  have hlen : its.toArray.size = bs.length := by
    have := rv.length
    simpa using this.symm
  refine call_any_walk (wpAny_pyIter_list hl ?_)
  refine ⟨s.heap.objs.size, [s.heap.objs.size, p], [s.heap.objs.size], its.toArray.size, _, _, fun i => (bs[i]?).getD false, rfl, Walks.list (A := X.A.in1) (I.ok.hd hc) _ p (Nat.ne_of_lt hlt) its.toArray,
    ⟨⟨_, Heap.get?_push_size _ rfl, rfl, rfl⟩, hl.push _⟩, fun i v s' Q' E' hP hQ => ?_, fun h' tk hk => ?_⟩
  · obtain ⟨b, e, rfl⟩ := bools_get rv i v (by simpa using hP)
    simp only [e, Option.getD_some] at hQ
    exact wpAny_truthy_bool hQ
  · rw [hlen, range_anyB bs]
    refine ⟨.bl (bs.any id), H, I.kept (t' := tk) fun b x e => hk b x (fun hm => by rw [List.mem_singleton.mp hm] at e; exact Nat.lt_irrefl _ (Heap.lt_size e)) (Heap.get?_push_of_some _ e), rfl, q⟩
end
end L2

namespace L2
open PySem PySem.Spec PyProof.Rows
section
variable {X : Cx} {a b c d : Expr} {ta tb tc td : TE} {pos : Pos}
end
section
variable {prog : Program} {w : World} {A : Around} {E : Value → Shared → Prop} {s : Shared}
end
section
variable {X : Cx} {pos : Pos}
end
end L2

namespace L2
open PySem PySem.Spec PyProof.Rows
section
variable {X : Cx}
end

section
variable {prog : Program} {w : World} {A : Around} {E : Value → Shared → Prop} {s : Shared}
set_option maxRecDepth 100000 in
end
section
variable {X : Cx}
end
section
variable {X : Cx} {tg : Expr}
end
end L2

namespace L2
open PySem PySem.Spec PyProof.Rows
section
variable {X : Cx} {C0 : Addr} {x : Str} {np hpos pos : Pos} {body suite : List Stmt} {b₀ : Stmt} {tb : XE → TS} {ts : TS}
theorem SP.offsuite {pins : List (Addr × Obj)} {D : Ends} {f : Flow} {s : Shared} {e : Addr} (ok : X.Ok) (h : SP (X.suite e) pins D f s) : SP X pins D f s := by
  cases f with
  | next => obtain ⟨σ', H', J, q⟩ := h; exact ⟨σ', H', J.offsuite ok, q⟩
  | brk => obtain ⟨σ', H', J, q⟩ := h; exact ⟨σ', H', J.offsuite ok, q⟩
  | cont => obtain ⟨σ', H', J, q⟩ := h; exact ⟨σ', H', J.offsuite ok, q⟩
  | ret u => obtain ⟨v, σ', H', J, r, q⟩ := h; exact ⟨v, σ', H', J.offsuite ok, r, q⟩
end
end L2

namespace Cw
open PySem L2
noncomputable def top (i : Nat) : Stmt := PySem.Challenge.pw_crystalwords_k53_whole_deeds_in_new_base.main.body.getD i (.Pass ⟨0, 0, 0, 0⟩)
noncomputable abbrev s_divisor : Stmt := top 9
noncomputable abbrev N_divisor : List Str := ["one", "other", "greater", "lesser", "remainder"]
noncomputable abbrev s_multiple : Stmt := top 10
noncomputable abbrev N_multiple : List Str := ["numbers", "least", "number"]
noncomputable abbrev s_place : Stmt := top 12
noncomputable abbrev N_place : List Str := ["tops", "under", "common", "top"]
noncomputable abbrev s_place_sum : Stmt := top 13
noncomputable abbrev N_place_sum : List Str := ["one", "other", "tops"]
noncomputable abbrev s_opposite : Stmt := top 14
noncomputable abbrev N_opposite : List Str := ["one"]
noncomputable abbrev s_place_less : Stmt := top 15
noncomputable abbrev N_place_less : List Str := ["one", "other"]
noncomputable abbrev s_dot : Stmt := top 17
noncomputable abbrev N_dot : List Str := ["one", "other"]
noncomputable abbrev s_turned : Stmt := top 18
noncomputable abbrev N_turned : List Str := ["rows"]
noncomputable abbrev s_times : Stmt := top 19
noncomputable abbrev N_times : List Str := ["one", "other", "columns"]
noncomputable abbrev s_without : Stmt := top 20
noncomputable abbrev N_without : List Str := ["rows", "i", "k"]
noncomputable abbrev s_determinant : Stmt := top 21
noncomputable abbrev N_determinant : List Str := ["rows", "total", "sign", "k", "number"]
noncomputable abbrev s_cofactor : Stmt := top 22
noncomputable abbrev N_cofactor : List Str := ["rows", "i", "k", "sign"]
noncomputable abbrev s_crossed : Stmt := top 23
noncomputable abbrev N_crossed : List Str := ["rows", "size"]
noncomputable abbrev s_scaled : Stmt := top 24
noncomputable abbrev N_scaled : List Str := ["rows", "count"]
noncomputable abbrev s_inverse : Stmt := top 25
noncomputable abbrev N_inverse : List Str := ["rows"]
noncomputable abbrev s_joined : Stmt := top 27
noncomputable abbrev N_joined : List Str := ["rows", "spot"]
noncomputable abbrev s_deed : Stmt := top 28
noncomputable abbrev N_deed : List Str := ["rows", "tops", "under", "axes"]
noncomputable abbrev s_moved : Stmt := top 29
noncomputable abbrev N_moved : List Str := ["one", "spot", "tops"]
noncomputable abbrev s_behind : Stmt := top 30
noncomputable abbrev N_behind : List Str := ["one", "other", "columns", "rows"]
noncomputable abbrev s_back : Stmt := top 31
noncomputable abbrev N_back : List Str := ["one", "rows"]
noncomputable abbrev s_change : Stmt := top 33
noncomputable abbrev N_change : List Str := ["vectors", "spot", "axes"]
noncomputable abbrev s_check_beside : Stmt := top 34
noncomputable abbrev N_check_beside : List Str := ["axes", "one"]
noncomputable abbrev s_forth : Stmt := top 35
noncomputable abbrev N_forth : List Str := ["one", "under", "columns"]
noncomputable abbrev s_home : Stmt := top 36
noncomputable abbrev N_home : List Str := ["one", "table"]
noncomputable abbrev s_led : Stmt := top 37
noncomputable abbrev N_led : List Str := ["table", "spot"]
noncomputable abbrev s_new_place : Stmt := top 38
noncomputable abbrev N_new_place : List Str := ["spot", "one"]
noncomputable abbrev s_new_deed : Stmt := top 39
noncomputable abbrev N_new_deed : List Str := ["one", "way", "old", "new", "rows", "under", "whole"]
noncomputable abbrev s_law_cell : Stmt := top 41
noncomputable abbrev N_law_cell : List Str := ["_law_script", "_law_k"]
noncomputable abbrev s_law_divides : Stmt := top 42
noncomputable abbrev N_law_divides : List Str := ["_law_one", "_law_other", "_law_left"]
noncomputable abbrev s_law_lowest : Stmt := top 43
noncomputable abbrev N_law_lowest : List Str := ["_law_tops", "_law_under", "_law_by", "_law_top"]
noncomputable abbrev s_law_units : Stmt := top 44
noncomputable abbrev N_law_units : List Str := ["_law_d"]
noncomputable abbrev s_law_rows : Stmt := top 45
noncomputable abbrev N_law_rows : List Str := ["_law_cell_here", "_law_d", "_law_most", "_law_rows_here", "_law_k", "_law_i", "_law_j", "_law_way", "_law_by"]
noncomputable abbrev s_law_spot : Stmt := top 46
noncomputable abbrev N_law_spot : List Str := ["_law_cell_here", "_law_d", "_law_most", "_law_far", "_law_tops"]
noncomputable abbrev s_law_times : Stmt := top 47
noncomputable abbrev N_law_times : List Str := ["_law_one", "_law_other", "_law_found", "_law_row"]
noncomputable abbrev s_law_undone : Stmt := top 48
noncomputable abbrev N_law_undone : List Str := ["_law_rows_here", "_law_found", "_law_j", "_law_line", "_law_i", "_law_one", "_law_other", "_law_p", "_law_q"]
noncomputable abbrev s_law_room : Stmt := top 49
noncomputable abbrev N_law_room : List Str := ["_law_rows_here"]
noncomputable abbrev s_law_told_columns : Stmt := top 50
noncomputable abbrev N_law_told_columns : List Str := ["_law_left", "_law_d", "_law_under", "_law_rows_here", "_law_i", "_law_row", "_law_k"]
noncomputable abbrev s_law_columns : Stmt := top 51
noncomputable abbrev N_law_columns : List Str := ["_law_script", "_law_d", "_law_way", "_law_cell_here", "_law_rows_here", "_law_under"]
noncomputable abbrev s_law_new_rows : Stmt := top 52
noncomputable abbrev N_law_new_rows : List Str := ["_law_rows_here", "_law_columns_here", "_law_by", "_law_some", "_law_row", "_law_number"]
noncomputable abbrev s_law_only : Stmt := top 53
noncomputable abbrev N_law_only : List Str := ["_law_e"]
noncomputable abbrev s_law_asked : Stmt := top 54
noncomputable abbrev N_law_asked : List Str := ["_law_one", "_law_way", "_law_word_here", "_law_found", "_law_e"]
noncomputable abbrev s_law_ints : Stmt := top 55
noncomputable abbrev N_law_ints : List Str := ["_law_found", "_law_row", "_law_number"]
noncomputable abbrev s_law_lies : Stmt := top 56
noncomputable abbrev N_law_lies : List Str := ["_law_found", "_law_one", "_law_columns_here", "_law_under", "_law_spot_here", "_law_tops", "_law_low", "_law_i", "_law_far", "_law_old", "_law_left"]
noncomputable abbrev s_law_right : Stmt := top 57
noncomputable abbrev N_law_right : List Str := ["_law_found", "_law_one", "_law_columns_here", "_law_under", "_law_spot_here", "_law_due"]
noncomputable abbrev s_law_word : Stmt := top 58
noncomputable abbrev N_law_word : List Str := ["_law_some", "_law_script", "_law_letters", "_law_total", "_law_cell_here"]
noncomputable abbrev s_law : Stmt := top 59
noncomputable abbrev N_law : List Str := ["_law_script", "_law_d", "_law_columns_here", "_law_under", "_law_spot_here", "_law_way", "_law_some", "_law_new_ones", "_law_k", "_law_rows_here", "_law_tops", "_law_low", "_law_one", "_law_due", "_law_word_here", "_law_found"]
theorem sc_divisor : FnScope N_divisor ["one", "other"] (defScope s_divisor) := ⟨rfl, rfl, rfl, by decide +kernel, rfl, by decide +kernel, by decide +kernel⟩
theorem sc_multiple : FnScope N_multiple ["numbers"] (defScope s_multiple) := ⟨rfl, rfl, rfl, by decide +kernel, rfl, by decide +kernel, by decide +kernel⟩
theorem sc_place : FnScope N_place ["tops", "under"] (defScope s_place) := ⟨rfl, rfl, rfl, by decide +kernel, rfl, by decide +kernel, by decide +kernel⟩
theorem sc_place_sum : FnScope N_place_sum ["one", "other"] (defScope s_place_sum) := ⟨rfl, rfl, rfl, by decide +kernel, rfl, by decide +kernel, by decide +kernel⟩
theorem sc_opposite : FnScope N_opposite ["one"] (defScope s_opposite) := ⟨rfl, rfl, rfl, by decide +kernel, rfl, by decide +kernel, by decide +kernel⟩
theorem sc_place_less : FnScope N_place_less ["one", "other"] (defScope s_place_less) := ⟨rfl, rfl, rfl, by decide +kernel, rfl, by decide +kernel, by decide +kernel⟩
theorem sc_dot : FnScope N_dot ["one", "other"] (defScope s_dot) := ⟨rfl, rfl, rfl, by decide +kernel, rfl, by decide +kernel, by decide +kernel⟩
theorem sc_turned : FnScope N_turned ["rows"] (defScope s_turned) := ⟨rfl, rfl, rfl, by decide +kernel, rfl, by decide +kernel, by decide +kernel⟩
theorem sc_times : FnScope N_times ["one", "other"] (defScope s_times) := ⟨rfl, rfl, rfl, by decide +kernel, rfl, by decide +kernel, by decide +kernel⟩
theorem sc_without : FnScope N_without ["rows", "i", "k"] (defScope s_without) := ⟨rfl, rfl, rfl, by decide +kernel, rfl, by decide +kernel, by decide +kernel⟩
theorem sc_determinant : FnScope N_determinant ["rows"] (defScope s_determinant) := ⟨rfl, rfl, rfl, by decide +kernel, rfl, by decide +kernel, by decide +kernel⟩
theorem sc_cofactor : FnScope N_cofactor ["rows", "i", "k"] (defScope s_cofactor) := ⟨rfl, rfl, rfl, by decide +kernel, rfl, by decide +kernel, by decide +kernel⟩
theorem sc_crossed : FnScope N_crossed ["rows"] (defScope s_crossed) := ⟨rfl, rfl, rfl, by decide +kernel, rfl, by decide +kernel, by decide +kernel⟩
theorem sc_scaled : FnScope N_scaled ["rows", "count"] (defScope s_scaled) := ⟨rfl, rfl, rfl, by decide +kernel, rfl, by decide +kernel, by decide +kernel⟩
theorem sc_inverse : FnScope N_inverse ["rows"] (defScope s_inverse) := ⟨rfl, rfl, rfl, by decide +kernel, rfl, by decide +kernel, by decide +kernel⟩
theorem sc_joined : FnScope N_joined ["rows", "spot"] (defScope s_joined) := ⟨rfl, rfl, rfl, by decide +kernel, rfl, by decide +kernel, by decide +kernel⟩
theorem sc_deed : FnScope N_deed ["rows", "tops", "under"] (defScope s_deed) := ⟨rfl, rfl, rfl, by decide +kernel, rfl, by decide +kernel, by decide +kernel⟩
theorem sc_moved : FnScope N_moved ["one", "spot"] (defScope s_moved) := ⟨rfl, rfl, rfl, by decide +kernel, rfl, by decide +kernel, by decide +kernel⟩
theorem sc_behind : FnScope N_behind ["one", "other"] (defScope s_behind) := ⟨rfl, rfl, rfl, by decide +kernel, rfl, by decide +kernel, by decide +kernel⟩
theorem sc_back : FnScope N_back ["one"] (defScope s_back) := ⟨rfl, rfl, rfl, by decide +kernel, rfl, by decide +kernel, by decide +kernel⟩
theorem sc_change : FnScope N_change ["vectors", "spot"] (defScope s_change) := ⟨rfl, rfl, rfl, by decide +kernel, rfl, by decide +kernel, by decide +kernel⟩
theorem sc_check_beside : FnScope N_check_beside ["axes", "one"] (defScope s_check_beside) := ⟨rfl, rfl, rfl, by decide +kernel, rfl, by decide +kernel, by decide +kernel⟩
theorem sc_forth : FnScope N_forth ["one"] (defScope s_forth) := ⟨rfl, rfl, rfl, by decide +kernel, rfl, by decide +kernel, by decide +kernel⟩
theorem sc_home : FnScope N_home ["one"] (defScope s_home) := ⟨rfl, rfl, rfl, by decide +kernel, rfl, by decide +kernel, by decide +kernel⟩
theorem sc_led : FnScope N_led ["table", "spot"] (defScope s_led) := ⟨rfl, rfl, rfl, by decide +kernel, rfl, by decide +kernel, by decide +kernel⟩
theorem sc_new_place : FnScope N_new_place ["spot", "one"] (defScope s_new_place) := ⟨rfl, rfl, rfl, by decide +kernel, rfl, by decide +kernel, by decide +kernel⟩
theorem sc_new_deed : FnScope N_new_deed ["one", "way"] (defScope s_new_deed) := ⟨rfl, rfl, rfl, by decide +kernel, rfl, by decide +kernel, by decide +kernel⟩
theorem sc_law_cell : FnScope N_law_cell ["_law_script", "_law_k"] (defScope s_law_cell) := ⟨rfl, rfl, rfl, by decide +kernel, rfl, by decide +kernel, by decide +kernel⟩
theorem sc_law_divides : FnScope N_law_divides ["_law_one", "_law_other"] (defScope s_law_divides) := ⟨rfl, rfl, rfl, by decide +kernel, rfl, by decide +kernel, by decide +kernel⟩
theorem sc_law_lowest : FnScope N_law_lowest ["_law_tops", "_law_under"] (defScope s_law_lowest) := ⟨rfl, rfl, rfl, by decide +kernel, rfl, by decide +kernel, by decide +kernel⟩
theorem sc_law_units : FnScope N_law_units ["_law_d"] (defScope s_law_units) := ⟨rfl, rfl, rfl, by decide +kernel, rfl, by decide +kernel, by decide +kernel⟩
theorem sc_law_rows : FnScope N_law_rows ["_law_cell_here", "_law_d", "_law_most"] (defScope s_law_rows) := ⟨rfl, rfl, rfl, by decide +kernel, rfl, by decide +kernel, by decide +kernel⟩
theorem sc_law_spot : FnScope N_law_spot ["_law_cell_here", "_law_d", "_law_most"] (defScope s_law_spot) := ⟨rfl, rfl, rfl, by decide +kernel, rfl, by decide +kernel, by decide +kernel⟩
theorem sc_law_times : FnScope N_law_times ["_law_one", "_law_other"] (defScope s_law_times) := ⟨rfl, rfl, rfl, by decide +kernel, rfl, by decide +kernel, by decide +kernel⟩
theorem sc_law_undone : FnScope N_law_undone ["_law_rows_here"] (defScope s_law_undone) := ⟨rfl, rfl, rfl, by decide +kernel, rfl, by decide +kernel, by decide +kernel⟩
theorem sc_law_room : FnScope N_law_room ["_law_rows_here"] (defScope s_law_room) := ⟨rfl, rfl, rfl, by decide +kernel, rfl, by decide +kernel, by decide +kernel⟩
theorem sc_law_told_columns : FnScope N_law_told_columns ["_law_left", "_law_d"] (defScope s_law_told_columns) := ⟨rfl, rfl, rfl, by decide +kernel, rfl, by decide +kernel, by decide +kernel⟩
theorem sc_law_columns : FnScope N_law_columns ["_law_script", "_law_d"] (defScope s_law_columns) := ⟨rfl, rfl, rfl, by decide +kernel, rfl, by decide +kernel, by decide +kernel⟩
theorem sc_law_new_rows : FnScope N_law_new_rows ["_law_rows_here", "_law_columns_here"] (defScope s_law_new_rows) := ⟨rfl, rfl, rfl, by decide +kernel, rfl, by decide +kernel, by decide +kernel⟩
theorem sc_law_only : FnScope N_law_only ["_law_e"] (defScope s_law_only) := ⟨rfl, rfl, rfl, by decide +kernel, rfl, by decide +kernel, by decide +kernel⟩
theorem sc_law_asked : FnScope N_law_asked ["_law_one", "_law_way"] (defScope s_law_asked) := ⟨rfl, rfl, rfl, by decide +kernel, rfl, by decide +kernel, by decide +kernel⟩
theorem sc_law_ints : FnScope N_law_ints ["_law_found"] (defScope s_law_ints) := ⟨rfl, rfl, rfl, by decide +kernel, rfl, by decide +kernel, by decide +kernel⟩
theorem sc_law_lies : FnScope N_law_lies ["_law_found", "_law_one", "_law_columns_here", "_law_under", "_law_spot_here"] (defScope s_law_lies) := ⟨rfl, rfl, rfl, by decide +kernel, rfl, by decide +kernel, by decide +kernel⟩
theorem sc_law_right : FnScope N_law_right ["_law_found", "_law_one", "_law_columns_here", "_law_under", "_law_spot_here", "_law_due"] (defScope s_law_right) := ⟨rfl, rfl, rfl, by decide +kernel, rfl, by decide +kernel, by decide +kernel⟩
theorem sc_law_word : FnScope N_law_word ["_law_some", "_law_script"] (defScope s_law_word) := ⟨rfl, rfl, rfl, by decide +kernel, rfl, by decide +kernel, by decide +kernel⟩
theorem sc_law : FnScope N_law ["_law_script"] (defScope s_law) := ⟨rfl, rfl, rfl, by decide +kernel, rfl, by decide +kernel, by decide +kernel⟩
structure Adr where
 a_divisor : Addr
 d_divisor : FuncData
 a_multiple : Addr
 d_multiple : FuncData
 a_place : Addr
 d_place : FuncData
 a_place_sum : Addr
 d_place_sum : FuncData
 a_opposite : Addr
 d_opposite : FuncData
 a_place_less : Addr
 d_place_less : FuncData
 a_dot : Addr
 d_dot : FuncData
 a_turned : Addr
 d_turned : FuncData
 a_times : Addr
 d_times : FuncData
 a_without : Addr
 d_without : FuncData
 a_determinant : Addr
 d_determinant : FuncData
 a_cofactor : Addr
 d_cofactor : FuncData
 a_crossed : Addr
 d_crossed : FuncData
 a_scaled : Addr
 d_scaled : FuncData
 a_inverse : Addr
 d_inverse : FuncData
 a_joined : Addr
 d_joined : FuncData
 a_deed : Addr
 d_deed : FuncData
 a_moved : Addr
 d_moved : FuncData
 a_behind : Addr
 d_behind : FuncData
 a_back : Addr
 d_back : FuncData
 a_change : Addr
 d_change : FuncData
 a_check_beside : Addr
 d_check_beside : FuncData
 a_forth : Addr
 d_forth : FuncData
 a_home : Addr
 d_home : FuncData
 a_led : Addr
 d_led : FuncData
 a_new_place : Addr
 d_new_place : FuncData
 a_new_deed : Addr
 d_new_deed : FuncData
 a_law_cell : Addr
 d_law_cell : FuncData
 a_law_divides : Addr
 d_law_divides : FuncData
 a_law_lowest : Addr
 d_law_lowest : FuncData
 a_law_units : Addr
 d_law_units : FuncData
 a_law_rows : Addr
 d_law_rows : FuncData
 a_law_spot : Addr
 d_law_spot : FuncData
 a_law_times : Addr
 d_law_times : FuncData
 a_law_undone : Addr
 d_law_undone : FuncData
 a_law_room : Addr
 d_law_room : FuncData
 a_law_told_columns : Addr
 d_law_told_columns : FuncData
 a_law_columns : Addr
 d_law_columns : FuncData
 a_law_new_rows : Addr
 d_law_new_rows : FuncData
 a_law_only : Addr
 d_law_only : FuncData
 a_law_asked : Addr
 d_law_asked : FuncData
 a_law_ints : Addr
 d_law_ints : FuncData
 a_law_lies : Addr
 d_law_lies : FuncData
 a_law_right : Addr
 d_law_right : FuncData
 a_law_word : Addr
 d_law_word : FuncData
 a_law : Addr
 d_law : FuncData
 a_CrystalError : Addr
 a_NoPlace : Addr
 a_NoDeed : Addr
 a_TooMany : Addr
 a_NoChange : Addr
 a_NotKept : Addr
structure Txt (K : PySem.W.Frag) (mg : Str → Option Value) (t : Adr) : Prop where
 F_divisor : Fun K "divisor" "divisor" s_divisor t.a_divisor t.d_divisor
 m_divisor : mg "divisor" = some (.ref t.a_divisor)
 b_divisor : Binds K t.d_divisor ["one", "other"] []
 F_multiple : Fun K "multiple" "multiple" s_multiple t.a_multiple t.d_multiple
 m_multiple : mg "multiple" = some (.ref t.a_multiple)
 b_multiple : Binds K t.d_multiple ["numbers"] []
 F_place : Fun K "place" "place" s_place t.a_place t.d_place
 m_place : mg "place" = some (.ref t.a_place)
 b_place : Binds K t.d_place ["tops", "under"] []
 F_place_sum : Fun K "place_sum" "place_sum" s_place_sum t.a_place_sum t.d_place_sum
 m_place_sum : mg "place_sum" = some (.ref t.a_place_sum)
 b_place_sum : Binds K t.d_place_sum ["one", "other"] []
 F_opposite : Fun K "opposite" "opposite" s_opposite t.a_opposite t.d_opposite
 m_opposite : mg "opposite" = some (.ref t.a_opposite)
 b_opposite : Binds K t.d_opposite ["one"] []
 F_place_less : Fun K "place_less" "place_less" s_place_less t.a_place_less t.d_place_less
 m_place_less : mg "place_less" = some (.ref t.a_place_less)
 b_place_less : Binds K t.d_place_less ["one", "other"] []
 F_dot : Fun K "dot" "dot" s_dot t.a_dot t.d_dot
 m_dot : mg "dot" = some (.ref t.a_dot)
 b_dot : Binds K t.d_dot ["one", "other"] []
 F_turned : Fun K "turned" "turned" s_turned t.a_turned t.d_turned
 m_turned : mg "turned" = some (.ref t.a_turned)
 b_turned : Binds K t.d_turned ["rows"] []
 F_times : Fun K "times" "times" s_times t.a_times t.d_times
 m_times : mg "times" = some (.ref t.a_times)
 b_times : Binds K t.d_times ["one", "other"] []
 F_without : Fun K "without" "without" s_without t.a_without t.d_without
 m_without : mg "without" = some (.ref t.a_without)
 b_without : Binds K t.d_without ["rows", "i", "k"] []
 F_determinant : Fun K "determinant" "determinant" s_determinant t.a_determinant t.d_determinant
 m_determinant : mg "determinant" = some (.ref t.a_determinant)
 b_determinant : Binds K t.d_determinant ["rows"] []
 F_cofactor : Fun K "cofactor" "cofactor" s_cofactor t.a_cofactor t.d_cofactor
 m_cofactor : mg "cofactor" = some (.ref t.a_cofactor)
 b_cofactor : Binds K t.d_cofactor ["rows", "i", "k"] []
 F_crossed : Fun K "crossed" "crossed" s_crossed t.a_crossed t.d_crossed
 m_crossed : mg "crossed" = some (.ref t.a_crossed)
 b_crossed : Binds K t.d_crossed ["rows"] []
 F_scaled : Fun K "scaled" "scaled" s_scaled t.a_scaled t.d_scaled
 m_scaled : mg "scaled" = some (.ref t.a_scaled)
 b_scaled : Binds K t.d_scaled ["rows", "count"] []
 F_inverse : Fun K "inverse" "inverse" s_inverse t.a_inverse t.d_inverse
 m_inverse : mg "inverse" = some (.ref t.a_inverse)
 b_inverse : Binds K t.d_inverse ["rows"] []
 F_joined : Fun K "joined" "joined" s_joined t.a_joined t.d_joined
 m_joined : mg "joined" = some (.ref t.a_joined)
 b_joined : Binds K t.d_joined ["rows", "spot"] []
 F_deed : Fun K "deed" "deed" s_deed t.a_deed t.d_deed
 m_deed : mg "deed" = some (.ref t.a_deed)
 b_deed : Binds K t.d_deed ["rows", "tops", "under"] []
 F_moved : Fun K "moved" "moved" s_moved t.a_moved t.d_moved
 m_moved : mg "moved" = some (.ref t.a_moved)
 b_moved : Binds K t.d_moved ["one", "spot"] []
 F_behind : Fun K "behind" "behind" s_behind t.a_behind t.d_behind
 m_behind : mg "behind" = some (.ref t.a_behind)
 b_behind : Binds K t.d_behind ["one", "other"] []
 F_back : Fun K "back" "back" s_back t.a_back t.d_back
 m_back : mg "back" = some (.ref t.a_back)
 b_back : Binds K t.d_back ["one"] []
 F_change : Fun K "change" "change" s_change t.a_change t.d_change
 m_change : mg "change" = some (.ref t.a_change)
 b_change : Binds K t.d_change ["vectors", "spot"] []
 F_check_beside : Fun K "check_beside" "check_beside" s_check_beside t.a_check_beside t.d_check_beside
 m_check_beside : mg "check_beside" = some (.ref t.a_check_beside)
 b_check_beside : Binds K t.d_check_beside ["axes", "one"] []
 F_forth : Fun K "forth" "forth" s_forth t.a_forth t.d_forth
 m_forth : mg "forth" = some (.ref t.a_forth)
 b_forth : Binds K t.d_forth ["one"] []
 F_home : Fun K "home" "home" s_home t.a_home t.d_home
 m_home : mg "home" = some (.ref t.a_home)
 b_home : Binds K t.d_home ["one"] []
 F_led : Fun K "led" "led" s_led t.a_led t.d_led
 m_led : mg "led" = some (.ref t.a_led)
 b_led : Binds K t.d_led ["table", "spot"] []
 F_new_place : Fun K "new_place" "new_place" s_new_place t.a_new_place t.d_new_place
 m_new_place : mg "new_place" = some (.ref t.a_new_place)
 b_new_place : Binds K t.d_new_place ["spot", "one"] []
 F_new_deed : Fun K "new_deed" "new_deed" s_new_deed t.a_new_deed t.d_new_deed
 m_new_deed : mg "new_deed" = some (.ref t.a_new_deed)
 b_new_deed : Binds K t.d_new_deed ["one", "way"] []
 F_law_cell : Fun K "_law_cell" "_law_cell" s_law_cell t.a_law_cell t.d_law_cell
 m_law_cell : mg "_law_cell" = some (.ref t.a_law_cell)
 b_law_cell : Binds K t.d_law_cell ["_law_script", "_law_k"] []
 F_law_divides : Fun K "_law_divides" "_law_divides" s_law_divides t.a_law_divides t.d_law_divides
 m_law_divides : mg "_law_divides" = some (.ref t.a_law_divides)
 b_law_divides : Binds K t.d_law_divides ["_law_one", "_law_other"] []
 F_law_lowest : Fun K "_law_lowest" "_law_lowest" s_law_lowest t.a_law_lowest t.d_law_lowest
 m_law_lowest : mg "_law_lowest" = some (.ref t.a_law_lowest)
 b_law_lowest : Binds K t.d_law_lowest ["_law_tops", "_law_under"] []
 F_law_units : Fun K "_law_units" "_law_units" s_law_units t.a_law_units t.d_law_units
 m_law_units : mg "_law_units" = some (.ref t.a_law_units)
 b_law_units : Binds K t.d_law_units ["_law_d"] []
 F_law_rows : Fun K "_law_rows" "_law_rows" s_law_rows t.a_law_rows t.d_law_rows
 m_law_rows : mg "_law_rows" = some (.ref t.a_law_rows)
 b_law_rows : Binds K t.d_law_rows ["_law_cell_here", "_law_d", "_law_most"] []
 F_law_spot : Fun K "_law_spot" "_law_spot" s_law_spot t.a_law_spot t.d_law_spot
 m_law_spot : mg "_law_spot" = some (.ref t.a_law_spot)
 b_law_spot : Binds K t.d_law_spot ["_law_cell_here", "_law_d", "_law_most"] []
 F_law_times : Fun K "_law_times" "_law_times" s_law_times t.a_law_times t.d_law_times
 m_law_times : mg "_law_times" = some (.ref t.a_law_times)
 b_law_times : Binds K t.d_law_times ["_law_one", "_law_other"] []
 F_law_undone : Fun K "_law_undone" "_law_undone" s_law_undone t.a_law_undone t.d_law_undone
 m_law_undone : mg "_law_undone" = some (.ref t.a_law_undone)
 b_law_undone : Binds K t.d_law_undone ["_law_rows_here"] []
 F_law_room : Fun K "_law_room" "_law_room" s_law_room t.a_law_room t.d_law_room
 m_law_room : mg "_law_room" = some (.ref t.a_law_room)
 b_law_room : Binds K t.d_law_room ["_law_rows_here"] []
 F_law_told_columns : Fun K "_law_told_columns" "_law_told_columns" s_law_told_columns t.a_law_told_columns t.d_law_told_columns
 m_law_told_columns : mg "_law_told_columns" = some (.ref t.a_law_told_columns)
 b_law_told_columns : Binds K t.d_law_told_columns ["_law_left", "_law_d"] []
 F_law_columns : Fun K "_law_columns" "_law_columns" s_law_columns t.a_law_columns t.d_law_columns
 m_law_columns : mg "_law_columns" = some (.ref t.a_law_columns)
 b_law_columns : Binds K t.d_law_columns ["_law_script", "_law_d"] []
 F_law_new_rows : Fun K "_law_new_rows" "_law_new_rows" s_law_new_rows t.a_law_new_rows t.d_law_new_rows
 m_law_new_rows : mg "_law_new_rows" = some (.ref t.a_law_new_rows)
 b_law_new_rows : Binds K t.d_law_new_rows ["_law_rows_here", "_law_columns_here"] []
 F_law_only : Fun K "_law_only" "_law_only" s_law_only t.a_law_only t.d_law_only
 m_law_only : mg "_law_only" = some (.ref t.a_law_only)
 b_law_only : Binds K t.d_law_only ["_law_e"] []
 F_law_asked : Fun K "_law_asked" "_law_asked" s_law_asked t.a_law_asked t.d_law_asked
 m_law_asked : mg "_law_asked" = some (.ref t.a_law_asked)
 b_law_asked : Binds K t.d_law_asked ["_law_one", "_law_way"] []
 F_law_ints : Fun K "_law_ints" "_law_ints" s_law_ints t.a_law_ints t.d_law_ints
 m_law_ints : mg "_law_ints" = some (.ref t.a_law_ints)
 b_law_ints : Binds K t.d_law_ints ["_law_found"] []
 F_law_lies : Fun K "_law_lies" "_law_lies" s_law_lies t.a_law_lies t.d_law_lies
 m_law_lies : mg "_law_lies" = some (.ref t.a_law_lies)
 b_law_lies : Binds K t.d_law_lies ["_law_found", "_law_one", "_law_columns_here", "_law_under", "_law_spot_here"] []
 F_law_right : Fun K "_law_right" "_law_right" s_law_right t.a_law_right t.d_law_right
 m_law_right : mg "_law_right" = some (.ref t.a_law_right)
 b_law_right : Binds K t.d_law_right ["_law_found", "_law_one", "_law_columns_here", "_law_under", "_law_spot_here", "_law_due"] []
 F_law_word : Fun K "_law_word" "_law_word" s_law_word t.a_law_word t.d_law_word
 m_law_word : mg "_law_word" = some (.ref t.a_law_word)
 b_law_word : Binds K t.d_law_word ["_law_some", "_law_script"] []
 F_law : Fun K "law" "law" s_law t.a_law t.d_law
 m_law : mg "law" = some (.ref t.a_law)
 b_law : Binds K t.d_law ["_law_script"] []
 z_sum : mg "sum" = none
 z_zip : mg "zip" = none
 z_enumerate : mg "enumerate" = none
 z_range : mg "range" = none
 z_len : mg "len" = none
 z_abs : mg "abs" = none
 z_int : mg "int" = none
 z_bool : mg "bool" = none
 z_isinstance : mg "isinstance" = none
 z_list : mg "list" = none
 z_tuple : mg "tuple" = none
 z_any : mg "any" = none
 z_ValueError : mg "ValueError" = none
 m_CrystalError : mg "CrystalError" = some (.ref t.a_CrystalError)
 m_NoPlace : mg "NoPlace" = some (.ref t.a_NoPlace)
 m_NoDeed : mg "NoDeed" = some (.ref t.a_NoDeed)
 m_TooMany : mg "TooMany" = some (.ref t.a_TooMany)
 m_NoChange : mg "NoChange" = some (.ref t.a_NoChange)
 m_NotKept : mg "NotKept" = some (.ref t.a_NotKept)
 k_int : PySem.W.kitOne K (.type "int") (.type "int") = some true
 k_ib : PySem.W.kitOne K (.type "int") (.type "bool") = some false
 k_tt : PySem.W.kitOne K (.type "tuple") (.type "tuple") = some true
 x_NoPlace : PySem.W.excIn K t.a_NoPlace [.type "ValueError", .type "Exception", .type "BaseException", .type "object"] "ValueError.__new__" = true
 x_NoDeed : PySem.W.excIn K t.a_NoDeed [.type "ValueError", .type "Exception", .type "BaseException", .type "object"] "ValueError.__new__" = true
 x_NoChange : PySem.W.excIn K t.a_NoChange [.type "ValueError", .type "Exception", .type "BaseException", .type "object"] "ValueError.__new__" = true
 x_NotKept : PySem.W.excIn K t.a_NotKept [.type "ValueError", .type "Exception", .type "BaseException", .type "object"] "ValueError.__new__" = true
 xm : PySem.W.exmOne K (.ref t.a_NotKept) (.ref t.a_CrystalError) = some true
 e_ga : PySem.W.findIn K (.ref t.a_NotKept) "__getattribute__" = some (some (.builtin "BaseException.__getattribute__"))
 e_gt : PySem.W.findIn K (.ref t.a_NotKept) "__getattr__" = some none
 e_ca : PySem.W.findIn K (.ref t.a_NotKept) "__class__" = some (some (.builtin "object.__class__"))
 e_cg : PySem.W.specialIn K (.builtin "object.__class__") "__get__" = some (some (.builtin "getset_descriptor.__get__"))
 e_tk : PySem.W.takesIn K (.builtin "object.__class__") = some true
 e_ob : PySem.W.mroIn K t.a_NotKept (.type "object") = some true
 e_bx : PySem.W.mroIn K t.a_NotKept (.type "BaseException") = some true
 i_VE : PySem.W.kitOne K (.ref t.a_NotKept) (.type "ValueError") = some true
 i_NotKept : PySem.W.kitOne K (.ref t.a_NotKept) (.ref t.a_NotKept) = some true
 i_NoChange : PySem.W.kitOne K (.ref t.a_NotKept) (.ref t.a_NoChange) = some false
 i_NoDeed : PySem.W.kitOne K (.ref t.a_NotKept) (.ref t.a_NoDeed) = some false
 i_TooMany : PySem.W.kitOne K (.ref t.a_NotKept) (.ref t.a_TooMany) = some false
 bl : ∀ (s : Shared) (u : Value), BindsTo s t.d_law ⟨[u], []⟩ [("_law_script", u)]
local macro_rules | `(tactic| walk_at "rd2") => `(tactic| simp only [tSeq, tAsg, gName, tVar, tC, tOp, rd_rI0, rd_rI, rd_rU, tUn, tTest, tB, tIfS, tIf, tAnd, tOr, tNot, tAndV, tOrV, tNotV, tRet, tRetN, tNext, tDrop, tCall, tCallX, tCons, tNil, tCB, tTup, tLst, tPar, tSetC, tBM, tBM0, tSl, tPart, tNoPart, List.getElem?_cons_zero, List.getElem?_cons_succ, Option.some.injEq, exists_eq_left', exists_eq_left, List.set_cons_zero, List.set_cons_succ, List.cons.injEq, V.int.injEq, V.bl.injEq, V.ref.injEq, and_true, true_and, List.append_nil, ne_eq, exists_and_left, and_assoc, ↓reduceIte, Bool.not_true, Bool.not_false, Bool.false_eq_true])
noncomputable def gcdI (a b : Int) : Int := (Int.gcd a b : Int)
noncomputable def absI (u : Int) : Int := if u < 0 then -u else u
noncomputable def gl (u : Int) (ns : List Int) : Int := ns.foldl gcdI (absI u)
theorem absI_nonneg (u : Int) : 0 ≤ absI u := by unfold absI; split <;> omega
theorem absI_dvd {d u : Int} : d ∣ absI u ↔ d ∣ u := by
 unfold absI
 split
 ·exact Int.dvd_neg
 ·exact Iff.rfl
theorem dvd_foldl {d : Int} : ∀ (ns : List Int) (c : Int), d ∣ ns.foldl gcdI c ↔ d ∣ c ∧ ∀ t ∈ ns, d ∣ t
 | [], c => by simp
 | t :: r, c => by
  rw [List.foldl_cons, dvd_foldl r]
  unfold gcdI
  rw [Int.dvd_coe_gcd_iff]
  constructor
  ·rintro ⟨⟨h1, h2⟩, h3⟩
   refine ⟨h1, fun x hx => ?_⟩
   rcases List.mem_cons.mp hx with e | e
   ·rw [e]; exact h2
   ·exact h3 x e
  ·rintro ⟨h1, h2⟩
   exact ⟨⟨h1, h2 t List.mem_cons_self⟩, fun x hx => h2 x (List.mem_cons_of_mem _ hx)⟩
theorem dvd_gl {d u : Int} {ns : List Int} : d ∣ gl u ns ↔ d ∣ u ∧ ∀ t ∈ ns, d ∣ t := by
 unfold gl
 rw [dvd_foldl, absI_dvd]
theorem foldl_nonneg : ∀ (ns : List Int) (c : Int), 0 ≤ c → 0 ≤ ns.foldl gcdI c
 | [], _, h => h
 | t :: r, c, _ => foldl_nonneg r _ (Int.natCast_nonneg _)
theorem gl_nonneg (u : Int) (ns : List Int) : 0 ≤ gl u ns := foldl_nonneg ns _ (absI_nonneg u)
theorem gl_u (u : Int) (ns : List Int) : gl u ns ∣ u := (dvd_gl.mp (Int.dvd_refl _)).1
theorem gl_mem {u t : Int} {ns : List Int} (h : t ∈ ns) : gl u ns ∣ t := (dvd_gl.mp (Int.dvd_refl _)).2 t h
theorem gl_pos {u : Int} (ns : List Int) (h : u ≠ 0) : 0 < gl u ns := by
 have := gl_nonneg u ns
 rcases Int.lt_or_eq_of_le this with q | q
 ·exact q
 ·obtain ⟨k, e⟩ := gl_u u ns
  rw [← q, Int.zero_mul] at e
  exact absurd e h
theorem gl_eq_of {u v : Int} {ns ms : List Int} (h : ∀ d : Int, (d ∣ u ∧ ∀ t ∈ ns, d ∣ t) ↔ (d ∣ v ∧ ∀ t ∈ ms, d ∣ t)) : gl u ns = gl v ms :=
 Int.dvd_antisymm (gl_nonneg _ _) (gl_nonneg _ _) (dvd_gl.mpr ((h _).mp (dvd_gl.mp (Int.dvd_refl _)))) (dvd_gl.mpr ((h _).mpr (dvd_gl.mp (Int.dvd_refl _))))
theorem gl_snoc (u : Int) (ns : List Int) (t : Int) : gl u (ns ++ [t]) = gcdI (gl u ns) t := by unfold gl; rw [List.foldl_append]; rfl
noncomputable def cs (u : Int) (ns : List Int) : Int := if u < 0 then -(gl u ns) else gl u ns
theorem cs_ne {u : Int} (ns : List Int) (h : u ≠ 0) : cs u ns ≠ 0 := by
 have := gl_pos ns h
 unfold cs
 split <;> omega
theorem cs_dvd {u x : Int} {ns : List Int} (h : gl u ns ∣ x) : cs u ns ∣ x := by
 unfold cs
 split
 ·exact Int.neg_dvd.mpr h
 ·exact h
theorem fdiv_exact {c x : Int} (hc : c ≠ 0) (h : c ∣ x) : x.fdiv c * c = x := by
 obtain ⟨k, e⟩ := h
 subst e
 rw [Int.mul_comm c k, Int.mul_fdiv_cancel _ hc]
theorem under_pos {u : Int} (ns : List Int) (h : u ≠ 0) : 0 < u.fdiv (cs u ns) := by
 have e := fdiv_exact (cs_ne ns h) (cs_dvd (gl_u u ns))
 have g := gl_pos ns h
 rcases Int.lt_trichotomy (u.fdiv (cs u ns)) 0 with q | q | q
 ·exfalso
  unfold cs at e q
  split at e
  ·rename_i hu
   rw [if_pos hu] at q
   have := Int.mul_nonneg_of_nonpos_of_nonpos (Int.le_of_lt q) (show -(gl u ns) ≤ 0 by omega)
   omega
  ·rename_i hu
   rw [if_neg hu] at q
   have := Int.mul_neg_of_neg_of_pos q g
   omega
 ·rw [q, Int.zero_mul] at e
  exact absurd e.symm h
 ·exact q
theorem cross {u t : Int} {ns : List Int} (h : u ≠ 0) (ht : t ∈ ns) : t * u.fdiv (cs u ns) = t.fdiv (cs u ns) * u := by
 have e1 := fdiv_exact (cs_ne ns h) (cs_dvd (gl_u u ns))
 have e2 := fdiv_exact (cs_ne ns h) (cs_dvd (gl_mem (u := u) ht))
 generalize u.fdiv (cs u ns) = a at *
 generalize t.fdiv (cs u ns) = b at *
 generalize cs u ns = c at *
 rw [← e2, ← e1, Int.mul_assoc, Int.mul_comm c a]
theorem gl_red {u : Int} {ns : List Int} (h : u ≠ 0) : gl (u.fdiv (cs u ns)) (ns.map fun t => t.fdiv (cs u ns)) = 1 := by
 have hc := cs_ne ns h
 have e1 := fdiv_exact hc (cs_dvd (gl_u u ns))
 have n := gl_nonneg (u.fdiv (cs u ns)) (ns.map fun t => t.fdiv (cs u ns))
 have d := dvd_gl.mp (Int.dvd_refl (gl (u.fdiv (cs u ns)) (ns.map fun t => t.fdiv (cs u ns))))
 generalize gl (u.fdiv (cs u ns)) (ns.map fun t => t.fdiv (cs u ns)) = g at *
 have key : g * cs u ns ∣ gl u ns := by
  refine dvd_gl.mpr ⟨?_, fun t ht => ?_⟩
  ·have := Int.mul_dvd_mul d.1 (Int.dvd_refl (cs u ns))
   rw [e1] at this
   exact this
  ·have := Int.mul_dvd_mul (d.2 _ (List.mem_map.mpr ⟨t, ht, rfl⟩)) (Int.dvd_refl (cs u ns))
   rw [fdiv_exact hc (cs_dvd (gl_mem (u := u) ht))] at this
   exact this
 have key2 : g * cs u ns ∣ 1 * cs u ns := by
  rw [Int.one_mul]
  unfold cs at key ⊢
  split at key
  ·rename_i hu
   rw [if_pos hu]
   exact Int.dvd_neg.mpr key
  ·rename_i hu
   rw [if_neg hu]
   exact key
 have : g ∣ 1 := Int.dvd_of_mul_dvd_mul_right hc key2
 have := Int.le_of_dvd (by decide) this
 rcases (show g = 0 ∨ g = 1 by omega) with q | q
 ·subst q
  have z := d.1
  rw [Int.zero_dvd] at z
  rw [z, Int.zero_mul] at e1
  exact absurd e1.symm h
 ·exact q
theorem cs_one {u : Int} {ns : List Int} (h : 0 < u) (g : gl u ns = 1) : cs u ns = 1 := by
 unfold cs
 rw [if_neg (by omega), g]
theorem red_same {u : Int} {ns : List Int} (h : 0 < u) (g : gl u ns = 1) : (ns.map fun t => t.fdiv (cs u ns)) = ns ∧ u.fdiv (cs u ns) = u := by
 rw [cs_one h g]
 refine ⟨?_, Int.fdiv_one u⟩
 rw [show (fun t : Int => t.fdiv 1) = id from funext fun t => Int.fdiv_one t, List.map_id]
theorem gcd_fmodI (g l : Int) : Int.gcd l (Int.fmod g l) = Int.gcd g l := by
 rw [Int.fmod_def, Int.gcd_sub_mul_left_right, Int.gcd_comm]
theorem absI_gcd (a b : Int) : Int.gcd (if a < 0 then -a else a) (if b < 0 then -b else b) = Int.gcd a b := by
 split <;> split <;> simp
theorem absI_nn (a : Int) : 0 ≤ (if a < 0 then -a else a) := by split <;> omega
theorem gcd_end {g l a b : Int} (h : Int.gcd g l = Int.gcd a b) (hg : 0 ≤ g) (z : l = 0) : g = gcdI a b := by
 rw [z, Int.gcd_zero_right] at h
 unfold gcdI
 rw [← h]
 omega
noncomputable def sp_gcd : Sp := fun vs H Q _ => ∃ a b, vs = [.int a, .int b] ∧ Q (.int (gcdI a b)) H
noncomputable abbrev sp_divisor : Sp := sp_gcd
noncomputable def PlaceAt (H : Hp) (p : Addr) (ns : List Int) (u : Int) : Prop := ∃ q, H p = some (.tup [.ref q, .int u]) ∧ H q = some (.tup (ns.map V.int))
theorem PlaceAt.up {H H' : Hp} {p : Addr} {ns : List Int} {u : Int} (h : PlaceAt H p ns u) (s : Same H H') : PlaceAt H' p ns u := let ⟨q, h1, h2⟩ := h; ⟨q, s _ _ h1, s _ _ h2⟩
noncomputable def small (n : Int) : Prop := n.natAbs < 2 ^ 8990
theorem sizeBig {n : Nat} (h : n ≤ 1000) : n < sizeLine := small1000 h
theorem small_log {c : Int} (h : small c) (z : c ≠ 0) : c.natAbs.log2 < 9000 := Nat.lt_of_lt_of_le ((Nat.log2_lt (by omega)).mpr h) (by decide)
theorem small_dvd {c u : Int} (h : small u) (z : u ≠ 0) (d : c ∣ u) : small c := by
 have := Int.natAbs_dvd_natAbs.mpr d
 have := Nat.le_of_dvd (by omega) this
 unfold small at *
 omega

noncomputable def redT (u : Int) (ns : List Int) : List Int := ns.map fun t => t.fdiv (cs u ns)
noncomputable def redU (u : Int) (ns : List Int) : Int := u.fdiv (cs u ns)
noncomputable def sp_place (K : PySem.W.Frag) (C : Addr) : Sp := fun vs H Q E => ∃ (b : Bool) (a : Addr) (ns : List Int) (u : Int), vs = [.ref a, .int u] ∧ SqB b K H a (ns.map V.int) ∧ ns.length ≤ 100 ∧ small u ∧
 ((u = 0 ∨ ns = []) → E (.ref C) none H) ∧ (u ≠ 0 → ns ≠ [] → ∀ p H', Same H H' → PlaceAt H' p (redT u ns) (redU u ns) → Q (.ref p) H')
theorem take_snoc {α : Type} {ns : List α} {i : Nat} {n : α} (h : ns[i]? = some n) : ns.take (i + 1) = ns.take i ++ [n] := by
 rw [List.take_add_one, h]
 rfl

noncomputable def sp_dot (K : PySem.W.Frag) : Sp := fun vs H Q _ => ∃ (b1 b2 : Bool) (p q : Addr) (ms ns : List Int), vs = [.ref p, .ref q] ∧ SqB b1 K H p (ms.map V.int) ∧ SqB b2 K H q (ns.map V.int) ∧ ms.length = ns.length ∧ ms.length ≤ 1000 ∧
 (∀ (i : Nat) m n, ms[i]? = some m → ns[i]? = some n → IntMulOk m n) ∧ ∀ H', Same H H' → Q (.int (dotI ms ns)) H'
noncomputable def sp_turned (K : PySem.W.Frag) : Sp := fun vs H Q _ => ∃ (b1 b2 : Bool) (a : Addr) (rows : List (List Int)) (w : Nat), vs = [.ref a] ∧ MatB b1 b2 K H a rows ∧ rows ≠ [] ∧ (∀ r ∈ rows, r.length = w) ∧ w ≤ 1000 ∧ rows.length ≤ 1000 ∧
 ∀ r H', H r = none → Same H H' → MatL H' r (turnM w rows) → Q (.ref r) H'
noncomputable def MulOkM (A B : List (List Int)) : Prop := ∀ r ∈ A, ∀ x ∈ r, ∀ r' ∈ B, ∀ y ∈ r', IntMulOk x y
noncomputable def sp_times (K : PySem.W.Frag) : Sp := fun vs H Q _ => ∃ (b1 b2 b3 b4 : Bool) (a b : Addr) (A B : List (List Int)) (w : Nat), vs = [.ref a, .ref b] ∧ MatB b1 b2 K H a A ∧ MatB b3 b4 K H b B ∧ B ≠ [] ∧ (∀ r ∈ B, r.length = w) ∧ (∀ r ∈ A, r.length = B.length) ∧
 w ≤ 1000 ∧ A.length ≤ 1000 ∧ B.length ≤ 1000 ∧ MulOkM A B ∧ ∀ r H', H r = none → Same H H' → MatL H' r (mulM w A B) → Q (.ref r) H'

noncomputable def minorM (i k : Nat) (rows : List (List Int)) : List (List Int) := (rows.eraseIdx i).map fun r => r.eraseIdx k
noncomputable def sg (k : Nat) : Int := if k % 2 = 0 then 1 else -1
noncomputable def altS (f : Nat → Int) : Nat → Int
 | 0 => 0
 | k + 1 => altS f k + sg k * f k
noncomputable def detM : Nat → List (List Int) → Int
 | 0, _ => 1
 | 1, rows => (rows.getD 0 []).getD 0 0
 | n + 2, rows => altS (fun k => (rows.getD 0 []).getD k 0 * detM (n + 1) (minorM 0 k rows)) (n + 2)
noncomputable def Sq (n : Nat) (rows : List (List Int)) : Prop := rows.length = n ∧ ∀ r ∈ rows, r.length = n
noncomputable def BitsM (B : Nat) (rows : List (List Int)) : Prop := ∀ r ∈ rows, ∀ x ∈ r, x.natAbs < 2 ^ B
theorem sg_succ (k : Nat) : -sg k = sg (k + 1) := by
 unfold sg
 by_cases h : k % 2 = 0
 ·rw [if_pos h, if_neg (by omega)]
 ·rw [if_neg h, if_pos (by omega)]
  rfl
theorem sg_abs (k : Nat) : (sg k).natAbs = 1 := by unfold sg; split <;> rfl
theorem Sq.minor {n i k : Nat} {rows : List (List Int)} (h : Sq (n + 1) rows) (hi : i < n + 1) (hk : k < n + 1) : Sq n (minorM i k rows) := by
 refine ⟨?_, fun r hr => ?_⟩
 ·unfold minorM
  rw [List.length_map, List.length_eraseIdx, h.1, if_pos hi]
  rfl
 ·obtain ⟨z, hz, rfl⟩ := List.mem_map.mp hr
  have hl := h.2 z (List.mem_of_mem_eraseIdx hz)
  rw [List.length_eraseIdx, hl, if_pos hk]
  rfl
theorem BitsM.minor {B i k : Nat} {rows : List (List Int)} (h : BitsM B rows) : BitsM B (minorM i k rows) := fun r hr x hx => by
 obtain ⟨z, hz, rfl⟩ := List.mem_map.mp hr
 exact h z (List.mem_of_mem_eraseIdx hz) x (List.mem_of_mem_eraseIdx hx)
theorem altS_abs {f : Nat → Int} {M : Nat} : ∀ n : Nat, (∀ k < n, (f k).natAbs ≤ M) → (altS f n).natAbs ≤ n * M
 | 0, _ => by simp [altS]
 | n + 1, h => by
  have h1 := altS_abs n fun k hk => h k (by omega)
  have h2 := h n (by omega)
  show (altS f n + sg n * f n).natAbs ≤ _
  have h3 := Int.natAbs_add_le (altS f n) (sg n * f n)
  rw [Int.natAbs_mul, sg_abs, Nat.one_mul] at h3
  rw [Nat.succ_mul]
  omega
theorem row0 {n : Nat} {rows : List (List Int)} (h : Sq (n + 1) rows) : rows[0]? = some (rows.getD 0 []) ∧ rows.getD 0 [] ∈ rows := by
 have hl : 0 < rows.length := by have := h.1; omega
 have e : rows.getD 0 [] = rows[0] := by simp [hl]
 rw [e]
 exact ⟨by simp [hl], List.getElem_mem hl⟩
theorem det_abs {B : Nat} : ∀ (n : Nat) (rows : List (List Int)), 1 ≤ n → n ≤ 4 → Sq n rows → BitsM B rows → (detM n rows).natAbs ≤ 2 ^ (n * (B + 2))
 | 0, _, h, _, _, _ => by omega
 | 1, rows, _, _, hs, hb => by
  have hr := row0 hs
  have hl : 0 < (rows.getD 0 []).length := by rw [hs.2 _ hr.2]; decide
  have := hb _ hr.2 _ (L2.getD_mem hl)
  show ((rows.getD 0 []).getD 0 0).natAbs ≤ _
  have : 2 ^ B ≤ 2 ^ (1 * (B + 2)) := Nat.pow_le_pow_right (by decide) (by omega)
  omega
 | n + 2, rows, _, h4, hs, hb => by
  have hr := row0 hs
  have key : ∀ k < n + 2, ((rows.getD 0 []).getD k 0 * detM (n + 1) (minorM 0 k rows)).natAbs ≤ 2 ^ B * 2 ^ ((n + 1) * (B + 2)) := fun k hk => by
   have hl : k < (rows.getD 0 []).length := by rw [hs.2 _ hr.2]; exact hk
   have h1 := hb _ hr.2 _ (L2.getD_mem hl)
   have h2 := det_abs (n + 1) (minorM 0 k rows) (by omega) (by omega) (hs.minor (by omega) hk) hb.minor
   rw [Int.natAbs_mul]
   exact Nat.mul_le_mul (Nat.le_of_lt h1) h2
  have := altS_abs (n + 2) key
  have e : 2 ^ ((n + 2) * (B + 2)) = 4 * (2 ^ B * 2 ^ ((n + 1) * (B + 2))) := by
   rw [← Nat.pow_add, show (4 : Nat) = 2 ^ 2 from rfl, ← Nat.pow_add]
   congr 1
   rw [Nat.add_mul, Nat.add_mul]
   omega
  show (altS _ (n + 2)).natAbs ≤ _
  rw [e]
  refine Nat.le_trans this (Nat.mul_le_mul_right _ (by omega))
theorem bits_of {x : Int} {B : Nat} (h : x.natAbs < 2 ^ B) : Builtin.Int.intBits x ≤ B := intBits_le_iff.mpr h
noncomputable def sp_without (K : PySem.W.Frag) : Sp := fun vs H Q _ => ∃ (b1 b2 : Bool) (a : Addr) (rows : List (List Int)) (i k w : Nat), vs = [.ref a, .int i, .int k] ∧ MatB b1 b2 K H a rows ∧ (∀ r ∈ rows, r.length = w) ∧ k < w ∧ w ≤ 1000 ∧ rows.length ≤ 1000 ∧
 ∀ r H', H r = none → Same H H' → MatL H' r (minorM i k rows) → Q (.ref r) H'
noncomputable def sp_determinant (K : PySem.W.Frag) : Nat → Sp
 | 0 => fun _ _ _ _ => False
 | n + 1 => fun vs H Q _ => ∃ (b1 b2 : Bool) (a : Addr) (rows : List (List Int)) (B : Nat), vs = [.ref a] ∧ MatB b1 b2 K H a rows ∧ Sq (n + 1) rows ∧ n ≤ 3 ∧ BitsM B rows ∧ B ≤ 1000000 ∧ ∀ H', Same H H' → Q (.int (detM (n + 1) rows)) H'
section
variable {g : TG} {tt : TOx} {fr : List (Str × Nat)} {σ : St} {a : Addr} {H : Hp} {Q : VK} {K : PySem.W.Frag}
theorem cg_enumI {b : Bool} {l : Addr} {xs : List V} (P : Nat → List V → Hp → Prop) (ha : H a = none) (hS : SqB b K H l xs) (hz : xs.length ≤ 1000) (h0 : P 0 [] (upd H a (.lst [])))
  (hl : ∀ i zs H1, P i zs H1 → zs.length ≤ i) (mono : ∀ i zs H1 H2, P i zs H1 → SameX a H1 H2 → P i zs H2)
  (he : ∀ i x H1 zs, xs[i]? = some x → Same H H1 → H1 a = some (.lst zs) → P i zs H1 → ∀ C : Option V → Hp → Prop,
   (∀ y H2, Same H1 H2 → P (i + 1) (zs ++ [y]) H2 → C (some y) H2) → (∀ H2, Same H1 H2 → P (i + 1) zs H2 → C none H2) → tt (some (.int i) :: some x :: frees fr σ) H1 C)
  (hd : ∀ H1 ys, Same H H1 → H1 a = some (.lst ys) → P xs.length ys H1 → Q (.ref a) H1) :
  CompWG (Ite K b l) (gTup K 2 (gCons (gName 0) (gCons (gName 1) gNil))) tt 2 fr σ a H Q := by
 refine cg_inv xs.length P ha hz h0 hl mono (fun i H1 hi s => ⟨xs, xs[i], hS.up s, by simp [hi]⟩) (fun H1 s => ⟨xs, hS.up s, rfl⟩) ?_ hd
 intro i H1 zs hi s1 ez p os x H3 hos hy C hC1 hC2
 obtain ⟨q, x, rfl, hp, rfl, hx⟩ := hy
 refine ⟨q, [.int i, x], rfl, SqT.of upd_same, rfl, _, [x], rfl, x, [], rfl, rfl, ?_⟩
 have sn : Same H1 (upd H1 q (.tup [.int i, x])) := Same.new hp
 match os, hos with
 | [o, o'], _ =>
  exact ⟨⟨[some (.int i), some x], rfl, rfl⟩, he i x _ zs (hx xs (hS.up s1)) (s1.trans sn) (sn _ _ ez) (mono _ _ _ _ p sn.x) C (fun y H2 s2 r => hC1 y H2 (sn.trans s2) r) fun H2 s2 r => hC2 H2 (sn.trans s2) r⟩
end
theorem SqB.cut {b : Bool} {K : PySem.W.Frag} {H : Hp} {p : Addr} {xs : List V} : SqB b K (upd H p (seqO b xs)) p xs := by
 cases b
 ·exact SqB.lst upd_same
 ·exact SqB.tup upd_same
theorem erase_take {α : Type} {rows : List α} {i0 t : Nat} {r : α} (e : rows[t]? = some r) : (rows.take (t + 1)).eraseIdx i0 = if t = i0 then (rows.take t).eraseIdx i0 else (rows.take t).eraseIdx i0 ++ [r] := by
 have ht : t < rows.length := (List.getElem?_eq_some_iff.mp e).1
 have hl : (rows.take t).length = t := by rw [List.length_take]; omega
 rw [List.take_add_one, e]
 show (rows.take t ++ [r]).eraseIdx i0 = _
 by_cases h : t = i0
 ·rw [if_pos h, List.eraseIdx_append_of_length_le (by omega), hl, h, Nat.sub_self, List.eraseIdx_of_length_le (l := rows.take i0) (by rw [List.length_take]; omega)]
  simp
 ·rw [if_neg h]
  by_cases h2 : i0 < t
  ·rw [List.eraseIdx_append_of_lt_length (by omega)]
  ·rw [List.eraseIdx_append_of_length_le (by omega), hl, List.eraseIdx_of_length_le (l := rows.take t) (by omega)]
   congr 1
   rw [List.eraseIdx_of_length_le]
   simp
   omega

theorem dot_abs {B C : Nat} : ∀ (ms ns : List Int), (∀ x ∈ ms, x.natAbs < 2 ^ B) → (∀ y ∈ ns, y.natAbs < 2 ^ C) → (dotI ms ns).natAbs ≤ ms.length * 2 ^ (B + C)
 | [], ns, _, _ => by simp [dotI]
 | m :: ms, [], _, _ => by simp [dotI]
 | m :: ms, n :: ns, h1, h2 => by
  have ih := dot_abs ms ns (fun x hx => h1 x (List.mem_cons_of_mem _ hx)) (fun y hy => h2 y (List.mem_cons_of_mem _ hy))
  have e : dotI (m :: ms) (n :: ns) = m * n + dotI ms ns := by simp [dotI]
  have hm := h1 m List.mem_cons_self
  have hn := h2 n List.mem_cons_self
  have h3 : (m * n).natAbs ≤ 2 ^ (B + C) := by
   rw [Int.natAbs_mul, Nat.pow_add]
   exact Nat.mul_le_mul (Nat.le_of_lt hm) (Nat.le_of_lt hn)
  have h4 := Int.natAbs_add_le (m * n) (dotI ms ns)
  rw [e, List.length_cons, Nat.succ_mul]
  omega

noncomputable def cofM (d : Nat) (rows : List (List Int)) (i k : Nat) : Int := sg (i + k) * detM d (minorM i k rows)
noncomputable def crsM (n : Nat) (rows : List (List Int)) : List (List Int) := (List.range n).map fun i => (List.range n).map fun k => cofM (n - 1) rows k i
noncomputable def sp_cofactor (K : PySem.W.Frag) : Sp := fun vs H Q _ => ∃ (b1 b2 : Bool) (a : Addr) (rows : List (List Int)) (i k n : Nat), vs = [.ref a, .int i, .int k] ∧ MatB b1 b2 K H a rows ∧ Sq (n + 1) rows ∧ i < n + 1 ∧ k < n + 1 ∧ 1 ≤ n ∧ n ≤ 3 ∧ BitsM 1800 rows ∧ ∀ H', Same H H' → Q (.int (cofM n rows i k)) H'
noncomputable def sp_scaled (K : PySem.W.Frag) : Sp := fun vs H Q _ => ∃ (b1 b2 : Bool) (a : Addr) (rows : List (List Int)) (c : Int), vs = [.ref a, .int c] ∧ MatB b1 b2 K H a rows ∧ rows.length < 1000 ∧ (∀ r ∈ rows, r.length < 1000) ∧ (∀ r ∈ rows, ∀ x ∈ r, IntMulOk c x) ∧ ∀ q H', H q = none → Same H H' → MatL H' q (rows.map fun r => r.map (c * ·)) → Q (.ref q) H'
noncomputable def sp_crossed (K : PySem.W.Frag) : Sp := fun vs H Q _ => ∃ (b1 b2 : Bool) (a : Addr) (rows : List (List Int)) (n : Nat), vs = [.ref a] ∧ MatB b1 b2 K H a rows ∧ Sq n rows ∧ 2 ≤ n ∧ n ≤ 4 ∧ BitsM 1800 rows ∧ ∀ r H', H r = none → Same H H' → MatL H' r (crsM n rows) → Q (.ref r) H'
theorem det_lt {n B C : Nat} {rows : List (List Int)} (h1 : 1 ≤ n) (h4 : n ≤ 4) (hs : Sq n rows) (hb : BitsM B rows) (hC : n * (B + 2) < C) : (detM n rows).natAbs < 2 ^ C := Nat.lt_of_le_of_lt (det_abs n rows h1 h4 hs hb) (Nat.pow_lt_pow_right (by decide) hC)

noncomputable def idM (d : Nat) : List (List Int) := (List.range d).map fun i => (List.range d).map fun k => if i = k then (1 : Int) else 0
noncomputable def DeedAt (K : PySem.W.Frag) (H : Hp) (p : Addr) (M : List (List Int)) (ts : List Int) (u : Int) : Prop := ∃ pr pt, H p = some (.tup [.ref pr, .ref pt, .int u]) ∧ MatB true true K H pr M ∧ H pt = some (.tup (ts.map V.int))
theorem DeedAt.up {K : PySem.W.Frag} {H H' : Hp} {p : Addr} {M : List (List Int)} {ts : List Int} {u : Int} (h : DeedAt K H p M ts u) (s : Same H H') : DeedAt K H' p M ts u := let ⟨pr, pt, h1, h2, h3⟩ := h; ⟨pr, pt, s _ _ h1, h2.up s, s _ _ h3⟩
noncomputable def sp_joined (K : PySem.W.Frag) : Sp := fun vs H Q _ => ∃ (b1 b2 : Bool) (a p : Addr) (M : List (List Int)) (ts : List Int) (u : Int), vs = [.ref a, .ref p] ∧ MatB b1 b2 K H a M ∧ PlaceAt H p ts u ∧ M.length ≤ 100 ∧ ∀ q H', Same H H' → DeedAt K H' q M ts u → Q (.ref q) H'
noncomputable def movT (M : List (List Int)) (ts : List Int) (u : Int) (ns : List Int) (v : Int) : List Int := List.zipWith (fun r t => dotI r ns * u + t * v) M ts
noncomputable def BitsL (B : Nat) (ns : List Int) : Prop := ∀ x ∈ ns, x.natAbs < 2 ^ B
structure Fine (d : Nat) (M : List (List Int)) (ts : List Int) (u : Int) : Prop where
 sq : Sq d M
 len : ts.length = d
 pos : 0 < u
 bm : BitsM 200000 M
 bt : BitsL 200000 ts
 bu : u < 2 ^ 150
noncomputable def sp_moved (K : PySem.W.Frag) : Sp := fun vs H Q _ => ∃ (p q : Addr) (M : List (List Int)) (ts ns : List Int) (u v : Int) (d : Nat), vs = [.ref p, .ref q] ∧ DeedAt K H p M ts u ∧ PlaceAt H q ns v ∧ Fine d M ts u ∧ 1 ≤ d ∧ d ≤ 4 ∧ ns.length = d ∧ BitsL 200000 ns ∧ 0 < v ∧ v < 2 ^ 150 ∧
 ∀ r H', Same H H' → PlaceAt H' r (redT (u * v) (movT M ts u ns v)) (redU (u * v) (movT M ts u ns v)) → Q (.ref r) H'
noncomputable def sp_behind (K : PySem.W.Frag) : Sp := fun vs H Q _ => ∃ (p q : Addr) (M N : List (List Int)) (ts ns : List Int) (u v : Int) (d : Nat), vs = [.ref p, .ref q] ∧ DeedAt K H p M ts u ∧ DeedAt K H q N ns v ∧ Fine d M ts u ∧ Fine d N ns v ∧ 1 ≤ d ∧ d ≤ 4 ∧
 ∀ r H', Same H H' → DeedAt K H' r (mulM d N M) (redT (v * u) (movT N ns v ts u)) (redU (v * u) (movT N ns v ts u)) → Q (.ref r) H'
theorem bits150 {u : Int} (h1 : 0 < u) (h2 : u < 2 ^ 150) : u.natAbs < 2 ^ 150 := by
 have e : ((2 ^ 150 : Nat) : Int) = (2 : Int) ^ 150 := by decide +kernel
 omega
theorem small_lt {u : Int} {B : Nat} (h : u.natAbs < 2 ^ B) (hB : B ≤ 8990) : small u := Nat.lt_of_lt_of_le h (Nat.pow_le_pow_right (by decide) hB)
theorem small_prod {u v : Int} (h1 : 0 < u) (h2 : u < 2 ^ 150) (h3 : 0 < v) (h4 : v < 2 ^ 150) : small (u * v) ∧ 0 < u * v := by
 refine ⟨small_lt (B := 150 + 150) ?_ (by decide), Int.mul_pos h1 h3⟩
 rw [Int.natAbs_mul, Nat.pow_add]
 exact Nat.mul_lt_mul'' (bits150 h1 h2) (bits150 h3 h4)
theorem BitsM.le {B C : Nat} {M : List (List Int)} (h : BitsM B M) (hc : B ≤ C) : BitsM C M := fun r hr x hx => Nat.lt_of_lt_of_le (h r hr x hx) (Nat.pow_le_pow_right (by decide) hc)

noncomputable def invM (n : Nat) (rows : List (List Int)) : List (List Int) := (List.range n).map fun i => (List.range n).map fun k => detM n rows * cofM (n - 1) rows k i
noncomputable def backT (n : Nat) (M : List (List Int)) (ts : List Int) : List Int := (invM n M).map fun r => -(dotI r ts)
noncomputable def sp_inverse (K : PySem.W.Frag) : Sp := fun vs H Q _ => ∃ (b1 b2 : Bool) (a : Addr) (rows : List (List Int)) (n : Nat), vs = [.ref a] ∧ MatB b1 b2 K H a rows ∧ Sq n rows ∧ 2 ≤ n ∧ n ≤ 4 ∧ BitsM 1000 rows ∧ ∀ r H', H r = none → Same H H' → MatL H' r (invM n rows) → Q (.ref r) H'
noncomputable def sp_back (K : PySem.W.Frag) : Sp := fun vs H Q _ => ∃ (p : Addr) (M : List (List Int)) (ts : List Int) (u : Int) (n : Nat), vs = [.ref p] ∧ DeedAt K H p M ts u ∧ Fine n M ts u ∧ BitsM 1000 M ∧ BitsL 1000 ts ∧ 2 ≤ n ∧ n ≤ 4 ∧
 ∀ r H', Same H H' → DeedAt K H' r (invM n M) (redT u (backT n M ts)) (redU u (backT n M ts)) → Q (.ref r) H'
theorem cof_abs {n : Nat} {rows : List (List Int)} {i k : Nat} (h1 : 1 ≤ n) (h4 : n ≤ 3) (hs : Sq (n + 1) rows) (hi : i < n + 1) (hk : k < n + 1) (hb : BitsM 1000 rows) : (cofM n rows i k).natAbs < 2 ^ 4000 := by
 unfold cofM
 rw [Int.natAbs_mul, sg_abs, Nat.one_mul]
 have : n * (1000 + 2) ≤ 3 * 1002 := Nat.mul_le_mul h4 (by omega)
 exact det_lt h1 (by omega) (hs.minor hi hk) hb.minor (by omega)
theorem inv_sq {n : Nat} {rows : List (List Int)} : Sq n (invM n rows) := ⟨by simp [invM], fun r hr => by
 obtain ⟨i, _, rfl⟩ := List.mem_map.mp hr
 simp⟩
theorem inv_bits {n : Nat} {rows : List (List Int)} (h2 : 2 ≤ n) (h4 : n ≤ 4) (hs : Sq n rows) (hb : BitsM 1000 rows) : BitsM 9000 (invM n rows) := fun r hr x hx => by
 obtain ⟨i, hi, rfl⟩ := List.mem_map.mp hr
 obtain ⟨k, hk, rfl⟩ := List.mem_map.mp hx
 have hi' := List.mem_range.mp hi
 have hk' := List.mem_range.mp hk
 obtain ⟨m, rfl⟩ : ∃ m, n = m + 1 := ⟨n - 1, by omega⟩
 have w1 : (m + 1) * (1000 + 2) ≤ 4 * 1002 := Nat.mul_le_mul h4 (by omega)
 have h1 : (detM (m + 1) rows).natAbs < 2 ^ 4500 := det_lt (by omega) h4 hs hb (by omega)
 have h3 : (cofM m rows k i).natAbs < 2 ^ 4000 := cof_abs (by omega) (by omega) hs hk' hi' hb
 show (detM (m + 1) rows * cofM m rows k i).natAbs < _
 rw [Int.natAbs_mul, show (9000 : Nat) = 4500 + 4500 from rfl, Nat.pow_add]
 have h5 : (cofM m rows k i).natAbs < 2 ^ 4500 := Nat.lt_of_lt_of_le h3 (Nat.pow_le_pow_right (by decide) (by decide))
 exact Nat.mul_lt_mul'' h1 h5
theorem crs_sq {n : Nat} {rows : List (List Int)} : Sq n (crsM n rows) := ⟨by simp [crsM], fun r hr => by
 obtain ⟨i, _, rfl⟩ := List.mem_map.mp hr
 simp⟩
theorem crs_bits {n : Nat} {rows : List (List Int)} (h2 : 2 ≤ n) (h4 : n ≤ 4) (hs : Sq n rows) (hb : BitsM 1000 rows) : BitsM 4000 (crsM n rows) := fun r hr x hx => by
 obtain ⟨i, hi, rfl⟩ := List.mem_map.mp hr
 obtain ⟨k, hk, rfl⟩ := List.mem_map.mp hx
 have hi' := List.mem_range.mp hi
 have hk' := List.mem_range.mp hk
 obtain ⟨m, rfl⟩ : ∃ m, n = m + 1 := ⟨n - 1, by omega⟩
 exact cof_abs (by omega) (by omega) hs hk' hi' hb
theorem crs_inv {n : Nat} {rows : List (List Int)} : (crsM n rows).map (fun r => r.map (detM n rows * ·)) = invM n rows := by
 unfold crsM invM
 rw [List.map_map]
 refine List.map_congr_left fun i _ => ?_
 exact List.map_map ..

theorem gcdI_mul (a b v : Int) (hv : 0 < v) : gcdI (a * v) (b * v) = gcdI a b * v := by
 unfold gcdI
 rw [Int.gcd_mul_right]
 have : ((v.natAbs : Nat) : Int) = v := by omega
 rw [Int.natCast_mul, this]
theorem gl_mul {u v : Int} (hv : 0 < v) (ts : List Int) : gl (u * v) (ts.map (· * v)) = gl u ts * v := by
 have h0 : ∀ (ts : List Int) (a : Int), (ts.map (· * v)).foldl gcdI (a * v) = ts.foldl gcdI a * v := by
  intro ts
  induction ts with
  | nil => intro a; rfl
  | cons t r ih => intro a; rw [List.map_cons, List.foldl_cons, List.foldl_cons, gcdI_mul _ _ _ hv, ih]
 unfold gl
 have : absI (u * v) = absI u * v := by
  unfold absI
  rcases Int.lt_or_le u 0 with l | l
  ·have h2 : u * v < 0 := Int.mul_neg_of_neg_of_pos l hv
   rw [if_pos l, if_pos h2, Int.neg_mul]
  ·have h2 : 0 ≤ u * v := Int.mul_nonneg l (Int.le_of_lt hv)
   rw [if_neg (by omega), if_neg (by omega)]
 rw [this, h0]
theorem low_dvd {u v : Int} {ts ns : List Int} (hv : 0 < v) (gu : gl u ts = 1) (hl : ts.length = ns.length) (h : ∀ (i : Nat) (x y : Int), ts[i]? = some x → ns[i]? = some y → x * v = y * u) : u ∣ v := by
 have e := gl_mul (u := u) hv ts
 rw [gu, Int.one_mul] at e
 rw [← e]
 refine dvd_gl.mpr ⟨Int.dvd_mul_right u v, fun t ht => ?_⟩
 obtain ⟨x, hx, rfl⟩ := List.mem_map.mp ht
 obtain ⟨i, hi, ei⟩ := List.getElem_of_mem hx
 have hi2 : i < ns.length := by omega
 have := h i x ns[i] (by simp [hi, ei]) (by simp [hi2])
 show u ∣ x * v
 rw [this]
 exact Int.dvd_mul_left _ _
theorem low_uniq {u v : Int} {ts ns : List Int} (hu : 0 < u) (hv : 0 < v) (gu : gl u ts = 1) (gv : gl v ns = 1) (hl : ts.length = ns.length) (h : ∀ (i : Nat) (x y : Int), ts[i]? = some x → ns[i]? = some y → x * v = y * u) : ts = ns ∧ u = v := by
 have h1 := low_dvd hv gu hl h
 have h2 := low_dvd hu gv hl.symm fun i x y e1 e2 => (h i y x e2 e1).symm
 have e : u = v := Int.dvd_antisymm (by omega) (by omega) h1 h2
 subst e
 refine ⟨List.ext_getElem hl fun i h1 h2 => ?_, rfl⟩
 exact Int.eq_of_mul_eq_mul_right (by omega) (h i _ _ (by simp [h1]) (by simp [h2]))
noncomputable abbrev Pl := List Int × Int
noncomputable def val (x : Pl) (i : Nat) : Rat := ((x.1.getD i 0 : Int) : Rat) / (x.2 : Rat)
structure GoodP (d : Nat) (x : Pl) : Prop where
 len : x.1.length = d
 pos : 0 < x.2
 one : gl x.2 x.1 = 1
noncomputable def redP (u : Int) (ns : List Int) : Pl := (redT u ns, redU u ns)
theorem cast_ne {u : Int} (h : u ≠ 0) : (u : Rat) ≠ 0 := fun e => h (Rat.intCast_inj.mp (by rw [e]; rfl))
theorem redP_good {u : Int} {ns : List Int} {d : Nat} (hu : u ≠ 0) (hl : ns.length = d) : GoodP d (redP u ns) := ⟨by simp [redP, redT, hl], under_pos ns hu, gl_red hu⟩
theorem val_out {x : Pl} {i : Nat} (h : x.1.length ≤ i) : val x i = 0 := by
 unfold val
 rw [List.getD_eq_getElem?_getD, List.getElem?_eq_none h]
 show ((0 : Int) : Rat) / _ = 0
 grind
theorem redP_val {u : Int} {ns : List Int} (hu : u ≠ 0) (i : Nat) : val (redP u ns) i = ((ns.getD i 0 : Int) : Rat) / (u : Rat) := by
 by_cases hi : i < ns.length
 ·have e : (redP u ns).1.getD i 0 = (ns.getD i 0).fdiv (cs u ns) := by simp [redP, redT, hi]
  have hm : ns.getD i 0 ∈ ns := by simp [hi]
  have h1 := cross (u := u) (ns := ns) hu hm
  unfold val
  rw [e]
  show _ / ((u.fdiv (cs u ns) : Int) : Rat) = _
  have h0 := cast_ne (show u.fdiv (cs u ns) ≠ 0 by have := under_pos ns hu; omega)
  have h2 := cast_ne hu
  have h3 : ((ns.getD i 0 : Int) : Rat) * ((u.fdiv (cs u ns) : Int) : Rat) = (((ns.getD i 0).fdiv (cs u ns) : Int) : Rat) * (u : Rat) := by
   rw [← Rat.intCast_mul, h1, Rat.intCast_mul]
  generalize ((ns.getD i 0 : Int) : Rat) = a at *
  generalize ((u.fdiv (cs u ns) : Int) : Rat) = b at *
  generalize (((ns.getD i 0).fdiv (cs u ns) : Int) : Rat) = c at *
  generalize (u : Rat) = e at *
  grind
 ·rw [val_out (by simp [redP, redT]; omega), List.getD_eq_getElem?_getD, List.getElem?_eq_none (by omega)]
  show (0 : Rat) = ((0 : Int) : Rat) / _
  grind
theorem val_cross {x : Pl} {i : Nat} {z D : Int} (hp : 0 < x.2) (h : val x i * (D : Rat) = (z : Rat)) : x.1.getD i 0 * D = z * x.2 := by
 have h0 := cast_ne (show x.2 ≠ 0 by omega)
 refine Rat.intCast_inj.mp ?_
 rw [Rat.intCast_mul, Rat.intCast_mul, ← h]
 unfold val
 generalize ((x.1.getD i 0 : Int) : Rat) = a at *
 generalize (x.2 : Rat) = b at *
 generalize (D : Rat) = c at *
 grind
theorem place_ext {d : Nat} {x y : Pl} (hx : GoodP d x) (hy : GoodP d y) (h : ∀ i < d, val x i = val y i) : x = y := by
 have key := low_uniq hx.pos hy.pos hx.one hy.one (by rw [hx.len, hy.len]) fun i a b ea eb => ?_
 ·obtain ⟨x1, x2⟩ := x
  obtain ⟨y1, y2⟩ := y
  simp only at key
  rw [key.1, key.2]
 ·have hi : i < d := by have := (List.getElem?_eq_some_iff.mp ea).1; rw [hx.len] at this; exact this
  have e1 : x.1.getD i 0 = a := by rw [List.getD_eq_getElem?_getD, ea]; rfl
  have e2 : y.1.getD i 0 = b := by rw [List.getD_eq_getElem?_getD, eb]; rfl
  have := val_cross (x := x) (i := i) (z := b) (D := y.2) hx.pos (by
   rw [h i hi]
   unfold val
   rw [e2]
   have h0 := cast_ne (show y.2 ≠ 0 by have := hy.pos; omega)
   generalize (b : Rat) = p at *
   generalize (y.2 : Rat) = q at *
   grind)
  rw [e1] at this
  exact this
noncomputable abbrev Ch := List Pl × Pl
noncomputable def mx (C : Ch) (i k : Nat) : Rat := val (C.1.getD k ([], 1)) i
structure GoodC (d : Nat) (C : Ch) : Prop where
 len : C.1.length = d
 vec : ∀ x ∈ C.1, GoodP d x
 spt : GoodP d C.2
structure Aff where
 m : Nat → Nat → Rat
 s : Nat → Rat
noncomputable def aff (C : Ch) : Aff := ⟨mx C, val C.2⟩
noncomputable def s3 (f : Nat → Rat) : Rat := f 0 + f 1 + f 2
noncomputable def Aff.mul (A B : Aff) : Aff := ⟨fun i k => s3 fun j => A.m i j * B.m j k, fun i => (s3 fun j => A.m i j * B.s j) + A.s i⟩
noncomputable def Aff.app (A : Aff) (x : Nat → Rat) (i : Nat) : Rat := (s3 fun j => A.m i j * x j) + A.s i
noncomputable def oneA (d : Nat) : Aff := ⟨fun i k => if i = k ∧ i < d then 1 else 0, fun _ => 0⟩
structure InA (d : Nat) (A : Aff) : Prop where
 r : ∀ i k, d ≤ i → A.m i k = 0
 c : ∀ i k, d ≤ k → A.m i k = 0
 s : ∀ i, d ≤ i → A.s i = 0
theorem mul_assocA (A B C : Aff) : (A.mul B).mul C = A.mul (B.mul C) := by
 unfold Aff.mul s3
 simp only [Aff.mk.injEq]
 constructor
 ·funext i k; grind
 ·funext i; grind
theorem app_mul (A B : Aff) (x : Nat → Rat) : (A.mul B).app x = A.app (B.app x) := by
 unfold Aff.mul Aff.app s3
 funext i; grind
theorem GoodC.col {d : Nat} {C : Ch} (h : GoodC d C) {k : Nat} (hk : k < d) : GoodP d (C.1.getD k ([], 1)) := by
 have hk' : k < C.1.length := by rw [h.len]; exact hk
 have : C.1.getD k ([], 1) ∈ C.1 := by simp [hk']
 exact h.vec _ this
theorem GoodC.inA {d : Nat} {C : Ch} (h : GoodC d C) : InA d (aff C) := by
 have hc : ∀ i k, d ≤ k → mx C i k = 0 := fun i k hk => by
  unfold mx
  rw [List.getD_eq_getElem?_getD, List.getElem?_eq_none (by rw [h.len]; exact hk)]
  show val ([], 1) i = 0
  exact val_out (by simp)
 refine ⟨fun i k hi => ?_, hc, fun i hi => val_out (by rw [h.spt.len]; exact hi)⟩
 by_cases hk : k < d
 ·exact val_out (by rw [(h.col hk).len]; exact hi)
 ·exact hc i k (by omega)
theorem one_mulA {d : Nat} {A : Aff} (hd : d ≤ 3) (h : InA d A) : (oneA d).mul A = A := by
 obtain ⟨m, s⟩ := A
 unfold Aff.mul oneA s3
 simp only [Aff.mk.injEq]
 constructor
 ·funext i k
  by_cases hi : i < d
  ·rcases (show i = 0 ∨ i = 1 ∨ i = 2 by omega) with rfl | rfl | rfl <;> simp [hi] <;> grind
  ·rw [show m i k = 0 from h.r i k (by omega)]; simp [hi]; grind
 ·funext i
  by_cases hi : i < d
  ·rcases (show i = 0 ∨ i = 1 ∨ i = 2 by omega) with rfl | rfl | rfl <;> simp [hi] <;> grind
  ·rw [show s i = 0 from h.s i (by omega)]; simp [hi]; grind
theorem mul_oneA {d : Nat} {A : Aff} (hd : d ≤ 3) (h : InA d A) : A.mul (oneA d) = A := by
 obtain ⟨m, s⟩ := A
 unfold Aff.mul oneA s3
 simp only [Aff.mk.injEq]
 constructor
 ·funext i k
  by_cases hk : k < d
  ·rcases (show k = 0 ∨ k = 1 ∨ k = 2 by omega) with rfl | rfl | rfl <;> simp [hk] <;> grind
  ·rw [show m i k = 0 from h.c i k (by omega)]
   have : ∀ j, ¬ (j = k ∧ j < d) := by omega
   simp [this]; grind
 ·funext i; grind
theorem app_one {d : Nat} {x : Nat → Rat} (hd : d ≤ 3) (h : ∀ i, d ≤ i → x i = 0) : (oneA d).app x = x := by
 unfold Aff.app oneA s3
 funext i
 by_cases hi : i < d
 ·rcases (show i = 0 ∨ i = 1 ∨ i = 2 by omega) with rfl | rfl | rfl <;> simp [hi] <;> grind
 ·rw [h i (by omega)]; simp [hi]; grind
noncomputable def Fit (D : Int) (B : Nat) (q : Rat) : Prop := ∃ z : Int, q * (D : Rat) = (z : Rat) ∧ -(2 ^ B) ≤ z ∧ z ≤ 2 ^ B
structure FitA (D : Int) (B : Nat) (A : Aff) : Prop where
 pos : 0 < D
 le : D ≤ 2 ^ B
 m : ∀ i k, Fit D B (A.m i k)
 s : ∀ i, Fit D B (A.s i)
structure FitV (D : Int) (B : Nat) (x : Nat → Rat) : Prop where
 pos : 0 < D
 le : D ≤ 2 ^ B
 s : ∀ i, Fit D B (x i)
theorem bd_mul {a b M N : Int} (h1 : -M ≤ a) (h2 : a ≤ M) (h3 : -N ≤ b) (h4 : b ≤ N) : -(M * N) ≤ a * b ∧ a * b ≤ M * N := by
 have hM : 0 ≤ M := by omega
 have hN : 0 ≤ N := by omega
 have k1 := Int.mul_nonneg (show 0 ≤ M - a by omega) (show 0 ≤ N + b by omega)
 have k2 := Int.mul_nonneg (show 0 ≤ M + a by omega) (show 0 ≤ N - b by omega)
 have k3 := Int.mul_nonneg (show 0 ≤ M - a by omega) (show 0 ≤ N - b by omega)
 have k4 := Int.mul_nonneg (show 0 ≤ M + a by omega) (show 0 ≤ N + b by omega)
 constructor <;> grind
theorem two_pow_add (a b : Nat) : (2 : Int) ^ (a + b) = 2 ^ a * 2 ^ b := Int.pow_add ..
theorem fit_sum {D D' : Int} {B B' : Nat} {a b : Nat → Rat} (ha : ∀ j, Fit D B (a j)) (hb : ∀ j, Fit D' B' (b j)) : ∃ z : Int, (s3 fun j => a j * b j) * ((D * D' : Int) : Rat) = (z : Rat) ∧ -(3 * (2 ^ B * 2 ^ B')) ≤ z ∧ z ≤ 3 * (2 ^ B * 2 ^ B') := by
 obtain ⟨z0, e0, l0, u0⟩ := ha 0
 obtain ⟨z1, e1, l1, u1⟩ := ha 1
 obtain ⟨z2, e2, l2, u2⟩ := ha 2
 obtain ⟨w0, f0, m0, v0⟩ := hb 0
 obtain ⟨w1, f1, m1, v1⟩ := hb 1
 obtain ⟨w2, f2, m2, v2⟩ := hb 2
 have k0 := bd_mul l0 u0 m0 v0
 have k1 := bd_mul l1 u1 m1 v1
 have k2 := bd_mul l2 u2 m2 v2
 refine ⟨z0 * w0 + z1 * w1 + z2 * w2, ?_, by omega, by omega⟩
 rw [Rat.intCast_add, Rat.intCast_add, Rat.intCast_mul, Rat.intCast_mul, Rat.intCast_mul, Rat.intCast_mul, ← e0, ← e1, ← e2, ← f0, ← f1, ← f2]
 unfold s3
 grind
theorem pow_pos2 (B : Nat) : (0 : Int) < 2 ^ B := Int.pow_pos (by decide)
theorem pow4 (B B' : Nat) : (2 : Int) ^ (B + B' + 2) = 4 * (2 ^ B * 2 ^ B') := by rw [two_pow_add, two_pow_add]; show _ * (4 : Int) = _; grind
theorem FitA.mul {D D' : Int} {B B' : Nat} {A A' : Aff} (h : FitA D B A) (h' : FitA D' B' A') : FitA (D * D') (B + B' + 2) (A.mul A') := by
 have p1 := pow_pos2 B
 have p2 := pow_pos2 B'
 have p3 := Int.mul_pos p1 p2
 have hDD : D * D' ≤ 2 ^ B * 2 ^ B' := Int.mul_le_mul h.le h'.le (Int.le_of_lt h'.pos) (Int.le_of_lt p1)
 refine ⟨Int.mul_pos h.pos h'.pos, by rw [pow4]; omega, fun i k => ?_, fun i => ?_⟩
 ·obtain ⟨z, e, l, u⟩ := fit_sum (a := fun j => A.m i j) (b := fun j => A'.m j k) (fun j => h.m i j) (fun j => h'.m j k)
  exact ⟨z, e, by rw [pow4]; omega, by rw [pow4]; omega⟩
 ·obtain ⟨z, e, l, u⟩ := fit_sum (a := fun j => A.m i j) (b := fun j => A'.s j) (fun j => h.m i j) (fun j => h'.s j)
  obtain ⟨y, f, m, v⟩ := h.s i
  have k := bd_mul m v (show -(2 ^ B' : Int) ≤ D' by have := h'.pos; omega) h'.le
  refine ⟨z + y * D', ?_, by rw [pow4]; omega, by rw [pow4]; omega⟩
  show ((s3 fun j => A.m i j * A'.s j) + A.s i) * _ = _
  rw [Rat.intCast_add, Rat.intCast_mul y D', ← f, ← e, Rat.intCast_mul D D']
  generalize (s3 fun j => A.m i j * A'.s j) = q
  grind
theorem FitA.app {D D' : Int} {B B' : Nat} {A : Aff} {x : Nat → Rat} (h : FitA D B A) (h' : FitV D' B' x) : FitV (D * D') (B + B' + 2) (A.app x) := by
 have k := h.mul (A' := ⟨fun _ _ => 0, x⟩) ⟨h'.pos, h'.le, fun _ _ => ⟨0, by grind, by have := pow_pos2 B'; omega, by have := pow_pos2 B'; omega⟩, h'.s⟩
 exact ⟨k.pos, k.le, k.s⟩
theorem low_dvd' {u v : Int} {ts : List Int} (hv : 0 < v) (gu : gl u ts = 1) (h : ∀ t ∈ ts, u ∣ t * v) : u ∣ v := by
 have e := gl_mul (u := u) hv ts
 rw [gu, Int.one_mul] at e
 rw [← e]
 refine dvd_gl.mpr ⟨Int.dvd_mul_right u v, fun t ht => ?_⟩
 obtain ⟨x, hx, rfl⟩ := List.mem_map.mp ht
 exact h x hx
theorem le_of_mulR {a b c : Int} (hc : 0 < c) (h : a * c ≤ b * c) : a ≤ b := Int.le_of_mul_le_mul_right h hc
theorem fit_bd {D z r m N : Int} (hD : 0 < D) (hm : 0 < m) (hmD : m ≤ D) (e : r * D = z * m) (l : -N ≤ z) (u : z ≤ N) : -N ≤ r ∧ r ≤ N := by
 have hN : 0 ≤ N := by omega
 have k1 := Int.mul_nonneg (show 0 ≤ N - z by omega) (Int.le_of_lt hm)
 have k2 := Int.mul_nonneg (show 0 ≤ N + z by omega) (Int.le_of_lt hm)
 have k3 := Int.mul_nonneg hN (show 0 ≤ D - m by omega)
 constructor
 ·refine le_of_mulR hD ?_; grind
 ·refine le_of_mulR hD ?_; grind
theorem FitV.place {D : Int} {B d : Nat} {x : Pl} (h : FitV D B (val x)) (g : GoodP d x) : x.2 ∣ D ∧ x.2 ≤ 2 ^ B ∧ ∀ t ∈ x.1, -(2 ^ B) ≤ t ∧ t ≤ 2 ^ B := by
 have key : ∀ t ∈ x.1, ∃ z : Int, t * D = z * x.2 ∧ -(2 ^ B) ≤ z ∧ z ≤ 2 ^ B := fun t ht => by
  obtain ⟨i, hi, e⟩ := List.getElem_of_mem ht
  obtain ⟨z, ez, l, u⟩ := h.s i
  refine ⟨z, ?_, l, u⟩
  have := val_cross g.pos ez
  have e2 : x.1.getD i 0 = t := by simp [hi, e]
  rwa [e2] at this
 have hd : x.2 ∣ D := low_dvd' h.pos g.one fun t ht => by
  obtain ⟨z, e, _⟩ := key t ht
  rw [e]
  exact Int.dvd_mul_left _ _
 have hle := Int.le_of_dvd h.pos hd
 refine ⟨hd, Int.le_trans hle h.le, fun t ht => ?_⟩
 obtain ⟨z, e, l, u⟩ := key t ht
 exact fit_bd h.pos g.pos hle e l u
theorem FitA.col {D : Int} {B : Nat} {C : Ch} (h : FitA D B (aff C)) (k : Nat) : FitV D B (val (C.1.getD k ([], 1))) := ⟨h.pos, h.le, fun i => h.m i k⟩
theorem FitA.spt {D : Int} {B : Nat} {C : Ch} (h : FitA D B (aff C)) : FitV D B (val C.2) := ⟨h.pos, h.le, h.s⟩
noncomputable def tm (R : List (List Int)) (u : Int) (i k : Nat) : Rat := (((R.getD i []).getD k 0 : Int) : Rat) / (u : Rat)
noncomputable def dt (d : Nat) (V : Nat → Nat → Rat) : Rat := if d = 2 then V 0 0 * V 1 1 - V 0 1 * V 1 0 else
 V 0 0 * (V 1 1 * V 2 2 - V 1 2 * V 2 1) - V 0 1 * (V 1 0 * V 2 2 - V 1 2 * V 2 0) + V 0 2 * (V 1 0 * V 2 1 - V 1 1 * V 2 0)
theorem dt_mul {d : Nat} {A B : Aff} (hd : d = 2 ∨ d = 3) (ha : InA d A) (hb : InA d B) : dt d (A.mul B).m = dt d A.m * dt d B.m := by
 rcases hd with rfl | rfl
 ·have h1 : ∀ i, A.m i 2 = 0 := fun i => ha.c i 2 (by decide)
  unfold dt Aff.mul s3
  simp only [if_pos, h1]
  grind
 ·unfold dt Aff.mul s3
  simp only [show ¬ (3 : Nat) = 2 by decide, if_false]
  grind
theorem two_of {rows : List (List Int)} (h : Sq 2 rows) : ∃ a b c e, rows = [[a, b], [c, e]] := by
 obtain ⟨h1, h2⟩ := h
 match rows, h1 with
 | [r, s], _ =>
  have l1 := h2 r (by simp)
  have l2 := h2 s (by simp)
  match r, l1, s, l2 with
  | [a, b], _, [c, e], _ => exact ⟨a, b, c, e, rfl⟩
theorem three_of {rows : List (List Int)} (h : Sq 3 rows) : ∃ a b c a' b' c' a'' b'' c'', rows = [[a, b, c], [a', b', c'], [a'', b'', c'']] := by
 obtain ⟨h1, h2⟩ := h
 match rows, h1 with
 | [r, s, t], _ =>
  have l1 := h2 r (by simp)
  have l2 := h2 s (by simp)
  have l3 := h2 t (by simp)
  match r, l1, s, l2, t, l3 with
  | [a, b, c], _, [a', b', c'], _, [a'', b'', c''], _ => exact ⟨a, b, c, a', b', c', a'', b'', c'', rfl⟩
theorem det2 (a b c e : Int) : detM 2 [[a, b], [c, e]] = a * e - b * c := by
 simp [detM, altS, sg, minorM]; grind
theorem det3 (a b c a' b' c' a'' b'' c'' : Int) : detM 3 [[a, b, c], [a', b', c'], [a'', b'', c'']] = a * (b' * c'' - c' * b'') - b * (a' * c'' - c' * a'') + c * (a' * b'' - b' * a'') := by
 simp [detM, altS, sg, minorM]; grind
theorem crs2 (a b c e : Int) : crsM 2 [[a, b], [c, e]] = [[e, -b], [-c, a]] := by
 simp [crsM, cofM, detM, altS, sg, minorM, List.range, List.range.loop]
theorem crs3 (a b c a' b' c' a'' b'' c'' : Int) : crsM 3 [[a, b, c], [a', b', c'], [a'', b'', c'']] = [[b' * c'' - c' * b'', -(b * c'' - c * b''), b * c' - c * b'], [-(a' * c'' - c' * a''), a * c'' - c * a'', -(a * c' - c * a')], [a' * b'' - b' * a'', -(a * b'' - b * a''), a * b' - b * a']] := by
 simp [crsM, cofM, detM, altS, sg, minorM, List.range, List.range.loop]
 refine ⟨⟨?_, ?_, ?_⟩, ⟨?_, ?_, ?_⟩, ?_, ?_, ?_⟩ <;> grind
noncomputable def mm (V W : Nat → Nat → Rat) (i k : Nat) : Rat := s3 fun j => V i j * W j k
theorem tm_out {R : List (List Int)} {u : Int} {d i k : Nat} (h : Sq d R) (o : d ≤ i ∨ d ≤ k) : tm R u i k = 0 := by
 have : (R.getD i []).getD k 0 = 0 := by
  by_cases hi : i < d
  ·have hi' : i < R.length := by rw [h.1]; exact hi
   have hm : R.getD i [] ∈ R := by simp [hi']
   have := h.2 _ hm
   rw [List.getD_eq_getElem?_getD, List.getElem?_eq_none (by omega)]; rfl
  ·have e : R.getD i [] = [] := by rw [List.getD_eq_getElem?_getD, List.getElem?_eq_none (by rw [h.1]; omega)]; rfl
   rw [e]; rfl
 unfold tm
 rw [this]
 show ((0 : Int) : Rat) / _ = 0
 grind
theorem sq_map {d : Nat} {R : List (List Int)} {f : Int → Int} (h : Sq d R) : Sq d (R.map fun r => r.map f) := ⟨by simp [h.1], fun r hr => by
 obtain ⟨z, hz, rfl⟩ := List.mem_map.mp hr
 simp [h.2 z hz]⟩
theorem crs_sq' {n : Nat} {rows : List (List Int)} : Sq n (crsM n rows) := ⟨by simp [crsM], fun r hr => by
 obtain ⟨i, _, rfl⟩ := List.mem_map.mp hr
 simp⟩
theorem inv_tab {d : Nat} {R : List (List Int)} {u : Int} (hd : d = 2 ∨ d = 3) (h : Sq d R) (hu : u ≠ 0) (hz : detM d R ≠ 0) :
  mm (tm R u) (tm ((crsM d R).map fun r => r.map (u * ·)) (detM d R)) = (oneA d).m ∧ mm (tm ((crsM d R).map fun r => r.map (u * ·)) (detM d R)) (tm R u) = (oneA d).m := by
 have hW : Sq d ((crsM d R).map fun r => r.map (u * ·)) := sq_map crs_sq'
 have out : ∀ {A B : Nat → Nat → Rat} {i k : Nat}, (∀ i k, d ≤ i ∨ d ≤ k → A i k = 0) → (∀ i k, d ≤ i ∨ d ≤ k → B i k = 0) → (d ≤ i ∨ d ≤ k) → mm A B i k = (oneA d).m i k := fun {A B i k} ha hb o => by
  have e : (oneA d).m i k = 0 := by
   unfold oneA
   exact if_neg (by omega)
  rw [e]
  unfold mm s3
  rcases o with o | o
  ·simp only [ha i _ (.inl o)]; grind
  ·simp only [hb _ k (.inr o)]; grind
 have oV : ∀ i k, d ≤ i ∨ d ≤ k → tm R u i k = 0 := fun i k o => tm_out h o
 have oW : ∀ i k, d ≤ i ∨ d ≤ k → tm ((crsM d R).map fun r => r.map (u * ·)) (detM d R) i k = 0 := fun i k o => tm_out hW o
 have hu' := cast_ne hu
 have hz' := cast_ne hz
 have goal : ∀ i k, i < d → k < d → mm (tm R u) (tm ((crsM d R).map fun r => r.map (u * ·)) (detM d R)) i k = (oneA d).m i k ∧ mm (tm ((crsM d R).map fun r => r.map (u * ·)) (detM d R)) (tm R u) i k = (oneA d).m i k := by
  intro i k hi hk
  rcases hd with rfl | rfl
  ·obtain ⟨a, b, c, e, rfl⟩ := two_of h
   rw [det2] at hz' ⊢
   rw [crs2]
   unfold mm s3 tm oneA
   have hz2 : (a : Rat) * e - b * c ≠ 0 := by
    intro q; apply hz'; rw [Rat.intCast_sub, Rat.intCast_mul, Rat.intCast_mul]; exact q
   rcases (show i = 0 ∨ i = 1 by omega) with rfl | rfl <;> rcases (show k = 0 ∨ k = 1 by omega) with rfl | rfl <;> simp <;> constructor <;> grind
  ·obtain ⟨a, b, c, a', b', c', a'', b'', c'', rfl⟩ := three_of h
   rw [det3] at hz' ⊢
   rw [crs3]
   unfold mm s3 tm oneA
   have hz2 : (a : Rat) * (b' * c'' - c' * b'') - b * (a' * c'' - c' * a'') + c * (a' * b'' - b' * a'') ≠ 0 := by
    intro q; apply hz'
    simp only [Rat.intCast_sub, Rat.intCast_mul, Rat.intCast_add]
    exact q
   rcases (show i = 0 ∨ i = 1 ∨ i = 2 by omega) with rfl | rfl | rfl <;> rcases (show k = 0 ∨ k = 1 ∨ k = 2 by omega) with rfl | rfl | rfl <;> simp <;> constructor <;> grind
 constructor
 ·funext i k
  by_cases o : d ≤ i ∨ d ≤ k
  ·exact out oV oW o
  ·exact (goal i k (by omega) (by omega)).1
 ·funext i k
  by_cases o : d ≤ i ∨ d ≤ k
  ·exact out oW oV o
  ·exact (goal i k (by omega) (by omega)).2
theorem det_tab {d : Nat} {R : List (List Int)} {u : Int} (hd : d = 2 ∨ d = 3) (h : Sq d R) (hu : u ≠ 0) : ((detM d R : Int) : Rat) = (u : Rat) ^ d * dt d (tm R u) := by
 have hu' := cast_ne hu
 rcases hd with rfl | rfl
 ·obtain ⟨a, b, c, e, rfl⟩ := two_of h
  rw [det2]
  unfold dt tm
  simp
  grind
 ·obtain ⟨a, b, c, a', b', c', a'', b'', c'', rfl⟩ := three_of h
  rw [det3]
  unfold dt tm
  simp
  grind
theorem reg_tab {d : Nat} {R : List (List Int)} {u : Int} (hd : d = 2 ∨ d = 3) (h : Sq d R) (hu : u ≠ 0) (hz : dt d (tm R u) ≠ 0) : detM d R ≠ 0 := by
 intro q
 have e := det_tab hd h hu
 have hu' := cast_ne hu
 rw [q] at e
 have : (u : Rat) ^ d ≠ 0 := by rcases hd with rfl | rfl <;> grind
 have e0 : ((0 : Int) : Rat) = 0 := rfl
 rw [e0] at e
 grind
theorem rdet {d : Nat} {C : Ch} (hd : d = 2 ∨ d = 3) (h : GoodC d C) : dt d (mx C) ≠ 0 ↔ detM d (C.1.map (·.1)) ≠ 0 := by
 have hu : ∀ k < d, ((C.1.getD k ([], 1)).2 : Rat) ≠ 0 := fun k hk => cast_ne (by have := (h.col hk).pos; omega)
 have hl := h.len
 have hv := h.vec
 obtain ⟨vs, s⟩ := C
 rcases hd with rfl | rfl
 ·match vs, hl with
  | [(t0, u0), (t1, u1)], _ =>
   have l0 : t0.length = 2 := (hv (t0, u0) (by simp)).len
   have l1 : t1.length = 2 := (hv (t1, u1) (by simp)).len
   match t0, l0, t1, l1 with
   | [a, b], _, [c, e], _ =>
    have h0 : (u0 : Rat) ≠ 0 := hu 0 (by decide)
    have h1 : (u1 : Rat) ≠ 0 := hu 1 (by decide)
    show _ ↔ detM 2 [[a, b], [c, e]] ≠ 0
    rw [det2]
    have : (((a * e - b * c : Int)) : Rat) = (u0 : Rat) * u1 * dt 2 (mx ([([a, b], u0), ([c, e], u1)], s)) := by
     unfold dt mx val
     simp
     grind
    constructor
    ·intro k q; rw [q] at this
     have e0 : ((0 : Int) : Rat) = 0 := rfl
     rw [e0] at this
     have hh : (u0 : Rat) * u1 ≠ 0 := by grind
     grind
    ·intro k q; apply k; rw [q] at this
     exact Rat.intCast_inj.mp (by rw [this]; show _ = ((0 : Int) : Rat); grind)
 ·match vs, hl with
  | [(t0, u0), (t1, u1), (t2, u2)], _ =>
   have l0 : t0.length = 3 := (hv (t0, u0) (by simp)).len
   have l1 : t1.length = 3 := (hv (t1, u1) (by simp)).len
   have l2 : t2.length = 3 := (hv (t2, u2) (by simp)).len
   match t0, l0, t1, l1, t2, l2 with
   | [a, b, c], _, [a', b', c'], _, [a'', b'', c''], _ =>
    have h0 : (u0 : Rat) ≠ 0 := hu 0 (by decide)
    have h1 : (u1 : Rat) ≠ 0 := hu 1 (by decide)
    have h2 : (u2 : Rat) ≠ 0 := hu 2 (by decide)
    show _ ↔ detM 3 [[a, b, c], [a', b', c'], [a'', b'', c'']] ≠ 0
    rw [det3]
    have : (((a * (b' * c'' - c' * b'') - b * (a' * c'' - c' * a'') + c * (a' * b'' - b' * a'') : Int)) : Rat) = (u0 : Rat) * u1 * u2 * dt 3 (mx ([([a, b, c], u0), ([a', b', c'], u1), ([a'', b'', c''], u2)], s)) := by
     unfold dt mx val
     simp
     grind
    constructor
    ·intro k q; rw [q] at this
     have e0 : ((0 : Int) : Rat) = 0 := rfl
     rw [e0] at this
     have hh : (u0 : Rat) * u1 * u2 ≠ 0 := by grind
     grind
    ·intro k q; apply k; rw [q] at this
     exact Rat.intCast_inj.mp (by rw [this]; show _ = ((0 : Int) : Rat); grind)
theorem back_one {d : Nat} {A B : Aff} (hd : d ≤ 3) (hA : InA d A) (hB : InA d B) (h1 : mm A.m B.m = (oneA d).m) (h2 : mm B.m A.m = (oneA d).m) (h3 : A.app B.s = fun _ => 0) :
  A.mul B = oneA d ∧ B.mul A = oneA d ∧ ∀ i, B.s i = - s3 fun j => B.m i j * A.s j := by
 have k1 : A.mul B = oneA d := by
  show (⟨mm A.m B.m, A.app B.s⟩ : Aff) = _
  rw [h1, h3]; rfl
 have k3 : ∀ i, B.s i = - s3 fun j => B.m i j * A.s j := fun i => by
  have e : ∀ i, s3 (fun j => mm B.m A.m i j * B.s j) + (s3 fun j => B.m i j * A.s j) = 0 := fun i => by
   have z : ∀ j, A.app B.s j = 0 := fun j => congrFun h3 j
   have z0 := z 0
   have z1 := z 1
   have z2 := z 2
   unfold Aff.app at z0 z1 z2
   unfold mm
   unfold s3 at *
   grind
  have e2 : s3 (fun j => mm B.m A.m i j * B.s j) = B.s i := by
   rw [h2]
   have := congrFun (app_one (d := d) (x := B.s) hd hB.s) i
   unfold Aff.app at this
   have z : (oneA d).s i = 0 := rfl
   rw [z] at this
   grind
  have := e i
  rw [e2] at this
  grind
 refine ⟨k1, ?_, k3⟩
 show (⟨mm B.m A.m, fun i => (s3 fun j => B.m i j * A.s j) + B.s i⟩ : Aff) = _
 rw [h2]
 have : (fun i => (s3 fun j => B.m i j * A.s j) + B.s i) = (fun _ => (0 : Rat)) := by
  funext i
  rw [k3 i]
  grind
 rw [this]; rfl
noncomputable def SmallP (d : Nat) (x : Pl) : Prop := GoodP d x ∧ ∀ i, Fit 60 10 (val x i)
structure Step (d : Nat) (C : Ch) : Prop where
 len : C.1.length = d
 vec : ∀ x ∈ C.1, SmallP d x
 spt : SmallP d C.2
 reg : dt d (mx C) ≠ 0
theorem Step.good {d : Nat} {C : Ch} (h : Step d C) : GoodC d C := ⟨h.len, fun x hx => (h.vec x hx).1, h.spt.1⟩
theorem Step.fit {d : Nat} {C : Ch} (h : Step d C) : FitA 60 10 (aff C) := by
 refine ⟨by decide, by decide, fun i k => ?_, fun i => h.spt.2 i⟩
 by_cases hk : k < d
 ·have hk' : k < C.1.length := by rw [h.len]; exact hk
  have : C.1.getD k ([], 1) ∈ C.1 := by simp [hk']
  exact (h.vec _ this).2 i
 ·have e : mx C i k = 0 := h.good.inA.c i k (by omega)
  exact ⟨0, by show mx C i k * _ = _; rw [e]; grind, by decide, by decide⟩

noncomputable def bnd (B : Nat) (x : Int) : Prop := x.natAbs < 2 ^ B
theorem bnd.up {B C : Nat} {x : Int} (h : bnd B x) (hl : B ≤ C) : bnd C x := Nat.lt_of_lt_of_le h (Nat.pow_le_pow_right (by decide) hl)
theorem bnd.mul {B C : Nat} {x y : Int} (h : bnd B x) (h' : bnd C y) : bnd (B + C) (x * y) := by
 unfold bnd
 rw [Int.natAbs_mul, Nat.pow_add]
 exact Nat.mul_lt_mul'' h h'
theorem bnd.add {B : Nat} {x y : Int} (h : bnd B x) (h' : bnd B y) : bnd (B + 1) (x + y) := by
 unfold bnd at *
 rw [Nat.pow_succ]
 omega
theorem bnd.neg {B : Nat} {x : Int} (h : bnd B x) : bnd B (-x) := by unfold bnd at *; omega
theorem bnd.ok {B C : Nat} {x y : Int} (h : bnd B x) (h' : bnd C y) (hs : B + C ≤ 134217728 := by decide) : IntMulOk x y :=
 PyProof.Rows.mulOk_of_bits (bits_of h) (bits_of h') hs
theorem bnd_of {B : Nat} {x : Int} (h : -(2 ^ B) ≤ x ∧ x ≤ 2 ^ B) : bnd (B + 1) x := by
 unfold bnd
 have e : ((2 ^ B : Nat) : Int) = (2 : Int) ^ B := by rw [Int.natCast_pow]; rfl
 have := Nat.two_pow_pos B
 rw [Nat.pow_succ]
 omega
theorem of_bnd {B : Nat} {x : Int} (h : bnd B x) : -(2 ^ B) ≤ x ∧ x ≤ 2 ^ B := by
 unfold bnd at h
 have e : ((2 ^ B : Nat) : Int) = (2 : Int) ^ B := by rw [Int.natCast_pow]; rfl
 omega
theorem abs_fdiv {c t : Int} (h : c ∣ t) : (t.fdiv c).natAbs ≤ t.natAbs := by
 by_cases hc : c = 0
 ·subst hc; simp
 ·have e := fdiv_exact hc h
  have e2 : t.natAbs = (t.fdiv c).natAbs * c.natAbs := by rw [← Int.natAbs_mul, e]
  rw [e2]
  exact Nat.le_mul_of_pos_right _ (by omega)
noncomputable def BP (B : Nat) (x : Pl) : Prop := (∀ t ∈ x.1, bnd B t) ∧ bnd B x.2
theorem BP.up {B C : Nat} {x : Pl} (h : BP B x) (hl : B ≤ C) : BP C x := ⟨fun t ht => (h.1 t ht).up hl, h.2.up hl⟩
theorem red_bits {B : Nat} {u : Int} {ns : List Int} (hn : ∀ t ∈ ns, bnd B t) (hu : bnd B u) : BP B (redP u ns) := by
 refine ⟨fun t ht => ?_, Nat.lt_of_le_of_lt (abs_fdiv (cs_dvd (gl_u u ns))) hu⟩
 obtain ⟨x, hx, rfl⟩ := List.mem_map.mp ht
 exact Nat.lt_of_le_of_lt (abs_fdiv (cs_dvd (gl_mem hx))) (hn x hx)
noncomputable def PlAt (H : Hp) (p : Addr) (x : Pl) : Prop := PlaceAt H p x.1 x.2
theorem PlAt.up {H H' : Hp} {p : Addr} {x : Pl} (h : PlAt H p x) (s : Same H H') : PlAt H' p x := PlaceAt.up h s
noncomputable def PlsAt (H : Hp) (ps : List Addr) (xs : List Pl) : Prop := ps.length = xs.length ∧ ∀ (i : Nat) (p : Addr) (x : Pl), ps[i]? = some p → xs[i]? = some x → PlAt H p x
theorem PlsAt.up {H H' : Hp} {ps : List Addr} {xs : List Pl} (h : PlsAt H ps xs) (s : Same H H') : PlsAt H' ps xs := ⟨h.1, fun i p x e1 e2 => (h.2 i p x e1 e2).up s⟩
noncomputable def ChAt (H : Hp) (p : Addr) (C : Ch) : Prop := ∃ (a b : Addr) (ps : List Addr), H p = some (.tup [.ref a, .ref b]) ∧ H a = some (.tup (ps.map V.ref)) ∧ PlsAt H ps C.1 ∧ PlAt H b C.2
theorem ChAt.up {H H' : Hp} {p : Addr} {C : Ch} (h : ChAt H p C) (s : Same H H') : ChAt H' p C := let ⟨a, b, ps, h1, h2, h3, h4⟩ := h; ⟨a, b, ps, s _ _ h1, s _ _ h2, h3.up s, h4.up s⟩
noncomputable def TabAt (K : PySem.W.Frag) (H : Hp) (p : Addr) (R : List (List Int)) (u : Int) : Prop := ∃ m, H p = some (.tup [.ref m, .int u]) ∧ MatB false false K H m R
theorem TabAt.up {K : PySem.W.Frag} {H H' : Hp} {p : Addr} {R : List (List Int)} {u : Int} (h : TabAt K H p R u) (s : Same H H') : TabAt K H' p R u := let ⟨m, h1, h2⟩ := h; ⟨m, s _ _ h1, h2.up s⟩
structure Wd (d : Nat) (D : Int) (B : Nat) (C : Ch) : Prop where
 d23 : d = 2 ∨ d = 3
 good : GoodC d C
 fit : FitA D B (aff C)
 le : B ≤ 1700
theorem Wd.vec {d B : Nat} {D : Int} {C : Ch} (h : Wd d D B C) {x : Pl} (hx : x ∈ C.1) : GoodP d x ∧ BP 1800 x ∧ x.2 ∣ D := by
 obtain ⟨k, hk, e⟩ := List.getElem_of_mem hx
 have e2 : C.1.getD k ([], 1) = x := by simp [hk, e]
 have f := h.fit.col k
 rw [e2] at f
 have g := h.good.vec x hx
 obtain ⟨f1, f2, f3⟩ := f.place g
 have hle := h.le
 refine ⟨g, ⟨fun t ht => (bnd_of (f3 t ht)).up (by omega), (bnd_of ⟨?_, f2⟩).up (by omega)⟩, f1⟩
 have := g.pos
 have := pow_pos2 B
 omega
theorem Wd.spt {d B : Nat} {D : Int} {C : Ch} (h : Wd d D B C) : GoodP d C.2 ∧ BP 1800 C.2 := by
 obtain ⟨f1, f2, f3⟩ := h.fit.spt.place h.good.spt
 have hle := h.le
 refine ⟨h.good.spt, ⟨fun t ht => (bnd_of (f3 t ht)).up (by omega), (bnd_of ⟨?_, f2⟩).up (by omega)⟩⟩
 have := h.good.spt.pos
 have := pow_pos2 B
 omega
noncomputable def sp_multiple (K : PySem.W.Frag) : Sp := fun vs H Q _ => ∃ (b : Bool) (p : Addr) (ns : List Int), vs = [.ref p] ∧ SqB b K H p (ns.map V.int) ∧ ns.length ≤ 3 ∧ (∀ n ∈ ns, 0 < n ∧ bnd 1800 n) ∧
 ∀ m : Int, 0 < m → (∀ n ∈ ns, n ∣ m) → (∀ D : Int, (∀ n ∈ ns, n ∣ D) → m ∣ D) → Q (.int m) H
noncomputable def sp_place_sum (K : PySem.W.Frag) : Sp := fun vs H Q _ => ∃ (p q : Addr) (x y : Pl) (d : Nat), vs = [.ref p, .ref q] ∧ PlAt H p x ∧ PlAt H q y ∧ GoodP d x ∧ GoodP d y ∧ BP 3700 x ∧ BP 3700 y ∧ (d = 2 ∨ d = 3) ∧
 ∀ r H' z, Same H H' → PlAt H' r z → GoodP d z → (∀ i, val z i = val x i + val y i) → (∀ B, BP B x → BP B y → BP (2 * B + 1) z) → Q (.ref r) H'
noncomputable def negP (x : Pl) : Pl := (x.1.map (-·), x.2)
noncomputable def sp_opposite (K : PySem.W.Frag) : Sp := fun vs H Q _ => ∃ (p : Addr) (x : Pl), vs = [.ref p] ∧ PlAt H p x ∧ x.1.length ≤ 1000 ∧ ∀ r H', Same H H' → PlAt H' r (negP x) → Q (.ref r) H'
noncomputable def sp_place_less (K : PySem.W.Frag) : Sp := fun vs H Q _ => ∃ (p q : Addr) (x y : Pl) (d : Nat), vs = [.ref p, .ref q] ∧ PlAt H p x ∧ PlAt H q y ∧ GoodP d x ∧ GoodP d y ∧ BP 1800 x ∧ BP 1800 y ∧ (d = 2 ∨ d = 3) ∧
 ∀ r H' z, Same H H' → PlAt H' r z → GoodP d z → (∀ i, val z i = val x i - val y i) → BP 3700 z → Q (.ref r) H'
noncomputable def BadCh (xs : List Pl) (z : Pl) : Prop := ¬ (xs.length = 2 ∨ xs.length = 3) ∨ (∃ x ∈ xs, x.1.length ≠ xs.length) ∨ z.1.length ≠ xs.length ∨ detM xs.length (xs.map (·.1)) = 0
noncomputable def sp_changeX (K : PySem.W.Frag) (C0 : Addr) : Sp := fun vs H Q E => ∃ (b : Bool) (a s : Addr) (ps : List Addr) (C : Ch), vs = [.ref a, .ref s] ∧ SqB b K H a (ps.map V.ref) ∧ PlsAt H ps C.1 ∧ PlAt H s C.2 ∧ C.1.length ≤ 100 ∧ (∀ x ∈ C.1, BP 1800 x ∧ 0 < x.2) ∧
 (BadCh C.1 C.2 → ∀ H', Same H H' → E (.ref C0) none H') ∧ (¬ BadCh C.1 C.2 → GoodC C.1.length C ∧ BP 1800 C.2 ∧ ∀ r H', Same H H' → ChAt H' r C → Q (.ref r) H')
noncomputable def sp_check_beside (K : PySem.W.Frag) : Sp := fun vs H Q _ => ∃ (p : Addr) (C : Ch), vs = [.int C.1.length, .ref p] ∧ ChAt H p C ∧ Q .non H
noncomputable def sp_forth (K : PySem.W.Frag) : Sp := fun vs H Q _ => ∃ (p : Addr) (C : Ch) (d : Nat) (D : Int) (B : Nat), vs = [.ref p] ∧ ChAt H p C ∧ Wd d D B C ∧
 ∀ r H' R u, Same H H' → TabAt K H' r R u → Sq d R → 0 < u → u ≤ 2 ^ B → (∀ row ∈ R, ∀ x ∈ row, bnd (B + 1) x) → tm R u = mx C → Q (.ref r) H'
noncomputable def sp_home (K : PySem.W.Frag) : Sp := fun vs H Q _ => ∃ (p : Addr) (C : Ch) (d : Nat) (D : Int) (B : Nat), vs = [.ref p] ∧ ChAt H p C ∧ Wd d D B C ∧ dt d (mx C) ≠ 0 ∧
 ∀ r H' R u, Same H H' → TabAt K H' r R u → Sq d R → u ≠ 0 → mm (mx C) (tm R u) = (oneA d).m → mm (tm R u) (mx C) = (oneA d).m → (∀ row ∈ R, ∀ x ∈ row, bnd (3 * B + 8) x) → bnd (3 * B + 10) u → Q (.ref r) H'
noncomputable def sp_led (K : PySem.W.Frag) : Sp := fun vs H Q _ => ∃ (p q : Addr) (R : List (List Int)) (u : Int) (x : Pl) (d : Nat), vs = [.ref p, .ref q] ∧ TabAt K H p R u ∧ PlAt H q x ∧ Sq d R ∧ (d = 2 ∨ d = 3) ∧ u ≠ 0 ∧ bnd 5200 u ∧ (∀ row ∈ R, ∀ x ∈ row, bnd 5200 x) ∧ GoodP d x ∧ BP 3700 x ∧
 ∀ r H' z, Same H H' → PlAt H' r z → GoodP d z → (∀ i, val z i = s3 fun j => tm R u i j * val x j) → (∀ B1 B2, bnd B1 u → (∀ row ∈ R, ∀ x ∈ row, bnd B1 x) → BP B2 x → BP (B1 + B2 + 2) z) → Q (.ref r) H'
noncomputable def sp_new_place (K : PySem.W.Frag) : Sp := fun vs H Q _ => ∃ (p q : Addr) (x : Pl) (C : Ch) (d : Nat) (D : Int) (B : Nat), vs = [.ref q, .ref p] ∧ ChAt H p C ∧ PlAt H q x ∧ Wd d D B C ∧ dt d (mx C) ≠ 0 ∧ GoodP d x ∧ BP 1800 x ∧
 ∀ r H' z, Same H H' → PlAt H' r z → GoodP d z → (aff C).app (val z) = val x → Q (.ref r) H'
noncomputable def sp_law_cell (K : PySem.W.Frag) : Sp := fun vs H Q _ => ∃ (p : Addr) (ns : List Int) (k : Int), vs = [.ref p, .int k] ∧ SqL K H p (ns.map V.int) ∧ 0 ≤ k ∧ Q (.int (ns.getD k.toNat 0)) H
noncomputable def sp_law_divides : Sp := fun vs H Q _ => ∃ a b : Int, vs = [.int a, .int b] ∧ ∀ H', Same H H' → Q (.int (gcdI a b)) H'
noncomputable def sp_law_lowest (K : PySem.W.Frag) : Sp := fun vs H Q _ => ∃ (b : Bool) (a : Addr) (ns : List Int) (u : Int), vs = [.ref a, .int u] ∧ SqB b K H a (ns.map V.int) ∧ ns.length ≤ 100 ∧ small u ∧ 0 < u ∧ ∀ p H', Same H H' → PlAt H' p (redP u ns) → Q (.ref p) H'
theorem PlAt.set {H : Hp} {p l : Addr} {x : Pl} {ys zs : List V} (h : PlAt H p x) (e : H l = some (.lst ys)) : PlAt (upd H l (.lst zs)) p x := by
 obtain ⟨q, h1, h2⟩ := h
 have n1 : p ≠ l := fun z => by rw [z, e] at h1; cases h1
 have n2 : q ≠ l := fun z => by rw [z, e] at h2; cases h2
 exact ⟨q, by rw [upd_ne n1]; exact h1, by rw [upd_ne n2]; exact h2⟩
theorem PlsAt.set {H : Hp} {ps : List Addr} {l : Addr} {xs : List Pl} {ys zs : List V} (h : PlsAt H ps xs) (e : H l = some (.lst ys)) : PlsAt (upd H l (.lst zs)) ps xs := ⟨h.1, fun i p x e1 e2 => (h.2 i p x e1 e2).set e⟩

noncomputable def dA (M : List (List Int)) (z : Pl) : Aff := ⟨tm M 1, val z⟩
noncomputable def Whole (d : Nat) (C : Ch) (M : List (List Int)) : Prop := ∃ M', Sq d M' ∧ mm (mx C) (tm M' 1) = mm (tm M 1) (mx C)
noncomputable def sp_new_deed (K : PySem.W.Frag) (C0 : Addr) : Sp := fun vs H Q E => ∃ (p q : Addr) (M : List (List Int)) (z : Pl) (C : Ch) (d : Nat) (D : Int) (B : Nat), vs = [.ref p, .ref q] ∧ DeedAt K H p M z.1 z.2 ∧ ChAt H q C ∧ Wd d D B C ∧ B ≤ 500 ∧ dt d (mx C) ≠ 0 ∧ Sq d M ∧ BitsM 1000 M ∧ GoodP d z ∧ BP 1000 z ∧ z.2 < 2 ^ 150 ∧ C.2.2 < 2 ^ 150 ∧
 (¬ Whole d C M → ∀ H', Same H H' → E (.ref C0) none H') ∧
 (∀ r H' M' z', Same H H' → DeedAt K H' r M' z'.1 z'.2 → Sq d M' → GoodP d z' → mm (mx C) (tm M' 1) = mm (tm M 1) (mx C) → (aff C).app (val z') = (dA M z).app (val C.2) → Q (.ref r) H')

section
variable {P : Program} {w : World} {K : PySem.W.Frag} {mg : Str → Option Value} {base : Heap} {t : Adr}
theorem rd_gcd {a b : Int} {H : Hp} {Q : VK} {E : XK} : sp_gcd [.int a, .int b] H Q E = Q (.int (gcdI a b)) H := propext ⟨fun ⟨_, _, e, q⟩ => by cases e; exact q, fun q => ⟨_, _, rfl, q⟩⟩
theorem ok_divisor (T : Txt K mg t) : FnOk P w K mg base CX0 1 t.a_divisor t.d_divisor ["one", "other"] sp_divisor := by
 refine T.F_divisor.ok sc_divisor (fun vs H Q E h => ?_) (fun cdv A outer s H vs Q E hr h => ?_)
 ·obtain ⟨a, b, rfl, _⟩ := h
  rfl
 ·obtain ⟨a, b, rfl, k⟩ := h
  refine ⟨_, (pss_cons (ps_set (i := 2) sc_divisor.nd rfl (Or.inl rfl) (pe_callB call_abs rfl T.z_abs (by decide +kernel) (pa_cons (pv 0) pa_nil)))
   (pss_cons (ps_set (i := 3) sc_divisor.nd rfl (Or.inl rfl) (pe_callB call_abs rfl T.z_abs (by decide +kernel) (pa_cons (pv 1) pa_nil)))
   (pss_cons (ps_while PassesOwn.never (pt_cmpR op_neZ (pv 3) pe_int (nomark _))
   (pss_cons (ps_set (i := 4) sc_divisor.nd rfl (Or.inl rfl) (pe_op op_modN (pv 2) (pv 3)))
   (pss_cons (ps_set (i := 2) sc_divisor.nd rfl (Or.inl rfl) (pv 3))
   (pss_one (ps_set (i := 3) sc_divisor.nd rfl (Or.inl rfl) (pv 4))))))
   (pss_one (ps_ret (pv 2)))))), ?_⟩
  show tSeq _ _ _ [some (.int a), some (.int b), none, none, none] H
  walk_at "rd2"
  refine ⟨fun m σ H1 => ∃ g l r, σ = [some (.int a), some (.int b), some (.int g), some (.int l), r] ∧ H1 = H ∧ 0 ≤ g ∧ 0 ≤ l ∧ Int.gcd g l = Int.gcd a b ∧ m = l.toNat,
   ⟨_, _, _, _, rfl, rfl, absI_nn a, absI_nn b, absI_gcd a b, rfl⟩, ?_⟩
  rintro m σ H1 ⟨g, l, r, rfl, rfl, hg, hl, e, rfl⟩
  walk_at "rd2"
  by_cases z : l = 0
  ·rw [decide_eq_true z]
   refine iteF ?_
   rw [gcd_end e hg z]
   exact k
  ·rw [decide_eq_false z]
   refine iteT ⟨fun σ' H' => σ' = [some (.int a), some (.int b), some (.int l), some (.int (g.fmod l)), some (.int (g.fmod l))] ∧ H' = H1, ?_, z, rfl, rfl⟩
   rintro σ' H' ⟨rfl, rfl⟩
   have l1 := Int.fmod_lt_of_pos g (show 0 < l by omega)
   have l2 := Int.fmod_nonneg_of_pos g (show 0 < l by omega)
   exact ⟨(g.fmod l).toNat, by omega, _, _, _, rfl, rfl, hl, l2, by rw [gcd_fmodI]; exact e, rfl⟩

theorem ok_place (T : Txt K mg t) : FnOk P w K mg base (CX1 P w) 2 t.a_place t.d_place ["tops", "under"] (sp_place K t.a_NoPlace) := by
 have G_divisor : FnOk P w K mg base CX0 1 t.a_divisor t.d_divisor ["one", "other"] sp_divisor := ok_divisor T
 refine T.F_place.okX sc_place (fun vs H Q E h => ?_) (fun cdv A outer s H vs Q E hr h => ?_)
 ·obtain ⟨b, a, ns, u, rfl, _⟩ := h
  rfl
 ·obtain ⟨b, a, ns, u, rfl, hS, hl, su, hE, hQ⟩ := h
  refine ⟨_, (pss_cons (ps_if (pt_cmpR op_eqZ (pv 1) pe_int (nomark _))
   (pss_one (ps_raise rfl landsN_def rfl T.m_NoPlace T.x_NoPlace PySem.F.excBase_ValueError (pa_cons pe_str pa_nil)))
   pss_nil)
   (pss_cons (ps_if (pt_cmpR op_eqZ (pe_callB call_lenB rfl T.z_len (by decide +kernel) (pa_cons (pv 0) pa_nil)) pe_int (nomark _))
   (pss_one (ps_raise rfl landsN_def rfl T.m_NoPlace T.x_NoPlace PySem.F.excBase_ValueError (pa_cons pe_str pa_nil)))
   pss_nil)
   (pss_cons (ps_set (i := 2) sc_place.nd rfl (Or.inr rfl) (pe_callB call_abs rfl T.z_abs (by decide +kernel) (pa_cons (pv 1) pa_nil)))
   (pss_cons (PS.nox (ps_for PassesOwn.never rfl (pi_seq (pv 0)) (pg_name (i := 3) sc_place.nd rfl (Or.inl rfl))
   (pss_one (ps_set (i := 2) sc_place.nd rfl (Or.inr rfl) (pe_call G_divisor (hr.mono (by omega)) rfl T.m_divisor T.F_divisor.kp T.b_divisor .nil pass0 (pa_cons (pv 2) (pa_cons (pv 3) pa_nil)))))))
   (pss_cons (ps_if (pt_cmpR op_lt (pv 1) pe_int (nomark _))
   (pss_one (ps_set (i := 2) sc_place.nd rfl (Or.inr rfl) (pe_un un_neg (pv 2))))
   pss_nil)
   (pss_one (ps_ret (pe_tup (pa_cons (pe_callTy call_tupB rfl T.z_tuple (by decide +kernel) (pa_cons (pe_compG (xs := ["top"]) (fr := [("common", 2)]) (g := (gName 0)) (tt := (tEl (tOp (rI CDivB fun i j => .int (i.fdiv j)) (tVar 0) (tVar 1)))) (compG_ok (sc := defScope s_place) (N := N_place) rfl rfl (by decide +kernel)) rfl (pi_seq (pv 0)) (fun _ _ _ hE1 => (pg_own (N := ["top", "common"]) (i := 0) hE1 rfl (by decide +kernel))) (fun _ _ _ hE1 => (po_el (pe_op op_fdivB (pv 0) (pv 1))))) pa_nil)) (pa_cons (pe_op op_fdivB (pv 1) (pv 2)) pa_nil)))))))))), ?_⟩
  show tSeq _ _ _ [some (.ref a), some (.int u), none, none] H
  refine st fun N1 e1 => ?_
  simp only [tRaise]
  walk_at "rd2"
  refine ite2 (fun z => ⟨by decide, hE (.inl (of_decide_eq_true z))⟩) (fun z => ?_)
  have hu : u ≠ 0 := fun q => z (decide_eq_true q)
  subst e1
  refine st fun N1 e1 => ?_
  simp only [tRaise]
  walk_at "rd2"
  refine ints_len hS ?_
  walk_at "rd2"
  refine ite2 (fun z => ⟨by decide, hE (.inr ?_)⟩) (fun z => ?_)
  ·have := of_decide_eq_true z
   exact List.eq_nil_of_length_eq_zero (by omega)
  have hne : ns ≠ [] := fun q => z (decide_eq_true (by rw [q]; rfl))
  subst e1
  refine st fun N1 e1 => ?_
  walk_at "rd2"
  subst e1
  refine st fun N1 e1 => for_st fun B eB => ?_
  simp only [iSeq]
  walk_at "rd2"
  refine ⟨b, ⟨_, hS⟩, ?_⟩
  refine fr_seq (g := gName 3) (tb := B) (fun i σ H1 => ∃ v3, σ = [some (.ref a), some (.int u), some (.int (gl u (ns.take i))), v3] ∧ H1 = H) ⟨_, rfl, rfl⟩ (fun i σ H1 _ ⟨_, _, e⟩ => e ▸ hS) ?_ ?_
  ·rintro i x σ H1 hi ⟨v3, rfl, rfl⟩
   obtain ⟨n, hn, rfl⟩ := ints_at hi
   subst eB
   walk_at "rd2"
   simp only [rd_gcd]
   rw [take_snoc hn, gl_snoc]
   first | trivial | exact ⟨_, rfl, rfl⟩
  ·rintro σ H1 ⟨v3, rfl, rfl⟩
   rw [List.length_map, List.take_length]
   subst e1
   refine st fun N2 e2 => ?_
   have key2 : N2 [some (.ref a), some (.int u), some (.int (cs u ns)), v3] H1 := by
    subst e2
    have sc1 : small (cs u ns) := small_dvd su hu (cs_dvd (gl_u u ns))
    have hd : ∀ x, CDivB x (cs u ns) := fun x => ⟨cs_ne ns hu, small_log sc1 (cs_ne ns hu)⟩
    walk_at "rd2"
    refine compE_st fun B eB => ?_
    simp only [iSeq]
    walk_at "rd2"
    refine ⟨b, ⟨_, hS⟩, fun a1 ha1 => cg_seq (fun j y _ => ∃ n, ns[j]? = some n ∧ y = .int (n.fdiv (cs u ns))) ha1 hS (by rw [List.length_map]; omega) (fun _ _ _ _ r _ => r) ?_ ?_⟩
    ·intro i x H2 zs hx _ _ Q' hQ'
     obtain ⟨n, hn, rfl⟩ := ints_at hx
     subst eB
     show tOp _ _ _ [some (.int n), some (.int (cs u ns))] H2 Q'
     walk_at "rd2"
     exact ⟨hd n, hQ' _ H2 (Same.refl _) ⟨n, hn, rfl⟩⟩
    ·intro H2 ys s1 e1 hly hr2
     have ey : ys = (redT u ns).map V.int := by
      unfold redT
      rw [List.map_map]
      exact list_is (by simpa using hly) hr2
     subst ey
     refine ⟨a1, _, rfl, .inl ⟨SqL.of e1, fun l hl1 => ?_⟩⟩
     walk_at "rd2"
     refine ⟨hd u, (by show 2 ≤ sizeLine; decide), fun p hp => hQ hu hne p _ ((s1.trans (Same.new hl1)).trans (Same.new hp)) ⟨l, upd_same, ?_⟩⟩
     rw [upd_ne (ne_of_none upd_same hp)]
     exact upd_same
   walk_at "rd2"
   unfold cs at key2
   refine ite2 (fun z => ?_) (fun z => ?_)
   ·rw [if_pos (of_decide_eq_true z)] at key2
    exact key2
   ·rw [if_neg (fun q => z (decide_eq_true q))] at key2
    exact key2
theorem place_ix0 {H : Hp} {p : Addr} {ns : List Int} {u : Int} {Q : VK} (h : PlaceAt H p ns u) (q : ∀ x, H x = some (.tup (ns.map V.int)) → Q (.ref x) H) : rIxB K (.ref p) (.int 0) H Q := let ⟨x, h1, h2⟩ := h; ⟨true, p, _, _, _, rfl, rfl, SqB.tup h1, rfl, q x h2⟩
theorem place_ix1 {H : Hp} {p : Addr} {ns : List Int} {u : Int} {Q : VK} (h : PlaceAt H p ns u) (q : Q (.int u) H) : rIxB K (.ref p) (.int 1) H Q := let ⟨x, h1, h2⟩ := h; ⟨true, p, _, _, _, rfl, rfl, SqB.tup h1, rfl, q⟩
theorem ok_dot (T : Txt K mg t) : FnOk P w K mg base CX0 1 t.a_dot t.d_dot ["one", "other"] (sp_dot K) := by
 refine T.F_dot.ok sc_dot (fun vs H Q E h => ?_) (fun cdv A outer s H vs Q E hr h => ?_)
 ·obtain ⟨b1, b2, p, q, ms, ns, rfl, _⟩ := h
  rfl
 ·obtain ⟨b1, b2, p, q, ms, ns, rfl, h1, h2, hl, hz, hm, hQ⟩ := h
  refine ⟨_, (pss_one (ps_ret (pe_callB (call_sum rfl) rfl T.z_sum (by decide +kernel) (pa_cons (pe_compG (xs := ["left", "right"]) (fr := []) (g := (gTup K 2 (gCons (gName 0) (gCons (gName 1) gNil)))) (tt := (tEl (tOp (rI (fun i j => IntMulOk i j) fun i j => .int (i * j)) (tVar 0) (tVar 1)))) (compG_ok (sc := defScope s_dot) (N := N_dot) rfl rfl (by decide +kernel)) rfl (pi_zip rfl T.z_zip (pa_cons (pv 0) (pa_cons (pv 1) pa_nil))) (fun _ _ _ hE1 => (pg_tup rfl (pgs_cons (pg_own (N := ["left", "right"]) (i := 0) hE1 rfl (by decide +kernel)) (pgs_cons (pg_own (N := ["left", "right"]) (i := 1) hE1 rfl (by decide +kernel)) pgs_nil)))) (fun _ _ _ hE1 => (po_el (pe_op op_mulB (pv 0) (pv 1))))) pa_nil)))), ?_⟩
  show tRet _ _ [some (.ref p), some (.ref q)] H
  walk_at "rd2"
  refine compE_st fun B eB => ?_
  simp only [iZip]
  walk_at "rd2"
  refine ⟨b1, ⟨_, h1⟩, b2, ⟨_, h2⟩, fun a ha => ?_⟩
  refine cg_zip (fun j y _ => ∃ m n, ms[j]? = some m ∧ ns[j]? = some n ∧ y = .int (m * n)) ha h1 h2 (by simpa using hl) (by simpa using hz) (fun _ _ _ _ r _ => r) ?_ ?_
  ·intro i x y H1 zs ex ey s1 ez Q' hQ'
   obtain ⟨m, em, rfl⟩ := ints_at ex
   obtain ⟨n, en, rfl⟩ := ints_at ey
   subst eB
   show tOp _ _ _ [some (.int m), some (.int n)] H1 Q'
   walk_at "rd2"
   exact ⟨hm i m n em en, hQ' _ _ (Same.refl _) ⟨m, n, em, en, rfl⟩⟩
  ·intro H1 zs s1 ez hlz hr'
   have ey : zs = (List.zipWith (· * ·) ms ns).map V.int := by
    refine list_is (by simp at hlz ⊢; omega) fun j y e => ?_
    obtain ⟨m, n, em, en, rfl⟩ := hr' j y e
    exact ⟨m * n, by rw [List.getElem?_zipWith, em, en], rfl⟩
   subst ey
   exact ⟨_, rfl, _, SqL.of ez, hQ H1 s1⟩
theorem ok_turned (T : Txt K mg t) : FnOk P w K mg base CX0 1 t.a_turned t.d_turned ["rows"] (sp_turned K) := by
 refine T.F_turned.ok sc_turned (fun vs H Q E h => ?_) (fun cdv A outer s H vs Q E hr h => ?_)
 ·obtain ⟨b1, b2, a, rows, w, rfl, _⟩ := h
  rfl
 ·obtain ⟨b1, b2, a, rows, w, rfl, hM, hne, hw, hw1, hl1, hQ⟩ := h
  refine ⟨_, (pss_one (ps_ret (pe_compG (xs := ["k"]) (fr := [("rows", 0)]) (g := (gName 0)) (tt := (tEl (tCompG (iSeq K (tVar 1)) (gName 0) (tEl (tOp (rIxB K) (tVar 0) (tVar 1))) 1 [("k", 0)]))) (compG_ok (sc := defScope s_turned) (N := N_turned) rfl rfl (by decide +kernel)) rfl (pi_range1 rfl T.z_range (pa_cons (pe_callB call_lenB rfl T.z_len (by decide +kernel) (pa_cons (pe_ix ix_B (pv 0) pe_int (fun _ _ => rfl)) pa_nil)) pa_nil)) (fun _ _ _ hE1 => (pg_ownC (N := ["k", "rows"]) (i := 0) hE1 rfl (by decide +kernel) rfl)) (fun _ _ _ hE1 => (po_el (pe_compG (xs := ["row"]) (fr := [("k", 0)]) (g := (gName 0)) (tt := (tEl (tOp (rIxB K) (tVar 0) (tVar 1)))) (compG_ok (N := ["k", "rows"]) hE1 rfl (by decide +kernel)) rfl (pi_seq (pv 1)) (fun _ _ _ hE2 => (pg_own (N := ["row", "k"]) (i := 0) hE2 rfl (by decide +kernel))) (fun _ _ _ hE2 => (po_el (pe_ix ix_B (pv 0) (pv 1) (fun _ _ => rfl)))))))))), ?_⟩
  show tRet _ _ [some (.ref a)] H
  walk_at "rd2"
  refine compE_st fun B eB => ?_
  simp only [iRng1]
  walk_at "rd2"
  obtain ⟨r0, e0⟩ : ∃ r0, rows[0]? = some r0 := by cases rows with | nil => exact absurd rfl hne | cons r _ => exact ⟨r, rfl⟩
  have w0 : r0.length = w := hw r0 (List.mem_of_getElem? e0)
  obtain ⟨ps, p, k1, k2, k3, k4⟩ := hM.row e0
  refine ⟨b1, a, _, 0, _, rfl, rfl, k1, atI_at k2 rfl, b2, p, _, rfl, k4, ?_⟩
  rw [List.length_map, w0]
  refine ⟨_, rfl, by omega, by omega, fun a1 ha1 => ?_⟩
  rw [Int.toNat_natCast]
  refine cg_range (RowR a1 fun k => colI k rows) ha1 hw1 (RowR.mono (a := a1)) ?_ ?_
  ·intro i H1 zs hi s1 ez Q' hQ'
   subst eB
   show tCompG _ _ _ _ _ [some (.int (0 + (i : Int))), some (.ref a)] H1 Q'
   refine compE_st fun B eB => ?_
   simp only [iSeq]
   walk_at "rd2"
   obtain ⟨xs, x1, x2, x3⟩ := (hM.up s1).walk
   refine ⟨b1, ⟨_, x1⟩, fun a2 ha2 => ?_⟩
   refine cg_seq (fun j y _ => ∃ r, rows[j]? = some r ∧ y = .int (r.getD i 0)) ha2 x1 (by omega) (fun _ _ _ _ r _ => r) ?_ ?_
   ·intro j x H2 zs2 ex s2 ez2 Q2 hQ2
    obtain ⟨p, r, rfl, er, hp⟩ := x3 j x ex
    subst eB
    show tOp _ _ _ [some (.ref p), some (.int (0 + (i : Int)))] H2 Q2
    walk_at "rd2"
    have hri : i < r.length := by rw [hw r (List.mem_of_getElem? er)]; exact hi
    exact ⟨b2, p, _, _, _, rfl, rfl, hp.up s2, atI_at (int_at (getD_at hri)) (by omega), hQ2 _ _ (Same.refl _) ⟨r, er, rfl⟩⟩
   ·intro H2 ys s2 e2 hly hr2
    have ey : ys = (colI i rows).map V.int := by
     refine list_is (by simp [colI]; omega) fun j y e => ?_
     obtain ⟨r, er, rfl⟩ := hr2 j y e
     exact ⟨r.getD i 0, by unfold colI; rw [List.getElem?_map, er]; rfl, rfl⟩
    subst ey
    exact hQ' _ _ s2 ⟨a2, rfl, Ne.symm (ne_of_none ez ha2), e2⟩
  ·intro H1 ys s1 e1 hly hr1
   have := MatL.of e1 hr1
   rw [hly] at this
   exact hQ a1 H1 ha1 s1 this
theorem ok_times (T : Txt K mg t) : FnOk P w K mg base CX0 2 t.a_times t.d_times ["one", "other"] (sp_times K) := by
 have G_turned : FnOk P w K mg base CX0 1 t.a_turned t.d_turned ["rows"] (sp_turned K) := ok_turned T
 have G_dot : FnOk P w K mg base CX0 1 t.a_dot t.d_dot ["one", "other"] (sp_dot K) := ok_dot T
 refine T.F_times.ok sc_times (fun vs H Q E h => ?_) (fun cdv A outer s H vs Q E hr h => ?_)
 ·obtain ⟨b1, b2, b3, b4, a, b, A, B, w, rfl, _⟩ := h
  rfl
 ·obtain ⟨b1, b2, b3, b4, a, b, MA, MB, w, rfl, hA, hB, hne, hw, hwA, hw1, hlA, hlB, hmul, hQ⟩ := h
  refine ⟨_, (pss_cons (ps_set (i := 2) sc_times.nd rfl (Or.inr rfl) (pe_call G_turned (hr.mono (by omega)) rfl T.m_turned T.F_turned.kp T.b_turned .nil pass0 (pa_cons (pv 1) pa_nil)))
   (pss_one (ps_ret (pe_compG (xs := ["row"]) (fr := [("columns", 2)]) (g := (gName 0)) (tt := (tEl (tCompG (iSeq K (tVar 1)) (gName 0) (tEl (tCall (sp_dot K) [] E0 (tCons (tVar 1) (tCons (tVar 0) tNil)))) 1 [("row", 0)]))) (compG_ok (sc := defScope s_times) (N := N_times) rfl rfl (by decide +kernel)) rfl (pi_seq (pv 0)) (fun _ _ _ hE1 => (pg_ownC (N := ["row", "columns"]) (i := 0) hE1 rfl (by decide +kernel) rfl)) (fun _ _ _ hE1 => (po_el (pe_compG (xs := ["column"]) (fr := [("row", 0)]) (g := (gName 0)) (tt := (tEl (tCall (sp_dot K) [] E0 (tCons (tVar 1) (tCons (tVar 0) tNil))))) (compG_ok (N := ["row", "columns"]) hE1 rfl (by decide +kernel)) rfl (pi_seq (pv 1)) (fun _ _ _ hE2 => (pg_own (N := ["column", "row"]) (i := 0) hE2 rfl (by decide +kernel))) (fun _ _ _ hE2 => (po_el (pe_call G_dot (hr.mono (by omega)) rfl T.m_dot T.F_dot.kp T.b_dot .nil pass0 (pa_cons (pv 1) (pa_cons (pv 0) pa_nil)))))))))))), ?_⟩
  show tSeq _ _ _ [some (.ref a), some (.ref b), none] H
  refine st fun N1 e1 => ?_
  walk_at "rd2"
  refine ⟨b3, b4, b, MB, w, rfl, hB, hne, hw, hw1, hlB, fun c H1 hc s1 hC => ?_⟩
  subst e1
  walk_at "rd2"
  refine compE_st fun B eB => ?_
  simp only [iSeq]
  walk_at "rd2"
  obtain ⟨xs, x1, x2, x3⟩ := (hA.up s1).walk
  refine ⟨b1, ⟨_, x1⟩, fun a1 ha1 => ?_⟩
  refine cg_seq (RowR a1 fun j => (List.range w).map fun k => dotI (MA.getD j []) (colI k MB)) ha1 x1 (by omega) (RowR.mono (a := a1)) ?_ ?_
  ·intro i x H2 zs ex s2 ez Q' hQ'
   obtain ⟨p, r, rfl, er, hp⟩ := x3 i x ex
   have erD : MA.getD i [] = r := by rw [List.getD_eq_getElem?_getD, er]; rfl
   have hrl : r.length = MB.length := hwA r (List.mem_of_getElem? er)
   subst eB
   show tCompG _ _ _ _ _ [some (.ref p), some (.ref c)] H2 Q'
   refine compE_st fun B eB => ?_
   simp only [iSeq]
   walk_at "rd2"
   obtain ⟨zs2, z1, z2, z3⟩ := ((hC.up s2).b (K := K)).walk
   refine ⟨false, ⟨_, z1⟩, fun a2 ha2 => ?_⟩
   have hlen : (turnM w MB).length = w := by simp [turnM]
   refine cg_seq (fun j y _ => y = .int (dotI r (colI j MB)) ∧ j < w) ha2 z1 (by omega) (fun _ _ _ _ r _ => r) ?_ ?_
   ·intro j y H3 zs3 ey s3 ez3 Q2 hQ2
    obtain ⟨q, col, rfl, ec, hq⟩ := z3 j y ey
    have hj : j < w := by have := (List.getElem?_eq_some_iff.mp ec).1; omega
    have ecol : col = colI j MB := by
     unfold turnM at ec
     rw [List.getElem?_map, List.getElem?_range hj] at ec
     exact (Option.some.inj ec).symm
    subst eB ecol
    show tCall _ _ _ _ [some (.ref q), some (.ref p)] H3 Q2
    walk_at "rd2"
    refine ⟨b2, false, p, q, r, colI j MB, rfl, (hp.up s2).up s3, hq.up s3, by simp [colI, hrl], by omega, fun i2 m n e1 e2 => ?_, fun H4 s4 => hQ2 _ _ s4 ⟨rfl, hj⟩⟩
    unfold colI at e2
    rw [List.getElem?_map] at e2
    cases eb : MB[i2]? with
    | none => rw [eb] at e2; cases e2
    | some rb =>
     rw [eb] at e2
     have e2' : rb.getD j 0 = n := Option.some.inj e2
     subst e2'
     have hrb := List.mem_of_getElem? eb
     exact hmul r (List.mem_of_getElem? er) m (List.mem_of_getElem? e1) rb hrb _ (L2.getD_mem (by rw [hw rb hrb]; exact hj))
   ·intro H3 ys s3 e3 hly hr3
    have ey : ys = ((List.range w).map fun k => dotI r (colI k MB)).map V.int := by
     refine list_is (by simp; omega) fun j y e => ?_
     obtain ⟨rfl, hj⟩ := hr3 j y e
     exact ⟨_, by rw [List.getElem?_map, List.getElem?_range hj]; rfl, rfl⟩
    subst ey
    exact hQ' _ _ s3 ⟨a2, rfl, Ne.symm (ne_of_none ez ha2), by dsimp only; rw [erD]; exact e3⟩
  ·intro H2 ys s2 e2 hly hr2
   have := MatL.of e2 hr2
   have e : (List.range ys.length).map (fun j => (List.range w).map fun k => dotI (MA.getD j []) (colI k MB)) = mulM w MA MB := by
    rw [hly, x2]
    unfold mulM
    refine List.ext_getElem (by simp) fun i h1 h2 => ?_
    simp at h1
    simp [h1]
   rw [e] at this
   have hn : H a1 = none := by
    cases q : H a1 with
    | none => rfl
    | some o => rw [s1 _ _ q] at ha1; cases ha1
   exact hQ a1 H2 hn (s1.trans s2) this

theorem ok_without (T : Txt K mg t) : FnOk P w K mg base CX0 1 t.a_without t.d_without ["rows", "i", "k"] (sp_without K) := by
 refine T.F_without.ok sc_without (fun vs H Q E h => ?_) (fun cdv A outer s H vs Q E hr h => ?_)
 ·obtain ⟨b1, b2, a, rows, i, k, w, rfl, _⟩ := h
  rfl
 ·obtain ⟨b1, b2, a, rows, i0, k, w, rfl, hM, hw, hk, hw1, hl1, hQ⟩ := h
  refine ⟨_, (pss_one (ps_ret (pe_compG (xs := ["at", "row"]) (fr := [("i", 1), ("k", 2)]) (g := (gTup K 2 (gCons (gName 0) (gCons (gName 1) gNil)))) (tt := (tElIf (tTest (tOp (rI0 fun i j => .bl (!decide (i = j))) (tVar 0) (tVar 2))) (tOp rCat (tCB (rListB K) (tCons (tSl (rSlB K) (tVar 1) tNoPart (tPart (tVar 3))) tNil)) (tCB (rListB K) (tCons (tSl (rSlB K) (tVar 1) (tPart (tOp (rI0 fun i j => .int (i + j)) (tVar 3) (tC (.int 1)))) tNoPart) tNil))))) (compG_ok (sc := defScope s_without) (N := N_without) rfl rfl (by decide +kernel)) rfl (pi_enum rfl T.z_enumerate (pa_cons (pv 0) pa_nil)) (fun _ _ _ hE1 => (pg_tup rfl (pgs_cons (pg_own (N := ["at", "row", "i", "k"]) (i := 0) hE1 rfl (by decide +kernel)) (pgs_cons (pg_own (N := ["at", "row", "i", "k"]) (i := 1) hE1 rfl (by decide +kernel)) pgs_nil)))) (fun _ _ _ hE1 => (po_if (pt_cmpR op_neZ (pv 0) (pv 2) (nomark _)) (pe_op op_cat (pe_callTy call_listB rfl T.z_list (by decide +kernel) (pa_cons (pe_slice sl_B (pv 1) po_none (po_some (pv 3))) pa_nil)) (pe_callTy call_listB rfl T.z_list (by decide +kernel) (pa_cons (pe_slice sl_B (pv 1) (po_some (pe_op op_add (pv 3) pe_int)) po_none) pa_nil)))))))), ?_⟩
  show tRet _ _ [some (.ref a), some (.int i0), some (.int k)] H
  walk_at "rd2"
  refine compI_st fun C0 B0 eC eB => ?_
  simp only [iEnum]
  walk_at "rd2"
  obtain ⟨xs, x1, x2, x3⟩ := hM.walk
  refine ⟨b1, ⟨_, x1⟩, fun a1 ha1 => ?_⟩
  refine cg_enumI (fun t zs H1 => RefRows a1 H1 zs (((rows.take t).eraseIdx i0).map fun (r : List Int) => r.eraseIdx k)) ha1 x1 (by omega) RefRows.nil ?_ (fun _ _ _ _ r s => r.mono s) ?_ ?_
  ·intro i zs H1 p
   rw [p.len, List.length_map, List.length_eraseIdx]
   have := List.length_take_le i rows
   split <;> omega
  ·intro i x H1 zs ex s1 ez p C hC1 hC2
   obtain ⟨q0, r, rfl, er, hp⟩ := x3 i x ex
   have hrw : r.length = w := hw r (List.mem_of_getElem? er)
   replace hp := hp.up s1
   rw [erase_take er] at hC1 hC2
   subst eC eB
   show tElIf _ _ [some (.int i), some (.ref q0), some (.int i0), some (.int k)] H1 C
   simp only [tElIf]
   walk_at "rd2"
   by_cases z : i = i0
   ·subst z
    rw [if_pos rfl] at hC2
    rw [decide_eq_true rfl]
    exact hC2 H1 (Same.refl _) p
   ·rw [if_neg z] at hC1
    rw [decide_eq_false (show ¬ (i : Int) = i0 by omega)]
    refine iteT ?_
    refine ⟨b2, q0, _, rfl, hp, fun _ => by rw [List.length_map, HT.sIx_none, HT.sIx_nat]; omega, fun q1 hq1 => ?_⟩
    have sq1 : SqB b2 K (upd H1 q1 (seqO b2 (cutV (r.map V.int) none (some (k : Int))))) q1 (cutV (r.map V.int) none (some (k : Int))) := SqB.cut
    have s2 : Same H1 (upd H1 q1 (seqO b2 (cutV (r.map V.int) none (some (k : Int))))) := Same.new hq1
    generalize upd H1 q1 _ = H2 at sq1 s2
    rw [cut_to (by omega)] at sq1
    refine ⟨b2, q1, _, rfl, sq1, fun q2 hq2 => ?_⟩
    have e2 : (upd H2 q2 (.lst ((r.take k).map V.int))) q2 = some (.lst ((r.take k).map V.int)) := upd_same
    have s3 : Same H2 (upd H2 q2 (.lst ((r.take k).map V.int))) := Same.new hq2
    generalize upd H2 q2 _ = H3 at e2 s3
    refine ⟨b2, q0, _, rfl, (hp.up s2).up s3, fun _ => by rw [List.length_map, HT.sIx_none, show (k : Int) + 1 = ((k + 1 : Nat) : Int) by omega, HT.sIx_nat]; omega, fun q3 hq3 => ?_⟩
    have sq3 : SqB b2 K (upd H3 q3 (seqO b2 (cutV (r.map V.int) (some ((k : Int) + 1)) none))) q3 (cutV (r.map V.int) (some ((k : Int) + 1)) none) := SqB.cut
    have s4 : Same H3 (upd H3 q3 (seqO b2 (cutV (r.map V.int) (some ((k : Int) + 1)) none))) := Same.new hq3
    generalize upd H3 q3 _ = H4 at sq3 s4
    rw [show (k : Int) + 1 = ((k + 1 : Nat) : Int) by omega, cut_from (by omega)] at sq3
    refine ⟨b2, q3, _, rfl, sq3, fun q4 hq4 => ?_⟩
    have s5 : Same H4 (upd H4 q4 (.lst ((r.drop (k + 1)).map V.int))) := Same.new hq4
    have e4 : (upd H4 q4 (.lst ((r.drop (k + 1)).map V.int))) q4 = some (.lst ((r.drop (k + 1)).map V.int)) := upd_same
    generalize upd H4 q4 _ = H5 at e4 s5
    refine ⟨q2, q4, _, _, rfl, rfl, s5 _ _ (s4 _ _ e2), e4, by rw [List.length_map, List.length_map, List.length_take, List.length_drop]; exact Nat.le_of_lt (small1000 (by omega)), fun q5 hq5 => ?_⟩
    have s15 : Same H1 (upd H5 q5 (.lst ((r.take k).map V.int ++ (r.drop (k + 1)).map V.int))) := (((s2.trans s3).trans s4).trans s5).trans (Same.new hq5)
    refine hC1 _ _ s15 ?_
    rw [List.map_append]
    refine (p.mono s15.x).snoc (fun e => ?_) ?_
    ·subst e
     rw [s5 _ _ (s4 _ _ (s3 _ _ (s2 _ _ ez)))] at hq5
     cases hq5
    ·rw [upd_same]; dsimp only; rw [List.eraseIdx_eq_take_drop_succ, List.map_append]
  ·intro H1 ys s1 e1 p
   rw [x2, List.take_length] at p
   exact hQ a1 H1 ha1 s1 (RefRows.mat e1 p)
theorem ok_determinant (T : Txt K mg t) : ∀ n : Nat, FnOk P w K mg base CX0 (n + 1) t.a_determinant t.d_determinant ["rows"] (sp_determinant K n)
 | 0 => ⟨fun _ _ _ _ h => h.elim, fun _ _ _ _ _ _ _ _ _ _ _ _ _ h => h.elim⟩
 | n + 1 => by
  have G_determinant : FnOk P w K mg base CX0 (n + 1) t.a_determinant t.d_determinant ["rows"] (sp_determinant K n) := ok_determinant T n
  have G_without : FnOk P w K mg base CX0 1 t.a_without t.d_without ["rows", "i", "k"] (sp_without K) := ok_without T
  refine T.F_determinant.ok sc_determinant (fun vs H Q E h => ?_) (fun cdv A outer s H vs Q E hr h => ?_)
  ·obtain ⟨b1, b2, a, rows, B, rfl, _⟩ := h
   rfl
  ·obtain ⟨b1, b2, a, rows, B, rfl, hM, hs, hn, hb, hB, hQ⟩ := h
   refine ⟨_, (pss_cons (ps_if (pt_cmpR op_eqZ (pe_callB call_lenB rfl T.z_len (by decide +kernel) (pa_cons (pv 0) pa_nil)) pe_int (nomark _))
   (pss_one (ps_ret (pe_ix ix_B (pe_ix ix_B (pv 0) pe_int (fun _ _ => rfl)) pe_int (fun _ _ => rfl))))
   pss_nil)
   (pss_cons (ps_set (i := 1) sc_determinant.nd rfl (Or.inl rfl) pe_int)
   (pss_cons (ps_set (i := 2) sc_determinant.nd rfl (Or.inl rfl) pe_int)
   (pss_cons (ps_for PassesOwn.never rfl (pi_enum rfl T.z_enumerate (pa_cons (pe_ix ix_B (pv 0) pe_int (fun _ _ => rfl)) pa_nil)) (pg_tup rfl (pgs_cons (pg_name (i := 3) sc_determinant.nd rfl (Or.inl rfl)) (pgs_cons (pg_name (i := 4) sc_determinant.nd rfl (Or.inl rfl)) pgs_nil)))
   (pss_cons (ps_if (pt_cmpR op_neZ (pv 4) pe_int (nomark _))
   (pss_one (ps_aug (i := 1) sc_determinant.nd rfl (Or.inl rfl) (pe_op op_mulB (pe_op op_mulB (pv 2) (pv 4)) (pe_call G_determinant (hr.mono (by omega)) rfl T.m_determinant T.F_determinant.kp T.b_determinant .nil pass0 (pa_cons (pe_call G_without (hr.mono (by omega)) rfl T.m_without T.F_without.kp T.b_without .nil pass0 (pa_cons (pv 0) (pa_cons pe_int (pa_cons (pv 3) pa_nil)))) pa_nil))) ip_add))
   pss_nil)
   (pss_one (ps_set (i := 2) sc_determinant.nd rfl (Or.inl rfl) (pe_un un_neg (pv 2))))))
   (pss_one (ps_ret (pv 1))))))), ?_⟩
   show tSeq _ _ _ [some (.ref a), none, none, none, none] H
   obtain ⟨e0, m0⟩ := row0 hs
   have hl0 : (rows.getD 0 []).length = n + 1 := hs.2 _ m0
   refine st fun N1 e1 => ?_
   walk_at "rd2"
   refine mat_len hM ?_
   walk_at "rd2"
   rw [hs.1]
   by_cases z : n = 0
   ·subst z
    rw [decide_eq_true (by rfl)]
    exact iteT (mat_ix hM e0 (getD_at (k := 0) (by omega)) rfl rfl (hQ H (Same.refl _)))
   ·rw [decide_eq_false (show ¬ ((n + 1 : Nat) : Int) = 1 by omega)]
    refine iteF ?_
    obtain ⟨n, rfl⟩ : ∃ m, n = m + 1 := ⟨n - 1, by omega⟩
    subst e1
    refine st fun N1 e1 => ?_
    walk_at "rd2"
    subst e1
    refine st fun N1 e1 => ?_
    walk_at "rd2"
    subst e1
    refine st fun N1 e1 => for_st fun B0 eB => ?_
    simp only [iEnum]
    walk_at "rd2"
    refine mat_row hM e0 rfl fun p hp => ⟨b2, _, rfl, ⟨_, hp⟩, ?_⟩
    generalize hf : (fun k => (rows.getD 0 []).getD k 0 * detM (n + 1) (minorM 0 k rows)) = f
    refine fr_enum (nx := N1) (rt := Q) (fun k σ H1 => ∃ v3 v4, σ = [some (.ref a), some (.int (altS f k)), some (.int (sg k)), v3, v4] ∧ Same H H1) ⟨_, _, rfl, Same.refl _⟩ (fun _ _ _ _ ⟨_, _, _, s1⟩ => hp.up s1) ?_ ?_
    ·rintro k x q σ H1 ex ⟨v3, v4, rfl, s1⟩ hq
     obtain ⟨x, ex', rfl⟩ := ints_at ex
     have hk : k < n + 2 := by have := (List.getElem?_eq_some_iff.mp ex').1; omega
     refine ⟨q, [.int k, .int x], rfl, SqT.of upd_same, rfl, _, _, rfl, _, _, rfl, rfl, ?_⟩
     replace s1 := s1.trans (Same.new (o := .tup [.int k, .int x]) hq)
     generalize upd H1 q (.tup [.int k, .int x]) = H2 at s1
     subst eB
     show tSeq _ _ _ [some (.ref a), some (.int (altS f k)), some (.int (sg k)), some (.int k), some (.int x)] H2
     refine st fun N2 e2 => ?_
     have key : ∀ H3 (tot : Int), Same H H3 → tot = altS f (k + 1) → N2 [some (.ref a), some (.int tot), some (.int (sg k)), some (.int k), some (.int x)] H3 := by
      intro H3 tot s3 et
      subst e2 et
      walk_at "rd2"
      rw [sg_succ]
      exact ⟨rfl, s3⟩
     walk_at "rd2"
     have hx0 : (rows.getD 0 []).getD k 0 = x := getD_of ex'
     have hfk : f k = x * detM (n + 1) (minorM 0 k rows) := by rw [← hf]; dsimp only; rw [hx0]
     have hsm := hs.minor (i := 0) (k := k) (by omega) hk
     have hbm : BitsM B (minorM 0 k rows) := hb.minor
     by_cases zx : x = 0
     ·rw [decide_eq_true zx]
      refine iteF (key H2 _ s1 ?_)
      show _ = altS f k + sg k * f k
      rw [hfk, zx]
      simp
     ·rw [decide_eq_false zx]
      refine iteT ?_
      simp only [tAug, ipI]
      walk_at "rd2"
      refine ⟨IntMulOk.of_left (by unfold sg; split <;> decide), b1, b2, a, rows, 0, k, _, rfl, hM.up s1, hs.2, hk, by omega, by rw [hs.1]; omega, fun r H3 _ s3 hR => ?_⟩
      refine ⟨false, false, r, _, B, rfl, hR.b, hsm, by omega, hbm, hB, fun H4 s4 => ?_⟩
      walk_at "rd2"
      have hxb := hb _ m0 x (by rw [← hx0]; exact L2.getD_mem (by omega))
      have hdb := det_abs (n + 1) _ (by omega) (by omega) hsm hbm
      refine ⟨PyProof.Rows.mulOk_of_bits (m := B + 1) (n := (n + 1) * (B + 2) + 1) (bits_of ?_) (bits_of ?_) ?_, ?_⟩
      ·rw [Int.natAbs_mul, sg_abs, Nat.one_mul, Nat.pow_succ]; omega
      ·rw [Nat.pow_succ]; have := Nat.two_pow_pos ((n + 1) * (B + 2)); omega
      ·have : (n + 1) * (B + 2) ≤ 4 * 1000002 := Nat.mul_le_mul (by omega) (by omega)
       omega
      ·refine key H4 _ ((s1.trans s3).trans s4) ?_
       show _ = altS f k + sg k * f k
       rw [hfk, Int.mul_assoc]
    ·rintro σ H1 ⟨v3, v4, rfl, s1⟩
     subst e1
     walk_at "rd2"
     rw [List.length_map, hl0]
     have : altS f (n + 2) = detM (n + 2) rows := by rw [← hf]; rfl
     rw [this]
     exact hQ H1 s1

theorem ok_cofactor (T : Txt K mg t) : FnOk P w K mg base CX0 5 t.a_cofactor t.d_cofactor ["rows", "i", "k"] (sp_cofactor K) := by
 have G_without : FnOk P w K mg base CX0 1 t.a_without t.d_without ["rows", "i", "k"] (sp_without K) := ok_without T
 refine T.F_cofactor.ok sc_cofactor (fun vs H Q E h => ?_) (fun cdv A outer s H vs Q E hr h => ?_)
 ·obtain ⟨b1, b2, a, rows, i, k, n, rfl, _⟩ := h
  rfl
 ·obtain ⟨b1, b2, a, rows, i, k, n, rfl, hM, hs, hi, hk, hn1, hn3, hb, hQ⟩ := h
  have G_determinant : FnOk P w K mg base CX0 (n + 1) t.a_determinant t.d_determinant ["rows"] (sp_determinant K n) := ok_determinant T n
  refine ⟨_, (pss_cons (ps_set (i := 3) sc_cofactor.nd rfl (Or.inl rfl) (pe_ifExp (pt_cmpR op_eqZ (pe_op op_modN (pe_op op_add (pv 1) (pv 2)) pe_int) pe_int (nomark _)) pe_int (pe_un un_neg pe_int)))
   (pss_one (ps_ret (pe_op op_mulB (pv 3) (pe_call G_determinant (hr.mono (by omega)) rfl T.m_determinant T.F_determinant.kp T.b_determinant .nil pass0 (pa_cons (pe_call G_without (hr.mono (by omega)) rfl T.m_without T.F_without.kp T.b_without .nil pass0 (pa_cons (pv 0) (pa_cons (pv 1) (pa_cons (pv 2) pa_nil)))) pa_nil)))))), ?_⟩
  show tSeq _ _ _ [some (.ref a), some (.int i), some (.int k), none] H
  obtain ⟨m, rfl⟩ : ∃ m, n = m + 1 := ⟨n - 1, by omega⟩
  refine st fun N1 e1 => ?_
  have key : N1 [some (.ref a), some (.int i), some (.int k), some (.int (sg (i + k)))] H := by
   subst e1
   walk_at "rd2"
   refine ⟨b1, b2, a, rows, i, k, _, rfl, hM, hs.2, hk, by omega, by rw [hs.1]; omega, fun r H1 _ s1 hR => ?_⟩
   refine ⟨false, false, r, _, 1800, rfl, hR.b, hs.minor hi hk, by omega, hb.minor, by decide, fun H2 s2 => ?_⟩
   walk_at "rd2"
   exact ⟨IntMulOk.of_left (by unfold sg; split <;> decide), hQ H2 (s1.trans s2)⟩
  walk_at "rd2"
  refine ⟨by decide, ?_⟩
  have ef : ((i : Int) + k).fmod 2 = ((i + k) % 2 : Nat) := by
   rw [Int.fmod_eq_emod_of_nonneg _ (by decide)]; omega
  rw [ef]
  unfold sg at key
  by_cases z : (i + k) % 2 = 0
  ·rw [if_pos z] at key
   rw [decide_eq_true (show (((i + k) % 2 : Nat) : Int) = 0 by omega)]
   exact iteT key
  ·rw [if_neg z] at key
   rw [decide_eq_false (show ¬ (((i + k) % 2 : Nat) : Int) = 0 by omega)]
   exact iteF key
theorem ok_scaled (T : Txt K mg t) : FnOk P w K mg base CX0 1 t.a_scaled t.d_scaled ["rows", "count"] (sp_scaled K) := by
 refine T.F_scaled.ok sc_scaled (fun vs H Q E h => ?_) (fun cdv A outer s H vs Q E hr h => ?_)
 ·obtain ⟨b1, b2, a, rows, c, rfl, _⟩ := h
  rfl
 ·obtain ⟨b1, b2, a, rows, c, rfl, hM, hl, hlr, hm, hQ⟩ := h
  refine ⟨_, (pss_one (ps_ret (pe_compG (xs := ["row"]) (fr := [("count", 1)]) (g := (gName 0)) (tt := (tEl (tCompG (iSeq K (tVar 0)) (gName 0) (tEl (tOp (rI (fun i j => IntMulOk i j) fun i j => .int (i * j)) (tVar 1) (tVar 0))) 1 [("count", 1)]))) (compG_ok (sc := defScope s_scaled) (N := N_scaled) rfl rfl (by decide +kernel)) rfl (pi_seq (pv 0)) (fun _ _ _ hE1 => (pg_own (N := ["row", "count"]) (i := 0) hE1 rfl (by decide +kernel))) (fun _ _ _ hE1 => (po_el (pe_compG (xs := ["number"]) (fr := [("count", 1)]) (g := (gName 0)) (tt := (tEl (tOp (rI (fun i j => IntMulOk i j) fun i j => .int (i * j)) (tVar 1) (tVar 0)))) (compG_ok (N := ["row", "count"]) hE1 rfl (by decide +kernel)) rfl (pi_seq (pv 0)) (fun _ _ _ hE2 => (pg_own (N := ["number", "count"]) (i := 0) hE2 rfl (by decide +kernel))) (fun _ _ _ hE2 => (po_el (pe_op op_mulB (pv 1) (pv 0)))))))))), ?_⟩
  show tRet _ _ [some (.ref a), some (.int c)] H
  walk_at "rd2"
  refine compE_st fun B eB => ?_
  simp only [iSeq]
  walk_at "rd2"
  obtain ⟨xs, x1, x2, x3⟩ := hM.walk
  refine ⟨b1, ⟨_, x1⟩, fun a1 ha1 => ?_⟩
  refine cg_seq (RowR a1 fun j => (rows.getD j []).map (c * ·)) ha1 x1 (by omega) (RowR.mono (a := a1)) ?_ ?_
  ·intro i x H1 zs ex s1 ez Q' hQ'
   obtain ⟨p, r, rfl, er, hp⟩ := x3 i x ex
   have hr0 := List.mem_of_getElem? er
   subst eB
   show tCompG _ _ _ _ _ [some (.ref p), some (.int c)] H1 Q'
   refine compE_st fun B eB => ?_
   simp only [iSeq]
   walk_at "rd2"
   refine ⟨b2, ⟨_, hp.up s1⟩, fun a2 ha2 => ?_⟩
   refine cg_seq (fun j y _ => ∃ m, r[j]? = some m ∧ y = .int (c * m)) ha2 (hp.up s1) (by have := hlr r hr0; rw [List.length_map]; omega) (fun _ _ _ _ r _ => r) ?_ ?_
   ·intro j x H2 zs2 ex2 s2 ez2 Q2 hQ2
    obtain ⟨m, em, rfl⟩ := ints_at ex2
    subst eB
    show tOp _ _ _ [some (.int m), some (.int c)] H2 Q2
    walk_at "rd2"
    exact ⟨hm r hr0 m (List.mem_of_getElem? em), hQ2 _ _ (Same.refl _) ⟨m, em, rfl⟩⟩
   ·intro H2 ys s2 e2 hly hr2
    have ey : ys = (r.map (c * ·)).map V.int := by
     refine list_is (by simp at hly ⊢; omega) fun j y e => ?_
     obtain ⟨m, em, rfl⟩ := hr2 j y e
     exact ⟨c * m, by rw [List.getElem?_map, em]; rfl, rfl⟩
    subst ey
    refine hQ' _ _ s2 ⟨a2, rfl, Ne.symm (ne_of_none ez ha2), ?_⟩
    show _ = some (HO.lst (((rows.getD i []).map (c * ·)).map V.int))
    rw [e2, List.getD_eq_getElem?_getD, er]; rfl
  ·intro H1 ys s1 e1 hly hr1
   have hM0 := MatL.of e1 hr1
   rw [hly, x2] at hM0
   have ee : ((List.range rows.length).map fun j => (rows.getD j []).map (c * ·)) = rows.map fun r => r.map (c * ·) := by
    refine List.ext_getElem? fun i => ?_
    rw [List.getElem?_map, List.getElem?_map]
    by_cases hi : i < rows.length
    ·rw [List.getElem?_range hi, List.getElem?_eq_getElem hi]
     simp [List.getD_eq_getElem?_getD, hi]
    ·rw [List.getElem?_eq_none (by simp; omega), List.getElem?_eq_none (by omega)]; rfl
   rw [ee] at hM0
   exact hQ a1 H1 ha1 s1 hM0
theorem ok_crossed (T : Txt K mg t) : FnOk P w K mg base CX0 6 t.a_crossed t.d_crossed ["rows"] (sp_crossed K) := by
 have G_cofactor : FnOk P w K mg base CX0 5 t.a_cofactor t.d_cofactor ["rows", "i", "k"] (sp_cofactor K) := ok_cofactor T
 refine T.F_crossed.ok sc_crossed (fun vs H Q E h => ?_) (fun cdv A outer s H vs Q E hr h => ?_)
 ·obtain ⟨b1, b2, a, rows, n, rfl, _⟩ := h
  rfl
 ·obtain ⟨b1, b2, a, rows, n, rfl, hM, hs, hn2, hn4, hb, hQ⟩ := h
  refine ⟨_, (pss_cons (ps_set (i := 1) sc_crossed.nd rfl (Or.inr rfl) (pe_callB call_lenB rfl T.z_len (by decide +kernel) (pa_cons (pv 0) pa_nil)))
   (pss_one (ps_ret (pe_compG (xs := ["i"]) (fr := [("rows", 0), ("size", 1)]) (g := (gName 0)) (tt := (tEl (tCompG (iRng1 (tCons (tVar 2) tNil)) (gName 0) (tEl (tCall (sp_cofactor K) [] E0 (tCons (tVar 2) (tCons (tVar 0) (tCons (tVar 1) tNil))))) 1 [("i", 0), ("rows", 1)]))) (compG_ok (sc := defScope s_crossed) (N := N_crossed) rfl rfl (by decide +kernel)) rfl (pi_range1 rfl T.z_range (pa_cons (pv 1) pa_nil)) (fun _ _ _ hE1 => (pg_ownC (N := ["i", "rows", "size"]) (i := 0) hE1 rfl (by decide +kernel) rfl)) (fun _ _ _ hE1 => (po_el (pe_compG (xs := ["k"]) (fr := [("i", 0), ("rows", 1)]) (g := (gName 0)) (tt := (tEl (tCall (sp_cofactor K) [] E0 (tCons (tVar 2) (tCons (tVar 0) (tCons (tVar 1) tNil)))))) (compG_ok (N := ["i", "rows", "size"]) hE1 rfl (by decide +kernel)) rfl (pi_range1 rfl T.z_range (pa_cons (pv 2) pa_nil)) (fun _ _ _ hE2 => (pg_own (N := ["k", "i", "rows"]) (i := 0) hE2 rfl (by decide +kernel))) (fun _ _ _ hE2 => (po_el (pe_call G_cofactor (hr.mono (by omega)) rfl T.m_cofactor T.F_cofactor.kp T.b_cofactor .nil pass0 (pa_cons (pv 2) (pa_cons (pv 0) (pa_cons (pv 1) pa_nil))))))))))))), ?_⟩
  show tSeq _ _ _ [some (.ref a), none] H
  obtain ⟨m, rfl⟩ : ∃ m, n = m + 1 := ⟨n - 1, by omega⟩
  refine st fun N1 e1 => ?_
  walk_at "rd2"
  refine mat_len hM ?_
  rw [hs.1]
  subst e1
  walk_at "rd2"
  refine compE_st fun B eB => ?_
  simp only [iRng1]
  walk_at "rd2"
  refine ⟨by omega, by omega, fun a1 ha1 => ?_⟩
  rw [Int.toNat_natCast]
  refine cg_range (RowR a1 fun i => (List.range (m + 1)).map fun k => cofM m rows k i) ha1 (by omega) (RowR.mono (a := a1)) ?_ ?_
  ·intro i H2 zs hi s2 ez Q' hQ'
   subst eB
   show tCompG _ _ _ _ _ [some (.int (0 + (i : Int))), some (.ref a), some (.int ((m + 1 : Nat) : Int))] H2 Q'
   refine compE_st fun B eB => ?_
   simp only [iRng1]
   walk_at "rd2"
   refine ⟨by omega, by omega, fun a2 ha2 => ?_⟩
   rw [Int.toNat_natCast]
   refine cg_range (fun k y _ => k < m + 1 ∧ y = .int (cofM m rows k i)) ha2 (by omega) (fun _ _ _ _ r _ => r) ?_ ?_
   ·intro k H3 zs3 hk s3 ez3 Q2 hQ2
    subst eB
    have s03 := s2.trans s3
    show tCall _ _ _ _ [some (.int (0 + (k : Int))), some (.int (0 + (i : Int))), some (.ref a)] H3 Q2
    walk_at "rd2"
    refine ⟨b1, b2, a, rows, k, i, m, by rw [Int.zero_add, Int.zero_add], hM.up s03, hs, hk, hi, by omega, by omega, hb, fun H4 s4 => ?_⟩
    exact hQ2 _ _ s4 ⟨hk, rfl⟩
   ·intro H3 ys s3 e3 hly hr3
    have ey : ys = ((List.range (m + 1)).map fun k => cofM m rows k i).map V.int := by
     refine list_is (by simpa using hly) fun j y e => ?_
     obtain ⟨hj, rfl⟩ := hr3 j y e
     exact ⟨_, by rw [List.getElem?_map, List.getElem?_range hj]; rfl, rfl⟩
    subst ey
    exact hQ' _ _ s3 ⟨a2, rfl, Ne.symm (ne_of_none ez ha2), e3⟩
  ·intro H2 ys s2 e2 hly hr2
   have hM0 := MatL.of e2 hr2
   rw [hly] at hM0
   exact hQ a1 H2 ha1 s2 hM0

theorem deed_ix0 {H : Hp} {p : Addr} {M : List (List Int)} {ts : List Int} {u : Int} {Q : VK} (h : DeedAt K H p M ts u) (q : ∀ x, MatB true true K H x M → Q (.ref x) H) : rIxB K (.ref p) (.int 0) H Q := let ⟨x, y, h1, h2, h3⟩ := h; ⟨true, p, _, _, _, rfl, rfl, SqB.tup h1, rfl, q x h2⟩
theorem deed_ix1 {H : Hp} {p : Addr} {M : List (List Int)} {ts : List Int} {u : Int} {Q : VK} (h : DeedAt K H p M ts u) (q : ∀ x, H x = some (.tup (ts.map V.int)) → Q (.ref x) H) : rIxB K (.ref p) (.int 1) H Q := let ⟨x, y, h1, h2, h3⟩ := h; ⟨true, p, _, _, _, rfl, rfl, SqB.tup h1, rfl, q y h3⟩
theorem deed_ix2 {H : Hp} {p : Addr} {M : List (List Int)} {ts : List Int} {u : Int} {Q : VK} (h : DeedAt K H p M ts u) (q : Q (.int u) H) : rIxB K (.ref p) (.int 2) H Q := let ⟨x, y, h1, h2, h3⟩ := h; ⟨true, p, _, _, _, rfl, rfl, SqB.tup h1, rfl, q⟩
theorem copy_tupB {H : Hp} {a a1 : Addr} {M : List (List Int)} {σ : St} {Q : VK} {b1 b2 : Bool} (hM : MatB b1 b2 K H a M) (hl : M.length ≤ 1000) (ha1 : H a1 = none)
  (hQ : ∀ H1 zs, Same H H1 → H1 a1 = some (.lst zs) → (∀ l, H1 l = none → MatB true true K (upd H1 l (.tup zs)) l M) → Q (.ref a1) H1) : CompWG (Its K b1 a) (gName 0) (tEl (tCB (rTupB K) (tCons (tVar 0) tNil))) 1 [] σ a1 H Q := by
 cases b2 with
 | false =>
  refine copy_tup hM hl ha1 fun H1 s1 hT => ?_
  obtain ⟨zs, hz, _⟩ := id hT
  refine hQ H1 _ s1 hz fun l hl1 => ?_
  obtain ⟨zs', hz', hB⟩ := hT.tuple (K := K) hl1
  rw [hz] at hz'
  cases hz'
  exact hB
 | true =>
  obtain ⟨xs, x1, x2, x3⟩ := hM.walk
  refine cg_seq (fun j y _ => ∃ p r, y = .ref p ∧ M[j]? = some r ∧ SqB true K H p (r.map V.int)) ha1 x1 (by omega) (fun _ _ _ _ r _ => r) ?_ ?_
  ·intro i x H1 zs ex s1 ez Q' hQ'
   obtain ⟨p, r, rfl, er, hp⟩ := x3 i x ex
   exact ⟨_, rfl, p, _, rfl, .inr ⟨hp.up s1, hQ' _ _ (Same.refl _) ⟨p, r, rfl, er, hp⟩⟩⟩
  ·intro H1 ys s1 e1 hly hr1
   have hps : ∃ ps : List Addr, ys = ps.map V.ref := by
    clear e1 hly
    have : ∀ (zs : List V), (∀ (j : Nat) y, zs[j]? = some y → ∃ p : Addr, y = .ref p) → ∃ ps : List Addr, zs = ps.map V.ref := by
     intro zs
     induction zs with
     | nil => intro _; exact ⟨[], rfl⟩
     | cons z r ih =>
      intro hz
      obtain ⟨p, e⟩ := hz 0 z rfl
      obtain ⟨ps, e2⟩ := ih fun j y q => hz (j + 1) y (by simpa using q)
      exact ⟨p :: ps, by rw [e, e2]; rfl⟩
    exact this ys fun j y e => let ⟨p, r, e1, _⟩ := hr1 j y e; ⟨p, e1⟩
   obtain ⟨ps, rfl⟩ := hps
   refine hQ H1 _ s1 e1 fun l hl1 => ⟨ps, SqB.tup upd_same, by simp at hly; omega, fun i p r e2 e3 => ?_⟩
   obtain ⟨p', r', e4, e5, e6⟩ := hr1 i (.ref p) (by simp [e2])
   cases e4
   rw [e3] at e5
   cases e5
   exact e6.up (s1.trans (Same.new hl1))
theorem ok_joined (T : Txt K mg t) : FnOk P w K mg base CX0 1 t.a_joined t.d_joined ["rows", "spot"] (sp_joined K) := by
 refine T.F_joined.ok sc_joined (fun vs H Q E h => ?_) (fun cdv A outer s H vs Q E hr h => ?_)
 ·obtain ⟨b1, b2, a, p, M, ts, u, rfl, _⟩ := h
  rfl
 ·obtain ⟨b1, b2, a, p, M, ts, u, rfl, hM, hP, hl, hQ⟩ := h
  refine ⟨_, (pss_one (ps_ret (pe_tup (pa_cons (pe_callTy call_tupB rfl T.z_tuple (by decide +kernel) (pa_cons (pe_compG (xs := ["row"]) (fr := []) (g := (gName 0)) (tt := (tEl (tCB (rTupB K) (tCons (tVar 0) tNil)))) (compG_ok (sc := defScope s_joined) (N := N_joined) rfl rfl (by decide +kernel)) rfl (pi_seq (pv 0)) (fun _ _ _ hE1 => (pg_own (N := ["row"]) (i := 0) hE1 rfl (by decide +kernel))) (fun _ _ _ hE1 => (po_el (pe_callTy call_tupB rfl T.z_tuple (by decide +kernel) (pa_cons (pv 0) pa_nil))))) pa_nil)) (pa_cons (pe_ix ix_B (pv 1) pe_int (fun _ _ => rfl)) (pa_cons (pe_ix ix_B (pv 1) pe_int (fun _ _ => rfl)) pa_nil)))))), ?_⟩
  show tRet _ _ [some (.ref a), some (.ref p)] H
  walk_at "rd2"
  refine compE_st fun B eB => ?_
  simp only [iSeq]
  walk_at "rd2"
  obtain ⟨xs, x1, _⟩ := hM.walk
  refine ⟨b1, ⟨_, x1⟩, fun a1 ha1 => ?_⟩
  subst eB
  refine copy_tupB hM (by omega) ha1 fun H1 zs s1 hz hB => ?_
  refine ⟨a1, _, rfl, .inl ⟨SqL.of hz, fun l hl1 => ?_⟩⟩
  have s2 : Same H (upd H1 l (.tup zs)) := s1.trans (Same.new hl1)
  replace hB := hB l hl1
  generalize upd H1 l (.tup zs) = H2 at s2 hB
  refine place_ix0 (hP.up s2) fun x hx => place_ix1 (hP.up s2) ⟨(by show 3 ≤ sizeLine; decide), fun q hq => hQ q _ (s2.trans (Same.new hq)) ⟨l, x, upd_same, hB.up (Same.new hq), Same.new hq _ _ hx⟩⟩
theorem ok_moved (T : Txt K mg t) : FnOk P w K mg base CX0 3 t.a_moved t.d_moved ["one", "spot"] (sp_moved K) := by
 have G_dot : FnOk P w K mg base CX0 1 t.a_dot t.d_dot ["one", "other"] (sp_dot K) := ok_dot T
 have G_place : FnOk P w K mg base (CX1 P w) 2 t.a_place t.d_place ["tops", "under"] (sp_place K t.a_NoPlace) := ok_place T
 refine T.F_moved.ok sc_moved (fun vs H Q E h => ?_) (fun cdv A outer s H vs Q E hr h => ?_)
 ·obtain ⟨p, q, M, ts, ns, u, v, d, rfl, _⟩ := h
  rfl
 ·obtain ⟨p, q, M, ts, ns, u, v, d, rfl, hD, hP, fi, hd1, hd4, hnl, bn, hv, hv2, hQ⟩ := h
  refine ⟨_, (pss_cons (ps_setCG (i := 2) (xs := ["row", "top"]) (fr := [("one", 0), ("spot", 1)]) (g := (gTup K 2 (gCons (gName 0) (gCons (gName 1) gNil)))) (tt := (tEl (tOp (rI0 fun i j => .int (i + j)) (tOp (rI (fun i j => IntMulOk i j) fun i j => .int (i * j)) (tCall (sp_dot K) [] E0 (tCons (tVar 0) (tCons (tOp (rIxB K) (tVar 3) (tC (.int 0))) tNil))) (tOp (rIxB K) (tVar 2) (tC (.int 2)))) (tOp (rI (fun i j => IntMulOk i j) fun i j => .int (i * j)) (tVar 1) (tOp (rIxB K) (tVar 3) (tC (.int 1))))))) (compG_ok (sc := defScope s_moved) (N := N_moved) rfl rfl (by decide +kernel)) rfl sc_moved.nd rfl rfl (pi_zip rfl T.z_zip (pa_cons (pe_ix ix_B (pv 0) pe_int (fun _ _ => rfl)) (pa_cons (pe_ix ix_B (pv 0) pe_int (fun _ _ => rfl)) pa_nil))) (fun _ _ _ hE1 => (pg_tup rfl (pgs_cons (pg_own (N := ["row", "top", "one", "spot"]) (i := 0) hE1 rfl (by decide +kernel)) (pgs_cons (pg_own (N := ["row", "top", "one", "spot"]) (i := 1) hE1 rfl (by decide +kernel)) pgs_nil)))) (fun _ _ _ hE1 => (po_el (pe_op op_add (pe_op op_mulB (pe_call G_dot (hr.mono (by omega)) rfl T.m_dot T.F_dot.kp T.b_dot .nil pass0 (pa_cons (pv 0) (pa_cons (pe_ix ix_B (pv 3) pe_int (fun _ _ => rfl)) pa_nil))) (pe_ix ix_B (pv 2) pe_int (fun _ _ => rfl))) (pe_op op_mulB (pv 1) (pe_ix ix_B (pv 3) pe_int (fun _ _ => rfl)))))))
   (pss_one (ps_ret (pe_call G_place (hr.mono (by omega)) rfl T.m_place T.F_place.kp T.b_place .nil passes1 (pa_cons (pv 2) (pa_cons (pe_op op_mulB (pe_ix ix_B (pv 0) pe_int (fun _ _ => rfl)) (pe_ix ix_B (pv 1) pe_int (fun _ _ => rfl))) pa_nil)))))), ?_⟩
  show tSeq _ _ _ [some (.ref p), some (.ref q), none] H
  refine st fun N1 e1 => ?_
  walk_at "rd2"
  refine compE_st fun B eB => ?_
  simp only [iZip]
  walk_at "rd2"
  refine deed_ix0 hD fun x hx => deed_ix1 hD fun y hy => ?_
  obtain ⟨xs, x1, x2, x3⟩ := hx.walk
  refine ⟨true, true, x, rfl, y, rfl, ⟨_, x1⟩, ⟨_, SqB.tup hy⟩, fun a1 ha1 => ?_⟩
  have hraw : ∀ (i : Nat) (r : List Int) (tt : Int), M[i]? = some r → ts[i]? = some tt → (movT M ts u ns v)[i]? = some (dotI r ns * u + tt * v) := fun i r tt e1 e2 => by
   unfold movT
   rw [List.getElem?_zipWith, e1, e2]
  refine cg_zip (fun j z _ => ∃ n, (movT M ts u ns v)[j]? = some n ∧ z = .int n) ha1 x1 (SqB.tup hy) (by rw [x2, fi.sq.1, List.length_map, fi.len]) (by rw [x2, fi.sq.1]; omega) (fun _ _ _ _ r _ => r) ?_ ?_
  ·intro i zr zt H1 zs er et s1 ez Q' hQ'
   obtain ⟨pr, r, rfl, er2, hp⟩ := x3 i zr er
   obtain ⟨tt, et2, rfl⟩ := ints_at et
   have hrl : r.length = d := fi.sq.2 r (List.mem_of_getElem? er2)
   have br := fi.bm r (List.mem_of_getElem? er2)
   subst eB
   show tOp _ _ _ [some (.ref pr), some (.int tt), some (.ref p), some (.ref q)] H1 Q'
   walk_at "rd2"
   refine place_ix0 (hP.up s1) fun z hz => ?_
   refine ⟨true, true, pr, z, r, ns, rfl, hp.up s1, SqB.tup hz, by omega, by omega, fun i2 m n e1 e2 => PyProof.Rows.mulOk_of_bits (bits_of (br m (List.mem_of_getElem? e1))) (bits_of (bn n (List.mem_of_getElem? e2))) (by decide), fun H2 s2 => ?_⟩
   refine deed_ix2 (hD.up (s1.trans s2)) ?_
   walk_at "rd2"
   have hda := dot_abs r ns br bn
   have hdb : (dotI r ns).natAbs < 2 ^ 400010 := by
    have : r.length * 2 ^ (200000 + 200000) ≤ 4 * 2 ^ (200000 + 200000) := Nat.mul_le_mul_right _ (by omega)
    have e : (2 : Nat) ^ 400010 = 1024 * 2 ^ (200000 + 200000) := by rw [show (400010 : Nat) = 10 + (200000 + 200000) from rfl, Nat.pow_add]
    have := Nat.two_pow_pos (200000 + 200000)
    omega
   refine ⟨PyProof.Rows.mulOk_of_bits (bits_of hdb) (bits_of (bits150 fi.pos fi.bu)) (by decide), ?_⟩
   refine place_ix1 (hP.up (s1.trans s2)) ?_
   walk_at "rd2"
   refine ⟨PyProof.Rows.mulOk_of_bits (bits_of (fi.bt tt (List.mem_of_getElem? et2))) (bits_of (bits150 hv hv2)) (by decide), ?_⟩
   exact hQ' _ _ s2 ⟨_, hraw i r tt er2 et2, rfl⟩
  ·intro H1 zs s1 ez1 hlz hr1
   have hml : (movT M ts u ns v).length = d := by unfold movT; rw [List.length_zipWith, fi.sq.1, fi.len]; omega
   have ey : zs = (movT M ts u ns v).map V.int := list_is (by rw [hlz, x2, fi.sq.1, hml]) hr1
   subst ey
   subst e1
   walk_at "rd2"
   refine deed_ix2 (hD.up s1) ?_
   refine place_ix1 (hP.up s1) ?_
   walk_at "rd2"
   have hsp := small_prod fi.pos fi.bu hv hv2
   refine ⟨PyProof.Rows.mulOk_of_bits (bits_of (bits150 fi.pos fi.bu)) (bits_of (bits150 hv hv2)) (by decide), ?_⟩
   refine ⟨false, a1, _, _, rfl, SqB.lst ez1, by omega, hsp.1, fun z => ?_, fun _ _ r H2 s2 hR => hQ r H2 (s1.trans s2) hR⟩
   rcases z with z | z
   ·omega
   ·rw [z] at hml; simp at hml; omega
theorem ok_behind (T : Txt K mg t) : FnOk P w K mg base CX0 4 t.a_behind t.d_behind ["one", "other"] (sp_behind K) := by
 have G_dot : FnOk P w K mg base CX0 1 t.a_dot t.d_dot ["one", "other"] (sp_dot K) := ok_dot T
 have G_turned : FnOk P w K mg base CX0 1 t.a_turned t.d_turned ["rows"] (sp_turned K) := ok_turned T
 have G_moved : FnOk P w K mg base CX0 3 t.a_moved t.d_moved ["one", "spot"] (sp_moved K) := ok_moved T
 have G_joined : FnOk P w K mg base CX0 1 t.a_joined t.d_joined ["rows", "spot"] (sp_joined K) := ok_joined T
 refine T.F_behind.ok sc_behind (fun vs H Q E h => ?_) (fun cdv A outer s H vs Q E hr h => ?_)
 ·obtain ⟨p, q, M, N, ts, ns, u, v, d, rfl, _⟩ := h
  rfl
 ·obtain ⟨p, q, M, N, ts, ns, u, v, d, rfl, hD, hE, f1, f2, hd1, hd4, hQ⟩ := h
  refine ⟨_, (pss_cons (ps_set (i := 2) sc_behind.nd rfl (Or.inr rfl) (pe_call G_turned (hr.mono (by omega)) rfl T.m_turned T.F_turned.kp T.b_turned .nil pass0 (pa_cons (pe_ix ix_B (pv 0) pe_int (fun _ _ => rfl)) pa_nil)))
   (pss_cons (ps_setCG (i := 3) (xs := ["row"]) (fr := [("columns", 2)]) (g := (gName 0)) (tt := (tEl (tCompG (iSeq K (tVar 1)) (gName 0) (tEl (tCall (sp_dot K) [] E0 (tCons (tVar 1) (tCons (tVar 0) tNil)))) 1 [("row", 0)]))) (compG_ok (sc := defScope s_behind) (N := N_behind) rfl rfl (by decide +kernel)) rfl sc_behind.nd rfl rfl (pi_seq (pe_ix ix_B (pv 1) pe_int (fun _ _ => rfl))) (fun _ _ _ hE1 => (pg_ownC (N := ["row", "columns"]) (i := 0) hE1 rfl (by decide +kernel) rfl)) (fun _ _ _ hE1 => (po_el (pe_compG (xs := ["column"]) (fr := [("row", 0)]) (g := (gName 0)) (tt := (tEl (tCall (sp_dot K) [] E0 (tCons (tVar 1) (tCons (tVar 0) tNil))))) (compG_ok (N := ["row", "columns"]) hE1 rfl (by decide +kernel)) rfl (pi_seq (pv 1)) (fun _ _ _ hE2 => (pg_own (N := ["column", "row"]) (i := 0) hE2 rfl (by decide +kernel))) (fun _ _ _ hE2 => (po_el (pe_call G_dot (hr.mono (by omega)) rfl T.m_dot T.F_dot.kp T.b_dot .nil pass0 (pa_cons (pv 1) (pa_cons (pv 0) pa_nil)))))))))
   (pss_one (ps_ret (pe_call G_joined (hr.mono (by omega)) rfl T.m_joined T.F_joined.kp T.b_joined .nil pass0 (pa_cons (pv 3) (pa_cons (pe_call G_moved (hr.mono (by omega)) rfl T.m_moved T.F_moved.kp T.b_moved .nil pass0 (pa_cons (pv 1) (pa_cons (pe_tup (pa_cons (pe_ix ix_B (pv 0) pe_int (fun _ _ => rfl)) (pa_cons (pe_ix ix_B (pv 0) pe_int (fun _ _ => rfl)) pa_nil))) pa_nil))) pa_nil))))))), ?_⟩
  show tSeq _ _ _ [some (.ref p), some (.ref q), none, none] H
  refine st fun N1 e1 => ?_
  walk_at "rd2"
  have hne : M ≠ [] := fun z => by have := f1.sq.1; rw [z] at this; simp at this; omega
  refine deed_ix0 hD fun x hx => ⟨true, true, x, M, d, rfl, hx, hne, f1.sq.2, by omega, by rw [f1.sq.1]; omega, fun c H1 hc s1 hC => ?_⟩
  subst e1
  refine st fun N1 e1 => ?_
  walk_at "rd2"
  refine compE_st fun B eB => ?_
  simp only [iSeq]
  walk_at "rd2"
  refine deed_ix0 (hE.up s1) fun y hy => ?_
  obtain ⟨xs, x1, x2, x3⟩ := hy.walk
  refine ⟨true, y, rfl, ⟨_, x1⟩, fun a1 ha1 => ?_⟩
  refine cg_seq (RowR a1 fun j => (List.range d).map fun k => dotI (N.getD j []) (colI k M)) ha1 x1 (by rw [x2, f2.sq.1]; omega) (RowR.mono (a := a1)) ?_ ?_
  ·intro i x H2 zs ex s2 ez Q' hQ'
   obtain ⟨pr, r, rfl, er, hp⟩ := x3 i x ex
   have erD : N.getD i [] = r := by rw [List.getD_eq_getElem?_getD, er]; rfl
   have hrl : r.length = d := f2.sq.2 r (List.mem_of_getElem? er)
   have br := f2.bm r (List.mem_of_getElem? er)
   subst eB
   show tCompG _ _ _ _ _ [some (.ref pr), some (.ref c)] H2 Q'
   refine compE_st fun B eB => ?_
   simp only [iSeq]
   walk_at "rd2"
   obtain ⟨zs2, z1, z2, z3⟩ := ((hC.up s2).b (K := K)).walk
   refine ⟨false, ⟨_, z1⟩, fun a2 ha2 => ?_⟩
   have hlen : (turnM d M).length = d := by simp [turnM]
   refine cg_seq (fun j y _ => y = .int (dotI r (colI j M)) ∧ j < d) ha2 z1 (by omega) (fun _ _ _ _ r _ => r) ?_ ?_
   ·intro j y H3 zs3 ey s3 ez3 Q2 hQ2
    obtain ⟨q2, col, rfl, ec, hq⟩ := z3 j y ey
    have hj : j < d := by have := (List.getElem?_eq_some_iff.mp ec).1; omega
    have ecol : col = colI j M := by
     unfold turnM at ec
     rw [List.getElem?_map, List.getElem?_range hj] at ec
     exact (Option.some.inj ec).symm
    subst eB ecol
    show tCall _ _ _ _ [some (.ref q2), some (.ref pr)] H3 Q2
    walk_at "rd2"
    refine ⟨true, false, pr, q2, r, colI j M, rfl, (hp.up s2).up s3, hq.up s3, by simp [colI, hrl, f1.sq.1], by omega, fun i2 m n e1 e2 => ?_, fun H4 s4 => hQ2 _ _ s4 ⟨rfl, hj⟩⟩
    unfold colI at e2
    rw [List.getElem?_map] at e2
    cases eb : M[i2]? with
    | none => rw [eb] at e2; cases e2
    | some rb =>
     rw [eb] at e2
     have e2' : rb.getD j 0 = n := Option.some.inj e2
     subst e2'
     have hrb := List.mem_of_getElem? eb
     exact PyProof.Rows.mulOk_of_bits (bits_of (br m (List.mem_of_getElem? e1))) (bits_of (f1.bm rb hrb _ (L2.getD_mem (by rw [f1.sq.2 rb hrb]; exact hj)))) (by decide)
   ·intro H3 ys s3 e3 hly hr3
    have ey : ys = ((List.range d).map fun k => dotI r (colI k M)).map V.int := by
     refine list_is (by simp; omega) fun j y e => ?_
     obtain ⟨rfl, hj⟩ := hr3 j y e
     exact ⟨_, by rw [List.getElem?_map, List.getElem?_range hj]; rfl, rfl⟩
    subst ey
    exact hQ' _ _ s3 ⟨a2, rfl, Ne.symm (ne_of_none ez ha2), by dsimp only; rw [erD]; exact e3⟩
  ·intro H2 ys s2 e2 hly hr2
   have hR := MatL.of e2 hr2
   have e : (List.range ys.length).map (fun j => (List.range d).map fun k => dotI (N.getD j []) (colI k M)) = mulM d N M := by
    rw [hly, x2]
    unfold mulM
    refine List.ext_getElem (by simp) fun i h1 h2 => ?_
    simp at h1
    simp [h1]
   rw [e] at hR
   have s02 := s1.trans s2
   subst e1
   walk_at "rd2"
   refine deed_ix1 (hD.up s02) fun z hz => deed_ix2 (hD.up s02) ⟨(by show 2 ≤ sizeLine; decide), fun l hl1 => ?_⟩
   have s3 : Same H2 (upd H2 l (.tup [.ref z, .int u])) := Same.new hl1
   refine ⟨q, l, N, ns, ts, v, u, d, rfl, (hE.up s02).up s3, ⟨z, upd_same, s3 _ _ hz⟩, f2, hd1, hd4, f1.len, f1.bt, f1.pos, f1.bu, fun r H4 s4 hP => ?_⟩
   exact ⟨false, false, a1, r, _, _, _, rfl, ((hR.up s3).up s4).b, hP, by simp [mulM, f2.sq.1]; omega, fun q' H5 s5 hq => hQ q' H5 (((s02.trans s3).trans s4).trans s5) hq⟩

noncomputable def GoodDeed (rows : List (List Int)) (tops : List Int) (u : Int) : Prop := (rows.length = 2 ∨ rows.length = 3) ∧ (∀ r ∈ rows, r.length = rows.length) ∧ tops.length = rows.length ∧ u ≠ 0 ∧ (detM rows.length rows = 1 ∨ detM rows.length rows = -1)
noncomputable def sp_deed (K : PySem.W.Frag) (C : Addr) : Sp := fun vs H Q E => ∃ (b1 b2 b3 : Bool) (a p : Addr) (rows : List (List Int)) (tops : List Int) (u : Int) (B : Nat), vs = [.ref a, .ref p, .int u] ∧ MatB b1 b2 K H a rows ∧ SqB b3 K H p (tops.map V.int) ∧ rows.length ≤ 100 ∧ tops.length ≤ 100 ∧ BitsM B rows ∧ B ≤ 1000000 ∧ small u ∧
 (¬ GoodDeed rows tops u → ∀ H', Same H H' → E (.ref C) none H') ∧ (GoodDeed rows tops u → ∀ q H', Same H H' → DeedAt K H' q rows (redT u tops) (redU u tops) → Q (.ref q) H')
theorem inV2 (L x y : Int) : inV (.int L) [.int x, .int y] = decide (L = x ∨ L = y) := by
 have e : inV (.int L) [.int x, .int y] = (eqV (.int x) (.int L) || (eqV (.int y) (.int L) || false)) := rfl
 have f : ∀ a b : Int, eqV (.int a) (.int b) = decide (a = b) := fun a b => by
  first | rfl | (unfold eqV; rfl) | (simp only [eqV]; by_cases h : a = b <;> simp [h])
 rw [e, f, f, Bool.or_false]
 by_cases h1 : x = L
 ·rw [decide_eq_true h1, decide_eq_true (p := L = x ∨ L = y) (Or.inl h1.symm)]; rfl
 ·rw [decide_eq_false h1]
  by_cases h2 : y = L
  ·rw [decide_eq_true h2, decide_eq_true (p := L = x ∨ L = y) (Or.inr h2.symm)]; rfl
  ·rw [decide_eq_false h2, decide_eq_false (p := L = x ∨ L = y) (by omega)]; rfl
theorem sp_det_mk {H : Hp} {Q : VK} {E : XK} {b1 b2 : Bool} {a : Addr} {rows : List (List Int)} {n B : Nat} (h1 : 1 ≤ n) (h3 : n ≤ 4) (hM : MatB b1 b2 K H a rows) (sq : Sq n rows) (hb : BitsM B rows) (hB : B ≤ 1000000) (q : ∀ H', Same H H' → Q (.int (detM n rows)) H') : sp_determinant K n [.ref a] H Q E := by
 match n, h1, h3, sq, q with
 | m + 1, _, h3, sq, q => exact ⟨b1, b2, a, rows, B, rfl, hM, sq, by omega, hb, hB, q⟩
theorem ok_deed (T : Txt K mg t) : FnOk P w K mg base (CX1 P w) 6 t.a_deed t.d_deed ["rows", "tops", "under"] (sp_deed K t.a_NoDeed) := by
 have G_place : FnOk P w K mg base (CX1 P w) 2 t.a_place t.d_place ["tops", "under"] (sp_place K t.a_NoPlace) := ok_place T
 have G_joined : FnOk P w K mg base CX0 1 t.a_joined t.d_joined ["rows", "spot"] (sp_joined K) := ok_joined T
 refine T.F_deed.okX sc_deed (fun vs H Q E h => ?_) (fun cdv A outer s H vs Q E hr h => ?_)
 ·obtain ⟨b1, b2, b3, a, p, rows, tops, u, B, rfl, _⟩ := h
  rfl
 ·obtain ⟨b1, b2, b3, a, p, rows, tops, u, B, rfl, hM, hS, hl1, hl2, hB, hB1, su, hE, hQ⟩ := h
  obtain ⟨n, hn3, hn⟩ : ∃ n : Nat, n ≤ 3 ∧ ((rows.length = 2 ∨ rows.length = 3) → n = rows.length) := by
   by_cases z : rows.length = 2 ∨ rows.length = 3
   ·exact ⟨rows.length, by omega, fun _ => rfl⟩
   ·exact ⟨0, by omega, fun h => absurd h z⟩
  have G_determinant : FnOk P w K mg base CX0 (n + 1) t.a_determinant t.d_determinant ["rows"] (sp_determinant K n) := ok_determinant T n
  refine ⟨_, (pss_cons (ps_set (i := 3) sc_deed.nd rfl (Or.inr rfl) (pe_callB call_lenB rfl T.z_len (by decide +kernel) (pa_cons (pv 0) pa_nil)))
   (pss_cons (ps_if (pt_cmpR op_notIn_seq (pv 3) (pe_tup (pa_cons pe_int (pa_cons pe_int pa_nil))) rfl)
   (pss_one (ps_raise rfl landsN_def rfl T.m_NoDeed T.x_NoDeed PySem.F.excBase_ValueError (pa_cons pe_str pa_nil)))
   pss_nil)
   (pss_cons (ps_if (PW.pt (pw_or (pt_val (pe_callB (call_any rfl) rfl T.z_any (by decide +kernel) (pa_cons (pe_compG (xs := ["row"]) (fr := [("axes", 3)]) (g := (gName 0)) (tt := (tEl (tOp (rI0 fun i j => .bl (!decide (i = j))) (tCB (rLenB K) (tCons (tVar 0) tNil)) (tVar 1)))) (compG_ok (sc := defScope s_deed) (N := N_deed) rfl rfl (by decide +kernel)) rfl (pi_seq (pv 0)) (fun _ _ _ hE1 => (pg_own (N := ["row", "axes"]) (i := 0) hE1 rfl (by decide +kernel))) (fun _ _ _ hE1 => (po_el (pe_cmpR op_neZ (pe_callB call_lenB rfl T.z_len (by decide +kernel) (pa_cons (pv 0) pa_nil)) (pv 1) (nomark _))))) pa_nil))) (pw_or1 (pt_cmpR op_neZ (pe_callB call_lenB rfl T.z_len (by decide +kernel) (pa_cons (pv 1) pa_nil)) (pv 3) (nomark _)))))
   (pss_one (ps_raise rfl landsN_def rfl T.m_NoDeed T.x_NoDeed PySem.F.excBase_ValueError (pa_cons pe_str pa_nil)))
   pss_nil)
   (pss_cons (ps_if (pt_cmpR op_eqZ (pv 2) pe_int (nomark _))
   (pss_one (ps_raise rfl landsN_def rfl T.m_NoDeed T.x_NoDeed PySem.F.excBase_ValueError (pa_cons pe_str pa_nil)))
   pss_nil)
   (pss_cons (ps_if (pt_cmpR op_notIn_seq (pe_call G_determinant (hr.mono (by omega)) rfl T.m_determinant T.F_determinant.kp T.b_determinant .nil pass0 (pa_cons (pv 0) pa_nil)) (pe_tup (pa_cons pe_int (pa_cons (pe_un un_neg pe_int) pa_nil))) rfl)
   (pss_one (ps_raise rfl landsN_def rfl T.m_NoDeed T.x_NoDeed PySem.F.excBase_ValueError (pa_cons pe_str pa_nil)))
   pss_nil)
   (pss_one (ps_ret (pe_call G_joined (hr.mono (by omega)) rfl T.m_joined T.F_joined.kp T.b_joined .nil pass0 (pa_cons (pv 0) (pa_cons (pe_call G_place (hr.mono (by omega)) rfl T.m_place T.F_place.kp T.b_place .nil passes1 (pa_cons (pv 1) (pa_cons (pv 2) pa_nil))) pa_nil)))))))))), ?_⟩
  show tSeq _ _ _ [some (.ref a), some (.ref p), some (.int u), none] H
  refine st fun N1 e1 => ?_
  walk_at "rd2"
  refine mat_len hM ?_
  subst e1
  refine st fun N1 e1 => ?_
  simp only [tRaise]
  walk_at "rd2"
  refine ⟨by show 2 ≤ sizeLine; decide, fun p1 hp1 => ?_⟩
  have s1 : Same H (upd H p1 (.tup [.int 2, .int 3])) := Same.new hp1
  refine ⟨p1, _, rfl, .inr (SqT.of upd_same), rfl, rfl, _, rfl, ?_⟩
  generalize upd H p1 (.tup [.int 2, .int 3]) = H1 at s1
  rw [inV2]
  by_cases hax : rows.length = 2 ∨ rows.length = 3
  case neg =>
   rw [decide_eq_false (by omega)]
   refine iteT ?_
   simp only [tRaise]
   walk_at "rd2"
   exact ⟨by decide, hE (fun g => hax g.1) _ s1⟩
  rw [decide_eq_true (by omega)]
  refine iteF ?_
  replace hn := hn hax
  subst hn
  subst e1
  refine st fun N1 e1 => ?_
  walk_at "rd2"
  refine compE_st fun C eC => ?_
  simp only [iSeq]
  walk_at "rd2"
  obtain ⟨xs, x1, x2, x3⟩ := (hM.up s1).walk
  refine ⟨b1, ⟨_, x1⟩, fun a1 ha1 => ?_⟩
  refine cg_seq (fun j y _ => ∃ r, rows[j]? = some r ∧ y = .bl (!decide (r.length = rows.length))) ha1 x1 (by omega) (fun _ _ _ _ r _ => r) ?_ ?_
  ·intro i x H2 zs ex s2 ez Q' hQ'
   obtain ⟨pr, rr, rfl, er, hp⟩ := x3 i x ex
   subst eC
   show tOp _ _ _ [some (.ref pr), some (.int rows.length)] H2 Q'
   walk_at "rd2"
   refine ints_len (hp.up s2) ?_
   try walk_at "rd2"
   refine hQ' _ _ (Same.refl _) ⟨rr, er, ?_⟩
   by_cases z : rr.length = rows.length
   ·rw [decide_eq_true z, decide_eq_true (by omega)]
   ·rw [decide_eq_false z, decide_eq_false (by omega)]
  ·intro H2 ys s2 e2 hly hr2
   have ey : ys = (rows.map fun r => !decide (r.length = rows.length)).map V.bl := by
    rw [List.map_map]
    exact list_is (by omega) hr2
   subst ey
   refine ⟨a1, rfl, _, SqL.of e2, ?_⟩
   try walk_at "rd2"
   have s02 := s1.trans s2
   by_cases hsq : ∀ r ∈ rows, r.length = rows.length
   case neg =>
    have hany : (rows.map fun r => !decide (r.length = rows.length)).any id = true := by
     rw [List.any_eq_true]
     obtain ⟨r, hr⟩ := Classical.not_forall.mp hsq
     obtain ⟨hr1, hr2⟩ := Classical.not_imp.mp hr
     exact ⟨true, List.mem_map.mpr ⟨r, hr1, by rw [decide_eq_false hr2]; rfl⟩, rfl⟩
    rw [hany]
    refine iteT ?_
    simp only [tRaise]
    walk_at "rd2"
    exact ⟨by decide, hE (fun g => hsq g.2.1) _ s02⟩
   have hany : (rows.map fun r => !decide (r.length = rows.length)).any id = false := by
    rw [List.any_eq_false]
    intro b hb
    obtain ⟨r, hr, rfl⟩ := List.mem_map.mp hb
    rw [decide_eq_true (hsq r hr)]
    decide
   rw [hany]
   refine iteF ?_
   refine ints_len (hS.up s02) ?_
   try walk_at "rd2"
   by_cases htl : tops.length = rows.length
   case neg =>
    rw [decide_eq_false (by omega)]
    refine iteT ?_
    simp only [tRaise]
    walk_at "rd2"
    exact ⟨by decide, hE (fun g => htl g.2.2.1) _ s02⟩
   rw [decide_eq_true (by omega)]
   refine iteF ?_
   subst e1
   refine st fun N1 e1 => ?_
   simp only [tRaise]
   walk_at "rd2"
   refine ite2 (fun z => ⟨by decide, hE (fun g => g.2.2.2.1 (of_decide_eq_true z)) _ s02⟩) (fun z => ?_)
   have hu : u ≠ 0 := fun q => z (decide_eq_true q)
   subst e1
   refine st fun N1 e1 => ?_
   walk_at "rd2"
   refine sp_det_mk (by omega) (by omega) (hM.up s02) ⟨rfl, hsq⟩ hB hB1 fun H3 s3 => ?_
   try walk_at "rd2"
   refine ⟨by show 2 ≤ sizeLine; decide, fun p2 hp2 => ?_⟩
   have s4 : Same H3 (upd H3 p2 (.tup [.int 1, .int (-1)])) := Same.new hp2
   refine ⟨p2, _, rfl, .inr (SqT.of upd_same), rfl, rfl, _, rfl, ?_⟩
   generalize upd H3 p2 (.tup [.int 1, .int (-1)]) = H4 at s4
   have s04 := (s02.trans s3).trans s4
   rw [inV2]
   by_cases hdt : detM rows.length rows = 1 ∨ detM rows.length rows = -1
   case neg =>
    rw [decide_eq_false hdt]
    refine iteT ?_
    simp only [tRaise]
    walk_at "rd2"
    exact ⟨by decide, hE (fun g => hdt g.2.2.2.2) _ s04⟩
   rw [decide_eq_true hdt]
   refine iteF ?_
   subst e1
   walk_at "rd2"
   refine ⟨b3, p, tops, u, rfl, hS.up s04, hl2, su, fun z => ?_, fun _ _ sp H5 s5 hP => ⟨b1, b2, a, sp, rows, _, _, rfl, hM.up (s04.trans s5), hP, hl1, fun q H6 s6 hq => hQ ⟨hax, hsq, htl, hu, hdt⟩ q H6 ((s04.trans s5).trans s6) hq⟩⟩
   rcases z with z | z
   ·exact absurd z hu
   ·rw [z] at htl
    simp at htl
    omega
theorem small_one : small 1 := small_lt (B := 1) (by decide) (by decide)
theorem ok_inverse (T : Txt K mg t) : FnOk P w K mg base CX0 7 t.a_inverse t.d_inverse ["rows"] (sp_inverse K) := by
 have G_crossed : FnOk P w K mg base CX0 6 t.a_crossed t.d_crossed ["rows"] (sp_crossed K) := ok_crossed T
 have G_scaled : FnOk P w K mg base CX0 1 t.a_scaled t.d_scaled ["rows", "count"] (sp_scaled K) := ok_scaled T
 refine T.F_inverse.ok sc_inverse (fun vs H Q E h => ?_) (fun cdv A outer s H vs Q E hr h => ?_)
 ·obtain ⟨b1, b2, a, rows, n, rfl, _⟩ := h
  rfl
 ·obtain ⟨b1, b2, a, rows, n, rfl, hM, hs, hn2, hn4, hb, hQ⟩ := h
  have G_determinant : FnOk P w K mg base CX0 (n + 1) t.a_determinant t.d_determinant ["rows"] (sp_determinant K n) := ok_determinant T n
  refine ⟨_, (pss_one (ps_ret (pe_call G_scaled (hr.mono (by omega)) rfl T.m_scaled T.F_scaled.kp T.b_scaled .nil pass0 (pa_cons (pe_call G_crossed (hr.mono (by omega)) rfl T.m_crossed T.F_crossed.kp T.b_crossed .nil pass0 (pa_cons (pv 0) pa_nil)) (pa_cons (pe_call G_determinant (hr.mono (by omega)) rfl T.m_determinant T.F_determinant.kp T.b_determinant .nil pass0 (pa_cons (pv 0) pa_nil)) pa_nil))))), ?_⟩
  show tRet _ _ [some (.ref a)] H
  obtain ⟨m, rfl⟩ : ∃ m, n = m + 1 := ⟨n - 1, by omega⟩
  walk_at "rd2"
  refine ⟨b1, b2, a, rows, m + 1, rfl, hM, hs, hn2, hn4, hb.le (by decide), fun r H1 hn s1 hR => ?_⟩
  refine ⟨b1, b2, a, rows, 1000, rfl, hM.up s1, hs, by omega, hb, by decide, fun H2 s2 => ?_⟩
  have hq : Sq (m + 1) (crsM (m + 1) rows) := crs_sq
  refine ⟨false, false, r, crsM (m + 1) rows, detM (m + 1) rows, rfl, (hR.up s2).b, by rw [hq.1]; omega, fun r' hr' => by rw [hq.2 r' hr']; omega, fun r' hr' x hx => ?_, fun q H3 hq3 s3 hR3 => ?_⟩
  ·have w1 : (m + 1) * (1000 + 2) ≤ 4 * 1002 := Nat.mul_le_mul hn4 (by omega)
   exact PyProof.Rows.mulOk_of_bits (bits_of (det_lt (C := 4500) (by omega) hn4 hs hb (by omega))) (bits_of (crs_bits hn2 hn4 hs hb r' hr' x hx)) (by decide)
  ·have e : (crsM (m + 1) rows).map (fun r => r.map (detM (m + 1) rows * ·)) = invM (m + 1) rows := crs_inv
   rw [e] at hR3
   have hn' : H q = none := by cases w : H q with | none => rfl | some o => rw [(s1.trans s2) _ _ w] at hq3; cases hq3
   exact hQ q H3 hn' ((s1.trans s2).trans s3) hR3
theorem ok_back (T : Txt K mg t) : FnOk P w K mg base CX0 8 t.a_back t.d_back ["one"] (sp_back K) := by
 have G_dot : FnOk P w K mg base CX0 1 t.a_dot t.d_dot ["one", "other"] (sp_dot K) := ok_dot T
 have G_inverse : FnOk P w K mg base CX0 7 t.a_inverse t.d_inverse ["rows"] (sp_inverse K) := ok_inverse T
 have G_place : FnOk P w K mg base (CX1 P w) 2 t.a_place t.d_place ["tops", "under"] (sp_place K t.a_NoPlace) := ok_place T
 have G_joined : FnOk P w K mg base CX0 1 t.a_joined t.d_joined ["rows", "spot"] (sp_joined K) := ok_joined T
 refine T.F_back.ok sc_back (fun vs H Q E h => ?_) (fun cdv A outer s H vs Q E hr h => ?_)
 ·obtain ⟨p, M, ts, u, n, rfl, _⟩ := h
  rfl
 ·obtain ⟨p, M, ts, u, n, rfl, hD, fi, hbm, hbt, hn2, hn4, hQ⟩ := h
  refine ⟨_, (pss_cons (ps_set (i := 1) sc_back.nd rfl (Or.inl rfl) (pe_call G_inverse (hr.mono (by omega)) rfl T.m_inverse T.F_inverse.kp T.b_inverse .nil pass0 (pa_cons (pe_ix ix_B (pv 0) pe_int (fun _ _ => rfl)) pa_nil)))
   (pss_one (ps_ret (pe_call G_joined (hr.mono (by omega)) rfl T.m_joined T.F_joined.kp T.b_joined .nil pass0 (pa_cons (pv 1) (pa_cons (pe_call G_place (hr.mono (by omega)) rfl T.m_place T.F_place.kp T.b_place .nil passes1 (pa_cons (pe_compG (xs := ["row"]) (fr := [("one", 0)]) (g := (gName 0)) (tt := (tEl (tUn (rU fun i => .int (-i)) (tCall (sp_dot K) [] E0 (tCons (tVar 0) (tCons (tOp (rIxB K) (tVar 1) (tC (.int 1))) tNil)))))) (compG_ok (sc := defScope s_back) (N := N_back) rfl rfl (by decide +kernel)) rfl (pi_seq (pv 1)) (fun _ _ _ hE1 => (pg_own (N := ["row", "one"]) (i := 0) hE1 rfl (by decide +kernel))) (fun _ _ _ hE1 => (po_el (pe_un un_neg (pe_call G_dot (hr.mono (by omega)) rfl T.m_dot T.F_dot.kp T.b_dot .nil pass0 (pa_cons (pv 0) (pa_cons (pe_ix ix_B (pv 1) pe_int (fun _ _ => rfl)) pa_nil))))))) (pa_cons (pe_ix ix_B (pv 0) pe_int (fun _ _ => rfl)) pa_nil))) pa_nil)))))), ?_⟩
  show tSeq _ _ _ [some (.ref p), none] H
  refine st fun N1 e1 => ?_
  walk_at "rd2"
  refine deed_ix0 hD fun x hx => ⟨true, true, x, M, n, rfl, hx, fi.sq, hn2, hn4, hbm, fun r H1 _ s1 hR => ?_⟩
  subst e1
  walk_at "rd2"
  refine compE_st fun B eB => ?_
  simp only [iSeq]
  walk_at "rd2"
  obtain ⟨xs, x1, x2, x3⟩ := (hR.b (K := K)).walk
  have iS : Sq n (invM n M) := inv_sq
  refine ⟨false, ⟨_, x1⟩, fun a1 ha1 => ?_⟩
  refine cg_seq (fun j y _ => ∃ z, (backT n M ts)[j]? = some z ∧ y = .int z) ha1 x1 (by rw [x2, iS.1]; omega) (fun _ _ _ _ r _ => r) ?_ ?_
  ·intro i x H2 zs ex s2 ez Q' hQ'
   obtain ⟨pr, rr, rfl, er, hp⟩ := x3 i x ex
   have hrl : rr.length = n := iS.2 rr (List.mem_of_getElem? er)
   have br := inv_bits hn2 hn4 fi.sq hbm rr (List.mem_of_getElem? er)
   subst eB
   show tUn _ _ [some (.ref pr), some (.ref p)] H2 Q'
   walk_at "rd2"
   refine deed_ix1 (hD.up (s1.trans s2)) fun z hz => ?_
   refine ⟨false, true, pr, z, rr, ts, rfl, hp.up s2, SqB.tup hz, by rw [hrl, fi.len], by omega, fun i2 m k e1 e2 => PyProof.Rows.mulOk_of_bits (bits_of (br m (List.mem_of_getElem? e1))) (bits_of (hbt k (List.mem_of_getElem? e2))) (by decide), fun H3 s3 => ?_⟩
   walk_at "rd2"
   exact hQ' _ _ s3 ⟨_, by unfold backT; rw [List.getElem?_map, er]; rfl, rfl⟩
  ·intro H2 ys s2 e2 hly hr2
   have hbl : (backT n M ts).length = n := by unfold backT; rw [List.length_map, iS.1]
   have ey : ys = (backT n M ts).map V.int := list_is (by rw [hly, x2, iS.1, hbl]) hr2
   subst ey
   have s02 := s1.trans s2
   refine deed_ix2 (hD.up s02) ?_
   have hsm : small u := small_lt (bits150 fi.pos fi.bu) (by decide)
   refine ⟨false, a1, _, u, rfl, SqB.lst e2, by omega, hsm, fun z => ?_, fun _ _ q H3 s3 hP => ?_⟩
   ·rcases z with z | z
    ·have := fi.pos; omega
    ·rw [z] at hbl; simp at hbl; omega
   ·exact ⟨false, false, r, q, _, _, _, rfl, ((hR.up s2).up s3).b, hP, by rw [iS.1]; omega, fun q' H4 s4 hq => hQ q' H4 ((s02.trans s3).trans s4) hq⟩

theorem ok_multiple (T : Txt K mg t) : FnOk P w K mg base CX0 2 t.a_multiple t.d_multiple ["numbers"] (sp_multiple K) := by
 have G_divisor : FnOk P w K mg base CX0 1 t.a_divisor t.d_divisor ["one", "other"] sp_divisor := ok_divisor T
 refine T.F_multiple.ok sc_multiple (fun vs H Q E h => ?_) (fun cdv A outer s H vs Q E hr h => ?_)
 ·obtain ⟨b, p, ns, rfl, _⟩ := h
  rfl
 ·obtain ⟨b, p, ns, rfl, hS, hl, hn, hQ⟩ := h
  refine ⟨_, (pss_cons (ps_set (i := 1) sc_multiple.nd rfl (Or.inl rfl) pe_int)
   (pss_cons (ps_for PassesOwn.never rfl (pi_seq (pv 0)) (pg_name (i := 2) sc_multiple.nd rfl (Or.inl rfl))
   (pss_one (ps_set (i := 1) sc_multiple.nd rfl (Or.inl rfl) (pe_op op_mulB (pe_op op_fdivB (pv 1) (pe_call G_divisor (hr.mono (by omega)) rfl T.m_divisor T.F_divisor.kp T.b_divisor .nil pass0 (pa_cons (pv 1) (pa_cons (pv 2) pa_nil)))) (pe_callB call_abs rfl T.z_abs (by decide +kernel) (pa_cons (pv 2) pa_nil))))))
   (pss_one (ps_ret (pv 1))))), ?_⟩
  show tSeq _ _ _ [some (.ref p), none, none] H
  refine st fun N1 e1 => ?_
  try walk_at "rd2"
  subst e1
  refine st fun N1 e1 => for_st fun B eB => ?_
  simp only [iSeq]
  try walk_at "rd2"
  refine ⟨b, ⟨_, hS⟩, ?_⟩
  refine fr_seq (g := gName 2) (tb := B) (fun i σ H1 => ∃ (L : Int) (v : Option V), σ = [some (.ref p), some (.int L), v] ∧ H1 = H ∧ 0 < L ∧ (∀ n ∈ ns.take i, n ∣ L) ∧ (∀ D : Int, (∀ n ∈ ns.take i, n ∣ D) → L ∣ D) ∧ bnd (1800 * i + 1) L)
   ⟨1, _, rfl, rfl, by decide, fun n hn => by simp at hn, fun D _ => ⟨D, by omega⟩, by unfold bnd; decide⟩ (fun i σ H1 _ ⟨_, _, _, e, _⟩ => e ▸ hS) ?_ ?_
  ·rintro i x σ H1 hi ⟨L, v, rfl, rfl, h0, h1, h2, h3⟩
   obtain ⟨n, en, rfl⟩ := ints_at hi
   have hi3 : i < ns.length := (List.getElem?_eq_some_iff.mp en).1
   obtain ⟨pn, bn⟩ := hn n (List.mem_of_getElem? en)
   subst eB
   try walk_at "rd2"
   simp only [rd_gcd]
   try walk_at "rd2"
   have g1 : gcdI L n ∣ L := Int.gcd_dvd_left ..
   have g2 : gcdI L n ∣ n := Int.gcd_dvd_right ..
   have g0 : 0 < gcdI L n := by
    have : 0 ≤ gcdI L n := Int.natCast_nonneg _
    rcases Int.lt_or_eq_of_le this with q | q
    ·exact q
    ·rw [← q] at g2; obtain ⟨c, e⟩ := g2; rw [Int.zero_mul] at e; omega
   have gb : bnd 1800 (gcdI L n) := by
    have := Int.natAbs_dvd_natAbs.mpr g2
    have := Nat.le_of_dvd (by omega) this
    unfold bnd at *; omega
   have eg : L.fdiv (gcdI L n) * gcdI L n = L := fdiv_exact (by omega) g1
   have hab : (if n < 0 then -n else n) = n := if_neg (by omega)
   rw [hab]
   have b1 : bnd (1800 * i + 1) (L.fdiv (gcdI L n)) := Nat.lt_of_le_of_lt (abs_fdiv g1) h3
   refine ⟨⟨by omega, Nat.lt_of_lt_of_le ((Nat.log2_lt (by omega)).mpr gb) (by decide)⟩, b1.ok bn (by omega), ?_⟩
   have pq : 0 < L.fdiv (gcdI L n) := by
    rcases Int.lt_or_le 0 (L.fdiv (gcdI L n)) with q | q
    ·exact q
    ·have := Int.mul_nonneg (show 0 ≤ -(L.fdiv (gcdI L n)) by omega) (Int.le_of_lt g0)
     rw [Int.neg_mul] at this
     omega
   rw [take_snoc en]
   refine ⟨Int.mul_pos pq pn, fun m hm => ?_, fun D hD => ?_, (b1.mul bn).up (by omega)⟩
   ·rcases List.mem_append.mp hm with hm | hm
    ·obtain ⟨c, ec⟩ := g2
     have := h1 m hm
     obtain ⟨k, ek⟩ := this
     have q : L.fdiv (gcdI L n) * n = L * c := by
      have : L.fdiv (gcdI L n) * (gcdI L n * c) = L * c := by rw [← Int.mul_assoc, eg]
      rwa [← ec] at this
     exact ⟨k * c, by rw [q, ek, Int.mul_assoc]⟩
    ·rw [List.mem_singleton] at hm
     subst hm
     exact Int.dvd_mul_left _ _
   ·have d1 := h2 D fun m hm => hD m (List.mem_append.mpr (.inl hm))
    have d2 := hD n (List.mem_append.mpr (.inr (by simp)))
    have : L.fdiv (gcdI L n) * n ∣ D := by
     have k := Int.coe_lcm_dvd d1 d2
     have e : ((Int.lcm L n : Nat) : Int) = L.fdiv (gcdI L n) * n := by
      have e1 := Int.gcd_mul_lcm L n
      have e2 : gcdI L n * (Int.lcm L n : Int) = gcdI L n * (L.fdiv (gcdI L n) * n) := by
       have : gcdI L n * (L.fdiv (gcdI L n) * n) = L * n := by
        rw [← Int.mul_assoc, Int.mul_comm (gcdI L n), eg]
       rw [this]
       unfold gcdI
       rw [← Int.natCast_mul, e1, ← Int.natAbs_mul]
       have := Int.mul_pos h0 pn
       omega
      exact Int.eq_of_mul_eq_mul_left (by omega) e2
     rw [← e]
     exact k
    exact this
  ·rintro σ H1 ⟨L, v, rfl, rfl, h0, h1, h2, h3⟩
   rw [List.length_map, List.take_length] at *
   subst e1
   try walk_at "rd2"
   exact hQ L h0 h1 h2
theorem ok_place_sum (T : Txt K mg t) : FnOk P w K mg base CX0 3 t.a_place_sum t.d_place_sum ["one", "other"] (sp_place_sum K) := by
 have G_place : FnOk P w K mg base (CX1 P w) 2 t.a_place t.d_place ["tops", "under"] (sp_place K t.a_NoPlace) := ok_place T
 refine T.F_place_sum.ok sc_place_sum (fun vs H Q E h => ?_) (fun cdv A outer s H vs Q E hr h => ?_)
 ·obtain ⟨p, q, x, y, d, rfl, _⟩ := h
  rfl
 ·obtain ⟨p, q, x, y, d, rfl, hx, hy, gx, gy, bx, byy, hd, hQ⟩ := h
  refine ⟨_, (pss_cons (ps_setCG (i := 2) (xs := ["left", "right"]) (fr := [("one", 0), ("other", 1)]) (g := (gTup K 2 (gCons (gName 0) (gCons (gName 1) gNil)))) (tt := (tEl (tOp (rI0 fun i j => .int (i + j)) (tOp (rI (fun i j => IntMulOk i j) fun i j => .int (i * j)) (tVar 0) (tOp (rIxB K) (tVar 3) (tC (.int 1)))) (tOp (rI (fun i j => IntMulOk i j) fun i j => .int (i * j)) (tVar 1) (tOp (rIxB K) (tVar 2) (tC (.int 1))))))) (compG_ok (sc := defScope s_place_sum) (N := N_place_sum) rfl rfl (by decide +kernel)) rfl sc_place_sum.nd rfl rfl (pi_zip rfl T.z_zip (pa_cons (pe_ix ix_B (pv 0) pe_int (fun _ _ => rfl)) (pa_cons (pe_ix ix_B (pv 1) pe_int (fun _ _ => rfl)) pa_nil))) (fun _ _ _ hE1 => (pg_tup rfl (pgs_cons (pg_own (N := ["left", "right", "one", "other"]) (i := 0) hE1 rfl (by decide +kernel)) (pgs_cons (pg_own (N := ["left", "right", "one", "other"]) (i := 1) hE1 rfl (by decide +kernel)) pgs_nil)))) (fun _ _ _ hE1 => (po_el (pe_op op_add (pe_op op_mulB (pv 0) (pe_ix ix_B (pv 3) pe_int (fun _ _ => rfl))) (pe_op op_mulB (pv 1) (pe_ix ix_B (pv 2) pe_int (fun _ _ => rfl)))))))
   (pss_one (ps_ret (pe_call G_place (hr.mono (by omega)) rfl T.m_place T.F_place.kp T.b_place .nil passes1 (pa_cons (pv 2) (pa_cons (pe_op op_mulB (pe_ix ix_B (pv 0) pe_int (fun _ _ => rfl)) (pe_ix ix_B (pv 1) pe_int (fun _ _ => rfl))) pa_nil)))))), ?_⟩
  show tSeq _ _ _ [some (.ref p), some (.ref q), none] H
  refine st fun N1 e1 => ?_
  try walk_at "rd2"
  refine compE_st fun B eB => ?_
  simp only [iZip]
  try walk_at "rd2"
  refine place_ix0 hx fun x1 hx1 => ?_
  try walk_at "rd2"
  refine place_ix0 hy fun y1 hy1 => ?_
  try walk_at "rd2"
  have hX : SqB true K H x1 (x.1.map V.int) := SqB.tup hx1
  have hY : SqB true K H y1 (y.1.map V.int) := SqB.tup hy1
  refine ⟨true, ⟨_, hX⟩, true, ⟨_, hY⟩, fun a ha => ?_⟩
  have hlen : x.1.length = y.1.length := by rw [gx.len, gy.len]
  refine cg_zip (fun j z _ => ∃ m n, x.1[j]? = some m ∧ y.1[j]? = some n ∧ z = .int (m * y.2 + n * x.2)) ha hX hY (by simp [hlen]) (by simp [gx.len]; omega) (fun _ _ _ _ r _ => r) ?_ ?_
  ·intro i v1 v2 H1 zs ex ey s1 ez Q' hQ'
   obtain ⟨m, em, rfl⟩ := ints_at ex
   obtain ⟨n, en, rfl⟩ := ints_at ey
   subst eB
   show tOp _ _ _ [some (.int m), some (.int n), some (.ref p), some (.ref q)] H1 Q'
   try walk_at "rd2"
   refine place_ix1 (hy.up s1) ?_
   try walk_at "rd2"
   refine ⟨(bx.1 m (List.mem_of_getElem? em)).ok byy.2, place_ix1 (hx.up s1) ?_⟩
   try walk_at "rd2"
   exact ⟨(byy.1 n (List.mem_of_getElem? en)).ok bx.2, hQ' _ _ (Same.refl _) ⟨m, n, em, en, rfl⟩⟩
  ·intro H1 zs s1 ez hlz hr'
   have ey : zs = (List.zipWith (fun m n => m * y.2 + n * x.2) x.1 y.1).map V.int := by
    refine list_is (by simp at hlz ⊢; omega) fun j z e => ?_
    obtain ⟨m, n, em, en, rfl⟩ := hr' j z e
    exact ⟨_, by rw [List.getElem?_zipWith, em, en], rfl⟩
   subst ey
   subst e1
   try walk_at "rd2"
   refine place_ix1 (hx.up s1) ?_
   try walk_at "rd2"
   refine place_ix1 (hy.up s1) ?_
   try walk_at "rd2"
   have hu : x.2 * y.2 ≠ 0 := by have := Int.mul_pos gx.pos gy.pos; omega
   have hl : (List.zipWith (fun m n => m * y.2 + n * x.2) x.1 y.1).length = d := by rw [List.length_zipWith, gx.len, gy.len, Nat.min_self]
   refine ⟨bx.2.ok byy.2, ?_⟩
   refine ⟨false, a, _, x.2 * y.2, rfl, SqB.lst ez, by omega, (bx.2.mul byy.2).up (by decide), fun z => ?_, fun _ _ r H2 s2 hP => ?_⟩
   ·rcases z with z | z
    ·exact absurd z hu
    ·rw [z] at hl; simp at hl; omega
   ·refine hQ r H2 (redP (x.2 * y.2) _) (s1.trans s2) hP (redP_good hu hl) (fun i => ?_) (fun B' b1 b2 => ?_)
    ·rw [redP_val hu]
     have h1 := cast_ne (show x.2 ≠ 0 by have := gx.pos; omega)
     have h2 := cast_ne (show y.2 ≠ 0 by have := gy.pos; omega)
     have e : (List.zipWith (fun m n => m * y.2 + n * x.2) x.1 y.1).getD i 0 = x.1.getD i 0 * y.2 + y.1.getD i 0 * x.2 := by
      by_cases hi : i < d
      ·have i1 : i < x.1.length := by rw [gx.len]; exact hi
       have i2 : i < y.1.length := by rw [gy.len]; exact hi
       simp [List.getD_eq_getElem?_getD, List.getElem?_zipWith, i1, i2]
      ·have i1 : x.1.length ≤ i := by rw [gx.len]; omega
       have i2 : y.1.length ≤ i := by rw [gy.len]; omega
       rw [List.getD_eq_getElem?_getD, List.getD_eq_getElem?_getD, List.getD_eq_getElem?_getD, List.getElem?_eq_none i1, List.getElem?_eq_none i2, List.getElem?_eq_none (by omega)]
       simp
     rw [e]
     unfold val
     rw [Rat.intCast_add, Rat.intCast_mul, Rat.intCast_mul, Rat.intCast_mul]
     generalize (x.2 : Rat) = u at *
     generalize (y.2 : Rat) = v at *
     generalize ((x.1.getD i 0 : Int) : Rat) = a at *
     generalize ((y.1.getD i 0 : Int) : Rat) = b at *
     grind
    ·refine red_bits (fun t ht => ?_) ((b1.2.mul b2.2).up (by omega))
     obtain ⟨j, hj, e⟩ := List.getElem_of_mem ht
     rw [List.getElem_zipWith] at e
     rw [← e]
     have j1 : j < x.1.length := by rw [hl] at hj; rw [gx.len]; exact hj
     have j2 : j < y.1.length := by rw [hl] at hj; rw [gy.len]; exact hj
     have k := ((b1.1 x.1[j] (List.getElem_mem j1)).mul b2.2).add ((b2.1 y.1[j] (List.getElem_mem j2)).mul b1.2)
     exact k.up (by omega)
theorem gl_neg (u : Int) (ns : List Int) : gl u (ns.map (-·)) = gl u ns := by
 refine gl_eq_of fun d => ?_
 constructor
 ·rintro ⟨h1, h2⟩
  exact ⟨h1, fun t ht => by have := h2 (-t) (List.mem_map.mpr ⟨t, ht, rfl⟩); exact Int.dvd_neg.mp this⟩
 ·rintro ⟨h1, h2⟩
  refine ⟨h1, fun x hx => ?_⟩
  obtain ⟨t, ht, rfl⟩ := List.mem_map.mp hx
  exact Int.dvd_neg.mpr (h2 t ht)
theorem neg_good {d : Nat} {x : Pl} (h : GoodP d x) : GoodP d (negP x) := ⟨by simp [negP, h.len], h.pos, by show gl x.2 (x.1.map (-·)) = 1; rw [gl_neg]; exact h.one⟩
theorem neg_val {x : Pl} (i : Nat) : val (negP x) i = - val x i := by
 have e : (x.1.map (-·)).getD i 0 = - x.1.getD i 0 := by
  rw [List.getD_eq_getElem?_getD, List.getD_eq_getElem?_getD, List.getElem?_map]
  cases x.1[i]? <;> simp
 unfold val negP
 simp only
 rw [e, Rat.intCast_neg]
 grind
theorem neg_bits {B : Nat} {x : Pl} (h : BP B x) : BP B (negP x) := ⟨fun t ht => by obtain ⟨y, hy, rfl⟩ := List.mem_map.mp ht; exact (h.1 y hy).neg, h.2⟩
theorem ok_opposite (T : Txt K mg t) : FnOk P w K mg base CX0 1 t.a_opposite t.d_opposite ["one"] (sp_opposite K) := by
 refine T.F_opposite.ok sc_opposite (fun vs H Q E h => ?_) (fun cdv A outer s H vs Q E hr h => ?_)
 ·obtain ⟨p, x, rfl, _⟩ := h
  rfl
 ·obtain ⟨p, x, rfl, hx, hl, hQ⟩ := h
  refine ⟨_, (pss_one (ps_ret (pe_tup (pa_cons (pe_callTy call_tupB rfl T.z_tuple (by decide +kernel) (pa_cons (pe_compG (xs := ["top"]) (fr := []) (g := (gName 0)) (tt := (tEl (tUn (rU fun i => .int (-i)) (tVar 0)))) (compG_ok (sc := defScope s_opposite) (N := N_opposite) rfl rfl (by decide +kernel)) rfl (pi_seq (pe_ix ix_B (pv 0) pe_int (fun _ _ => rfl))) (fun _ _ _ hE1 => (pg_own (N := ["top"]) (i := 0) hE1 rfl (by decide +kernel))) (fun _ _ _ hE1 => (po_el (pe_un un_neg (pv 0))))) pa_nil)) (pa_cons (pe_ix ix_B (pv 0) pe_int (fun _ _ => rfl)) pa_nil))))), ?_⟩
  show tRet _ _ [some (.ref p)] H
  try walk_at "rd2"
  refine compE_st fun B eB => ?_
  simp only [iSeq]
  try walk_at "rd2"
  refine place_ix0 hx fun x1 hx1 => ⟨true, x1, rfl, ⟨_, SqB.tup hx1⟩, fun a1 ha1 => cg_seq (fun j y _ => ∃ n, x.1[j]? = some n ∧ y = .int (-n)) ha1 (SqB.tup hx1) (by rw [List.length_map]; omega) (fun _ _ _ _ r _ => r) ?_ ?_⟩
  ·intro i v H1 zs hv _ _ Q' hQ'
   obtain ⟨n, hn, rfl⟩ := ints_at hv
   subst eB
   show tUn _ _ [some (.int n)] H1 Q'
   try walk_at "rd2"
   exact hQ' _ H1 (Same.refl _) ⟨n, hn, rfl⟩
  ·intro H1 ys s1 e1 hly hr2
   have ey : ys = (x.1.map (-·)).map V.int := by
    rw [List.map_map]
    exact list_is (by simpa using hly) hr2
   subst ey
   refine ⟨a1, _, rfl, .inl ⟨SqL.of e1, fun l hl1 => ?_⟩⟩
   try walk_at "rd2"
   have s2 : Same H1 (upd H1 l (.tup ((x.1.map (-·)).map V.int))) := Same.new hl1
   refine place_ix1 (hx.up (s1.trans s2)) ?_
   refine ⟨(by show 2 ≤ sizeLine; decide), fun p' hp' => hQ p' _ ((s1.trans s2).trans (Same.new hp')) ⟨l, upd_same, ?_⟩⟩
   rw [upd_ne (ne_of_none upd_same hp')]
   exact upd_same
theorem ok_place_less (T : Txt K mg t) : FnOk P w K mg base CX0 4 t.a_place_less t.d_place_less ["one", "other"] (sp_place_less K) := by
 have G_place_sum : FnOk P w K mg base CX0 3 t.a_place_sum t.d_place_sum ["one", "other"] (sp_place_sum K) := ok_place_sum T
 have G_opposite : FnOk P w K mg base CX0 1 t.a_opposite t.d_opposite ["one"] (sp_opposite K) := ok_opposite T
 refine T.F_place_less.ok sc_place_less (fun vs H Q E h => ?_) (fun cdv A outer s H vs Q E hr h => ?_)
 ·obtain ⟨p, q, x, y, d, rfl, _⟩ := h
  rfl
 ·obtain ⟨p, q, x, y, d, rfl, hx, hy, gx, gy, bx, byy, hd, hQ⟩ := h
  refine ⟨_, (pss_one (ps_ret (pe_call G_place_sum (hr.mono (by omega)) rfl T.m_place_sum T.F_place_sum.kp T.b_place_sum .nil pass0 (pa_cons (pv 0) (pa_cons (pe_call G_opposite (hr.mono (by omega)) rfl T.m_opposite T.F_opposite.kp T.b_opposite .nil pass0 (pa_cons (pv 1) pa_nil)) pa_nil))))), ?_⟩
  show tRet _ _ [some (.ref p), some (.ref q)] H
  try walk_at "rd2"
  refine ⟨q, y, rfl, hy, by rw [gy.len]; omega, fun r H1 s1 hr1 => ?_⟩
  refine ⟨p, r, x, negP y, d, rfl, hx.up s1, hr1, gx, neg_good gy, bx.up (by decide), (neg_bits byy).up (by decide), hd, fun r2 H2 z s2 hz gz vz bz => ?_⟩
  refine hQ r2 H2 z (s1.trans s2) hz gz (fun i => ?_) ((bz 1800 bx (neg_bits byy)).up (by decide))
  rw [vz, neg_val]
  grind
theorem ch_ix0 {H : Hp} {p : Addr} {C : Ch} {Q : VK} (h : ChAt H p C) (q : ∀ a ps, H a = some (.tup (ps.map V.ref)) → PlsAt H ps C.1 → Q (.ref a) H) : rIxB K (.ref p) (.int 0) H Q := let ⟨a, b, ps, h1, h2, h3, h4⟩ := h; ⟨true, p, _, _, _, rfl, rfl, SqB.tup h1, rfl, q a ps h2 h3⟩
theorem ch_ix1 {H : Hp} {p : Addr} {C : Ch} {Q : VK} (h : ChAt H p C) (q : ∀ b, PlAt H b C.2 → Q (.ref b) H) : rIxB K (.ref p) (.int 1) H Q := let ⟨a, b, ps, h1, h2, h3, h4⟩ := h; ⟨true, p, _, _, _, rfl, rfl, SqB.tup h1, rfl, q b h4⟩
theorem tab_ix0 {H : Hp} {p : Addr} {R : List (List Int)} {u : Int} {Q : VK} (h : TabAt K H p R u) (q : ∀ m, MatB false false K H m R → Q (.ref m) H) : rIxB K (.ref p) (.int 0) H Q := let ⟨m, h1, h2⟩ := h; ⟨true, p, _, _, _, rfl, rfl, SqB.tup h1, rfl, q m h2⟩
theorem tab_ix1 {H : Hp} {p : Addr} {R : List (List Int)} {u : Int} {Q : VK} (h : TabAt K H p R u) (q : Q (.int u) H) : rIxB K (.ref p) (.int 1) H Q := let ⟨m, h1, h2⟩ := h; ⟨true, p, _, _, _, rfl, rfl, SqB.tup h1, rfl, q⟩
theorem PlsAt.at {H : Hp} {ps : List Addr} {xs : List Pl} {i : Nat} {v : V} (h : PlsAt H ps xs) (e : (ps.map V.ref)[i]? = some v) : ∃ p x, v = .ref p ∧ xs[i]? = some x ∧ PlAt H p x := by
 rw [List.getElem?_map] at e
 cases hp : ps[i]? with
 | none => rw [hp] at e; cases e
 | some p =>
  rw [hp] at e
  cases e
  have hi : i < xs.length := by rw [← h.1]; exact (List.getElem?_eq_some_iff.mp hp).1
  exact ⟨p, xs[i], rfl, by simp [hi], h.2 i p _ hp (by simp [hi])⟩
theorem pls_len {b : Bool} {H : Hp} {a : Addr} {ps : List Addr} {xs : List Pl} {Q : VK} (ha : SqB b K H a (ps.map V.ref)) (hp : PlsAt H ps xs) (q : Q (.int xs.length) H) : rLenB K [.ref a] H Q :=
 ⟨b, a, _, rfl, ha, by rw [List.length_map, hp.1]; exact q⟩
noncomputable def PlX (a : Addr) (H : Hp) (p : Addr) (x : Pl) : Prop := ∃ q, p ≠ a ∧ q ≠ a ∧ H p = some (.tup [.ref q, .int x.2]) ∧ H q = some (.tup (x.1.map V.int))
theorem PlX.of {a : Addr} {H : Hp} {p : Addr} {x : Pl} {zs : List V} (h : PlAt H p x) (e : H a = some (.lst zs)) : PlX a H p x := by
 obtain ⟨q, h1, h2⟩ := h
 exact ⟨q, (fun z => by rw [z, e] at h1; cases h1), (fun z => by rw [z, e] at h2; cases h2), h1, h2⟩
noncomputable def PlS (a : Addr) (S : Nat → Pl → Prop) (j : Nat) (y : V) (H : Hp) : Prop := ∃ p z, y = .ref p ∧ PlX a H p z ∧ S j z
theorem PlS.mono {a : Addr} {S : Nat → Pl → Prop} (i : Nat) (y : V) (H1 H2 : Hp) (h : PlS a S i y H1) (s : SameX a H1 H2) : PlS a S i y H2 := let ⟨p, z, e, ⟨q, n1, n2, h1, h2⟩, k⟩ := h; ⟨p, z, e, ⟨q, n1, n2, s _ _ n1 h1, s _ _ n2 h2⟩, k⟩
theorem pls_of {a : Addr} {H : Hp} : ∀ {ys : List V} {S : Nat → Pl → Prop}, (∀ (j : Nat) y, ys[j]? = some y → PlS a S j y H) → ∃ ps xs, ys = ps.map V.ref ∧ PlsAt H ps xs ∧ xs.length = ys.length ∧ ∀ (j : Nat) z, xs[j]? = some z → S j z
 | [], S, _ => ⟨[], [], rfl, ⟨rfl, fun i p x e => by simp at e⟩, rfl, fun j z e => by simp at e⟩
 | y :: r, S, hr => by
  obtain ⟨p, z, rfl, ⟨q, _, _, h1, h2⟩, k⟩ := hr 0 y rfl
  obtain ⟨ps, xs, e, hp, hl, hS⟩ := pls_of (S := fun j => S (j + 1)) fun j y e => hr (j + 1) y (by simpa using e)
  refine ⟨p :: ps, z :: xs, by rw [e]; rfl, ⟨by simp [hp.1], fun i p' x e1 e2 => ?_⟩, by simp [hl], fun j z' e1 => ?_⟩
  ·match i, e1, e2 with
   | 0, e1, e2 => simp at e1 e2; subst e1 e2; exact ⟨q, h1, h2⟩
   | i + 1, e1, e2 => exact hp.2 i p' x (by simpa using e1) (by simpa using e2)
  ·match j, e1 with
   | 0, e1 => simp at e1; subst e1; exact k
   | j + 1, e1 => exact hS j z' (by simpa using e1)
theorem red_good {d : Nat} {x : Pl} (h : GoodP d x) : redT x.2 x.1 = x.1 ∧ redU x.2 x.1 = x.2 := red_same h.pos h.one
noncomputable def TopR (a : Addr) (xs : List Pl) (j : Nat) (y : V) (H : Hp) : Prop := ∃ q x, y = .ref q ∧ xs[j]? = some x ∧ q ≠ a ∧ H q = some (.tup (x.1.map V.int))
theorem TopR.mono {a : Addr} {xs : List Pl} (i : Nat) (y : V) (H1 H2 : Hp) (h : TopR a xs i y H1) (s : SameX a H1 H2) : TopR a xs i y H2 := let ⟨q, x, e, ex, n, h1⟩ := h; ⟨q, x, e, ex, n, s _ _ n h1⟩
theorem tops_mat {a : Addr} {H : Hp} {xs : List Pl} {ys : List V} (h : H a = some (.lst ys)) (hl : ys.length = xs.length) (hr : ∀ (j : Nat) y, ys[j]? = some y → TopR a xs j y H) : MatB false true K H a (xs.map (·.1)) := by
 obtain ⟨ps, e⟩ : ∃ ps : List Addr, ys = ps.map V.ref := by
  refine ⟨ys.map fun v => match v with | .ref p => p | _ => a, ?_⟩
  rw [List.map_map]
  refine List.ext_getElem (by simp) fun i h1 h2 => ?_
  obtain ⟨q, x, e, _⟩ := hr i ys[i] (by simp [h1])
  simp only [List.getElem_map, Function.comp]
  rw [e]
 subst e
 refine ⟨ps, SqB.lst h, by simpa using hl, fun i p r e1 e2 => ?_⟩
 obtain ⟨q, x, e3, e4, _, e5⟩ := hr i (.ref p) (by rw [List.getElem?_map, e1]; rfl)
 cases e3
 rw [List.getElem?_map, e4] at e2
 cases e2
 exact SqB.tup e5
theorem ok_change (T : Txt K mg t) : FnOk P w K mg base (CX1 P w) 6 t.a_change t.d_change ["vectors", "spot"] (sp_changeX K t.a_NoChange) := by
 have G_place : FnOk P w K mg base (CX1 P w) 2 t.a_place t.d_place ["tops", "under"] (sp_place K t.a_NoPlace) := ok_place T
 refine T.F_change.okX sc_change (fun vs H Q E h => ?_) (fun cdv A outer s H vs Q E hr h => ?_)
 ·obtain ⟨b, a, sa, ps, C, rfl, _⟩ := h
  rfl
 ·obtain ⟨b, a, sa, ps, C, rfl, hS, hP, hs, hl100, hbx, hE, hQ⟩ := h
  obtain ⟨n, hn3, hn⟩ : ∃ n : Nat, n ≤ 3 ∧ ((C.1.length = 2 ∨ C.1.length = 3) → n = C.1.length) := by
   by_cases z : C.1.length = 2 ∨ C.1.length = 3
   ·exact ⟨C.1.length, by omega, fun _ => rfl⟩
   ·exact ⟨0, by omega, fun h => absurd h z⟩
  have G_determinant : FnOk P w K mg base CX0 (n + 1) t.a_determinant t.d_determinant ["rows"] (sp_determinant K n) := ok_determinant T n
  have hr5 : n + 1 ≤ 5 := by omega
  refine ⟨_, (pss_cons (ps_set (i := 2) sc_change.nd rfl (Or.inr rfl) (pe_callB call_lenB rfl T.z_len (by decide +kernel) (pa_cons (pv 0) pa_nil)))
   (pss_cons (ps_if (pt_cmpR op_notIn_seq (pv 2) (pe_tup (pa_cons pe_int (pa_cons pe_int pa_nil))) rfl)
   (pss_one (ps_raise rfl landsN_def rfl T.m_NoChange T.x_NoChange PySem.F.excBase_ValueError (pa_cons pe_str pa_nil)))
   pss_nil)
   (pss_cons (ps_if (PW.pt (pw_or (pt_val (pe_callB (call_any rfl) rfl T.z_any (by decide +kernel) (pa_cons (pe_compG (xs := ["vector"]) (fr := [("axes", 2)]) (g := (gName 0)) (tt := (tEl (tOp (rI0 fun i j => .bl (!decide (i = j))) (tCB (rLenB K) (tCons (tOp (rIxB K) (tVar 0) (tC (.int 0))) tNil)) (tVar 1)))) (compG_ok (sc := defScope s_change) (N := N_change) rfl rfl (by decide +kernel)) rfl (pi_seq (pv 0)) (fun _ _ _ hE1 => (pg_own (N := ["vector", "axes"]) (i := 0) hE1 rfl (by decide +kernel))) (fun _ _ _ hE1 => (po_el (pe_cmpR op_neZ (pe_callB call_lenB rfl T.z_len (by decide +kernel) (pa_cons (pe_ix ix_B (pv 0) pe_int (fun _ _ => rfl)) pa_nil)) (pv 1) (nomark _))))) pa_nil))) (pw_or1 (pt_cmpR op_neZ (pe_callB call_lenB rfl T.z_len (by decide +kernel) (pa_cons (pe_ix ix_B (pv 1) pe_int (fun _ _ => rfl)) pa_nil)) (pv 2) (nomark _)))))
   (pss_one (ps_raise rfl landsN_def rfl T.m_NoChange T.x_NoChange PySem.F.excBase_ValueError (pa_cons pe_str pa_nil)))
   pss_nil)
   (pss_cons (ps_if (pt_cmpR op_eqZ (pe_call G_determinant (hr.mono (by omega)) rfl T.m_determinant T.F_determinant.kp T.b_determinant .nil pass0 (pa_cons (pe_compG (xs := ["vector"]) (fr := []) (g := (gName 0)) (tt := (tEl (tOp (rIxB K) (tVar 0) (tC (.int 0))))) (compG_ok (sc := defScope s_change) (N := N_change) rfl rfl (by decide +kernel)) rfl (pi_seq (pv 0)) (fun _ _ _ hE1 => (pg_own (N := ["vector"]) (i := 0) hE1 rfl (by decide +kernel))) (fun _ _ _ hE1 => (po_el (pe_ix ix_B (pv 0) pe_int (fun _ _ => rfl))))) pa_nil)) pe_int (nomark _))
   (pss_one (ps_raise rfl landsN_def rfl T.m_NoChange T.x_NoChange PySem.F.excBase_ValueError (pa_cons pe_str pa_nil)))
   pss_nil)
   (pss_one (ps_ret (pe_tup (pa_cons (pe_callTy call_tupB rfl T.z_tuple (by decide +kernel) (pa_cons (pe_compG (xs := ["vector"]) (fr := []) (g := (gName 0)) (tt := (tEl (tCall (sp_place K t.a_NoPlace) [] E0 (tCons (tOp (rIxB K) (tVar 0) (tC (.int 0))) (tCons (tOp (rIxB K) (tVar 0) (tC (.int 1))) tNil))))) (compG_ok (sc := defScope s_change) (N := N_change) rfl rfl (by decide +kernel)) rfl (pi_seq (pv 0)) (fun _ _ _ hE1 => (pg_own (N := ["vector"]) (i := 0) hE1 rfl (by decide +kernel))) (fun _ _ _ hE1 => (po_el (pe_call G_place (hr.mono (by omega)) rfl T.m_place T.F_place.kp T.b_place .nil passes1 (pa_cons (pe_ix ix_B (pv 0) pe_int (fun _ _ => rfl)) (pa_cons (pe_ix ix_B (pv 0) pe_int (fun _ _ => rfl)) pa_nil)))))) pa_nil)) (pa_cons (pe_call G_place (hr.mono (by omega)) rfl T.m_place T.F_place.kp T.b_place .nil passes1 (pa_cons (pe_ix ix_B (pv 1) pe_int (fun _ _ => rfl)) (pa_cons (pe_ix ix_B (pv 1) pe_int (fun _ _ => rfl)) pa_nil))) pa_nil))))))))), ?_⟩
  show tSeq _ _ _ [some (.ref a), some (.ref sa), none] H
  refine st fun N1 e1 => ?_
  walk_at "rd2"
  refine pls_len hS hP ?_
  subst e1
  refine st fun N1 e1 => ?_
  simp only [tRaise]
  walk_at "rd2"
  refine ⟨by show 2 ≤ sizeLine; decide, fun p1 hp1 => ?_⟩
  have s1 : Same H (upd H p1 (.tup [.int 2, .int 3])) := Same.new hp1
  refine ⟨p1, _, rfl, .inr (SqT.of upd_same), rfl, rfl, _, rfl, ?_⟩
  generalize upd H p1 (.tup [.int 2, .int 3]) = H1 at s1
  rw [inV2]
  by_cases hax : C.1.length = 2 ∨ C.1.length = 3
  case neg =>
   rw [decide_eq_false (by omega)]
   refine iteT ?_
   simp only [tRaise]
   walk_at "rd2"
   exact ⟨by decide, hE (.inl hax) _ s1⟩
  rw [decide_eq_true (by omega)]
  refine iteF ?_
  replace hn := hn hax
  subst hn
  subst e1
  refine st fun N1 e1 => ?_
  walk_at "rd2"
  refine compE_st fun C1 eC => ?_
  simp only [iSeq]
  walk_at "rd2"
  have hS1 := hS.up s1
  have hP1 := hP.up s1
  have hlp : (ps.map V.ref).length = C.1.length := by rw [List.length_map, hP.1]
  refine ⟨b, ⟨_, hS1⟩, fun a1 ha1 => ?_⟩
  refine cg_seq (fun j y _ => ∃ r, C.1[j]? = some r ∧ y = .bl (!decide (r.1.length = C.1.length))) ha1 hS1 (by omega) (fun _ _ _ _ r _ => r) ?_ ?_
  ·intro i v H2 zs ex s2 ez Q' hQ'
   obtain ⟨pr, x, rfl, er, hp⟩ := hP1.at ex
   subst eC
   show tOp _ _ _ [some (.ref pr), some (.int C.1.length)] H2 Q'
   walk_at "rd2"
   refine place_ix0 (hp.up s2) fun x1 hx1 => ?_
   try walk_at "rd2"
   refine ints_len (SqB.tup hx1) ?_
   try walk_at "rd2"
   refine hQ' _ _ (Same.refl _) ⟨x, er, ?_⟩
   by_cases z : x.1.length = C.1.length
   ·rw [decide_eq_true z, decide_eq_true (by omega)]
   ·rw [decide_eq_false z, decide_eq_false (by omega)]
  intro H2 ys s2 e2 hly hr2
  have ey : ys = (C.1.map fun r => !decide (r.1.length = C.1.length)).map V.bl := by
   rw [List.map_map]
   exact list_is (by omega) hr2
  subst ey
  refine ⟨a1, rfl, _, SqL.of e2, ?_⟩
  try walk_at "rd2"
  have s02 := s1.trans s2
  by_cases hsq0 : ∀ r ∈ C.1, r.1.length = C.1.length
  case neg =>
   have hany : (C.1.map fun r => !decide (r.1.length = C.1.length)).any id = true := by
    rw [List.any_eq_true]
    obtain ⟨r, hr⟩ := Classical.not_forall.mp hsq0
    obtain ⟨hr1, hr2⟩ := Classical.not_imp.mp hr
    exact ⟨true, List.mem_map.mpr ⟨r, hr1, by rw [decide_eq_false hr2]; rfl⟩, rfl⟩
   rw [hany]
   refine iteT ?_
   simp only [tRaise]
   walk_at "rd2"
   obtain ⟨r, hr⟩ := Classical.not_forall.mp hsq0
   obtain ⟨hr1, hr2⟩ := Classical.not_imp.mp hr
   exact ⟨by decide, hE (.inr (.inl ⟨r, hr1, hr2⟩)) _ s02⟩
  have hany : (C.1.map fun r => !decide (r.1.length = C.1.length)).any id = false := by
   rw [List.any_eq_false]
   intro b hb
   obtain ⟨r, hr, rfl⟩ := List.mem_map.mp hb
   rw [decide_eq_true (hsq0 r hr)]
   decide
  rw [hany]
  refine iteF ?_
  refine place_ix0 (hs.up s02) fun z1 hz1 => ?_
  try walk_at "rd2"
  refine ints_len (SqB.tup hz1) ?_
  try walk_at "rd2"
  by_cases htl : C.2.1.length = C.1.length
  case neg =>
   rw [decide_eq_false (by omega)]
   refine iteT ?_
   simp only [tRaise]
   walk_at "rd2"
   exact ⟨by decide, hE (.inr (.inr (.inl htl))) _ s02⟩
  rw [decide_eq_true (by omega)]
  refine iteF ?_
  subst e1
  refine st fun N1 e1 => ?_
  walk_at "rd2"
  refine compE_st fun C2 eC2 => ?_
  simp only [iSeq]
  walk_at "rd2"
  have hS2 := hS.up s02
  have hP2 := hP.up s02
  refine ⟨b, ⟨_, hS2⟩, fun a2 ha2 => ?_⟩
  refine cg_seq (TopR a2 C.1) ha2 hS2 (by omega) TopR.mono ?_ ?_
  ·intro i v H3 zs ex s3 ez Q' hQ'
   obtain ⟨pr, x, rfl, er, hp⟩ := hP2.at ex
   subst eC2
   show tOp _ _ _ [some (.ref pr)] H3 Q'
   walk_at "rd2"
   refine place_ix0 (hp.up s3) fun x1 hx1 => ?_
   exact hQ' _ _ (Same.refl _) ⟨x1, x, rfl, er, (fun z => by rw [z, ez] at hx1; cases hx1), hx1⟩
  intro H3 ys s3 e3 hly3 hr3
  have hM := tops_mat (K := K) e3 (by omega) hr3
  have s03 := s02.trans s3
  have hsq : Sq C.1.length (C.1.map (·.1)) := ⟨by rw [List.length_map], fun r hr => by
   obtain ⟨x, hx, rfl⟩ := List.mem_map.mp hr
   exact hsq0 x hx⟩
  refine sp_det_mk (B := 1800) (by omega) (by omega) hM hsq (fun r hr t ht => by
   obtain ⟨x, hx, rfl⟩ := List.mem_map.mp hr
   exact (hbx x hx).1.1 t ht) (by decide) fun H4 s4 => ?_
  try walk_at "rd2"
  have s04 := s03.trans s4
  by_cases hdet : detM C.1.length (C.1.map (·.1)) = 0
  case pos =>
   rw [decide_eq_true hdet]
   refine iteT ?_
   simp only [tRaise]
   walk_at "rd2"
   exact ⟨by decide, hE (.inr (.inr (.inr hdet))) _ s04⟩
  rw [decide_eq_false hdet]
  refine iteF ?_
  obtain ⟨gC, bS, hQ⟩ := hQ (fun z => by
   rcases z with z | ⟨x, hx, z⟩ | z | z
   ·exact z hax
   ·exact z (hsq0 x hx)
   ·exact z htl
   ·exact hdet z)
  subst e1
  walk_at "rd2"
  refine compE_st fun C3 eC3 => ?_
  simp only [iSeq]
  walk_at "rd2"
  have hS4 := hS.up s04
  have hP4 := hP.up s04
  refine ⟨b, ⟨_, hS4⟩, fun a3 ha3 => ?_⟩
  refine cg_seq (PlS a3 fun j z => C.1[j]? = some z) ha3 hS4 (by omega) PlS.mono ?_ ?_
  ·intro i v H5 zs ex s5 ez Q' hQ'
   obtain ⟨pr, x, rfl, er, hp⟩ := hP4.at ex
   have gx := gC.vec x (List.mem_of_getElem? er)
   have bx := (hbx x (List.mem_of_getElem? er)).1
   subst eC3
   show tCall _ _ _ _ [some (.ref pr)] H5 Q'
   walk_at "rd2"
   refine place_ix0 (hp.up s5) fun x1 hx1 => ?_
   try walk_at "rd2"
   refine place_ix1 (hp.up s5) ?_
   try walk_at "rd2"
   refine ⟨true, x1, x.1, x.2, rfl, SqB.tup hx1, by rw [gx.len]; omega, bx.2.up (by decide), fun z => ?_, fun _ _ q H6 s6 hq => ?_⟩
   ·rcases z with z | z
    ·have := gx.pos; omega
    ·have := gx.len; rw [z] at this; simp at this; omega
   ·rw [(red_good gx).1, (red_good gx).2] at hq
    exact hQ' _ _ s6 ⟨q, x, rfl, PlX.of hq (s6 _ _ ez), er⟩
  intro H5 ys s5 e5 hly5 hr5
  obtain ⟨qs, xs, rfl, hqs, hlx, hxs⟩ := pls_of hr5
  have exs : xs = C.1 := by
   refine List.ext_getElem (by rw [hlx, hly5, hlp]) fun i h1 h2 => ?_
   have := hxs i xs[i] (by simp [h1])
   simp [h2] at this
   exact this.symm
  subst exs
  refine ⟨a3, _, rfl, .inl ⟨SqL.of e5, fun l hl1 => ?_⟩⟩
  try walk_at "rd2"
  have s6 : Same H5 (upd H5 l (.tup (qs.map V.ref))) := Same.new hl1
  have el : (upd H5 l (.tup (qs.map V.ref))) l = some (.tup (qs.map V.ref)) := upd_same
  generalize upd H5 l (.tup (qs.map V.ref)) = H6 at s6 el
  have s06 := (s04.trans s5).trans s6
  have gs := gC.spt
  refine place_ix0 (hs.up s06) fun y1 hy1 => ?_
  try walk_at "rd2"
  refine place_ix1 (hs.up s06) ?_
  try walk_at "rd2"
  refine ⟨true, y1, C.2.1, C.2.2, rfl, SqB.tup hy1, by rw [gs.len]; omega, bS.2.up (by decide), fun z => ?_, fun _ _ q H7 s7 hq => ?_⟩
  ·rcases z with z | z
   ·have := gs.pos; omega
   ·have := gs.len; rw [z] at this; simp at this; omega
  ·rw [(red_good gs).1, (red_good gs).2] at hq
   try walk_at "rd2"
   refine ⟨by show 2 ≤ sizeLine; decide, fun r hr => hQ r _ ((s06.trans s7).trans (Same.new hr)) ⟨l, q, qs, upd_same, ?_, ?_, ?_⟩⟩
   ·exact (Same.new hr) _ _ (s7 _ _ el)
   ·exact ((hqs.up s6).up s7).up (Same.new hr)
   ·exact PlAt.up hq (Same.new hr)
theorem ok_check_beside (T : Txt K mg t) : FnOk P w K mg base (CX1 P w) 1 t.a_check_beside t.d_check_beside ["axes", "one"] (sp_check_beside K) := by
 refine T.F_check_beside.okX sc_check_beside (fun vs H Q E h => ?_) (fun cdv A outer s H vs Q E hr h => ?_)
 ·obtain ⟨p, C, rfl, _⟩ := h
  rfl
 ·obtain ⟨p, C, rfl, hC, hQ⟩ := h
  refine ⟨_, (pss_one (ps_if (pt_cmpR op_neZ (pe_callB call_lenB rfl T.z_len (by decide +kernel) (pa_cons (pe_ix ix_B (pv 1) pe_int (fun _ _ => rfl)) pa_nil)) (pv 0) (nomark _))
   (pss_one (ps_raise rfl landsN_def rfl T.m_NoChange T.x_NoChange PySem.F.excBase_ValueError (pa_cons pe_str pa_nil)))
   pss_nil)), ?_⟩
  show tIfS _ _ _ _ [some (.int C.1.length), some (.ref p)] H
  walk_at "rd2"
  refine ch_ix0 hC fun a ps ha hp => ?_
  try walk_at "rd2"
  refine pls_len (SqB.tup ha) hp ?_
  try walk_at "rd2"
  rw [if_neg (by decide)]
  exact hQ
noncomputable def colsM (m : Int) (xs : List Pl) : List (List Int) := xs.map fun x => x.1.map (· * m.fdiv x.2)
theorem cols_at {m : Int} {xs : List Pl} {d i k : Nat} (hl : xs.length = d) (hx : ∀ x ∈ xs, x.1.length = d) (hi : i < d) (hk : k < d) : ((turnM d (colsM m xs)).getD i []).getD k 0 = (xs.getD k ([], 1)).1.getD i 0 * m.fdiv (xs.getD k ([], 1)).2 := by
 have hk' : k < xs.length := by omega
 have hm : xs.getD k ([], 1) ∈ xs := by simp [hk']
 have hi' : i < (xs.getD k ([], 1)).1.length := by rw [hx _ hm]; exact hi
 have e1 : (turnM d (colsM m xs)).getD i [] = colI i (colsM m xs) := by simp [turnM, hi]
 rw [e1]
 have e2 : (colI i (colsM m xs)).getD k 0 = ((colsM m xs).getD k []).getD i 0 := by simp [colI, colsM, hk']
 rw [e2]
 have e3 : (colsM m xs).getD k [] = (xs.getD k ([], 1)).1.map (· * m.fdiv (xs.getD k ([], 1)).2) := by simp [colsM, hk']
 rw [e3]
 generalize xs.getD k ([], 1) = y at hi'
 simp [hi']
theorem turn_sq {d : Nat} {A : List (List Int)} (h : A.length = d) : Sq d (turnM d A) := ⟨by simp [turnM], fun r hr => by
 obtain ⟨k, _, rfl⟩ := List.mem_map.mp hr
 simp [colI, h]⟩
theorem mem_at {d : Nat} {R : List (List Int)} (h : Sq d R) {row : List Int} (hr : row ∈ R) {x : Int} (hx : x ∈ row) : ∃ i k, i < d ∧ k < d ∧ x = (R.getD i []).getD k 0 := by
 obtain ⟨i, hi, e1⟩ := List.getElem_of_mem hr
 obtain ⟨k, hk, e2⟩ := List.getElem_of_mem hx
 have hl := h.2 row hr
 refine ⟨i, k, by rw [← h.1]; exact hi, by omega, ?_⟩
 have : R.getD i [] = row := by simp [hi, e1]
 rw [this]
 simp [hk, e2]
theorem ok_forth (T : Txt K mg t) : FnOk P w K mg base CX0 3 t.a_forth t.d_forth ["one"] (sp_forth K) := by
 have G_multiple : FnOk P w K mg base CX0 2 t.a_multiple t.d_multiple ["numbers"] (sp_multiple K) := ok_multiple T
 have G_turned : FnOk P w K mg base CX0 1 t.a_turned t.d_turned ["rows"] (sp_turned K) := ok_turned T
 refine T.F_forth.ok sc_forth (fun vs H Q E h => ?_) (fun cdv A outer s H vs Q E hr h => ?_)
 ·obtain ⟨p, C, d, D, B, rfl, _⟩ := h
  rfl
 ·obtain ⟨p, C, d, D, B, rfl, hC, hW, hQ⟩ := h
  have hd := hW.d23
  have hl := hW.good.len
  refine ⟨_, (pss_cons (ps_set (i := 1) sc_forth.nd rfl (Or.inr rfl) (pe_call G_multiple (hr.mono (by omega)) rfl T.m_multiple T.F_multiple.kp T.b_multiple .nil pass0 (pa_cons (pe_compG (xs := ["vector"]) (fr := []) (g := (gName 0)) (tt := (tEl (tOp (rIxB K) (tVar 0) (tC (.int 1))))) (compG_ok (sc := defScope s_forth) (N := N_forth) rfl rfl (by decide +kernel)) rfl (pi_seq (pe_ix ix_B (pv 0) pe_int (fun _ _ => rfl))) (fun _ _ _ hE1 => (pg_own (N := ["vector"]) (i := 0) hE1 rfl (by decide +kernel))) (fun _ _ _ hE1 => (po_el (pe_ix ix_B (pv 0) pe_int (fun _ _ => rfl))))) pa_nil)))
   (pss_cons (ps_setCG (i := 2) (xs := ["vector"]) (fr := [("under", 1)]) (g := (gName 0)) (tt := (tEl (tCompG (iSeq K (tOp (rIxB K) (tVar 0) (tC (.int 0)))) (gName 0) (tEl (tOp (rI (fun i j => IntMulOk i j) fun i j => .int (i * j)) (tVar 0) (tOp (rI CDivB fun i j => .int (i.fdiv j)) (tVar 2) (tOp (rIxB K) (tVar 1) (tC (.int 1)))))) 1 [("vector", 0), ("under", 1)]))) (compG_ok (sc := defScope s_forth) (N := N_forth) rfl rfl (by decide +kernel)) rfl sc_forth.nd rfl rfl (pi_seq (pe_ix ix_B (pv 0) pe_int (fun _ _ => rfl))) (fun _ _ _ hE1 => (pg_ownC (N := ["vector", "under"]) (i := 0) hE1 rfl (by decide +kernel) rfl)) (fun _ _ _ hE1 => (po_el (pe_compG (xs := ["top"]) (fr := [("vector", 0), ("under", 1)]) (g := (gName 0)) (tt := (tEl (tOp (rI (fun i j => IntMulOk i j) fun i j => .int (i * j)) (tVar 0) (tOp (rI CDivB fun i j => .int (i.fdiv j)) (tVar 2) (tOp (rIxB K) (tVar 1) (tC (.int 1))))))) (compG_ok (N := ["vector", "under"]) hE1 rfl (by decide +kernel)) rfl (pi_seq (pe_ix ix_B (pv 0) pe_int (fun _ _ => rfl))) (fun _ _ _ hE2 => (pg_own (N := ["top", "vector", "under"]) (i := 0) hE2 rfl (by decide +kernel))) (fun _ _ _ hE2 => (po_el (pe_op op_mulB (pv 0) (pe_op op_fdivB (pv 2) (pe_ix ix_B (pv 1) pe_int (fun _ _ => rfl))))))))))
   (pss_one (ps_ret (pe_tup (pa_cons (pe_call G_turned (hr.mono (by omega)) rfl T.m_turned T.F_turned.kp T.b_turned .nil pass0 (pa_cons (pv 2) pa_nil)) (pa_cons (pv 1) pa_nil))))))), ?_⟩
  show tSeq _ _ _ [some (.ref p), none, none] H
  refine st fun N1 e1 => ?_
  walk_at "rd2"
  refine compE_st fun B1 eB1 => ?_
  simp only [iSeq]
  walk_at "rd2"
  refine ch_ix0 hC fun a ps ha hP => ?_
  have hlp : (ps.map V.ref).length = d := by rw [List.length_map, hP.1, hl]
  have hS : SqB true K H a (ps.map V.ref) := SqB.tup ha
  refine ⟨true, a, rfl, ⟨_, hS⟩, fun a1 ha1 => ?_⟩
  refine cg_seq (fun j y _ => ∃ x, C.1[j]? = some x ∧ y = .int x.2) ha1 hS (by omega) (fun _ _ _ _ r _ => r) ?_ ?_
  ·intro i v H2 zs ex s2 ez Q' hQ'
   obtain ⟨pr, x, rfl, er, hp⟩ := hP.at ex
   subst eB1
   show tOp _ _ _ [some (.ref pr)] H2 Q'
   walk_at "rd2"
   refine place_ix1 (hp.up s2) ?_
   exact hQ' _ _ (Same.refl _) ⟨x, er, rfl⟩
  intro H2 ys s2 e2 hly hr2
  have ey : ys = (C.1.map (·.2)).map V.int := by
   rw [List.map_map]
   exact list_is (by omega) hr2
  subst ey
  refine ⟨false, a1, C.1.map (·.2), rfl, SqB.lst e2, by rw [List.length_map]; omega, fun n hn => ?_, fun m m0 m1 m2 => ?_⟩
  ·obtain ⟨x, hx, rfl⟩ := List.mem_map.mp hn
   exact ⟨(hW.vec hx).1.pos, (hW.vec hx).2.1.2⟩
  have mD : m ∣ D := m2 D fun n hn => by
   obtain ⟨x, hx, rfl⟩ := List.mem_map.mp hn
   exact (hW.vec hx).2.2
  have mle : m ≤ D := Int.le_of_dvd hW.fit.pos mD
  have mB : m ≤ 2 ^ B := Int.le_trans mle hW.fit.le
  have hB := hW.le
  have bm : bnd (B + 1) m := bnd_of ⟨by have := pow_pos2 B; omega, mB⟩
  subst e1
  refine st fun N1 e1 => ?_
  walk_at "rd2"
  refine compE_st fun B1 eB1 => ?_
  simp only [iSeq]
  walk_at "rd2"
  refine ch_ix0 (hC.up s2) fun a' ps' ha' hP' => ?_
  have hlp' : (ps'.map V.ref).length = d := by rw [List.length_map, hP'.1, hl]
  have hS' : SqB true K H2 a' (ps'.map V.ref) := SqB.tup ha'
  refine ⟨true, a', rfl, ⟨_, hS'⟩, fun a2 ha2 => ?_⟩
  refine cg_seq (RowR a2 fun j => ((C.1.getD j ([], 1)).1.map (· * m.fdiv (C.1.getD j ([], 1)).2))) ha2 hS' (by omega) (RowR.mono (a := a2)) ?_ ?_
  ·intro i v H3 zs ex s3 ez Q' hQ'
   obtain ⟨pr, x, rfl, er, hp⟩ := hP'.at ex
   obtain ⟨gx, bx, dx⟩ := hW.vec (List.mem_of_getElem? er)
   have ed : C.1.getD i ([], 1) = x := by rw [List.getD_eq_getElem?_getD, er]; rfl
   have xm : x.2 ∣ m := m1 _ (List.mem_map.mpr ⟨x, List.mem_of_getElem? er, rfl⟩)
   subst eB1
   show tCompG _ _ _ _ _ [some (.ref pr), some (.int m)] H3 Q'
   refine compE_st fun B2 eB2 => ?_
   simp only [iSeq]
   walk_at "rd2"
   refine place_ix0 (hp.up s3) fun x1 hx1 => ?_
   have hX : SqB true K H3 x1 (x.1.map V.int) := SqB.tup hx1
   refine ⟨true, x1, rfl, ⟨_, hX⟩, fun a3 ha3 => ?_⟩
   refine cg_seq (fun j y _ => ∃ n, x.1[j]? = some n ∧ y = .int (n * m.fdiv x.2)) ha3 hX (by rw [List.length_map, gx.len]; omega) (fun _ _ _ _ r _ => r) ?_ ?_
   ·intro j y H4 zs4 ey s4 ez4 Q2 hQ2
    obtain ⟨n, en, rfl⟩ := ints_at ey
    subst eB2
    show tOp _ _ _ [some (.int n), some (.ref pr), some (.int m)] H4 Q2
    walk_at "rd2"
    refine place_ix1 (hp.up (s3.trans s4)) ?_
    try walk_at "rd2"
    have bq : bnd (B + 1) (m.fdiv x.2) := Nat.lt_of_le_of_lt (abs_fdiv xm) bm
    refine ⟨⟨by have := gx.pos; omega, Nat.lt_of_lt_of_le ((Nat.log2_lt (by have := gx.pos; omega)).mpr bx.2) (by decide)⟩, (bx.1 n (List.mem_of_getElem? en)).ok bq (by omega), hQ2 _ _ (Same.refl _) ⟨n, en, rfl⟩⟩
   ·intro H4 ys s4 e4 hly4 hr4
    have ey : ys = (x.1.map (· * m.fdiv x.2)).map V.int := by
     rw [List.map_map]
     exact list_is (by simpa using hly4) hr4
    subst ey
    refine hQ' _ _ s4 ⟨a3, rfl, Ne.symm (ne_of_none ez ha3), ?_⟩
    dsimp only
    rw [ed]
    exact e4
  intro H3 ys s3 e3 hly3 hr3
  have hM0 := MatL.of e3 hr3
  have ec : ((List.range ys.length).map fun j => ((C.1.getD j ([], 1)).1.map (· * m.fdiv (C.1.getD j ([], 1)).2))) = colsM m C.1 := by
   rw [hly3, hlp']
   refine List.ext_getElem (by simp [colsM, hl]) fun i h1 h2 => ?_
   have hi : i < C.1.length := by simpa [colsM] using h2
   simp [colsM, hi]
  rw [ec] at hM0
  have hcl : (colsM m C.1).length = d := by simp [colsM, hl]
  have hcr : ∀ r ∈ colsM m C.1, r.length = d := fun r hr => by
   obtain ⟨x, hx, rfl⟩ := List.mem_map.mp hr
   simp [(hW.vec hx).1.len]
  subst e1
  walk_at "rd2"
  refine ⟨false, false, a2, colsM m C.1, d, rfl, hM0.b, fun z => by rw [z] at hcl; simp at hcl; omega, hcr, by omega, by omega, fun r H4 _ s4 hT => ?_⟩
  try walk_at "rd2"
  have hsq : Sq d (turnM d (colsM m C.1)) := turn_sq hcl
  have hm0 := cast_ne (show m ≠ 0 by omega)
  have key : tm (turnM d (colsM m C.1)) m = mx C := by
   funext i k
   by_cases o : d ≤ i ∨ d ≤ k
   ·rw [tm_out hsq o]
    rcases o with o | o
    ·exact (hW.good.inA.r i k o).symm
    ·exact (hW.good.inA.c i k o).symm
   ·have hk : k < d := by omega
    have gx := hW.good.col hk
    unfold tm mx val
    rw [cols_at hl (fun x hx => (hW.vec hx).1.len) (by omega) hk]
    have hm : C.1.getD k ([], 1) ∈ C.1 := by simp [show k < C.1.length by omega]
    have xm : (C.1.getD k ([], 1)).2 ∣ m := m1 _ (List.mem_map.mpr ⟨_, hm, rfl⟩)
    generalize C.1.getD k ([], 1) = x at *
    have h2 := cast_ne (show x.2 ≠ 0 by have := gx.pos; omega)
    have e : m.fdiv x.2 * x.2 = m := fdiv_exact (by have := gx.pos; omega) xm
    have e' : ((m.fdiv x.2 : Int) : Rat) * (x.2 : Rat) = (m : Rat) := by rw [← Rat.intCast_mul, e]
    rw [Rat.intCast_mul]
    generalize ((m.fdiv x.2 : Int) : Rat) = f at *
    generalize ((x.1.getD i 0 : Int) : Rat) = g at *
    generalize (x.2 : Rat) = u at *
    generalize (m : Rat) = v at *
    grind
  refine ⟨by show 2 ≤ sizeLine; decide, fun q hq => hQ q _ _ m (((s2.trans s3).trans s4).trans (Same.new hq)) ⟨r, upd_same, (hT.up (Same.new hq)).b⟩ hsq m0 mB (fun row hrow x hx => ?_) key⟩
  obtain ⟨i, k, hi, hk, rfl⟩ := mem_at hsq hrow hx
  obtain ⟨z, ez, l, u⟩ := hW.fit.m i k
  have e1 : ((turnM d (colsM m C.1)).getD i []).getD k 0 * D = z * m := by
   refine Rat.intCast_inj.mp ?_
   rw [Rat.intCast_mul, Rat.intCast_mul, ← ez]
   show _ = mx C i k * _ * _
   rw [← key]
   unfold tm
   grind
  exact bnd_of (fit_bd hW.fit.pos m0 mle e1 l u)
theorem ok_home (T : Txt K mg t) : FnOk P w K mg base CX0 7 t.a_home t.d_home ["one"] (sp_home K) := by
 have G_forth : FnOk P w K mg base CX0 3 t.a_forth t.d_forth ["one"] (sp_forth K) := ok_forth T
 have G_crossed : FnOk P w K mg base CX0 6 t.a_crossed t.d_crossed ["rows"] (sp_crossed K) := ok_crossed T
 have G_scaled : FnOk P w K mg base CX0 1 t.a_scaled t.d_scaled ["rows", "count"] (sp_scaled K) := ok_scaled T
 refine T.F_home.ok sc_home (fun vs H Q E h => ?_) (fun cdv A outer s H vs Q E hr h => ?_)
 ·obtain ⟨p, C, d, D, B, rfl, _⟩ := h
  rfl
 ·obtain ⟨p, C, n, D, B, rfl, hC, hW, hreg, hQ⟩ := h
  have hd := hW.d23
  have hB := hW.le
  have G_determinant : FnOk P w K mg base CX0 (n + 1) t.a_determinant t.d_determinant ["rows"] (sp_determinant K n) := ok_determinant T n
  refine ⟨_, (pss_cons (ps_set (i := 1) sc_home.nd rfl (Or.inl rfl) (pe_call G_forth (hr.mono (by omega)) rfl T.m_forth T.F_forth.kp T.b_forth .nil pass0 (pa_cons (pv 0) pa_nil)))
   (pss_one (ps_ret (pe_tup (pa_cons (pe_call G_scaled (hr.mono (by omega)) rfl T.m_scaled T.F_scaled.kp T.b_scaled .nil pass0 (pa_cons (pe_call G_crossed (hr.mono (by omega)) rfl T.m_crossed T.F_crossed.kp T.b_crossed .nil pass0 (pa_cons (pe_ix ix_B (pv 1) pe_int (fun _ _ => rfl)) pa_nil)) (pa_cons (pe_ix ix_B (pv 1) pe_int (fun _ _ => rfl)) pa_nil))) (pa_cons (pe_call G_determinant (hr.mono (by omega)) rfl T.m_determinant T.F_determinant.kp T.b_determinant .nil pass0 (pa_cons (pe_ix ix_B (pv 1) pe_int (fun _ _ => rfl)) pa_nil)) pa_nil)))))), ?_⟩
  show tSeq _ _ _ [some (.ref p), none] H
  refine st fun N1 e1 => ?_
  walk_at "rd2"
  refine ⟨p, C, n, D, B, rfl, hC, hW, fun r H1 R u s1 hT hsq u0 uB hb key => ?_⟩
  subst e1
  walk_at "rd2"
  refine tab_ix0 hT fun m hm => ?_
  try walk_at "rd2"
  have hbM : BitsM (B + 1) R := hb
  refine ⟨false, false, m, R, n, rfl, hm, hsq, by omega, by omega, fun r hr x hx => bnd.up (hb r hr x hx) (by omega), fun c H2 _ s2 hc => ?_⟩
  try walk_at "rd2"
  refine tab_ix1 (hT.up s2) ?_
  try walk_at "rd2"
  have bu : bnd (B + 1) u := bnd_of ⟨by have := pow_pos2 B; omega, uB⟩
  have csq : Sq n (crsM n R) := crs_sq'
  have bc : ∀ r ∈ crsM n R, ∀ x ∈ r, bnd (2 * B + 7) x := fun r hr x hx => by
   obtain ⟨i, hi, rfl⟩ := List.mem_map.mp hr
   obtain ⟨k, hk, rfl⟩ := List.mem_map.mp hx
   have hi' := List.mem_range.mp hi
   have hk' := List.mem_range.mp hk
   obtain ⟨q, rfl⟩ : ∃ q, n = q + 1 := ⟨n - 1, by omega⟩
   unfold bnd
   show (cofM q R k i).natAbs < _
   unfold cofM
   rw [Int.natAbs_mul, sg_abs, Nat.one_mul]
   refine det_lt (by omega) (by omega) (hsq.minor hk' hi') hbM.minor ?_
   have : q * (B + 1 + 2) ≤ 2 * (B + 3) := Nat.mul_le_mul (by omega) (by omega)
   omega
  refine ⟨false, false, c, crsM n R, u, rfl, hc.b, by rw [csq.1]; omega, fun r hr => by rw [csq.2 r hr]; omega, fun r hr x hx => bu.ok (bc r hr x hx) (by omega), fun q H3 _ s3 hq => ?_⟩
  try walk_at "rd2"
  refine tab_ix0 ((hT.up s2).up s3) fun m' hm' => ?_
  try walk_at "rd2"
  refine sp_det_mk (B := B + 1) (by omega) (by omega) hm' hsq hbM (by omega) fun H4 s4 => ?_
  try walk_at "rd2"
  have hz : detM n R ≠ 0 := reg_tab hd hsq (show u ≠ 0 by omega) (by rw [key]; exact hreg)
  have hi := inv_tab hd hsq (show u ≠ 0 by omega) hz
  rw [key] at hi
  refine ⟨by show 2 ≤ sizeLine; decide, fun q' hq' => hQ q' _ _ _ ((((s1.trans s2).trans s3).trans s4).trans (Same.new hq')) ⟨q, upd_same, ((hq.up s4).up (Same.new hq')).b⟩ (sq_map csq) hz hi.1 hi.2 (fun row hrow x hx => ?_) ?_⟩
  ·obtain ⟨r, hr, rfl⟩ := List.mem_map.mp hrow
   obtain ⟨y, hy, rfl⟩ := List.mem_map.mp hx
   exact (bu.mul (bc r hr y hy)).up (by omega)
  ·refine det_lt (by omega) (by omega) hsq hbM ?_
   have : n * (B + 1 + 2) ≤ 3 * (B + 3) := Nat.mul_le_mul (by omega) (by omega)
   omega
theorem dot_s3 {d i : Nat} {R : List (List Int)} {x : Pl} {row : List Int} (hd : d = 2 ∨ d = 3) (hsq : Sq d R) (gx : GoodP d x) {u : Int} (e : R[i]? = some row) (hu : u ≠ 0) : ((dotI row x.1 : Int) : Rat) / ((u * x.2 : Int) : Rat) = s3 fun j => tm R u i j * val x j := by
 have h1 := cast_ne hu
 have h2 := cast_ne (show x.2 ≠ 0 by have := gx.pos; omega)
 have hrow : R.getD i [] = row := by rw [List.getD_eq_getElem?_getD, e]; rfl
 have hl := hsq.2 row (List.mem_of_getElem? e)
 have hx := gx.len
 unfold s3 tm val
 rw [hrow]
 obtain ⟨ts, v⟩ := x
 simp only at hx h2 ⊢
 rw [Rat.intCast_mul]
 rcases hd with rfl | rfl
 ·match row, hl, ts, hx with
  | [a, b], _, [c, e], _ =>
   simp [dotI]
   grind
 ·match row, hl, ts, hx with
  | [a, b, c], _, [a', b', c'], _ =>
   simp [dotI]
   grind
theorem ok_led (T : Txt K mg t) : FnOk P w K mg base CX0 3 t.a_led t.d_led ["table", "spot"] (sp_led K) := by
 have G_place : FnOk P w K mg base (CX1 P w) 2 t.a_place t.d_place ["tops", "under"] (sp_place K t.a_NoPlace) := ok_place T
 have G_dot : FnOk P w K mg base CX0 1 t.a_dot t.d_dot ["one", "other"] (sp_dot K) := ok_dot T
 refine T.F_led.ok sc_led (fun vs H Q E h => ?_) (fun cdv A outer s H vs Q E hr h => ?_)
 ·obtain ⟨p, q, R, u, x, d, rfl, _⟩ := h
  rfl
 ·obtain ⟨p, q, R, u, x, d, rfl, hT, hx, hsq, hd, hu, bu, bR, gx, bx, hQ⟩ := h
  refine ⟨_, (pss_one (ps_ret (pe_call G_place (hr.mono (by omega)) rfl T.m_place T.F_place.kp T.b_place .nil passes1 (pa_cons (pe_compG (xs := ["row"]) (fr := [("spot", 1)]) (g := (gName 0)) (tt := (tEl (tCall (sp_dot K) [] E0 (tCons (tVar 0) (tCons (tOp (rIxB K) (tVar 1) (tC (.int 0))) tNil))))) (compG_ok (sc := defScope s_led) (N := N_led) rfl rfl (by decide +kernel)) rfl (pi_seq (pe_ix ix_B (pv 0) pe_int (fun _ _ => rfl))) (fun _ _ _ hE1 => (pg_own (N := ["row", "spot"]) (i := 0) hE1 rfl (by decide +kernel))) (fun _ _ _ hE1 => (po_el (pe_call G_dot (hr.mono (by omega)) rfl T.m_dot T.F_dot.kp T.b_dot .nil pass0 (pa_cons (pv 0) (pa_cons (pe_ix ix_B (pv 1) pe_int (fun _ _ => rfl)) pa_nil)))))) (pa_cons (pe_op op_mulB (pe_ix ix_B (pv 0) pe_int (fun _ _ => rfl)) (pe_ix ix_B (pv 1) pe_int (fun _ _ => rfl))) pa_nil))))), ?_⟩
  show tRet _ _ [some (.ref p), some (.ref q)] H
  walk_at "rd2"
  refine compE_st fun B1 eB1 => ?_
  simp only [iSeq]
  walk_at "rd2"
  refine tab_ix0 hT fun m hm => ?_
  obtain ⟨xs, x1, x2, x3⟩ := hm.walk
  refine ⟨false, m, rfl, ⟨_, x1⟩, fun a1 ha1 => ?_⟩
  have hRl := hsq.1
  refine cg_seq (fun j y _ => ∃ row, R[j]? = some row ∧ y = .int (dotI row x.1)) ha1 x1 (by omega) (fun _ _ _ _ r _ => r) ?_ ?_
  ·intro i v H2 zs ex s2 ez Q' hQ'
   obtain ⟨pr, rr, rfl, er, hp⟩ := x3 i v ex
   have hrl := hsq.2 rr (List.mem_of_getElem? er)
   have br := bR rr (List.mem_of_getElem? er)
   subst eB1
   show tCall _ _ _ _ [some (.ref pr), some (.ref q)] H2 Q'
   walk_at "rd2"
   refine place_ix0 (hx.up s2) fun y1 hy1 => ?_
   try walk_at "rd2"
   refine ⟨false, true, pr, y1, rr, x.1, rfl, hp.up s2, SqB.tup hy1, by rw [hrl, gx.len], by omega, fun i2 m k e1 e2 => (br m (List.mem_of_getElem? e1)).ok (bx.1 k (List.mem_of_getElem? e2)), fun H3 s3 => ?_⟩
   exact hQ' _ _ s3 ⟨rr, er, rfl⟩
  intro H2 ys s2 e2 hly hr2
  have ey : ys = (R.map fun row => dotI row x.1).map V.int := by
   rw [List.map_map]
   exact list_is (by omega) hr2
  subst ey
  try walk_at "rd2"
  refine tab_ix1 (hT.up s2) ?_
  try walk_at "rd2"
  refine place_ix1 (hx.up s2) ?_
  try walk_at "rd2"
  have hux : u * x.2 ≠ 0 := Int.mul_ne_zero hu (by have := gx.pos; omega)
  have hl : (R.map fun row => dotI row x.1).length = d := by rw [List.length_map, hRl]
  refine ⟨bu.ok bx.2, ?_⟩
  refine ⟨false, a1, _, u * x.2, rfl, SqB.lst e2, by omega, (bu.mul bx.2).up (by decide), fun z => ?_, fun _ _ r H3 s3' hP => ?_⟩
  ·rcases z with z | z
   ·exact absurd z hux
   ·rw [z] at hl; simp at hl; omega
  ·refine hQ r H3 (redP (u * x.2) _) (s2.trans s3') hP (redP_good hux hl) (fun i => ?_) (fun B1 B2 b1 b2 b3 => red_bits (fun t ht => ?_) ((b1.mul b3.2).up (by omega)))
   ·rw [redP_val hux]
    by_cases hi : i < d
    ·have hi' : i < R.length := by omega
     have e : (R.map fun row => dotI row x.1).getD i 0 = dotI R[i] x.1 := by simp [hi']
     rw [e]
     exact dot_s3 hd hsq gx (by simp [hi']) hu
    ·rw [List.getD_eq_getElem?_getD, List.getElem?_eq_none (by omega)]
     have z : ∀ j, tm R u i j = 0 := fun j => tm_out hsq (.inl (by omega))
     unfold s3
     simp only [z]
     show ((0 : Int) : Rat) / _ = _
     grind
   ·obtain ⟨row, hrow, rfl⟩ := List.mem_map.mp ht
    have k := dot_abs (B := B1) (C := B2) row x.1 (b2 row hrow) b3.1
    have hrl := hsq.2 row hrow
    unfold bnd
    rw [Nat.pow_add _ (B1 + B2) 2]
    have k2 : row.length * 2 ^ (B1 + B2) ≤ 3 * 2 ^ (B1 + B2) := Nat.mul_le_mul_right _ (by omega)
    have k4 := Nat.two_pow_pos (B1 + B2)
    omega
theorem ok_new_place (T : Txt K mg t) : FnOk P w K mg base CX0 8 t.a_new_place t.d_new_place ["spot", "one"] (sp_new_place K) := by
 have G_check_beside : FnOk P w K mg base (CX1 P w) 1 t.a_check_beside t.d_check_beside ["axes", "one"] (sp_check_beside K) := ok_check_beside T
 have G_place_less : FnOk P w K mg base CX0 4 t.a_place_less t.d_place_less ["one", "other"] (sp_place_less K) := ok_place_less T
 have G_led : FnOk P w K mg base CX0 3 t.a_led t.d_led ["table", "spot"] (sp_led K) := ok_led T
 have G_home : FnOk P w K mg base CX0 7 t.a_home t.d_home ["one"] (sp_home K) := ok_home T
 refine T.F_new_place.ok sc_new_place (fun vs H Q E h => ?_) (fun cdv A outer s H vs Q E hr h => ?_)
 ·obtain ⟨p, q, x, C, d, D, B, rfl, _⟩ := h
  rfl
 ·obtain ⟨p, q, x, C, d, D, B, rfl, hC, hx, hW, hreg, gx, bx, hQ⟩ := h
  have hB := hW.le
  have gs := hW.spt
  refine ⟨_, (pss_cons (ps_expr (pe_call G_check_beside (hr.mono (by omega)) rfl T.m_check_beside T.F_check_beside.kp T.b_check_beside .nil passes1 (pa_cons (pe_callB call_lenB rfl T.z_len (by decide +kernel) (pa_cons (pe_ix ix_B (pv 0) pe_int (fun _ _ => rfl)) pa_nil)) (pa_cons (pv 1) pa_nil))))
   (pss_one (ps_ret (pe_call G_led (hr.mono (by omega)) rfl T.m_led T.F_led.kp T.b_led .nil pass0 (pa_cons (pe_call G_home (hr.mono (by omega)) rfl T.m_home T.F_home.kp T.b_home .nil pass0 (pa_cons (pv 1) pa_nil)) (pa_cons (pe_call G_place_less (hr.mono (by omega)) rfl T.m_place_less T.F_place_less.kp T.b_place_less .nil pass0 (pa_cons (pv 0) (pa_cons (pe_ix ix_B (pv 1) pe_int (fun _ _ => rfl)) pa_nil))) pa_nil)))))), ?_⟩
  show tSeq _ _ _ [some (.ref q), some (.ref p)] H
  refine st fun N1 e1 => ?_
  walk_at "rd2"
  refine place_ix0 hx fun x1 hx1 => ?_
  try walk_at "rd2"
  refine ints_len (SqB.tup hx1) ?_
  try walk_at "rd2"
  refine ⟨p, C, by rw [gx.len, hW.good.len], hC, ?_⟩
  subst e1
  try walk_at "rd2"
  refine ⟨p, C, d, D, B, rfl, hC, hW, hreg, fun r H1 R u s1 hT hsq u0 k1 k2 bR bu => ?_⟩
  try walk_at "rd2"
  refine ch_ix1 (hC.up s1) fun b hb => ?_
  try walk_at "rd2"
  refine ⟨q, b, x, C.2, d, rfl, hx.up s1, hb, gx, gs.1, bx, gs.2, hW.d23, fun r2 H2 y s2 hy gy vy by2 => ?_⟩
  try walk_at "rd2"
  refine ⟨r, r2, R, u, y, d, rfl, hT.up s2, hy, hsq, hW.d23, u0, bu.up (by omega), fun row hrow y hy => (bR row hrow y hy).up (by omega), gy, by2, fun r3 H3 z s3' hz gz vz _ => ?_⟩
  refine hQ r3 H3 z ((s1.trans s2).trans s3') hz gz ?_
  have e1 : val z = (⟨tm R u, fun _ => 0⟩ : Aff).app (val y) := by
   funext i
   rw [vz]
   show _ = _ + (0 : Rat)
   grind
  have e2 : (aff C).app (val z) = fun i => (s3 fun j => mm (mx C) (tm R u) i j * val y j) + val C.2 i := by
   rw [e1, ← app_mul]
   funext i
   show (s3 fun j => mm (mx C) (tm R u) i j * val y j) + ((s3 fun j => mx C i j * (0 : Rat)) + val C.2 i) = _
   unfold s3
   grind
  rw [e2, k1]
  funext i
  have := congrFun (app_one (d := d) (x := val y) (by have := hW.d23; omega) fun i hi => val_out (by rw [gy.len]; exact hi)) i
  have e3 : (s3 fun j => (oneA d).m i j * val y j) = val y i := by
   rw [← this]
   show _ = _ + (0 : Rat)
   grind
  rw [e3, vy]
  grind
theorem dvs (x y : Int) (h1 : y ≠ 0) (h2 : y.natAbs < 1073741824) : CDivB x y := ⟨h1, Nat.lt_of_lt_of_le ((Nat.log2_lt (by omega)).mpr (show y.natAbs < 2 ^ 30 from h2)) (by decide)⟩
theorem fms (x y : Int) (h : 0 < y) : 0 ≤ x.fmod y ∧ x.fmod y < y := ⟨Int.fmod_nonneg_of_pos x h, Int.fmod_lt_of_pos x h⟩
theorem atI_ints {ns : List Int} {k : Int} (h0 : 0 ≤ k) (h1 : k < ns.length) : atI (ns.map V.int) k = some (.int (ns.getD k.toNat 0)) := by
 obtain ⟨j, rfl⟩ := Int.eq_ofNat_of_zero_le h0
 exact atI_at (int_at (getD_at (by omega))) rfl
theorem ok_law_cell (T : Txt K mg t) : FnOk P w K mg base CX0 1 t.a_law_cell t.d_law_cell ["_law_script", "_law_k"] (sp_law_cell K) := by
 refine T.F_law_cell.ok sc_law_cell (fun vs H Q E h => ?_) (fun cdv A outer s H vs Q E hr h => ?_)
 ·obtain ⟨p, ns, k, rfl, _⟩ := h
  rfl
 ·obtain ⟨p, ns, k, rfl, hS, h0, q⟩ := h
  refine ⟨_, (pss_one (ps_ret (pe_ifExp (pt_cmpR op_lt (pv 1) (pe_callB call_lenB rfl T.z_len (by decide +kernel) (pa_cons (pv 0) pa_nil)) (nomark _)) (pe_ix ix_B (pv 0) (pv 1) (fun _ _ => rfl)) pe_int))), ?_⟩
  show tRet _ _ [some (.ref p), some (.int k)] H
  walk_at "rd2"
  refine ints_len (b := false) hS ?_
  walk_at "rd2"
  by_cases z : k < ns.length
  ·rw [decide_eq_true z]
   exact iteT ⟨false, p, _, _, _, rfl, rfl, hS, atI_ints h0 z, q⟩
  ·rw [decide_eq_false z]
   refine iteF ?_
   have e : ns.getD k.toNat 0 = 0 := by
    rw [List.getD_eq_getElem?_getD, List.getElem?_eq_none (by omega)]
    rfl
   rw [e] at q
   exact q
theorem ok_law_divides (T : Txt K mg t) : FnOk P w K mg base CX0 1 t.a_law_divides t.d_law_divides ["_law_one", "_law_other"] sp_law_divides := by
 refine T.F_law_divides.ok sc_law_divides (fun vs H Q E h => ?_) (fun cdv A outer s H vs Q E hr h => ?_)
 ·obtain ⟨a, b, rfl, _⟩ := h
  rfl
 ·obtain ⟨a, b, rfl, k⟩ := h
  refine ⟨_, (pss_cons (ps_set (i := 2) sc_law_divides.nd rfl (Or.inl rfl) (pe_lst (pa_cons (pe_callB call_abs rfl T.z_abs (by decide +kernel) (pa_cons (pv 0) pa_nil)) (pa_cons (pe_callB call_abs rfl T.z_abs (by decide +kernel) (pa_cons (pv 1) pa_nil)) pa_nil))))
   (pss_cons (ps_while PassesOwn.never (pt_cmpR op_neZ (pe_ix ix_B (pv 2) pe_int (fun _ _ => rfl)) pe_int (nomark _))
   (pss_one (ps_set (i := 2) sc_law_divides.nd rfl (Or.inl rfl) (pe_lst (pa_cons (pe_ix ix_B (pv 2) pe_int (fun _ _ => rfl)) (pa_cons (pe_op op_modN (pe_ix ix_B (pv 2) pe_int (fun _ _ => rfl)) (pe_ix ix_B (pv 2) pe_int (fun _ _ => rfl))) pa_nil))))))
   (pss_one (ps_ret (pe_ix ix_B (pv 2) pe_int (fun _ _ => rfl)))))), ?_⟩
  show tSeq _ _ _ [some (.int a), some (.int b), none] H
  refine st fun N1 e1 => ?_
  walk_at "rd2"
  refine ⟨by show 2 ≤ sizeLine; decide, fun l hl => ?_⟩
  have s1 : Same H (upd H l (.lst [.int (if a < 0 then -a else a), .int (if b < 0 then -b else b)])) := Same.new hl
  have el : (upd H l (.lst [.int (if a < 0 then -a else a), .int (if b < 0 then -b else b)])) l = some (.lst [.int (if a < 0 then -a else a), .int (if b < 0 then -b else b)]) := upd_same
  generalize upd H l (.lst [.int (if a < 0 then -a else a), .int (if b < 0 then -b else b)]) = H0 at s1 el
  subst e1
  refine st fun N1 e1 => while_st fun B eB => ?_
  refine ⟨fun m σ H1 => ∃ (l : Addr) (g h : Int), σ = [some (.int a), some (.int b), some (.ref l)] ∧ Same H H1 ∧ H1 l = some (.lst [.int g, .int h]) ∧ 0 ≤ g ∧ 0 ≤ h ∧ Int.gcd g h = Int.gcd a b ∧ m = h.toNat,
   ⟨_, l, _, _, rfl, s1, el, absI_nn a, absI_nn b, absI_gcd a b, rfl⟩, ?_⟩
  clear s1 el
  rintro m σ H1 ⟨l, g, h, rfl, s1, el, hg, hh, e, rfl⟩
  have q0 : ∀ Q' : VK, Q' (.int g) H1 → rIxB K (.ref l) (.int 0) H1 Q' := fun Q' q => ⟨false, l, _, _, _, rfl, rfl, SqB.lst el, rfl, q⟩
  have q1 : ∀ Q' : VK, Q' (.int h) H1 → rIxB K (.ref l) (.int 1) H1 Q' := fun Q' q => ⟨false, l, _, _, _, rfl, rfl, SqB.lst el, rfl, q⟩
  walk_at "rd2"
  refine q1 _ ?_
  try walk_at "rd2"
  by_cases z : h = 0
  ·rw [decide_eq_true z]
   refine iteF ?_
   subst e1
   try walk_at "rd2"
   refine q0 _ ?_
   rw [gcd_end e hg z]
   exact k H1 s1
  ·rw [decide_eq_false z]
   refine iteT ⟨fun σ' H' => ∃ l' : Addr, σ' = [some (.int a), some (.int b), some (.ref l')] ∧ Same H H' ∧ H' l' = some (.lst [.int h, .int (g.fmod h)]), ?_, ?_⟩
   ·rintro σ' H' ⟨l', rfl, s2, el'⟩
    have l1 := Int.fmod_lt_of_pos g (show 0 < h by omega)
    have l2 := Int.fmod_nonneg_of_pos g (show 0 < h by omega)
    exact ⟨(g.fmod h).toNat, by omega, l', rfl, s2, _, _, el', hh, l2, by rw [gcd_fmodI]; exact e, rfl⟩
   ·subst eB
    try walk_at "rd2"
    refine q1 _ ?_
    try walk_at "rd2"
    refine q0 _ ?_
    try walk_at "rd2"
    refine q1 _ ?_
    try walk_at "rd2"
    exact ⟨z, by show 2 ≤ sizeLine; decide, fun l' hl' => ⟨s1.trans (Same.new hl'), upd_same⟩⟩
theorem gl_of_pos {u : Int} (h : 0 < u) (ns : List Int) : gl u ns = ns.foldl gcdI u := by unfold gl absI; rw [if_neg (by omega)]
theorem ok_law_lowest (T : Txt K mg t) : FnOk P w K mg base CX0 2 t.a_law_lowest t.d_law_lowest ["_law_tops", "_law_under"] (sp_law_lowest K) := by
 have G_law_divides : FnOk P w K mg base CX0 1 t.a_law_divides t.d_law_divides ["_law_one", "_law_other"] sp_law_divides := ok_law_divides T
 refine T.F_law_lowest.ok sc_law_lowest (fun vs H Q E h => ?_) (fun cdv A outer s H vs Q E hr h => ?_)
 ·obtain ⟨b, a, ns, u, rfl, _⟩ := h
  rfl
 ·obtain ⟨b, a, ns, u, rfl, hS, hl, su, hu, hQ⟩ := h
  refine ⟨_, (pss_cons (ps_set (i := 2) sc_law_lowest.nd rfl (Or.inr rfl) (pv 1))
   (pss_cons (ps_for PassesOwn.never rfl (pi_seq (pv 0)) (pg_name (i := 3) sc_law_lowest.nd rfl (Or.inl rfl))
   (pss_one (ps_set (i := 2) sc_law_lowest.nd rfl (Or.inr rfl) (pe_call G_law_divides (hr.mono (by omega)) rfl T.m_law_divides T.F_law_divides.kp T.b_law_divides .nil pass0 (pa_cons (pv 2) (pa_cons (pv 3) pa_nil))))))
   (pss_one (ps_ret (pe_tup (pa_cons (pe_callTy call_tupB rfl T.z_tuple (by decide +kernel) (pa_cons (pe_compG (xs := ["_law_top"]) (fr := [("_law_by", 2)]) (g := (gName 0)) (tt := (tEl (tOp (rI CDivB fun i j => .int (i.fdiv j)) (tVar 0) (tVar 1)))) (compG_ok (sc := defScope s_law_lowest) (N := N_law_lowest) rfl rfl (by decide +kernel)) rfl (pi_seq (pv 0)) (fun _ _ _ hE1 => (pg_own (N := ["_law_top", "_law_by"]) (i := 0) hE1 rfl (by decide +kernel))) (fun _ _ _ hE1 => (po_el (pe_op op_fdivB (pv 0) (pv 1))))) pa_nil)) (pa_cons (pe_op op_fdivB (pv 1) (pv 2)) pa_nil))))))), ?_⟩
  show tSeq _ _ _ [some (.ref a), some (.int u), none, none] H
  refine st fun N1 e1 => ?_
  walk_at "rd2"
  subst e1
  refine st fun N1 e1 => for_st fun B eB => ?_
  simp only [iSeq]
  walk_at "rd2"
  refine ⟨b, ⟨_, hS⟩, ?_⟩
  refine fr_seq (g := gName 3) (tb := B) (fun i σ H1 => ∃ v3, σ = [some (.ref a), some (.int u), some (.int (gl u (ns.take i))), v3] ∧ Same H H1) ⟨none, by rw [List.take_zero, gl_of_pos hu]; rfl, Same.refl _⟩ (fun i σ H1 _ ⟨_, _, e⟩ => hS.up e) ?_ ?_
  ·rintro i x σ H1 hi ⟨v3, rfl, s1⟩
   obtain ⟨n, hn, rfl⟩ := ints_at hi
   subst eB
   walk_at "rd2"
   refine ⟨_, _, rfl, fun H2 s2 => ?_⟩
   rw [take_snoc hn, gl_snoc]
   first | exact s1.trans s2 | exact ⟨rfl, s1.trans s2⟩ | exact ⟨_, rfl, s1.trans s2⟩
  ·rintro σ H1 ⟨v3, rfl, s1⟩
   rw [List.length_map, List.take_length]
   have ecs : cs u ns = gl u ns := by unfold cs; rw [if_neg (by omega)]
   subst e1
   have hun : u ≠ 0 := by omega
   have sc1 : small (gl u ns) := by rw [← ecs]; exact small_dvd su hun (cs_dvd (gl_u u ns))
   have hne : gl u ns ≠ 0 := by rw [← ecs]; exact cs_ne ns hun
   have hd : ∀ x, CDivB x (gl u ns) := fun x => ⟨hne, small_log sc1 hne⟩
   walk_at "rd2"
   refine compE_st fun B eB => ?_
   simp only [iSeq]
   walk_at "rd2"
   have hS1 := hS.up s1
   refine ⟨b, ⟨_, hS1⟩, fun a1 ha1 => cg_seq (fun j y _ => ∃ n, ns[j]? = some n ∧ y = .int (n.fdiv (gl u ns))) ha1 hS1 (by rw [List.length_map]; omega) (fun _ _ _ _ r _ => r) ?_ ?_⟩
   ·intro i x H2 zs hx _ _ Q' hQ'
    obtain ⟨n, hn, rfl⟩ := ints_at hx
    subst eB
    show tOp _ _ _ [some (.int n), some (.int (gl u ns))] H2 Q'
    walk_at "rd2"
    exact ⟨hd n, hQ' _ H2 (Same.refl _) ⟨n, hn, rfl⟩⟩
   ·intro H2 ys s2 e1 hly hr2
    have ey : ys = (redT u ns).map V.int := by
     unfold redT
     rw [ecs, List.map_map]
     exact list_is (by simpa using hly) hr2
    subst ey
    refine ⟨a1, _, rfl, .inl ⟨SqL.of e1, fun l hl1 => ?_⟩⟩
    walk_at "rd2"
    have eU : u.fdiv (gl u ns) = redU u ns := by unfold redU; rw [ecs]
    refine ⟨hd u, (by show 2 ≤ sizeLine; decide), fun p hp => hQ p _ (((s1.trans s2).trans (Same.new hl1)).trans (Same.new hp)) ⟨l, ?_, ?_⟩⟩
    ·rw [eU]; exact upd_same
    ·rw [upd_ne (ne_of_none upd_same hp)]
     exact upd_same

noncomputable def Uni (d : Nat) (M : List (List Int)) : Prop := detM d M = 1 ∨ detM d M = -1
noncomputable def sp_law_units (K : PySem.W.Frag) : Sp := fun vs H Q _ => ∃ d : Nat, vs = [.int d] ∧ d ≤ 1000 ∧ ∀ r H', H r = none → Same H H' → MatL H' r (idM d) → Q (.ref r) H'
noncomputable def sp_law_rows (K : PySem.W.Frag) : Sp := fun vs H Q _ => ∃ (c most : Int) (d g : Nat), vs = [.int c, .int d, .int most] ∧ (d = 2 ∨ d = 3) ∧ (most = 1 ∧ g = 1 ∨ most = 9 ∧ g = 4) ∧
 ∀ r H' M, Same H H' → MatL H' r M → Sq d M → BitsM (1 + 12 * g) M → Uni d M → Q (.ref r) H'
noncomputable def sp_law_spot (K : PySem.W.Frag) : Sp := fun vs H Q _ => ∃ (c most : Int) (d : Nat), vs = [.int c, .int d, .int most] ∧ (d = 2 ∨ d = 3) ∧ 1 ≤ most ∧ most ≤ 6 ∧ Builtin.Int.intBits c ≤ 1048576 ∧
 ∀ p H' z, Same H H' → PlAt H' p z → GoodP d z → (∀ t ∈ z.1, bnd 200 t) → z.2 ≤ 6 → Q (.ref p) H'
noncomputable def sp_law_times (K : PySem.W.Frag) : Sp := fun vs H Q _ => ∃ (b1 b2 b3 b4 : Bool) (a b : Addr) (A B : List (List Int)) (d : Nat), vs = [.ref a, .ref b] ∧ MatB b1 b2 K H a A ∧ MatB b3 b4 K H b B ∧ Sq d A ∧ Sq d B ∧ d ≤ 100 ∧ MulOkM A B ∧
 ∀ r H', H r = none → Same H H' → MatL H' r (mulM d A B) → Q (.ref r) H'
noncomputable def sp_law_undone (K : PySem.W.Frag) : Sp := fun vs H Q _ => ∃ (b1 b2 : Bool) (a : Addr) (V : List (List Int)) (d : Nat), vs = [.ref a] ∧ MatB b1 b2 K H a V ∧ Sq d V ∧ (d = 2 ∨ d = 3) ∧ BitsM 1000 V ∧
 ∀ r H', H r = none → Same H H' → MatL H' r (crsM d V) → Q (.ref r) H'
noncomputable def sp_law_room (K : PySem.W.Frag) : Sp := fun vs H Q _ => ∃ (b1 b2 : Bool) (a : Addr) (V : List (List Int)) (d : Nat), vs = [.ref a] ∧ MatB b1 b2 K H a V ∧ Sq d V ∧ (d = 2 ∨ d = 3) ∧ BitsM 1000 V ∧
 ∀ H', Same H H' → Q (.int (detM d V)) H'
noncomputable def ColAt (H : Hp) (p : Addr) (V : List (List Int)) (u : Int) : Prop := ∃ r, H p = some (.tup [.ref r, .int u]) ∧ MatL H r V
noncomputable def sp_law_told_columns (K : PySem.W.Frag) : Sp := fun vs H Q _ => ∃ (c : Int) (d : Nat), vs = [.int c, .int d] ∧ (d = 2 ∨ d = 3) ∧
 ∀ p H' V u, Same H H' → ColAt H' p V u → Sq d V → BitsM 4 V → 1 ≤ u → u ≤ 6 → Q (.ref p) H'
noncomputable def sp_law_columns (K : PySem.W.Frag) : Sp := fun vs H Q _ => ∃ (a : Addr) (ns : List Int) (d : Nat), vs = [.ref a, .int d] ∧ SqL K H a (ns.map V.int) ∧ (d = 2 ∨ d = 3) ∧
 ∀ p H' V u, Same H H' → ColAt H' p V u → Sq d V → BitsM 52 V → detM d V ≠ 0 → bnd 20 (detM d V) → 1 ≤ u → u ≤ 6 → Q (.ref p) H'
noncomputable def InBase (M V N : List (List Int)) : Prop := mm (tm V 1) (tm N 1) = mm (tm M 1) (tm V 1)
noncomputable def sp_law_new_rows (K : PySem.W.Frag) : Sp := fun vs H Q _ => ∃ (b1 b2 : Bool) (a b : Addr) (M V : List (List Int)) (d : Nat), vs = [.ref a, .ref b] ∧ MatB b1 b2 K H a M ∧ MatB false false K H b V ∧ (d = 2 ∨ d = 3) ∧ Sq d M ∧ Sq d V ∧ BitsM 13 M ∧ BitsM 52 V ∧ detM d V ≠ 0 ∧ bnd 20 (detM d V) ∧
 ((¬ ∃ N, Sq d N ∧ InBase M V N) → ∀ H', Same H H' → Q .non H') ∧
 (∀ r H' N, Same H H' → MatB true true K H' r N → Sq d N → BitsM 200 N → InBase M V N → Q (.ref r) H')
noncomputable def sp_law_only (C : Addr) : Sp := fun vs H Q _ => ∃ e, vs = [.ref e] ∧ H e = some (ExcAt e (.ref C)) ∧ Q (.bl true) H
noncomputable def sp_law_asked (K : PySem.W.Frag) : Sp := fun vs H Q _ => ∃ (p q : Addr) (M : List (List Int)) (z : Pl) (C : Ch) (d : Nat) (D : Int) (B : Nat), vs = [.ref p, .ref q] ∧ DeedAt K H p M z.1 z.2 ∧ ChAt H q C ∧ Wd d D B C ∧ B ≤ 500 ∧ dt d (mx C) ≠ 0 ∧ Sq d M ∧ BitsM 1000 M ∧ GoodP d z ∧ BP 1000 z ∧ z.2 < 2 ^ 150 ∧ C.2.2 < 2 ^ 150 ∧
 (¬ Whole d C M → ∀ r H', Same H H' → H' r = some (.tup [.str "refused", .non]) → Q (.ref r) H') ∧
 (∀ r x H' M' z', Same H H' → H' r = some (.tup [.str "told", .ref x]) → DeedAt K H' x M' z'.1 z'.2 → Sq d M' → GoodP d z' → mm (mx C) (tm M' 1) = mm (tm M 1) (mx C) → (aff C).app (val z') = (dA M z).app (val C.2) → Q (.ref r) H')
noncomputable def sp_law_ints (K : PySem.W.Frag) : Sp := fun vs H Q _ => ∃ (p : Addr) (M : List (List Int)) (z : Pl) (d : Nat), vs = [.ref p] ∧ DeedAt K H p M z.1 z.2 ∧ Sq d M ∧ z.1.length = d ∧ (d = 2 ∨ d = 3) ∧ ∀ H', Same H H' → Q (.bl true) H'
noncomputable def sp_law_lies (K : PySem.W.Frag) : Sp := fun vs H Q _ => ∃ (p q c s : Addr) (M' M V : List (List Int)) (z' z x : Pl) (u : Int) (d : Nat), vs = [.ref p, .ref q, .ref c, .int u, .ref s] ∧ DeedAt K H p M' z'.1 z'.2 ∧ DeedAt K H q M z.1 z.2 ∧ MatB false false K H c V ∧ PlAt H s x ∧
 (d = 2 ∨ d = 3) ∧ Sq d M ∧ Sq d V ∧ GoodP d z' ∧ GoodP d z ∧ GoodP d x ∧ BP 1000 z' ∧ BP 1000 z ∧ BP 1000 x ∧ BitsM 1000 M ∧ BitsM 1000 V ∧ 1 ≤ u ∧ u ≤ 6 ∧ (⟨tm V u, val x⟩ : Aff).app (val z') = (dA M z).app (val x) ∧
 ∀ H', Same H H' → Q (.bl true) H'
noncomputable def sp_law_right (K : PySem.W.Frag) : Sp := fun vs H Q _ => ∃ (p q c s e : Addr) (M' M V : List (List Int)) (z' z x : Pl) (u : Int) (d : Nat), vs = [.ref p, .ref q, .ref c, .int u, .ref s, .ref e] ∧ DeedAt K H p M' z'.1 z'.2 ∧ DeedAt K H q M z.1 z.2 ∧ MatB false false K H c V ∧ PlAt H s x ∧ MatB true true K H e M' ∧
 (d = 2 ∨ d = 3) ∧ Sq d M' ∧ Sq d M ∧ Sq d V ∧ GoodP d z' ∧ GoodP d z ∧ GoodP d x ∧ BP 1000 z' ∧ BP 1000 z ∧ BP 1000 x ∧ BitsM 1000 M ∧ BitsM 1000 V ∧ 1 ≤ u ∧ u ≤ 6 ∧ (⟨tm V u, val x⟩ : Aff).app (val z') = (dA M z).app (val x) ∧
 ∀ H', Same H H' → Q (.bl true) H'
structure Ltr (d : Nat) (E : Int) (A B : Nat) (M : List (List Int)) (z : Pl) : Prop where
 sq : Sq d M
 good : GoodP d z
 uni : Uni d M
 bm : BitsM A M
 pos : 0 < E
 le : E ≤ 2 ^ 100
 fit : ∀ i, Fit E B (val z i)
noncomputable def lett (g0 g1 b0 b1 : Aff) (c : Int) : Aff := match (c.fmod 4).toNat with | 0 => g0 | 1 => g1 | 2 => b0 | _ => b1
noncomputable def wordA (ns : List Int) (g0 g1 b0 b1 : Aff) : Aff := ns.foldl (fun T c => (lett g0 g1 b0 b1 c).mul T) (b0.mul g0)
structure Undo (d : Nat) (g b : Aff) : Prop where
 l : b.mul g = oneA d
 r : g.mul b = oneA d
 i : InA d b
noncomputable def cut20 (ns : List Int) : List Int := (ns.drop 8).take 20
noncomputable def sp_law_word (K : PySem.W.Frag) : Sp := fun vs H Q _ => ∃ (l a p0 p1 : Addr) (ns : List Int) (M0 M1 : List (List Int)) (z0 z1 : Pl) (E : Int) (d A B : Nat), vs = [.ref l, .ref a] ∧ H l = some (.lst [.ref p0, .ref p1]) ∧ SqL K H a (ns.map V.int) ∧
 (d = 2 ∨ d = 3) ∧ DeedAt K H p0 M0 z0.1 z0.2 ∧ DeedAt K H p1 M1 z1.1 z1.2 ∧ Ltr d E A B M0 z0 ∧ Ltr d E A B M1 z1 ∧ A ≤ 200 ∧ 100 ≤ B ∧ B ≤ 500 ∧
 ∀ r H' M z b0 b1, Same H H' → DeedAt K H' r M z.1 z.2 → Sq d M → GoodP d z → BitsM (22 * (2 * A + 8)) M → (∀ i, Fit E (B + 22 * (2 * A + 8)) (val z i)) →
  Undo d (dA M0 z0) b0 → Undo d (dA M1 z1) b1 → dA M z = wordA (cut20 ns) (dA M0 z0) (dA M1 z1) b0 b1 → Q (.ref r) H'

theorem mm_assoc (A B C : Nat → Nat → Rat) : mm (mm A B) C = mm A (mm B C) := by
 funext i k
 unfold mm s3
 grind
theorem mm_idL {d : Nat} {V : Nat → Nat → Rat} (hd : d ≤ 3) (h : ∀ i k, d ≤ i ∨ d ≤ k → V i k = 0) : mm (oneA d).m V = V :=
 congrArg Aff.m (one_mulA (A := ⟨V, fun _ => 0⟩) hd ⟨fun i k o => h i k (.inl o), fun i k o => h i k (.inr o), fun _ _ => rfl⟩)
theorem mm_out {d : Nat} {V W : Nat → Nat → Rat} (h : ∀ i k, d ≤ i ∨ d ≤ k → V i k = 0) (h' : ∀ i k, d ≤ i ∨ d ≤ k → W i k = 0) (i k : Nat) (o : d ≤ i ∨ d ≤ k) : mm V W i k = 0 := by
 unfold mm s3
 rcases o with o | o
 ·simp only [h i _ (.inl o)]; grind
 ·simp only [h' _ k (.inr o)]; grind
theorem mul_sq {d : Nat} {A B : List (List Int)} (ha : Sq d A) : Sq d (mulM d A B) := ⟨by simp [mulM, ha.1], fun r hr => by
 obtain ⟨z, _, rfl⟩ := List.mem_map.mp hr
 simp⟩
theorem tm_mul {d : Nat} {A B : List (List Int)} {u v : Int} (hd : d = 2 ∨ d = 3) (ha : Sq d A) (hb : Sq d B) (hu : u ≠ 0) (hv : v ≠ 0) : tm (mulM d A B) (u * v) = mm (tm A u) (tm B v) := by
 have hu' := cast_ne hu
 have hv' := cast_ne hv
 funext i k
 by_cases o : d ≤ i ∨ d ≤ k
 ·rw [tm_out (mul_sq ha) o, mm_out (fun i k o => tm_out ha o) (fun i k o => tm_out hb o) i k o]
 ·rcases hd with rfl | rfl
  ·obtain ⟨a, b, c, e, rfl⟩ := two_of ha
   obtain ⟨a', b', c', e', rfl⟩ := two_of hb
   unfold mm s3 tm
   rcases (show i = 0 ∨ i = 1 by omega) with rfl | rfl <;> rcases (show k = 0 ∨ k = 1 by omega) with rfl | rfl <;> simp [mulM, colI, dotI, List.range, List.range.loop] <;> grind
  ·obtain ⟨a, b, c, a1, b1, c1, a2, b2, c2, rfl⟩ := three_of ha
   obtain ⟨p, q, r, p1, q1, r1, p2, q2, r2, rfl⟩ := three_of hb
   unfold mm s3 tm
   rcases (show i = 0 ∨ i = 1 ∨ i = 2 by omega) with rfl | rfl | rfl <;> rcases (show k = 0 ∨ k = 1 ∨ k = 2 by omega) with rfl | rfl | rfl <;> simp [mulM, colI, dotI, List.range, List.range.loop] <;> grind
theorem cast_one : ((1 : Int) : Rat) = 1 := rfl
theorem tm_whole {d : Nat} {N : List (List Int)} {u : Int} (h : Sq d N) (hu : u ≠ 0) (hd : ∀ r ∈ N, ∀ x ∈ r, u ∣ x) : tm (N.map fun r => r.map (·.fdiv u)) 1 = tm N u := by
 funext i k
 have hu' := cast_ne hu
 by_cases o : d ≤ i ∨ d ≤ k
 ·rw [tm_out h o, tm_out (sq_map h) o]
 ·have hi : i < N.length := by rw [h.1]; omega
  have hk : k < N[i].length := by rw [h.2 _ (List.getElem_mem hi)]; omega
  have e := fdiv_exact hu (hd _ (List.getElem_mem hi) _ (List.getElem_mem hk))
  have e1 : ((N.map fun r => r.map (·.fdiv u)).getD i []).getD k 0 = (N[i][k]).fdiv u := by simp [hi, hk]
  have e2 : (N.getD i []).getD k 0 = N[i][k] := by simp [hi, hk]
  unfold tm
  rw [e1, e2, ← e, Rat.intCast_mul, cast_one, fdiv_exact hu ⟨(N[i][k]).fdiv u, by rw [Int.mul_comm]; exact e.symm ▸ rfl⟩]
  grind
theorem whole_tm {d : Nat} {M N : List (List Int)} {u : Int} (hN : Sq d N) (hu : u ≠ 0) (e : tm M 1 = tm N u) : ∀ r ∈ N, ∀ x ∈ r, u ∣ x := fun r hr x hx => by
 obtain ⟨i, k, _, _, ex⟩ := mem_at hN hr hx
 have e1 := congrFun (congrFun e i) k
 have hu' := cast_ne hu
 unfold tm at e1
 rw [← ex, cast_one] at e1
 refine ⟨(M.getD i []).getD k 0, Rat.intCast_inj.mp ?_⟩
 rw [Rat.intCast_mul]
 generalize (((M.getD i []).getD k 0 : Int) : Rat) = a at *
 generalize (x : Rat) = b at *
 generalize (u : Rat) = c at *
 grind
theorem conj_iff {d : Nat} {V W X Y : Nat → Nat → Rat} (hd : d ≤ 3) (h1 : mm V W = (oneA d).m) (h2 : mm W V = (oneA d).m) (hV : ∀ i k, d ≤ i ∨ d ≤ k → V i k = 0) (hX : ∀ i k, d ≤ i ∨ d ≤ k → X i k = 0) (hY : ∀ i k, d ≤ i ∨ d ≤ k → Y i k = 0) :
  mm V Y = mm X V ↔ Y = mm (mm W X) V := by
 constructor
 ·intro e
  have := congrArg (mm W) e
  rw [← mm_assoc, h2, mm_idL hd hY] at this
  rw [this, mm_assoc]
 ·intro e
  rw [e, ← mm_assoc, ← mm_assoc, h1, mm_idL hd hX]
theorem mov_val {d : Nat} {M : List (List Int)} {z x : Pl} (hd : d = 2 ∨ d = 3) (hM : Sq d M) (gz : GoodP d z) (gx : GoodP d x) : val (redP (z.2 * x.2) (movT M z.1 z.2 x.1 x.2)) = (dA M z).app (val x) := by
 have hu : z.2 ≠ 0 := by have := gz.pos; omega
 have hv : x.2 ≠ 0 := by have := gx.pos; omega
 have hu' := cast_ne hu
 have hv' := cast_ne hv
 have huv : z.2 * x.2 ≠ 0 := Int.mul_ne_zero hu hv
 funext i
 rw [redP_val huv]
 show _ = (s3 fun j => tm M 1 i j * val x j) + val z i
 by_cases hi : i < d
 ·have i1 : i < M.length := by rw [hM.1]; exact hi
  have i2 : i < z.1.length := by rw [gz.len]; exact hi
  have e1 : (movT M z.1 z.2 x.1 x.2).getD i 0 = dotI M[i] x.1 * z.2 + z.1[i] * x.2 := by
   simp [movT, List.getD_eq_getElem?_getD, List.getElem?_zipWith, i1, i2]
  have e2 := dot_s3 (u := 1) (i := i) (row := M[i]) hd hM gx (by simp [i1]) (by decide)
  rw [e1, ← e2]
  unfold val
  have e3 : z.1.getD i 0 = z.1[i] := by simp [i2]
  rw [e3, Rat.intCast_add, Rat.intCast_mul, Rat.intCast_mul, Rat.intCast_mul, Rat.intCast_mul, cast_one]
  generalize ((dotI M[i] x.1 : Int) : Rat) = a at *
  generalize ((z.1[i] : Int) : Rat) = b at *
  generalize (z.2 : Rat) = c at *
  generalize (x.2 : Rat) = e at *
  grind
 ·have e1 : (movT M z.1 z.2 x.1 x.2).getD i 0 = 0 := by
   rw [List.getD_eq_getElem?_getD, List.getElem?_eq_none (by simp [movT, hM.1, gz.len]; omega)]; rfl
  rw [e1, val_out (by rw [gz.len]; omega)]
  have e2 : ∀ j, tm M 1 i j = 0 := fun j => tm_out hM (.inl (by omega))
  simp only [e2]
  unfold s3
  have : ((0 : Int) : Rat) = 0 := rfl
  rw [this]
  grind
theorem mov_good {d : Nat} {M : List (List Int)} {z x : Pl} (hM : Sq d M) (gz : GoodP d z) (gx : GoodP d x) : GoodP d (redP (z.2 * x.2) (movT M z.1 z.2 x.1 x.2)) :=
 redP_good (Int.mul_ne_zero (by have := gz.pos; omega) (by have := gx.pos; omega)) (by simp [movT, hM.1, gz.len])
theorem mov_bits {d A B Bz : Nat} {M : List (List Int)} {z x : Pl} (hd : d ≤ 4) (hAB : 145 ≤ A + B) (hBz : Bz ≤ A + B) (hM : Sq d M) (bM : BitsM A M) (bz : BP Bz z) (hu : bnd 150 z.2) (bx : BP B x) (hv : bnd 150 x.2) : BP (A + B + 155) (redP (z.2 * x.2) (movT M z.1 z.2 x.1 x.2)) := by
 refine red_bits (fun t ht => ?_) ((hu.mul hv).up (by omega))
 unfold movT at ht
 obtain ⟨i, hi, rfl⟩ := List.getElem_of_mem ht
 rw [List.getElem_zipWith]
 simp at hi
 replace hi : i < M.length ∧ i < z.1.length := ⟨by omega, by omega⟩
 have h1 := dot_abs M[i] x.1 (bM _ (List.getElem_mem hi.1)) bx.1
 have hl : M[i].length ≤ 4 := by rw [hM.2 _ (List.getElem_mem hi.1)]; exact hd
 have h2 : bnd (A + B + 3) (dotI M[i] x.1) := by
  unfold bnd
  have : M[i].length * 2 ^ (A + B) ≤ 4 * 2 ^ (A + B) := Nat.mul_le_mul_right _ hl
  have := Nat.two_pow_pos (A + B)
  rw [Nat.pow_add]
  omega
 have h3 := h2.mul hu
 have h4 := (bz.1 _ (List.getElem_mem hi.2)).mul hv
 exact ((h3.up (Nat.le_refl _)).add (h4.up (show Bz + 150 ≤ A + B + 3 + 150 by omega))).up (by omega)

theorem any_bl {α : Type} (xs : List α) (f : α → Bool) : (xs.map f).any id = xs.any f := by
 rw [List.any_map]; rfl
theorem ok_new_deed (T : Txt K mg t) : FnOk P w K mg base (CX1 P w) 9 t.a_new_deed t.d_new_deed ["one", "way"] (sp_new_deed K t.a_NotKept) := by
 have G_check_beside : FnOk P w K mg base (CX1 P w) 1 t.a_check_beside t.d_check_beside ["axes", "one"] (sp_check_beside K) := ok_check_beside T
 have G_forth : FnOk P w K mg base CX0 3 t.a_forth t.d_forth ["one"] (sp_forth K) := ok_forth T
 have G_home : FnOk P w K mg base CX0 7 t.a_home t.d_home ["one"] (sp_home K) := ok_home T
 have G_times : FnOk P w K mg base CX0 2 t.a_times t.d_times ["one", "other"] (sp_times K) := ok_times T
 have G_moved : FnOk P w K mg base CX0 3 t.a_moved t.d_moved ["one", "spot"] (sp_moved K) := ok_moved T
 have G_new_place : FnOk P w K mg base CX0 8 t.a_new_place t.d_new_place ["spot", "one"] (sp_new_place K) := ok_new_place T
 have G_joined : FnOk P w K mg base CX0 1 t.a_joined t.d_joined ["rows", "spot"] (sp_joined K) := ok_joined T
 refine T.F_new_deed.okX sc_new_deed (fun vs H Q E h => ?_) (fun cdv A outer s H vs Q E hr h => ?_)
 ·obtain ⟨p, q, M, z, C, d, D, B, rfl, _⟩ := h
  rfl
 ·obtain ⟨p, q, M, z, C, d, D, B, rfl, hD, hC, hW, hB, hreg, hM, bM, gz, bz, lz, lc, hE, hQ⟩ := h
  have hd := hW.d23
  refine ⟨_, (pss_cons (ps_expr (pe_call G_check_beside (hr.mono (by omega)) rfl T.m_check_beside T.F_check_beside.kp T.b_check_beside .nil passes1 (pa_cons (pe_callB call_lenB rfl T.z_len (by decide +kernel) (pa_cons (pe_ix ix_B (pv 0) pe_int (fun _ _ => rfl)) pa_nil)) (pa_cons (pv 1) pa_nil))))
   (pss_cons (ps_set (i := 2) sc_new_deed.nd rfl (Or.inl rfl) (pe_call G_forth (hr.mono (by omega)) rfl T.m_forth T.F_forth.kp T.b_forth .nil pass0 (pa_cons (pv 1) pa_nil)))
   (pss_cons (ps_set (i := 3) sc_new_deed.nd rfl (Or.inl rfl) (pe_call G_home (hr.mono (by omega)) rfl T.m_home T.F_home.kp T.b_home .nil pass0 (pa_cons (pv 1) pa_nil)))
   (pss_cons (ps_set (i := 4) sc_new_deed.nd rfl (Or.inl rfl) (pe_call G_times (hr.mono (by omega)) rfl T.m_times T.F_times.kp T.b_times .nil pass0 (pa_cons (pe_call G_times (hr.mono (by omega)) rfl T.m_times T.F_times.kp T.b_times .nil pass0 (pa_cons (pe_ix ix_B (pv 3) pe_int (fun _ _ => rfl)) (pa_cons (pe_ix ix_B (pv 0) pe_int (fun _ _ => rfl)) pa_nil))) (pa_cons (pe_ix ix_B (pv 2) pe_int (fun _ _ => rfl)) pa_nil))))
   (pss_cons (ps_set (i := 5) sc_new_deed.nd rfl (Or.inr rfl) (pe_op op_mulB (pe_ix ix_B (pv 3) pe_int (fun _ _ => rfl)) (pe_ix ix_B (pv 2) pe_int (fun _ _ => rfl))))
   (pss_cons (ps_if (pt_val (pe_callB (call_any rfl) rfl T.z_any (by decide +kernel) (pa_cons (pe_compG (xs := ["row"]) (fr := [("under", 5)]) (g := (gName 0)) (tt := (tEl (tCB (fun xs H Q => ∃ (p : Addr) (bs : List Bool), xs = [.ref p] ∧ SqL K H p (bs.map V.bl) ∧ Q (.bl (bs.any id)) H) (tCons (tCompG (iSeq K (tVar 0)) (gName 0) (tEl (tOp (rI0 fun i j => .bl (!decide (i = j))) (tOp (rI (fun _ j => j ≠ 0) fun i j => .int (i.fmod j)) (tVar 0) (tVar 1)) (tC (.int 0)))) 1 [("under", 1)]) tNil)))) (compG_ok (sc := defScope s_new_deed) (N := N_new_deed) rfl rfl (by decide +kernel)) rfl (pi_seq (pv 4)) (fun _ _ _ hE1 => (pg_own (N := ["row", "under"]) (i := 0) hE1 rfl (by decide +kernel))) (fun _ _ _ hE1 => (po_el (pe_callB (call_any rfl) rfl T.z_any (by decide +kernel) (pa_cons (pe_compG (xs := ["number"]) (fr := [("under", 1)]) (g := (gName 0)) (tt := (tEl (tOp (rI0 fun i j => .bl (!decide (i = j))) (tOp (rI (fun _ j => j ≠ 0) fun i j => .int (i.fmod j)) (tVar 0) (tVar 1)) (tC (.int 0))))) (compG_ok (N := ["row", "under"]) hE1 rfl (by decide +kernel)) rfl (pi_seq (pv 0)) (fun _ _ _ hE2 => (pg_own (N := ["number", "under"]) (i := 0) hE2 rfl (by decide +kernel))) (fun _ _ _ hE2 => (po_el (pe_cmpR op_neZ (pe_op op_modN (pv 0) (pv 1)) pe_int (nomark _))))) pa_nil))))) pa_nil)))
   (pss_one (ps_raise rfl landsN_def rfl T.m_NotKept T.x_NotKept PySem.F.excBase_ValueError (pa_cons pe_str pa_nil)))
   pss_nil)
   (pss_cons (ps_setCG (i := 6) (xs := ["row"]) (fr := [("under", 5)]) (g := (gName 0)) (tt := (tEl (tCompG (iSeq K (tVar 0)) (gName 0) (tEl (tOp (rI CDivB fun i j => .int (i.fdiv j)) (tVar 0) (tVar 1))) 1 [("under", 1)]))) (compG_ok (sc := defScope s_new_deed) (N := N_new_deed) rfl rfl (by decide +kernel)) rfl sc_new_deed.nd rfl rfl (pi_seq (pv 4)) (fun _ _ _ hE1 => (pg_own (N := ["row", "under"]) (i := 0) hE1 rfl (by decide +kernel))) (fun _ _ _ hE1 => (po_el (pe_compG (xs := ["number"]) (fr := [("under", 1)]) (g := (gName 0)) (tt := (tEl (tOp (rI CDivB fun i j => .int (i.fdiv j)) (tVar 0) (tVar 1)))) (compG_ok (N := ["row", "under"]) hE1 rfl (by decide +kernel)) rfl (pi_seq (pv 0)) (fun _ _ _ hE2 => (pg_own (N := ["number", "under"]) (i := 0) hE2 rfl (by decide +kernel))) (fun _ _ _ hE2 => (po_el (pe_op op_fdivB (pv 0) (pv 1))))))))
   (pss_one (ps_ret (pe_call G_joined (hr.mono (by omega)) rfl T.m_joined T.F_joined.kp T.b_joined .nil pass0 (pa_cons (pv 6) (pa_cons (pe_call G_new_place (hr.mono (by omega)) rfl T.m_new_place T.F_new_place.kp T.b_new_place .nil pass0 (pa_cons (pe_call G_moved (hr.mono (by omega)) rfl T.m_moved T.F_moved.kp T.b_moved .nil pass0 (pa_cons (pv 0) (pa_cons (pe_ix ix_B (pv 1) pe_int (fun _ _ => rfl)) pa_nil))) (pa_cons (pv 1) pa_nil))) pa_nil)))))))))))), ?_⟩
  show tSeq _ _ _ [some (.ref p), some (.ref q), none, none, none, none, none] H
  refine st fun N1 e1 => ?_
  walk_at "rd2"
  refine deed_ix0 hD fun m0 hm0 => ?_
  try walk_at "rd2"
  refine mat_len hm0 ?_
  try walk_at "rd2"
  refine ⟨q, C, by rw [hM.1, hW.good.len], hC, ?_⟩
  subst e1
  refine st fun N1 e1 => ?_
  try walk_at "rd2"
  refine ⟨q, C, d, D, B, rfl, hC, hW, fun o H1 LV ou s1 hV sV pou lou bV eV => ?_⟩
  subst e1
  refine st fun N1 e1 => ?_
  try walk_at "rd2"
  refine ⟨q, C, d, D, B, rfl, hC.up s1, hW, hreg, fun n H2 R nu s2 hR sR nu0 k1 k2 bR bnu => ?_⟩
  have s02 := s1.trans s2
  subst e1
  refine st fun N1 e1 => ?_
  try walk_at "rd2"
  refine tab_ix0 hR fun n0 hn0 => ?_
  try walk_at "rd2"
  refine deed_ix0 (hD.up s02) fun m1 hm1 => ?_
  try walk_at "rd2"
  have hne : ∀ {L : List (List Int)}, Sq d L → L ≠ [] := fun h e => by have := h.1; rw [e] at this; simp at this; omega
  refine ⟨false, false, true, true, n0, m1, R, M, d, rfl, hn0, hm1, hne hM, hM.2, fun r hr => by rw [sR.2 r hr, hM.1], by omega, by rw [sR.1]; omega, by rw [hM.1]; omega, fun r hr x hx r' hr' y hy => (bR r hr x hx).ok (C := 1000) (bM r' hr' y hy) (by omega), fun a1 H3 _ s3' hA => ?_⟩
  try walk_at "rd2"
  refine tab_ix0 ((hV.up s2).up s3') fun o0 ho0 => ?_
  try walk_at "rd2"
  have sA : Sq d (mulM d R M) := mul_sq sR
  have bA : ∀ r ∈ mulM d R M, ∀ x ∈ r, bnd (3 * B + 8 + 1000 + 3) x := fun r hr x hx => by
   obtain ⟨r0, hr0, rfl⟩ := List.mem_map.mp hr
   obtain ⟨k, hk, rfl⟩ := List.mem_map.mp hx
   have hk' := List.mem_range.mp hk
   have h1 := dot_abs (B := 3 * B + 8) (C := 1000) r0 (colI k M) (bR r0 hr0) fun y hy => by
    obtain ⟨r', hr', rfl⟩ := List.mem_map.mp hy
    exact bM r' hr' _ (L2.getD_mem (by rw [hM.2 r' hr']; exact hk'))
   have hl : r0.length ≤ 4 := by rw [sR.2 r0 hr0]; omega
   unfold bnd
   have : r0.length * 2 ^ (3 * B + 8 + 1000) ≤ 4 * 2 ^ (3 * B + 8 + 1000) := Nat.mul_le_mul_right _ hl
   have := Nat.two_pow_pos (3 * B + 8 + 1000)
   rw [Nat.pow_add _ (3 * B + 8 + 1000) 3]
   omega
  refine ⟨false, false, false, false, a1, o0, mulM d R M, LV, d, rfl, hA.b, ho0, hne sV, sV.2, fun r hr => by rw [sA.2 r hr, sV.1], by omega, by rw [sA.1]; omega, by rw [sV.1]; omega, fun r hr x hx r' hr' y hy => (bA r hr x hx).ok (bV r' hr' y hy) (by omega), fun a2 H4 _ s4 hN => ?_⟩
  have s04 := (s02.trans s3').trans s4
  have sN : Sq d (mulM d (mulM d R M) LV) := mul_sq sA
  have hun : nu * ou ≠ 0 := Int.mul_ne_zero nu0 (by omega)
  have bou : bnd (B + 1) ou := bnd_of ⟨by have := pow_pos2 B; omega, lou⟩
  have bun : bnd (4 * B + 11) (nu * ou) := (bnu.mul bou).up (by omega)
  have eN : tm (mulM d (mulM d R M) LV) (nu * ou) = mm (mm (tm R nu) (tm M 1)) (mx C) := by
   have e1 := tm_mul hd sA sV nu0 (show ou ≠ 0 by omega)
   have e2 := tm_mul hd sR hM nu0 (show (1 : Int) ≠ 0 by decide)
   rw [Int.mul_one] at e2
   rw [e1, e2, eV]
  have oV : ∀ i k, d ≤ i ∨ d ≤ k → mx C i k = 0 := fun i k o => by rw [← eV]; exact tm_out sV o
  have oM : ∀ {L : List (List Int)}, Sq d L → ∀ i k, d ≤ i ∨ d ≤ k → tm L 1 i k = 0 := fun h i k o => tm_out h o
  have key : ∀ {L : List (List Int)}, Sq d L → (mm (mx C) (tm L 1) = mm (tm M 1) (mx C) ↔ tm L 1 = tm (mulM d (mulM d R M) LV) (nu * ou)) := fun h => by
   rw [eN]
   exact conj_iff (by omega) k1 k2 oV (oM hM) (oM h)
  generalize hNN : mulM d (mulM d R M) LV = N at *
  generalize hUU : nu * ou = U at *
  subst e1
  refine st fun N1 e1 => ?_
  try walk_at "rd2"
  refine tab_ix1 ((hR.up s3').up s4) ?_
  try walk_at "rd2"
  refine tab_ix1 (((hV.up s2).up s3').up s4) ?_
  try walk_at "rd2"
  refine ⟨bnu.ok bou (by omega), ?_⟩
  rw [hUU]
  subst e1
  refine st fun N1 e1 => ?_
  try walk_at "rd2"
  refine compE_st fun C1 eC => ?_
  simp only [iSeq]
  try walk_at "rd2"
  obtain ⟨xs, x1, x2, x3⟩ := (hN.b (K := K)).walk
  refine ⟨false, ⟨_, x1⟩, fun b1 hb1 => ?_⟩
  refine cg_seq (fun j y _ => ∃ r, N[j]? = some r ∧ y = .bl (r.any fun x => !decide (x.fmod U = 0))) hb1 x1 (by rw [x2, sN.1]; omega) (fun _ _ _ _ r _ => r) ?_ ?_
  ·intro i v H5 zs ex s5 ez Q' hQ'
   obtain ⟨pr, r, rfl, er, hp⟩ := x3 i v ex
   have hrl := sN.2 r (List.mem_of_getElem? er)
   subst eC
   show tCB _ _ [some (.ref pr), some (.int U)] H5 Q'
   try walk_at "rd2"
   refine compE_st fun C2 eC2 => ?_
   simp only [iSeq]
   try walk_at "rd2"
   refine ⟨false, ⟨_, hp.up s5⟩, fun b2 hb2 => ?_⟩
   refine cg_seq (fun j y _ => ∃ m, r[j]? = some m ∧ y = .bl (!decide (m.fmod U = 0))) hb2 (hp.up s5) (by rw [List.length_map]; omega) (fun _ _ _ _ r _ => r) ?_ ?_
   ·intro j x H6 zs2 ex2 s6 ez2 Q2 hQ2
    obtain ⟨m, em, rfl⟩ := ints_at ex2
    subst eC2
    show tOp _ _ _ [some (.int m), some (.int U)] H6 Q2
    try walk_at "rd2"
    exact ⟨hun, hQ2 _ _ (Same.refl _) ⟨m, em, rfl⟩⟩
   ·intro H6 ys s6 e6 hly hr6
    have ey : ys = (r.map fun m => !decide (m.fmod U = 0)).map V.bl := by
     rw [List.map_map]
     exact list_is (by simpa using hly) hr6
    subst ey
    refine ⟨b2, rfl, _, SqL.of e6, ?_⟩
    rw [any_bl]
    exact hQ' _ _ s6 ⟨r, er, rfl⟩
  intro H5 ys s5 e5 hly hr5
  have ey : ys = (N.map fun r => r.any fun x => !decide (x.fmod U = 0)).map V.bl := by
   rw [List.map_map]
   exact list_is (by rw [hly, x2]) hr5
  subst ey
  refine ⟨b1, rfl, _, SqL.of e5, ?_⟩
  try walk_at "rd2"
  rw [any_bl]
  have s05 := s04.trans s5
  have dv : ∀ x : Int, x.fmod U = 0 ↔ U ∣ x := fun x => ⟨Int.dvd_of_fmod_eq_zero, Int.fmod_eq_zero_of_dvd⟩
  by_cases hall : ∀ r ∈ N, ∀ x ∈ r, U ∣ x
  case neg =>
   have hany : (N.any fun r => r.any fun x => !decide (x.fmod U = 0)) = true := by
    rw [List.any_eq_true]
    obtain ⟨r, hr⟩ := Classical.not_forall.mp hall
    obtain ⟨hr1, hr2⟩ := Classical.not_imp.mp hr
    obtain ⟨x, hx⟩ := Classical.not_forall.mp hr2
    obtain ⟨hx1, hx2⟩ := Classical.not_imp.mp hx
    refine ⟨r, hr1, ?_⟩
    rw [List.any_eq_true]
    exact ⟨x, hx1, by rw [decide_eq_false fun e => hx2 ((dv x).mp e)]; rfl⟩
   rw [hany]
   refine iteT ?_
   simp only [tRaise]
   walk_at "rd2"
   refine ⟨by decide, hE (fun ⟨L, sL, eL⟩ => hall ?_) _ s05⟩
   exact whole_tm sN hun ((key sL).mp eL)
  have hany : (N.any fun r => r.any fun x => !decide (x.fmod U = 0)) = false := by
   rw [List.any_eq_false]
   intro r hr
   rw [Bool.not_eq_true, List.any_eq_false]
   intro x hx
   rw [decide_eq_true ((dv x).mpr (hall r hr x hx))]
   decide
  rw [hany]
  refine iteF ?_
  subst e1
  refine st fun N1 e1 => ?_
  try walk_at "rd2"
  refine compE_st fun C1 eC => ?_
  simp only [iSeq]
  try walk_at "rd2"
  obtain ⟨xs, x1, x2, x3⟩ := ((hN.up s5).b (K := K)).walk
  refine ⟨false, ⟨_, x1⟩, fun c1 hc1 => ?_⟩
  have hcd : ∀ x, CDivB x U := fun x => ⟨hun, Nat.lt_of_lt_of_le ((Nat.log2_lt (by omega)).mpr bun) (by omega)⟩
  refine cg_seq (RowR c1 fun j => (N.getD j []).map (·.fdiv U)) hc1 x1 (by rw [x2, sN.1]; omega) (RowR.mono (a := c1)) ?_ ?_
  ·intro i v H6 zs ex s6 ez Q' hQ'
   obtain ⟨pr, r, rfl, er, hp⟩ := x3 i v ex
   have hrl := sN.2 r (List.mem_of_getElem? er)
   subst eC
   show tCompG _ _ _ _ _ [some (.ref pr), some (.int U)] H6 Q'
   refine compE_st fun C2 eC2 => ?_
   simp only [iSeq]
   try walk_at "rd2"
   refine ⟨false, ⟨_, hp.up s6⟩, fun b2 hb2 => ?_⟩
   refine cg_seq (fun j y _ => ∃ m, r[j]? = some m ∧ y = .int (m.fdiv U)) hb2 (hp.up s6) (by rw [List.length_map]; omega) (fun _ _ _ _ r _ => r) ?_ ?_
   ·intro j x H7 zs2 ex2 s7 ez2 Q2 hQ2
    obtain ⟨m, em, rfl⟩ := ints_at ex2
    subst eC2
    show tOp _ _ _ [some (.int m), some (.int U)] H7 Q2
    try walk_at "rd2"
    exact ⟨hcd m, hQ2 _ _ (Same.refl _) ⟨m, em, rfl⟩⟩
   ·intro H7 ys s7 e7 hly hr7
    have ey : ys = (r.map (·.fdiv U)).map V.int := by
     rw [List.map_map]
     exact list_is (by simpa using hly) hr7
    subst ey
    refine hQ' _ _ s7 ⟨b2, rfl, Ne.symm (ne_of_none ez hb2), ?_⟩
    show _ = some (HO.lst (((N.getD i []).map (·.fdiv U)).map V.int))
    rw [e7, List.getD_eq_getElem?_getD, er]; rfl
  intro H6 ys s6 e6 hly6 hr6
  have hM0 := MatL.of e6 hr6
  rw [hly6, x2] at hM0
  have ee : ((List.range N.length).map fun j => (N.getD j []).map (·.fdiv U)) = N.map fun r => r.map (·.fdiv U) := by
   refine List.ext_getElem? fun i => ?_
   rw [List.getElem?_map, List.getElem?_map]
   by_cases hi : i < N.length
   ·rw [List.getElem?_range hi, List.getElem?_eq_getElem hi]
    simp [List.getD_eq_getElem?_getD, hi]
   ·rw [List.getElem?_eq_none (by simp; omega), List.getElem?_eq_none (by omega)]; rfl
  rw [ee] at hM0
  have s06 := s05.trans s6
  subst e1
  try walk_at "rd2"
  refine ch_ix1 (hC.up s06) fun b hb => ?_
  try walk_at "rd2"
  have gs := hW.spt
  have bs : BP (B + 1) C.2 := by
   obtain ⟨f1, f2, f3⟩ := hW.fit.spt.place hW.good.spt
   refine ⟨fun t ht => bnd_of (f3 t ht), bnd_of ⟨?_, f2⟩⟩
   have := hW.good.spt.pos
   have := pow_pos2 B
   omega
  have pz := gz.pos
  have pc := gs.1.pos
  refine ⟨p, b, M, z.1, C.2.1, z.2, C.2.2, d, rfl, hD.up s06, hb, ⟨hM, gz.len, pz, bM.le (by decide), fun x hx => (bz.1 x hx).up (by decide), lz⟩, by omega, by omega, gs.1.len, fun x hx => (bs.1 x hx).up (by omega), pc, lc, fun x H7 s7 hx => ?_⟩
  have gx := mov_good hM gz gs.1
  have vx := mov_val hd hM gz gs.1
  have bx2 : BP 1800 (redP (z.2 * C.2.2) (movT M z.1 z.2 C.2.1 C.2.2)) := (mov_bits (A := 1000) (B := B + 1) (by omega) (by omega) (by omega) hM bM bz (bits150 pz lz) bs (bits150 pc lc)).up (by omega)
  have s07 := s06.trans s7
  try walk_at "rd2"
  refine ⟨q, x, redP (z.2 * C.2.2) (movT M z.1 z.2 C.2.1 C.2.2), C, d, D, B, rfl, hC.up s07, hx, hW, hreg, gx, bx2, fun y H8 z' s8 hz' gz' ez' => ?_⟩
  try walk_at "rd2"
  have sM0 : Sq d (N.map fun r => r.map (·.fdiv U)) := sq_map sN
  refine ⟨false, false, c1, y, _, z'.1, z'.2, rfl, ((hM0.up s7).up s8).b, hz', by rw [sM0.1]; omega, fun r H9 s9 hr9 => ?_⟩
  exact hQ r H9 _ z' ((s07.trans s8).trans s9) hr9 sM0 gz' ((key sM0).mpr (tm_whole sN hun hall)) (by rw [ez', vx])

theorem row_at {B : List (List Int)} {j : Nat} (h : j < B.length) : B[j]? = some (B.getD j []) := by simp [h]
theorem MatL.nil {H : Hp} {l : Addr} (h : H l = some (.lst [])) : MatL H l [] := ⟨[], h, rfl, fun i p r e => by simp at e⟩
theorem ok_law_units (T : Txt K mg t) : FnOk P w K mg base CX0 1 t.a_law_units t.d_law_units ["_law_d"] (sp_law_units K) := by
 refine T.F_law_units.ok sc_law_units (fun vs H Q E h => ?_) (fun cdv A outer s H vs Q E hr h => ?_)
 ·obtain ⟨n, rfl, _⟩ := h
  rfl
 ·obtain ⟨n, rfl, hn, hQ⟩ := h
  refine ⟨_, (pss_one (ps_ret (pe_compG (xs := ["_law_i"]) (fr := [("_law_d", 0)]) (g := (gName 0)) (tt := (tEl (tCompG (iRng1 (tCons (tVar 1) tNil)) (gName 0) (tEl (tCB (fun xs H Q => (∃ i, xs = [.int i] ∧ Q (.int i) H) ∨ ∃ k, xs = [.bl k] ∧ Q (.int (if k then 1 else 0)) H) (tCons (tOp (rI0 fun i j => .bl (decide (i = j))) (tVar 1) (tVar 0)) tNil))) 1 [("_law_i", 0)]))) (compG_ok (sc := defScope s_law_units) (N := N_law_units) rfl rfl (by decide +kernel)) rfl (pi_range1 rfl T.z_range (pa_cons (pv 0) pa_nil)) (fun _ _ _ hE1 => (pg_ownC (N := ["_law_i", "_law_d"]) (i := 0) hE1 rfl (by decide +kernel) rfl)) (fun _ _ _ hE1 => (po_el (pe_compG (xs := ["_law_k"]) (fr := [("_law_i", 0)]) (g := (gName 0)) (tt := (tEl (tCB (fun xs H Q => (∃ i, xs = [.int i] ∧ Q (.int i) H) ∨ ∃ k, xs = [.bl k] ∧ Q (.int (if k then 1 else 0)) H) (tCons (tOp (rI0 fun i j => .bl (decide (i = j))) (tVar 1) (tVar 0)) tNil)))) (compG_ok (N := ["_law_i", "_law_d"]) hE1 rfl (by decide +kernel)) rfl (pi_range1 rfl T.z_range (pa_cons (pv 1) pa_nil)) (fun _ _ _ hE2 => (pg_own (N := ["_law_k", "_law_i"]) (i := 0) hE2 rfl (by decide +kernel))) (fun _ _ _ hE2 => (po_el (pe_callTy call_int1 rfl T.z_int (by decide +kernel) (pa_cons (pe_cmpR op_eqZ (pv 1) (pv 0) (nomark _)) pa_nil)))))))))), ?_⟩
  show tRet _ _ [some (.int n)] H
  walk_at "rd2"
  refine compE_st fun B eB => ?_
  simp only [iRng1]
  walk_at "rd2"
  refine ⟨by omega, by omega, fun m0 hm0 => ?_⟩
  rw [Int.toNat_natCast]
  refine cg_range (RowR m0 fun i => (List.range n).map fun k => if i = k then (1 : Int) else 0) hm0 (by omega) (RowR.mono (a := m0)) ?_ ?_
  ·intro i H2 zs hi s2 ez Q' hQ'
   subst eB
   show tCompG _ _ _ _ _ [some (.int (0 + (i : Int))), some (.int n)] H2 Q'
   refine compE_st fun B eB => ?_
   simp only [iRng1]
   walk_at "rd2"
   refine ⟨by omega, by omega, fun a2 ha2 => ?_⟩
   rw [Int.toNat_natCast]
   refine cg_range (fun k y _ => k < n ∧ y = .int (if i = k then 1 else 0)) ha2 (by omega) (fun _ _ _ _ r _ => r) ?_ ?_
   ·intro k H3 zs3 hk s3 ez3 Q2 hQ2
    subst eB
    show tCB _ _ [some (.int (0 + (k : Int))), some (.int (0 + (i : Int)))] H3 Q2
    walk_at "rd2"
    refine .inr (hQ2 _ _ (Same.refl _) ⟨hk, ?_⟩)
    by_cases z : i = k
    ·rw [if_pos z, decide_eq_true (by omega)]; rfl
    ·rw [if_neg z, decide_eq_false (by omega)]; rfl
   ·intro H3 ys s3 e3 hly hr3
    have ey : ys = ((List.range n).map fun k => if i = k then (1 : Int) else 0).map V.int := by
     refine list_is (by simpa using hly) fun j y e => ?_
     obtain ⟨hj, rfl⟩ := hr3 j y e
     exact ⟨_, by rw [List.getElem?_map, List.getElem?_range hj]; rfl, rfl⟩
    subst ey
    exact hQ' _ _ s3 ⟨a2, rfl, Ne.symm (ne_of_none ez ha2), e3⟩
  ·intro H2 ys s2 e2 hly hr2
   have hM0 := MatL.of e2 hr2
   rw [hly] at hM0
   exact hQ m0 H2 hm0 s2 hM0

theorem dot_range {d k : Nat} {r : List Int} {B : List (List Int)} (h1 : r.length = d) (h2 : B.length = d) : ((List.range d).map fun j => r.getD j 0 * (B.getD j []).getD k 0).sum = dotI r (colI k B) := by
 unfold dotI colI
 congr 1
 refine List.ext_getElem (by simp [h1, h2]) fun i l1 l2 => ?_
 simp at l1
 have i1 : i < r.length := by omega
 have i2 : i < B.length := by omega
 simp [i1, i2]
theorem ok_law_times (T : Txt K mg t) : FnOk P w K mg base CX0 1 t.a_law_times t.d_law_times ["_law_one", "_law_other"] (sp_law_times K) := by
 refine T.F_law_times.ok sc_law_times (fun vs H Q E h => ?_) (fun cdv A outer s H vs Q E hr h => ?_)
 ·obtain ⟨b1, b2, b3, b4, a, b, MA, MB, d, rfl, _⟩ := h
  rfl
 ·obtain ⟨b1, b2, b3, b4, a, b, MA, MB, d, rfl, hA, hB, sA, sB, hd, hm, hQ⟩ := h
  refine ⟨_, (pss_cons (ps_set (i := 2) sc_law_times.nd rfl (Or.inl rfl) (pe_lst pa_nil))
   (pss_cons (ps_for PassesOwn.never rfl (pi_seq (pv 0)) (pg_name (i := 3) sc_law_times.nd rfl (Or.inr rfl))
   (pss_one (ps_expr (pe_bm PySem.F.plainAttrs_list PySem.F.slot_list_append PySem.F.type_list_append mt_append (pv 2) (pa_cons (pe_compG (xs := ["_law_k"]) (fr := [("_law_other", 1), ("_law_row", 3)]) (g := (gName 0)) (tt := (tEl (tCB (fun xs H Q => ∃ (p : Addr) (ns : List Int), xs = [.ref p] ∧ SqL K H p (ns.map V.int) ∧ Q (.int ns.sum) H) (tCons (tCompG (iRng1 (tCons (tCB (rLenB K) (tCons (tVar 2) tNil)) tNil)) (gName 0) (tEl (tOp (rI (fun i j => IntMulOk i j) fun i j => .int (i * j)) (tOp (rIxB K) (tVar 3) (tVar 0)) (tOp (rIxB K) (tOp (rIxB K) (tVar 2) (tVar 0)) (tVar 1)))) 1 [("_law_k", 0), ("_law_other", 1), ("_law_row", 2)]) tNil)))) (compG_ok (sc := defScope s_law_times) (N := N_law_times) rfl rfl (by decide +kernel)) rfl (pi_range1 rfl T.z_range (pa_cons (pe_callB call_lenB rfl T.z_len (by decide +kernel) (pa_cons (pv 3) pa_nil)) pa_nil)) (fun _ _ _ hE1 => (pg_ownC (N := ["_law_k", "_law_other", "_law_row"]) (i := 0) hE1 rfl (by decide +kernel) rfl)) (fun _ _ _ hE1 => (po_el (pe_callB (call_sum rfl) rfl T.z_sum (by decide +kernel) (pa_cons (pe_compG (xs := ["_law_j"]) (fr := [("_law_k", 0), ("_law_other", 1), ("_law_row", 2)]) (g := (gName 0)) (tt := (tEl (tOp (rI (fun i j => IntMulOk i j) fun i j => .int (i * j)) (tOp (rIxB K) (tVar 3) (tVar 0)) (tOp (rIxB K) (tOp (rIxB K) (tVar 2) (tVar 0)) (tVar 1))))) (compG_ok (N := ["_law_k", "_law_other", "_law_row"]) hE1 rfl (by decide +kernel)) rfl (pi_range1 rfl T.z_range (pa_cons (pe_callB call_lenB rfl T.z_len (by decide +kernel) (pa_cons (pv 2) pa_nil)) pa_nil)) (fun _ _ _ hE2 => (pg_own (N := ["_law_j", "_law_k", "_law_other", "_law_row"]) (i := 0) hE2 rfl (by decide +kernel))) (fun _ _ _ hE2 => (po_el (pe_op op_mulB (pe_ix ix_B (pv 3) (pv 0) (fun _ _ => rfl)) (pe_ix ix_B (pe_ix ix_B (pv 2) (pv 0) (fun _ _ => rfl)) (pv 1) (fun _ _ => rfl)))))) pa_nil))))) pa_nil)))))
   (pss_one (ps_ret (pv 2))))), ?_⟩
  show tSeq _ _ _ [some (.ref a), some (.ref b), none, none] H
  refine st fun N1 e1 => ?_
  walk_at "rd2"
  refine ⟨by show 0 ≤ sizeLine; decide, fun lf hlf => ?_⟩
  have s1 : Same H (upd H lf (.lst [])) := Same.new hlf
  have ef : (upd H lf (.lst [])) lf = some (.lst []) := upd_same
  generalize upd H lf (.lst []) = H1 at s1 ef
  subst e1
  refine st fun N1 e1 => for_st fun B0 eB => ?_
  simp only [iSeq]
  walk_at "rd2"
  obtain ⟨xs, x1, x2, x3⟩ := hA.walk
  have sM : Sq d (mulM d MA MB) := mul_sq sA
  refine ⟨b1, ⟨_, x1.up s1⟩, ?_⟩
  refine fr_seq (g := gName 3) (tb := B0) (fun i σ H2 => ∃ v3, σ = [some (.ref a), some (.ref b), some (.ref lf), v3] ∧ Same H H2 ∧ MatL H2 lf ((mulM d MA MB).take i)) ⟨none, rfl, s1, by rw [List.take_zero]; exact MatL.nil ef⟩ (fun i σ H2 _ ⟨_, _, e, _⟩ => x1.up e) ?_ ?_
  ·rintro i x σ H2 hi ⟨v3, rfl, s2, hL⟩
   obtain ⟨p, r, rfl, er, hp⟩ := x3 i x hi
   have hil : i < MA.length := (List.getElem?_eq_some_iff.mp er).1
   have hrl := sA.2 r (List.mem_of_getElem? er)
   subst eB
   obtain ⟨zsL, ezL, _⟩ := hL.refs
   walk_at "rd2"
   refine ⟨.inl ⟨rfl, _, SqL.of ezL⟩, ?_⟩
   refine compE_st fun C eC => ?_
   simp only [iRng1]
   walk_at "rd2"
   refine ints_len (hp.up s2) ?_
   rw [hrl]
   try walk_at "rd2"
   refine ⟨by omega, by omega, fun a1 ha1 => ?_⟩
   rw [Int.toNat_natCast]
   refine cg_range (fun k y _ => k < d ∧ y = .int (dotI r (colI k MB))) ha1 (by omega) (fun _ _ _ _ r _ => r) ?_ ?_
   ·intro k H3 zs hk s3 ez Q' hQ'
    subst eC
    show tCB _ _ [some (.int (0 + (k : Int))), some (.ref b), some (.ref p)] H3 Q'
    walk_at "rd2"
    refine compE_st fun C eC => ?_
    simp only [iRng1]
    walk_at "rd2"
    refine ints_len ((hp.up s2).up s3) ?_
    rw [hrl]
    try walk_at "rd2"
    refine ⟨by omega, by omega, fun a2 ha2 => ?_⟩
    rw [Int.toNat_natCast]
    refine cg_range (fun j y _ => j < d ∧ y = .int (r.getD j 0 * (MB.getD j []).getD k 0)) ha2 (by omega) (fun _ _ _ _ r _ => r) ?_ ?_
    ·intro j H4 zs2 hj s4 ez2 Q2 hQ2
     subst eC
     show tOp _ _ _ [some (.int (0 + (j : Int))), some (.int (0 + (k : Int))), some (.ref b), some (.ref p)] H4 Q2
     walk_at "rd2"
     have ej := row_at (B := MB) (j := j) (by rw [sB.1]; exact hj)
     have hm1 := List.mem_of_getElem? ej
     have l1 := sB.2 _ hm1
     refine ⟨b2, p, _, _, _, rfl, rfl, ((hp.up s2).up s3).up s4, atI_at (int_at (getD_at (k := j) (by omega))) (by omega), ?_⟩
     try walk_at "rd2"
     refine mat_ix (hB.up ((s2.trans s3).trans s4)) ej (getD_at (k := k) (by omega)) (by omega) (by omega) ?_
     try walk_at "rd2"
     exact ⟨hm r (List.mem_of_getElem? er) _ (L2.getD_mem (by omega)) _ hm1 _ (L2.getD_mem (by omega)), hQ2 _ _ (Same.refl _) ⟨hj, rfl⟩⟩
    ·intro H4 ys s4 e4 hly hr4
     have ey : ys = ((List.range d).map fun j => r.getD j 0 * (MB.getD j []).getD k 0).map V.int := by
      refine list_is (by simpa using hly) fun j y e => ?_
      obtain ⟨hj, rfl⟩ := hr4 j y e
      exact ⟨_, by rw [List.getElem?_map, List.getElem?_range hj]; rfl, rfl⟩
     subst ey
     refine ⟨a2, rfl, _, SqL.of e4, ?_⟩
     rw [dot_range hrl sB.1]
     exact hQ' _ _ s4 ⟨hk, rfl⟩
   ·intro H3 ys s3 e3 hly hr3
    have ey : ys = ((List.range d).map fun k => dotI r (colI k MB)).map V.int := by
     refine list_is (by simpa using hly) fun j y e => ?_
     obtain ⟨hj, rfl⟩ := hr3 j y e
     exact ⟨_, by rw [List.getElem?_map, List.getElem?_range hj]; rfl, rfl⟩
    subst ey
    have ne : a1 ≠ lf := Ne.symm (ne_of_none ezL ha1)
    obtain ⟨zs, z1, z2, z3⟩ := (hL.up s3).app e3 ne
    have en : (mulM d MA MB)[i]? = some ((List.range d).map fun k => dotI r (colI k MB)) := by unfold mulM; rw [List.getElem?_map, er]; rfl
    refine ⟨lf, zs, _, rfl, rfl, z1, small1000 (by have := sA.1; rw [z2, List.length_take]; omega), ?_⟩
    rw [take_snoc en]
    exact ⟨Same.over hlf (s2.trans s3), z3⟩
  ·rintro σ H2 ⟨v3, rfl, s2, hL⟩
   rw [x2, show MA.length = (mulM d MA MB).length by rw [sM.1, sA.1], List.take_length] at hL
   subst e1
   walk_at "rd2"
   exact hQ lf H2 hlf s2 hL

noncomputable def enM (M : List (List Int)) (i k : Nat) : Int := (M.getD i []).getD k 0
noncomputable def mixI (M : List (List Int)) (j i : Nat) : Int := enM M ((i + 1) % 3) ((j + 1) % 3) * enM M ((i + 2) % 3) ((j + 2) % 3) - enM M ((i + 1) % 3) ((j + 2) % 3) * enM M ((i + 2) % 3) ((j + 1) % 3)
noncomputable def mixR (M : List (List Int)) (j : Nat) : List Int := (List.range 3).map (mixI M j)
noncomputable def mixM (M : List (List Int)) : List (List Int) := (List.range 3).map (mixR M)
theorem mix_crs {M : List (List Int)} (h : Sq 3 M) : mixM M = crsM 3 M := by
 obtain ⟨a, b, c, a', b', c', a'', b'', c'', rfl⟩ := three_of h
 rw [crs3]
 simp [mixM, mixR, mixI, enM, List.range, List.range.loop]
 repeat' refine And.intro ?_ ?_
 all_goals grind
theorem wrap3 (i : Nat) (c : Nat) : (0 + (i : Int) + (c : Int)).fmod 3 = (((i + c) % 3 : Nat) : Int) := by
 rw [Int.fmod_eq_emod_of_nonneg _ (by decide)]; omega
theorem ok_law_undone (T : Txt K mg t) : FnOk P w K mg base CX0 1 t.a_law_undone t.d_law_undone ["_law_rows_here"] (sp_law_undone K) := by
 refine T.F_law_undone.ok sc_law_undone (fun vs H Q E h => ?_) (fun cdv A outer s H vs Q E hr h => ?_)
 ·obtain ⟨b1, b2, a, M, d, rfl, _⟩ := h
  rfl
 ·obtain ⟨b1, b2, a, M, d, rfl, hM, sM, hd, bM, hQ⟩ := h
  refine ⟨_, (pss_cons (ps_if (pt_cmpR op_eqZ (pe_callB call_lenB rfl T.z_len (by decide +kernel) (pa_cons (pv 0) pa_nil)) pe_int (nomark _))
   (pss_one (ps_ret (pe_lst (pa_cons (pe_lst (pa_cons (pe_ix ix_B (pe_ix ix_B (pv 0) pe_int (fun _ _ => rfl)) pe_int (fun _ _ => rfl)) (pa_cons (pe_un un_neg (pe_ix ix_B (pe_ix ix_B (pv 0) pe_int (fun _ _ => rfl)) pe_int (fun _ _ => rfl))) pa_nil))) (pa_cons (pe_lst (pa_cons (pe_un un_neg (pe_ix ix_B (pe_ix ix_B (pv 0) pe_int (fun _ _ => rfl)) pe_int (fun _ _ => rfl))) (pa_cons (pe_ix ix_B (pe_ix ix_B (pv 0) pe_int (fun _ _ => rfl)) pe_int (fun _ _ => rfl)) pa_nil))) pa_nil)))))
   pss_nil)
   (pss_cons (ps_set (i := 1) sc_law_undone.nd rfl (Or.inl rfl) (pe_lst pa_nil))
   (pss_cons (ps_for PassesOwn.never rfl (pi_range1 rfl T.z_range (pa_cons pe_int pa_nil)) (pg_name (i := 2) sc_law_undone.nd rfl (Or.inl rfl))
   (pss_cons (ps_set (i := 3) sc_law_undone.nd rfl (Or.inl rfl) (pe_lst pa_nil))
   (pss_cons (ps_for PassesOwn.never rfl (pi_range1 rfl T.z_range (pa_cons pe_int pa_nil)) (pg_name (i := 4) sc_law_undone.nd rfl (Or.inl rfl))
   (pss_cons (ps_set (i := 5) sc_law_undone.nd rfl (Or.inl rfl) (pe_ix ix_B (pv 0) (pe_op op_modN (pe_op op_add (pv 4) pe_int) pe_int) (fun _ _ => rfl)))
   (pss_cons (ps_set (i := 6) sc_law_undone.nd rfl (Or.inl rfl) (pe_ix ix_B (pv 0) (pe_op op_modN (pe_op op_add (pv 4) pe_int) pe_int) (fun _ _ => rfl)))
   (pss_cons (ps_set (i := 7) sc_law_undone.nd rfl (Or.inl rfl) (pe_op op_modN (pe_op op_add (pv 2) pe_int) pe_int))
   (pss_cons (ps_set (i := 8) sc_law_undone.nd rfl (Or.inl rfl) (pe_op op_modN (pe_op op_add (pv 2) pe_int) pe_int))
   (pss_one (ps_expr (pe_bm PySem.F.plainAttrs_list PySem.F.slot_list_append PySem.F.type_list_append mt_append (pv 3) (pa_cons (pe_op op_sub (pe_op op_mulB (pe_ix ix_B (pv 5) (pv 7) (fun _ _ => rfl)) (pe_ix ix_B (pv 6) (pv 8) (fun _ _ => rfl))) (pe_op op_mulB (pe_ix ix_B (pv 5) (pv 8) (fun _ _ => rfl)) (pe_ix ix_B (pv 6) (pv 7) (fun _ _ => rfl)))) pa_nil)))))))))
   (pss_one (ps_expr (pe_bm PySem.F.plainAttrs_list PySem.F.slot_list_append PySem.F.type_list_append mt_append (pv 1) (pa_cons (pv 3) pa_nil)))))))
   (pss_one (ps_ret (pv 1)))))), ?_⟩
  show tSeq _ _ _ [some (.ref a), none, none, none, none, none, none, none, none] H
  refine st fun N1 e1 => ?_
  walk_at "rd2"
  refine mat_len hM ?_
  rw [sM.1]
  try walk_at "rd2"
  rcases hd with rfl | rfl
  ·obtain ⟨x, y, z, v, rfl⟩ := two_of sM
   rw [crs2] at hQ
   refine iteT ?_
   refine mat_ix (i := 1) (k := 1) hM rfl rfl rfl rfl ?_
   try walk_at "rd2"
   refine mat_ix (i := 0) (k := 1) hM rfl rfl rfl rfl ?_
   try walk_at "rd2"
   refine ⟨by show 2 ≤ sizeLine; decide, fun l1 hl1 => ?_⟩
   have s1 : Same H (upd H l1 (.lst [.int v, .int (-y)])) := Same.new hl1
   have e1' : (upd H l1 (.lst [.int v, .int (-y)])) l1 = some (.lst [.int v, .int (-y)]) := upd_same
   generalize upd H l1 (.lst [.int v, .int (-y)]) = H1 at s1 e1'
   try walk_at "rd2"
   refine mat_ix (i := 1) (k := 0) (hM.up s1) rfl rfl rfl rfl ?_
   try walk_at "rd2"
   refine mat_ix (i := 0) (k := 0) (hM.up s1) rfl rfl rfl rfl ?_
   try walk_at "rd2"
   refine ⟨by show 2 ≤ sizeLine; decide, fun l2 hl2 => ?_⟩
   have s2 : Same H1 (upd H1 l2 (.lst [.int (-z), .int x])) := Same.new hl2
   have e2' : (upd H1 l2 (.lst [.int (-z), .int x])) l2 = some (.lst [.int (-z), .int x]) := upd_same
   generalize upd H1 l2 (.lst [.int (-z), .int x]) = H2 at s2 e2'
   try walk_at "rd2"
   refine ⟨by show 2 ≤ sizeLine; decide, fun l3 hl3 => ?_⟩
   have s3' : Same H2 (upd H2 l3 (.lst [.ref l1, .ref l2])) := Same.new hl3
   have hl3' : H l3 = none := by cases w : H l3 with | none => rfl | some o => rw [(s1.trans s2) _ _ w] at hl3; cases hl3
   refine hQ l3 _ hl3' ((s1.trans s2).trans s3') ⟨[l1, l2], upd_same, rfl, fun i p r h1 h2 => ?_⟩
   have n1 : l1 ≠ l3 := ne_of_none (s2 _ _ e1') hl3
   have n2 : l2 ≠ l3 := ne_of_none e2' hl3
   match i, h1, h2 with
   | 0, h1, h2 => cases h1; cases h2; exact ⟨n1, s3' _ _ (s2 _ _ e1')⟩
   | 1, h1, h2 => cases h1; cases h2; exact ⟨n2, s3' _ _ e2'⟩
  ·refine iteF ?_
   subst e1
   refine st fun N1 e1 => ?_
   walk_at "rd2"
   refine ⟨by show 0 ≤ sizeLine; decide, fun lf hlf => ?_⟩
   have s1 : Same H (upd H lf (.lst [])) := Same.new hlf
   have ef : (upd H lf (.lst [])) lf = some (.lst []) := upd_same
   generalize upd H lf (.lst []) = H1 at s1 ef
   have rw3 : ∀ {i : Nat}, i < 3 → M[i]? = some (M.getD i []) ∧ (M.getD i []).length = 3 ∧ ∀ k < 3, (enM M i k).natAbs < 2 ^ 1000 := fun {i} hi => by
    have e := row_at (B := M) (j := i) (by rw [sM.1]; exact hi)
    have hm := List.mem_of_getElem? e
    exact ⟨e, sM.2 _ hm, fun k hk => bM _ hm _ (L2.getD_mem (by rw [sM.2 _ hm]; exact hk))⟩
   subst e1
   refine st fun N1 e1 => for_st fun B eB => ?_
   simp only [iRng1]
   walk_at "rd2"
   refine ⟨by decide, by decide, ?_⟩
   refine fr_range (n := 3) (g := gName 2) (tb := B) (fun j σ H2 => ∃ (v2 v3 v4 v5 v6 v7 v8 : Option V), σ = [some (.ref a), some (.ref lf), v2, v3, v4, v5, v6, v7, v8] ∧ Same H H2 ∧ MatL H2 lf ((mixM M).take j))
    ⟨none, none, none, none, none, none, none, rfl, s1, by rw [List.take_zero]; exact MatL.nil ef⟩ ?_ ?_
   ·rintro j σ H2 hj ⟨v2, v3, v4, v5, v6, v7, v8, rfl, s2, hL⟩
    subst eB
    show tSeq _ _ _ [some (.ref a), some (.ref lf), some (.int (0 + (j : Int))), v3, v4, v5, v6, v7, v8] H2
    refine st fun N2 e2 => ?_
    walk_at "rd2"
    refine ⟨by show 0 ≤ sizeLine; decide, fun lt hlt => ?_⟩
    have hlt0 : H lt = none := by cases w : H lt with | none => rfl | some o => rw [s2 _ _ w] at hlt; cases hlt
    obtain ⟨zL, ezL, _⟩ := id hL.refs
    have nlf : lf ≠ lt := ne_of_none ezL hlt
    have s3' : Same H2 (upd H2 lt (.lst [])) := Same.new hlt
    have et : (upd H2 lt (.lst [])) lt = some (.lst []) := upd_same
    have hL3 := hL.up s3'
    have ezL3 := s3' _ _ ezL
    generalize upd H2 lt (.lst []) = H3 at s3' et hL3 ezL3
    subst e2
    refine st fun N2 e2 => for_st fun B2 eB2 => ?_
    simp only [iRng1]
    walk_at "rd2"
    refine ⟨by decide, by decide, ?_⟩
    refine fr_range (n := 3) (g := gName 4) (tb := B2) (fun i σ H4 => ∃ (v4 v5 v6 v7 v8 : Option V), σ = [some (.ref a), some (.ref lf), some (.int (0 + (j : Int))), some (.ref lt), v4, v5, v6, v7, v8] ∧ Same H H4 ∧ SameX lt H3 H4 ∧ H4 lt = some (.lst (((mixR M j).take i).map V.int)))
     ⟨v4, v5, v6, v7, v8, rfl, s2.trans s3', (Same.refl H3).x, by rw [List.take_zero]; exact et⟩ ?_ ?_
    ·rintro i σ H4 hi ⟨v4', v5', v6', v7', v8', rfl, s4, x4, et4⟩
     have hM4 := hM.up s4
     obtain ⟨r1, l1, b1'⟩ := rw3 (i := (i + 1) % 3) (by omega)
     obtain ⟨r2, l2, b2'⟩ := rw3 (i := (i + 2) % 3) (by omega)
     have w1 := wrap3 i 1
     have w2 := wrap3 i 2
     have w3 := wrap3 j 1
     have w4 := wrap3 j 2
     subst eB2
     show tSeq _ _ _ [some (.ref a), some (.ref lf), some (.int (0 + (j : Int))), some (.ref lt), some (.int (0 + (i : Int))), v5', v6', v7', v8'] H4
     refine st fun N3 e3 => ?_
     walk_at "rd2"
     refine ⟨by decide, mat_row hM4 r1 w1 fun p1 hp1 => ?_⟩
     subst e3
     refine st fun N3 e3 => ?_
     walk_at "rd2"
     refine ⟨by decide, mat_row hM4 r2 w2 fun p2 hp2 => ?_⟩
     subst e3
     refine st fun N3 e3 => ?_
     walk_at "rd2"
     refine ⟨by decide, ?_⟩
     subst e3
     refine st fun N3 e3 => ?_
     walk_at "rd2"
     refine ⟨by decide, ?_⟩
     subst e3
     walk_at "rd2"
     refine ⟨.inl ⟨rfl, _, SqL.of et4⟩, ?_⟩
     have ix : ∀ {q : Addr} {rr : List Int} {k : Nat} {J : Int} {Q' : VK}, SqB b2 K H4 q (rr.map V.int) → rr.length = 3 → k < 3 → J = (k : Int) → Q' (.int (rr.getD k 0)) H4 → rIxB K (.ref q) (.int J) H4 Q' := fun {q rr k J Q'} h hl hk e q' => ⟨b2, q, _, _, _, rfl, rfl, h, atI_at (int_at (getD_at (k := k) (by omega))) e, q'⟩
     refine ix hp1 l1 (k := (j + 1) % 3) (by omega) w3 ?_
     try walk_at "rd2"
     refine ix hp2 l2 (k := (j + 2) % 3) (by omega) w4 ?_
     try walk_at "rd2"
     have ok1 : ∀ k k', k < 3 → k' < 3 → IntMulOk (enM M ((i + 1) % 3) k) (enM M ((i + 2) % 3) k') := fun k k' h h' => PyProof.Rows.mulOk_of_bits (bits_of (b1' k h)) (bits_of (b2' k' h')) (by decide)
     refine ⟨ok1 _ _ (by omega) (by omega), ?_⟩
     refine ix hp1 l1 (k := (j + 2) % 3) (by omega) w4 ?_
     try walk_at "rd2"
     refine ix hp2 l2 (k := (j + 1) % 3) (by omega) w3 ?_
     try walk_at "rd2"
     refine ⟨ok1 _ _ (by omega) (by omega), ?_⟩
     refine ⟨lt, _, _, rfl, rfl, et4, by rw [List.length_map, List.length_take]; exact sizeBig (by omega), ?_⟩
     have en : (mixR M j)[i]? = some (mixI M j i) := by unfold mixR; rw [List.getElem?_map, List.getElem?_range hi]; rfl
     rw [take_snoc en, List.map_append]
     exact ⟨Same.over hlt0 s4, fun q o hq ho => by rw [upd_ne hq]; exact x4 q o hq ho, upd_same⟩
    ·rintro σ H4 ⟨v4', v5', v6', v7', v8', rfl, s4, x4, et4⟩
     rw [show (3 : Nat) = (mixR M j).length by simp [mixR], List.take_length] at et4
     have ezL4 := x4 _ _ nlf ezL3
     have hL4 : MatL H4 lf ((mixM M).take j) := by
      obtain ⟨ps, h1, h2, h3⟩ := hL3
      refine ⟨ps, x4 _ _ nlf h1, h2, fun i p r q1 q2 => ⟨(h3 i p r q1 q2).1, x4 _ _ ?_ (h3 i p r q1 q2).2⟩⟩
      obtain ⟨ps', h1', h2', h3'⟩ := hL
      have e : ps' = ps := by
       have := (s3' _ _ h1').symm.trans h1
       have h5 : ps'.map V.ref = ps.map V.ref := by injection this with h; injection h
       exact (List.map_inj_right (fun x y e => by injection e)).mp h5
      subst e
      exact ne_of_none (h3' i p r q1 q2).2 hlt
     subst e2
     walk_at "rd2"
     refine ⟨.inl ⟨rfl, _, SqL.of ezL4⟩, ?_⟩
     obtain ⟨zs, z1, z2, z3⟩ := hL4.app et4 (Ne.symm nlf)
     refine ⟨lf, zs, _, rfl, rfl, z1, small1000 (by rw [z2, List.length_take]; omega), ?_⟩
     have en : (mixM M)[j]? = some (mixR M j) := by unfold mixM; rw [List.getElem?_map, List.getElem?_range hj]; rfl
     rw [take_snoc en]
     exact ⟨Same.over hlf s4, z3⟩
   ·rintro σ H2 ⟨v2, v3, v4, v5, v6, v7, v8, rfl, s2, hL⟩
    rw [show (3 : Nat) = (mixM M).length by simp [mixM], List.take_length, mix_crs sM] at hL
    subst e1
    walk_at "rd2"
    exact hQ lf H2 hlf s2 hL

theorem det_room {d : Nat} {M : List (List Int)} (hd : d = 2 ∨ d = 3) (h : Sq d M) : ((List.range d).map fun j => enM M 0 j * enM (crsM d M) j 0).sum = detM d M := by
 rcases hd with rfl | rfl
 ·obtain ⟨a, b, c, e, rfl⟩ := two_of h
  rw [crs2, det2]
  simp [enM, List.range, List.range.loop]
  grind
 ·obtain ⟨a, b, c, a', b', c', a'', b'', c'', rfl⟩ := three_of h
  rw [crs3, det3]
  simp [enM, List.range, List.range.loop]
  grind
theorem crs_bits' {n : Nat} {rows : List (List Int)} {B : Nat} (hd : n = 2 ∨ n = 3) (hs : Sq n rows) (hb : BitsM B rows) : BitsM (2 * B + 5) (crsM n rows) := fun r hr x hx => by
 obtain ⟨i, hi, rfl⟩ := List.mem_map.mp hr
 obtain ⟨k, hk, rfl⟩ := List.mem_map.mp hx
 have hi' := List.mem_range.mp hi
 have hk' := List.mem_range.mp hk
 obtain ⟨m, rfl⟩ : ∃ m, n = m + 1 := ⟨n - 1, by omega⟩
 show (cofM m rows k i).natAbs < _
 unfold cofM
 rw [Int.natAbs_mul, sg_abs, Nat.one_mul]
 refine det_lt (B := B) (by omega) (by omega) (hs.minor hk' hi') hb.minor ?_
 have : m * (B + 2) ≤ 2 * (B + 2) := Nat.mul_le_mul_right _ (by omega)
 omega
theorem ok_law_room (T : Txt K mg t) : FnOk P w K mg base CX0 2 t.a_law_room t.d_law_room ["_law_rows_here"] (sp_law_room K) := by
 have G_law_undone : FnOk P w K mg base CX0 1 t.a_law_undone t.d_law_undone ["_law_rows_here"] (sp_law_undone K) := ok_law_undone T
 refine T.F_law_room.ok sc_law_room (fun vs H Q E h => ?_) (fun cdv A outer s H vs Q E hr h => ?_)
 ·obtain ⟨b1, b2, a, M, d, rfl, _⟩ := h
  rfl
 ·obtain ⟨b1, b2, a, M, d, rfl, hM, sM, hd, bM, hQ⟩ := h
  refine ⟨_, (pss_one (ps_ret (pe_callB (call_sum rfl) rfl T.z_sum (by decide +kernel) (pa_cons (pe_compG (xs := ["_law_j", "_law_line"]) (fr := [("_law_rows_here", 0)]) (g := (gTup K 2 (gCons (gName 0) (gCons (gName 1) gNil)))) (tt := (tEl (tOp (rI (fun i j => IntMulOk i j) fun i j => .int (i * j)) (tOp (rIxB K) (tOp (rIxB K) (tVar 2) (tC (.int 0))) (tVar 0)) (tOp (rIxB K) (tVar 1) (tC (.int 0)))))) (compG_ok (sc := defScope s_law_room) (N := N_law_room) rfl rfl (by decide +kernel)) rfl (pi_enum rfl T.z_enumerate (pa_cons (pe_call G_law_undone (hr.mono (by omega)) rfl T.m_law_undone T.F_law_undone.kp T.b_law_undone .nil pass0 (pa_cons (pv 0) pa_nil)) pa_nil)) (fun _ _ _ hE1 => (pg_tup rfl (pgs_cons (pg_own (N := ["_law_j", "_law_line", "_law_rows_here"]) (i := 0) hE1 rfl (by decide +kernel)) (pgs_cons (pg_own (N := ["_law_j", "_law_line", "_law_rows_here"]) (i := 1) hE1 rfl (by decide +kernel)) pgs_nil)))) (fun _ _ _ hE1 => (po_el (pe_op op_mulB (pe_ix ix_B (pe_ix ix_B (pv 2) pe_int (fun _ _ => rfl)) (pv 0) (fun _ _ => rfl)) (pe_ix ix_B (pv 1) pe_int (fun _ _ => rfl)))))) pa_nil)))), ?_⟩
  show tRet _ _ [some (.ref a)] H
  walk_at "rd2"
  refine compE_st fun B eB => ?_
  simp only [iEnum]
  try walk_at "rd2"
  refine ⟨b1, b2, a, M, d, rfl, hM, sM, hd, bM, fun r H1 _ s1 hR => ?_⟩
  try walk_at "rd2"
  have sC : Sq d (crsM d M) := crs_sq
  have bC := crs_bits' hd sM bM
  obtain ⟨xs, x1, x2, x3⟩ := (hR.b (K := K)).walk
  refine ⟨false, ⟨_, x1⟩, fun a1 ha1 => ?_⟩
  refine cg_enum (fun j y _ => j < d ∧ y = .int (enM M 0 j * enM (crsM d M) j 0)) ha1 x1 (by rw [x2, sC.1]; omega) (fun _ _ _ _ r _ => r) ?_ ?_
  ·intro j x H2 zs ex s2 ez Q' hQ'
   obtain ⟨p, rr, rfl, er, hp⟩ := x3 j x ex
   have hj : j < d := by have := (List.getElem?_eq_some_iff.mp er).1; rw [sC.1] at this; exact this
   have hrl := sC.2 rr (List.mem_of_getElem? er)
   have e0 := row_at (B := M) (j := 0) (by rw [sM.1]; omega)
   have l0 := sM.2 _ (List.mem_of_getElem? e0)
   have ec : (crsM d M).getD j [] = rr := by rw [List.getD_eq_getElem?_getD, er]; rfl
   subst eB
   show tOp _ _ _ [some (.int j), some (.ref p), some (.ref a)] H2 Q'
   walk_at "rd2"
   refine mat_ix (hM.up (s1.trans s2)) e0 (getD_at (k := j) (by omega)) rfl rfl ?_
   try walk_at "rd2"
   refine ⟨false, p, _, _, _, rfl, rfl, hp.up s2, atI_at (int_at (getD_at (k := 0) (by omega))) rfl, ?_⟩
   try walk_at "rd2"
   refine ⟨PyProof.Rows.mulOk_of_bits (bits_of (bM _ (List.mem_of_getElem? e0) _ (L2.getD_mem (by omega)))) (bits_of (bC rr (List.mem_of_getElem? er) _ (L2.getD_mem (by omega)))) (by decide), hQ' _ _ (Same.refl _) ⟨hj, ?_⟩⟩
   unfold enM
   rw [ec]
  ·intro H2 ys s2 e2 hly hr2
   have ey : ys = ((List.range d).map fun j => enM M 0 j * enM (crsM d M) j 0).map V.int := by
    refine list_is (by rw [hly, x2, sC.1]; simp) fun j y e => ?_
    obtain ⟨hj, rfl⟩ := hr2 j y e
    exact ⟨_, by rw [List.getElem?_map, List.getElem?_range hj]; rfl, rfl⟩
   subst ey
   refine ⟨a1, rfl, _, SqL.of e2, ?_⟩
   rw [det_room hd sM]
   exact hQ H2 (s1.trans s2)

theorem MatL.setO {H : Hp} {lf lt : Addr} {M : List (List Int)} {ys zs : List V} (h : MatL H lf M) (e : H lt = some (.lst ys)) (n : lf ≠ lt) (nr : ∀ xs, H lf = some (.lst xs) → V.ref lt ∉ xs) : MatL (upd H lt (.lst zs)) lf M := by
 obtain ⟨ps, h1, h2, h3⟩ := h
 refine ⟨ps, by rw [upd_ne n]; exact h1, h2, fun i p r q1 q2 => ⟨(h3 i p r q1 q2).1, ?_⟩⟩
 have : p ≠ lt := fun z => nr _ h1 (List.mem_map.mpr ⟨p, List.mem_of_getElem? q1, by rw [z]⟩)
 rw [upd_ne this]
 exact (h3 i p r q1 q2).2
theorem ok_law_told_columns (T : Txt K mg t) : FnOk P w K mg base CX0 1 t.a_law_told_columns t.d_law_told_columns ["_law_left", "_law_d"] (sp_law_told_columns K) := by
 refine T.F_law_told_columns.ok sc_law_told_columns (fun vs H Q E h => ?_) (fun cdv A outer s H vs Q E hr h => ?_)
 ·obtain ⟨c, d, rfl, _⟩ := h
  rfl
 ·obtain ⟨c, d, rfl, hd, hQ⟩ := h
  refine ⟨_, (pss_cons (ps_set (i := 2) sc_law_told_columns.nd rfl (Or.inl rfl) (pe_op op_add pe_int (pe_op op_modN (pv 0) pe_int)))
   (pss_cons (ps_set (i := 0) sc_law_told_columns.nd rfl (Or.inl rfl) (pe_op op_fdivB (pv 0) pe_int))
   (pss_cons (ps_set (i := 3) sc_law_told_columns.nd rfl (Or.inl rfl) (pe_lst pa_nil))
   (pss_cons (ps_for PassesOwn.never rfl (pi_range1 rfl T.z_range (pa_cons (pv 1) pa_nil)) (pg_name (i := 4) sc_law_told_columns.nd rfl (Or.inl rfl))
   (pss_cons (ps_set (i := 5) sc_law_told_columns.nd rfl (Or.inl rfl) (pe_lst pa_nil))
   (pss_cons (ps_for PassesOwn.never rfl (pi_range1 rfl T.z_range (pa_cons (pv 1) pa_nil)) (pg_name (i := 6) sc_law_told_columns.nd rfl (Or.inl rfl))
   (pss_cons (ps_expr (pe_bm PySem.F.plainAttrs_list PySem.F.slot_list_append PySem.F.type_list_append mt_append (pv 5) (pa_cons (pe_op op_sub (pe_op op_modN (pv 0) pe_int) pe_int) pa_nil)))
   (pss_one (ps_set (i := 0) sc_law_told_columns.nd rfl (Or.inl rfl) (pe_op op_fdivB (pv 0) pe_int)))))
   (pss_one (ps_expr (pe_bm PySem.F.plainAttrs_list PySem.F.slot_list_append PySem.F.type_list_append mt_append (pv 3) (pa_cons (pv 5) pa_nil)))))))
   (pss_one (ps_ret (pe_tup (pa_cons (pv 3) (pa_cons (pv 2) pa_nil))))))))), ?_⟩
  show tSeq _ _ _ [some (.int c), some (.int d), none, none, none, none, none] H
  refine st fun N1 e1 => ?_
  walk_at "rd2"
  have f6 := fms c 6 (by decide)
  refine ⟨by decide, ?_⟩
  generalize hu : 1 + c.fmod 6 = u
  subst e1
  refine st fun N1 e1 => ?_
  walk_at "rd2"
  refine ⟨dvs _ 6 (by decide) (by decide), ?_⟩
  generalize c.fdiv 6 = c0
  subst e1
  refine st fun N1 e1 => ?_
  walk_at "rd2"
  refine ⟨by show 0 ≤ sizeLine; decide, fun lf hlf => ?_⟩
  have s1 : Same H (upd H lf (.lst [])) := Same.new hlf
  have ef : (upd H lf (.lst [])) lf = some (.lst []) := upd_same
  generalize upd H lf (.lst []) = H1 at s1 ef
  subst e1
  refine st fun N1 e1 => for_st fun B eB => ?_
  simp only [iRng1]
  walk_at "rd2"
  refine ⟨by omega, by omega, ?_⟩
  rw [Int.toNat_natCast]
  refine fr_range (g := gName 4) (tb := B) (fun i σ H2 => ∃ (m : Int) (M : List (List Int)) (v4 v5 v6 : Option V), σ = [some (.int m), some (.int d), some (.int u), some (.ref lf), v4, v5, v6] ∧ Same H H2 ∧ MatL H2 lf M ∧ M.length = i ∧ (∀ r ∈ M, r.length = d) ∧ BitsM 4 M)
   ⟨c0, [], none, none, none, rfl, s1, MatL.nil ef, rfl, fun r hr => by simp at hr, fun r hr => by simp at hr⟩ ?_ ?_
  ·rintro i σ H2 hi ⟨m, M, v4, v5, v6, rfl, s2, hL, hlM, hrM, bM⟩
   subst eB
   show tSeq _ _ _ [some (.int m), some (.int d), some (.int u), some (.ref lf), some (.int (0 + (i : Int))), v5, v6] H2
   refine st fun N2 e2 => ?_
   walk_at "rd2"
   refine ⟨by show 0 ≤ sizeLine; decide, fun lt hlt => ?_⟩
   have hlt0 : H lt = none := by cases w : H lt with | none => rfl | some o => rw [s2 _ _ w] at hlt; cases hlt
   obtain ⟨zL, ezL, hzL⟩ := id hL.refs
   have nlf : lf ≠ lt := ne_of_none ezL hlt
   have nr : V.ref lt ∉ zL := fun hm => by
    obtain ⟨ps, rfl, hl, h3⟩ := hzL
    obtain ⟨p, hp, e⟩ := List.mem_map.mp hm
    cases e
    obtain ⟨k, hk, ek⟩ := List.getElem_of_mem hp
    have := (h3 k lt (M.getD k []) (by simp [hk, ek]) (row_at (by omega))).2
    rw [hlt] at this
    cases this
   have s3' : Same H2 (upd H2 lt (.lst [])) := Same.new hlt
   have et : (upd H2 lt (.lst [])) lt = some (.lst []) := upd_same
   generalize upd H2 lt (.lst []) = H3 at s3' et
   subst e2
   refine st fun N2 e2 => for_st fun B2 eB2 => ?_
   simp only [iRng1]
   walk_at "rd2"
   refine ⟨by omega, by omega, ?_⟩
   rw [Int.toNat_natCast]
   refine fr_range (g := gName 6) (tb := B2) (fun k σ H4 => ∃ (m : Int) (ns : List Int) (v6 : Option V), σ = [some (.int m), some (.int d), some (.int u), some (.ref lf), some (.int (0 + (i : Int))), some (.ref lt), v6] ∧ Same H H4 ∧ H4 lf = some (.lst zL) ∧ MatL H4 lf M ∧ H4 lt = some (.lst (ns.map V.int)) ∧ ns.length = k ∧ ∀ t ∈ ns, t.natAbs < 2 ^ 4)
    ⟨m, [], v6, rfl, s2.trans s3', s3' _ _ ezL, hL.up s3', et, rfl, fun t ht => by simp at ht⟩ ?_ ?_
   ·rintro k σ H4 hk ⟨m4, ns, v6', rfl, s4, ef4, hL4, et4, hln, hns⟩
    subst eB2
    show tSeq _ _ _ [some (.int m4), some (.int d), some (.int u), some (.ref lf), some (.int (0 + (i : Int))), some (.ref lt), some (.int (0 + (k : Int)))] H4
    refine st fun N3 e3 => ?_
    walk_at "rd2"
    refine ⟨.inl ⟨rfl, _, SqL.of et4⟩, by decide, lt, _, _, rfl, rfl, et4, by rw [List.length_map]; exact sizeBig (by omega), ?_⟩
    subst e3
    try walk_at "rd2"
    have f := fms m4 25 (by decide)
    refine ⟨dvs _ 25 (by decide) (by decide), ?_⟩
    have e5 : ns.map V.int ++ [V.int (m4.fmod 25 - 12)] = (ns ++ [m4.fmod 25 - 12]).map V.int := by simp
    rw [e5]
    refine ⟨Same.over hlt0 s4, ?_, MatL.setO hL4 et4 nlf (fun xs ex => by rw [ef4] at ex; cases ex; exact nr), ns ++ [m4.fmod 25 - 12], upd_same, by simp [hln], fun t ht => ?_⟩
    ·rw [upd_ne nlf]; exact ef4
    ·rcases List.mem_append.mp ht with h | h
     ·exact hns t h
     ·simp at h; omega
   ·rintro σ H4 ⟨m4, ns, v6', rfl, s4, ef4, hL4, et4, hln, hns⟩
    subst e2
    walk_at "rd2"
    refine ⟨.inl ⟨rfl, _, SqL.of ef4⟩, ?_⟩
    obtain ⟨zs, z1, z2, z3⟩ := MatL.app hL4 et4 (Ne.symm nlf)
    refine ⟨lf, zs, _, rfl, rfl, z1, small1000 (by rw [z2, hlM]; omega), ?_⟩
    refine ⟨Same.over hlf s4, M ++ [ns], z3, by simp [hlM], fun r hr => ?_, fun r hr => ?_⟩
    ·rcases List.mem_append.mp hr with h | h
     ·exact hrM r h
     ·simp at h; rw [h]; exact hln
    ·rcases List.mem_append.mp hr with h | h
     ·exact bM r h
     ·simp at h; rw [h]; exact hns
  ·rintro σ H2 ⟨m, M, v4, v5, v6, rfl, s2, hL, hlM, hrM, bM⟩
   subst e1
   walk_at "rd2"
   refine ⟨by show 2 ≤ sizeLine; decide, fun p hp => ?_⟩
   exact hQ p _ M u (s2.trans (Same.new hp)) ⟨lf, upd_same, hL.up (Same.new hp)⟩ ⟨hlM, hrM⟩ bM (by omega) (by omega)

theorem setRowL {H : Hp} {a p : Addr} {M : List (List Int)} {i : Nat} {r : List Int} (h : MatL H a M) (hi : i < M.length) (hp : H p = some (.lst (r.map V.int))) (ne : p ≠ a) : ∃ zs, H a = some (.lst zs) ∧ zs.length = M.length ∧ MatL (upd H a (.lst (zs.set i (.ref p)))) a (M.set i r) := by
 obtain ⟨ps, h1, h2, h3⟩ := h
 refine ⟨_, h1, by simp [h2], ps.set i p, by rw [upd_same, List.map_set], by simp [h2], fun j q z e1 e2 => ?_⟩
 by_cases hj : j = i
 ·subst hj
  rw [List.getElem?_set_self (by omega)] at e1 e2
  cases e1
  cases e2
  exact ⟨ne, by rw [upd_ne ne]; exact hp⟩
 ·rw [List.getElem?_set_ne (Ne.symm hj)] at e1 e2
  obtain ⟨n, w⟩ := h3 j q z e1 e2
  exact ⟨n, by rw [upd_ne n]; exact w⟩
theorem ixN_nat {n k : Nat} (h : k < n) : ixN n (k : Int) = some k := by
 unfold ixN
 rw [if_pos (by omega), if_pos (by omega)]
 simp
theorem Sq.setRow {d i : Nat} {M : List (List Int)} {r : List Int} (h : Sq d M) (hr : r.length = d) : Sq d (M.set i r) := ⟨by simp [h.1], fun z hz => by
 rcases List.mem_or_eq_of_mem_set hz with e | e
 ·exact h.2 z e
 ·rw [e]; exact hr⟩
theorem BitsM.setRow {B i : Nat} {M : List (List Int)} {r : List Int} (h : BitsM B M) (hr : ∀ x ∈ r, x.natAbs < 2 ^ B) : BitsM B (M.set i r) := fun z hz => by
 rcases List.mem_or_eq_of_mem_set hz with e | e
 ·exact h z e
 ·rw [e]; exact hr
theorem det_add {d i j : Nat} {M : List (List Int)} {b : Int} (hd : d = 2 ∨ d = 3) (h : Sq d M) (hi : i < d) (hj : j < d) (ne : i ≠ j) : detM d (M.set i (List.zipWith (fun x y => x + b * y) (M.getD i []) (M.getD j []))) = detM d M := by
 rcases hd with rfl | rfl
 ·obtain ⟨a, b, c, e, rfl⟩ := two_of h
  rcases (show i = 0 ∧ j = 1 ∨ i = 1 ∧ j = 0 by omega) with ⟨rfl, rfl⟩ | ⟨rfl, rfl⟩ <;> simp <;> rw [det2, det2] <;> grind
 ·obtain ⟨a, b, c, a', b', c', a'', b'', c'', rfl⟩ := three_of h
  rcases (show i = 0 ∧ j = 1 ∨ i = 1 ∧ j = 0 ∨ i = 0 ∧ j = 2 ∨ i = 2 ∧ j = 0 ∨ i = 1 ∧ j = 2 ∨ i = 2 ∧ j = 1 by omega) with ⟨rfl, rfl⟩ | ⟨rfl, rfl⟩ | ⟨rfl, rfl⟩ | ⟨rfl, rfl⟩ | ⟨rfl, rfl⟩ | ⟨rfl, rfl⟩ <;> simp <;> rw [det3, det3] <;> grind
theorem det_neg {d i : Nat} {M : List (List Int)} (hd : d = 2 ∨ d = 3) (h : Sq d M) (hi : i < d) : detM d (M.set i ((M.getD i []).map fun x => -x)) = -detM d M := by
 rcases hd with rfl | rfl
 ·obtain ⟨a, b, c, e, rfl⟩ := two_of h
  rcases (show i = 0 ∨ i = 1 by omega) with rfl | rfl <;> simp <;> rw [det2, det2] <;> grind
 ·obtain ⟨a, b, c, a', b', c', a'', b'', c'', rfl⟩ := three_of h
  rcases (show i = 0 ∨ i = 1 ∨ i = 2 by omega) with rfl | rfl | rfl <;> simp <;> rw [det3, det3] <;> grind
noncomputable def rotM (d : Nat) (M : List (List Int)) : List (List Int) := (List.range d).map fun n => M.getD ((n + 1) % d) []
theorem det_rot {d : Nat} {M : List (List Int)} (hd : d = 2 ∨ d = 3) (h : Sq d M) : detM d (rotM d M) = detM d M ∨ detM d (rotM d M) = -detM d M := by
 rcases hd with rfl | rfl
 ·obtain ⟨a, b, c, e, rfl⟩ := two_of h
  refine .inr ?_
  simp [rotM, List.range, List.range.loop]
  rw [det2, det2]; grind
 ·obtain ⟨a, b, c, a', b', c', a'', b'', c'', rfl⟩ := three_of h
  refine .inl ?_
  simp [rotM, List.range, List.range.loop]
  rw [det3, det3]; grind
theorem rot_mem {d : Nat} {M : List (List Int)} (h : M.length = d) {r : List Int} (hr : r ∈ rotM d M) : r ∈ M := by
 obtain ⟨n, hn, rfl⟩ := List.mem_map.mp hr
 have := List.mem_range.mp hn
 have : (n + 1) % d < M.length := by rw [h]; exact Nat.mod_lt _ (by omega)
 simp [this]
theorem mix_bits {x y b : Int} {B g : Nat} (hx : x.natAbs < 2 ^ B) (hy : y.natAbs < 2 ^ B) (hb : b.natAbs + 1 ≤ 2 ^ g) : (x + b * y).natAbs < 2 ^ (B + g) := by
 have h1 := Int.natAbs_add_le x (b * y)
 rw [Int.natAbs_mul] at h1
 have h2 : b.natAbs * y.natAbs ≤ b.natAbs * 2 ^ B := Nat.mul_le_mul_left _ (Nat.le_of_lt hy)
 have h3 : (b.natAbs + 1) * 2 ^ B ≤ 2 ^ g * 2 ^ B := Nat.mul_le_mul_right _ hb
 rw [Nat.add_mul, Nat.one_mul] at h3
 rw [Nat.pow_add, Nat.mul_comm]
 omega
theorem idM_uni {d : Nat} (hd : d = 2 ∨ d = 3) : Sq d (idM d) ∧ BitsM 1 (idM d) ∧ Uni d (idM d) := by
 refine ⟨⟨by simp [idM], fun r hr => ?_⟩, fun r hr x hx => ?_, ?_⟩
 ·obtain ⟨i, _, rfl⟩ := List.mem_map.mp hr
  simp
 ·obtain ⟨i, _, rfl⟩ := List.mem_map.mp hr
  obtain ⟨k, _, rfl⟩ := List.mem_map.mp hx
  split <;> decide
 ·rcases hd with rfl | rfl
  ·exact .inl (by decide +kernel)
  ·exact .inl (by decide +kernel)
theorem Uni.neg {d : Nat} {M N : List (List Int)} (h : Uni d M) (e : detM d N = detM d M ∨ detM d N = -detM d M) : Uni d N := by
 unfold Uni at *
 omega
theorem ok_law_rows (T : Txt K mg t) : FnOk P w K mg base CX0 2 t.a_law_rows t.d_law_rows ["_law_cell_here", "_law_d", "_law_most"] (sp_law_rows K) := by
 have G_law_units : FnOk P w K mg base CX0 1 t.a_law_units t.d_law_units ["_law_d"] (sp_law_units K) := ok_law_units T
 refine T.F_law_rows.ok sc_law_rows (fun vs H Q E h => ?_) (fun cdv A outer s H vs Q E hr h => ?_)
 ·obtain ⟨c, most, d, g, rfl, _⟩ := h
  rfl
 ·obtain ⟨c, most, d, g, rfl, hd, hg, hQ⟩ := h
  have hmg : 1 ≤ most ∧ most ≤ 9 ∧ most.natAbs + 1 ≤ 2 ^ g ∧ g ≤ 4 := by
   rcases hg with ⟨rfl, rfl⟩ | ⟨rfl, rfl⟩ <;> decide
  refine ⟨_, (pss_cons (ps_set (i := 3) sc_law_rows.nd rfl (Or.inr rfl) (pe_call G_law_units (hr.mono (by omega)) rfl T.m_law_units T.F_law_units.kp T.b_law_units .nil pass0 (pa_cons (pv 1) pa_nil)))
   (pss_cons (ps_for PassesOwn.never rfl (pi_range1 rfl T.z_range (pa_cons (pe_op op_add pe_int (pe_op op_mulB pe_int (pe_callTy call_int1 rfl T.z_int (by decide +kernel) (pa_cons (pe_cmpR op_ge (pv 0) (pe_op op_pow pe_int pe_int) (nomark _)) pa_nil)))) pa_nil)) (pg_name (i := 4) sc_law_rows.nd rfl (Or.inl rfl))
   (pss_cons (ps_set (i := 5) sc_law_rows.nd rfl (Or.inl rfl) (pe_op op_modN (pv 0) (pv 1)))
   (pss_cons (ps_set (i := 6) sc_law_rows.nd rfl (Or.inl rfl) (pe_op op_modN (pe_op op_add (pe_op op_add (pv 5) pe_int) (pe_op op_modN (pe_op op_fdivB (pv 0) (pv 1)) (pe_op op_sub (pv 1) pe_int))) (pv 1)))
   (pss_cons (ps_set (i := 7) sc_law_rows.nd rfl (Or.inl rfl) (pe_op op_modN (pe_op op_fdivB (pe_op op_fdivB (pv 0) (pv 1)) (pv 1)) pe_int))
   (pss_cons (ps_set (i := 8) sc_law_rows.nd rfl (Or.inr rfl) (pe_op op_sub (pe_op op_modN (pe_op op_fdivB (pe_op op_fdivB (pe_op op_fdivB (pv 0) (pv 1)) (pv 1)) pe_int) (pe_op op_add (pe_op op_mulB pe_int (pv 2)) pe_int)) (pv 2)))
   (pss_cons (ps_set (i := 0) sc_law_rows.nd rfl (Or.inl rfl) (pe_op op_fdivB (pe_op op_fdivB (pe_op op_fdivB (pe_op op_fdivB (pv 0) (pv 1)) (pv 1)) pe_int) (pe_op op_add (pe_op op_mulB pe_int (pv 2)) pe_int)))
   (pss_one (ps_if (pt_cmpR op_eqZ (pv 7) pe_int (nomark _))
   (pss_one (ps_asg (pe_compG (xs := ["_law_one", "_law_other"]) (fr := [("_law_by", 8)]) (g := (gTup K 2 (gCons (gName 0) (gCons (gName 1) gNil)))) (tt := (tEl (tOp (rI0 fun i j => .int (i + j)) (tVar 0) (tOp (rI (fun i j => IntMulOk i j) fun i j => .int (i * j)) (tVar 2) (tVar 1))))) (compG_ok (sc := defScope s_law_rows) (N := N_law_rows) rfl rfl (by decide +kernel)) rfl (pi_zip rfl T.z_zip (pa_cons (pe_ix ix_B (pv 3) (pv 5) (fun _ _ => rfl)) (pa_cons (pe_ix ix_B (pv 3) (pv 6) (fun _ _ => rfl)) pa_nil))) (fun _ _ _ hE1 => (pg_tup rfl (pgs_cons (pg_own (N := ["_law_one", "_law_other", "_law_by"]) (i := 0) hE1 rfl (by decide +kernel)) (pgs_cons (pg_own (N := ["_law_one", "_law_other", "_law_by"]) (i := 1) hE1 rfl (by decide +kernel)) pgs_nil)))) (fun _ _ _ hE1 => (po_el (pe_op op_add (pv 0) (pe_op op_mulB (pv 2) (pv 1)))))) (pg_sub (pv 3) (pv 5) set_list)))
   (pss_one (ps_if (pt_cmpR op_eqZ (pv 7) pe_int (nomark _))
   (pss_one (ps_set (i := 3) sc_law_rows.nd rfl (Or.inr rfl) (pe_compG (xs := ["_law_n"]) (fr := [("_law_d", 1), ("_law_rows_here", 3)]) (g := (gName 0)) (tt := (tEl (tOp (rIxB K) (tVar 2) (tOp (rI (fun _ j => j ≠ 0) fun i j => .int (i.fmod j)) (tOp (rI0 fun i j => .int (i + j)) (tVar 0) (tC (.int 1))) (tVar 1))))) (compG_ok (sc := defScope s_law_rows) (N := N_law_rows) rfl rfl (by decide +kernel)) rfl (pi_range1 rfl T.z_range (pa_cons (pv 1) pa_nil)) (fun _ _ _ hE1 => (pg_own (N := ["_law_n", "_law_d", "_law_rows_here"]) (i := 0) hE1 rfl (by decide +kernel))) (fun _ _ _ hE1 => (po_el (pe_ix ix_B (pv 2) (pe_op op_modN (pe_op op_add (pv 0) pe_int) (pv 1)) (fun _ _ => rfl)))))))
   (pss_one (ps_asg (pe_compG (xs := ["_law_one"]) (fr := []) (g := (gName 0)) (tt := (tEl (tUn (rU fun i => .int (-i)) (tVar 0)))) (compG_ok (sc := defScope s_law_rows) (N := N_law_rows) rfl rfl (by decide +kernel)) rfl (pi_seq (pe_ix ix_B (pv 3) (pv 5) (fun _ _ => rfl))) (fun _ _ _ hE1 => (pg_own (N := ["_law_one"]) (i := 0) hE1 rfl (by decide +kernel))) (fun _ _ _ hE1 => (po_el (pe_un un_neg (pv 0))))) (pg_sub (pv 3) (pv 5) set_list)))))))))))))
   (pss_one (ps_ret (pv 3))))), ?_⟩
  show tSeq _ _ _ [some (.int c), some (.int d), some (.int most), none, none, none, none, none, none] H
  refine st fun N1 e1 => ?_
  walk_at "rd2"
  refine ⟨d, rfl, by omega, fun l0 H1 hl0 s1 hM0 => ?_⟩
  subst e1
  refine st fun N1 e1 => for_st fun B eB => ?_
  simp only [iRng1]
  walk_at "rd2"
  have p18 : CPow 10 18 := ⟨by decide, by decide, by decide⟩
  refine ⟨p18, .inr ⟨IntMulOk.of_left (by decide), ?_⟩⟩
  obtain ⟨nn, hnn, ln⟩ : ∃ nn : Nat, (4 + 8 * (if decide (c ≥ 10 ^ (18 : Int).toNat) then 1 else 0) : Int) = nn ∧ nn ≤ 12 := by
   by_cases z : c ≥ 10 ^ (18 : Int).toNat
   ·rw [decide_eq_true z]; exact ⟨12, rfl, by decide⟩
   ·rw [decide_eq_false z]; exact ⟨4, rfl, by decide⟩
  rw [hnn]
  refine ⟨by omega, by omega, ?_⟩
  rw [Int.toNat_natCast]
  obtain ⟨q1, q2, q3⟩ := idM_uni hd
  refine fr_range (g := gName 4) (tb := B) (fun k σ H2 => ∃ (m : Int) (l : Addr) (M : List (List Int)) (v4 v5 v6 v7 v8 : Option V), σ = [some (.int m), some (.int d), some (.int most), some (.ref l), v4, v5, v6, v7, v8] ∧ Same H H2 ∧ H l = none ∧ MatL H2 l M ∧ Sq d M ∧ BitsM (1 + k * g) M ∧ Uni d M)
   ⟨c, l0, _, none, none, none, none, none, rfl, s1, hl0, hM0, q1, q2.le (by omega), q3⟩ ?_ ?_
  ·rintro k σ H2 hk ⟨m, l, M, v4, v5, v6, v7, v8, rfl, s2, hl, hM, sM, bM, uM⟩
   subst eB
   show tSeq _ _ _ [some (.int m), some (.int d), some (.int most), some (.ref l), some (.int (0 + (k : Int))), v5, v6, v7, v8] H2
   refine st fun N2 e2 => ?_
   walk_at "rd2"
   refine ⟨by omega, ?_⟩
   have fi := fms m d (by omega)
   obtain ⟨i, ei⟩ := Int.eq_ofNat_of_zero_le fi.1
   rw [ei] at fi ⊢
   subst e2
   refine st fun N2 e2 => ?_
   walk_at "rd2"
   have cd : ∀ x, CDivB x (d : Int) := fun x => dvs x d (by omega) (by omega)
   refine ⟨cd _, by omega, by omega, ?_⟩
   have fs := fms (m.fdiv d) ((d : Int) - 1) (by omega)
   have fj := fms ((i : Int) + 1 + (m.fdiv d).fmod ((d : Int) - 1)) d (by omega)
   have ej0 : ((i : Int) + 1 + (m.fdiv d).fmod ((d : Int) - 1)).fmod d = ((i : Int) + 1 + (m.fdiv d).fmod ((d : Int) - 1)) % (d : Int) := Int.fmod_eq_emod_of_nonneg _ (by omega)
   generalize (m.fdiv d).fmod ((d : Int) - 1) = sh at *
   generalize hjz : ((i : Int) + 1 + sh).fmod d = jz at *
   obtain ⟨j, ej⟩ := Int.eq_ofNat_of_zero_le fj.1
   subst ej
   have hij : i ≠ j := by rcases hd with rfl | rfl <;> omega
   have hi : i < d := by omega
   have hj : j < d := by omega
   subst e2
   refine st fun N2 e2 => ?_
   walk_at "rd2"
   refine ⟨cd _, cd _, by decide, ?_⟩
   generalize ((m.fdiv d).fdiv d).fmod 3 = way
   subst e2
   refine st fun N2 e2 => ?_
   walk_at "rd2"
   refine ⟨cd _, cd _, dvs _ 3 (by decide) (by decide), IntMulOk.of_left (by decide), by omega, ?_⟩
   have fb := fms (((m.fdiv d).fdiv d).fdiv 3) (2 * most + 1) (by omega)
   generalize hby : (((m.fdiv d).fdiv d).fdiv 3).fmod (2 * most + 1) - most = by0
   have hb1 : by0.natAbs + 1 ≤ 2 ^ g := by omega
   have hb9 : by0.natAbs ≤ 9 := by omega
   subst e2
   refine st fun N2 e2 => ?_
   walk_at "rd2"
   refine ⟨cd _, cd _, dvs _ 3 (by decide) (by decide), IntMulOk.of_left (by decide), dvs _ _ (by omega) (by omega), ?_⟩
   generalize (((m.fdiv d).fdiv d).fdiv 3).fdiv (2 * most + 1) = m'
   have hiM : i < M.length := by rw [sM.1]; exact hi
   have eri := row_at (B := M) (j := i) hiM
   have erj := row_at (B := M) (j := j) (by rw [sM.1]; exact hj)
   have mi := List.mem_of_getElem? eri
   have mj := List.mem_of_getElem? erj
   have li := sM.2 _ mi
   have lj := sM.2 _ mj
   have eb : 1 + (k + 1) * g = 1 + k * g + g := by rw [Nat.add_mul]; omega
   subst e2
   walk_at "rd2"
   refine ite2 (fun _ => ?_) (fun _ => ite2 (fun _ => ?_) (fun _ => ?_))
   ·simp only [tAsg, gSub, rSetL]
    try walk_at "rd2"
    refine compE_st fun B0 eB0 => ?_
    simp only [iZip]
    try walk_at "rd2"
    refine mat_row (hM.b (K := K)) eri rfl fun p1 hp1 => ?_
    try walk_at "rd2"
    refine mat_row (hM.b (K := K)) erj rfl fun p2 hp2 => ?_
    try walk_at "rd2"
    refine ⟨false, ⟨_, hp1⟩, false, ⟨_, hp2⟩, fun a1 ha1 => ?_⟩
    refine cg_zip (fun n z _ => ∃ x y, (M.getD i [])[n]? = some x ∧ (M.getD j [])[n]? = some y ∧ z = .int (x + by0 * y)) ha1 hp1 hp2 (by rw [List.length_map, List.length_map, li, lj]) (by rw [List.length_map, li]; omega) (fun _ _ _ _ r _ => r) ?_ ?_
    ·intro n v1 v2 H3 zs ex ey s3 ez Q' hQ'
     obtain ⟨x, ex1, rfl⟩ := ints_at ex
     obtain ⟨y, ey1, rfl⟩ := ints_at ey
     subst eB0
     show tOp _ _ _ [some (.int x), some (.int y), some (.int by0)] H3 Q'
     try walk_at "rd2"
     have b4 : bnd 4 by0 := by unfold bnd; omega
     have hkg : k * g ≤ 12 * 4 := Nat.mul_le_mul (by omega) hmg.2.2.2
     have b5 : bnd (1 + k * g) y := bM _ mj y (List.mem_of_getElem? ey1)
     exact ⟨b4.ok b5 (by omega), hQ' _ _ (Same.refl _) ⟨x, y, ex1, ey1, rfl⟩⟩
    ·intro H3 ys s3 e3 hly hr3
     have ey : ys = (List.zipWith (fun x y => x + by0 * y) (M.getD i []) (M.getD j [])).map V.int := by
      refine list_is (by rw [hly, List.length_map, List.length_zipWith, li, lj, Nat.min_self]) fun n z e => ?_
      obtain ⟨x, y, ex, ey, rfl⟩ := hr3 n z e
      exact ⟨_, by rw [List.getElem?_zipWith, ex, ey], rfl⟩
     subst ey
     obtain ⟨zR, hzR, _⟩ := hM.refs
     have ne : a1 ≠ l := Ne.symm (ne_of_none hzR ha1)
     obtain ⟨zs, z1, z2, z3⟩ := setRowL (hM.up s3) hiM e3 ne
     refine ⟨zs, z1, i, ixN_nat (by omega), ?_⟩
     refine ⟨Same.over hl (s2.trans s3), hl, _, z3, sM.setRow (by rw [List.length_zipWith, li, lj, Nat.min_self]), ?_, uM.neg (.inl (det_add hd sM hi hj hij))⟩
     rw [eb]
     refine (bM.le (by omega)).setRow fun z hz => ?_
     obtain ⟨n, hn, rfl⟩ := List.getElem_of_mem hz
     rw [List.getElem_zipWith]
     exact mix_bits (bM _ mi _ (List.getElem_mem _)) (bM _ mj _ (List.getElem_mem _)) hb1
   ·refine compE_st fun B0 eB0 => ?_
    simp only [iRng1]
    try walk_at "rd2"
    refine ⟨by omega, by omega, fun a1 ha1 => ?_⟩
    rw [Int.toNat_natCast]
    refine cg_range (RowR a1 fun n => M.getD ((n + 1) % d) []) ha1 (by omega) (RowR.mono (a := a1)) ?_ ?_
    ·intro n H3 zs hn s3 ez Q' hQ'
     subst eB0
     show tOp _ _ _ [some (.int (0 + (n : Int))), some (.int d), some (.ref l)] H3 Q'
     try walk_at "rd2"
     have en : (0 + (n : Int) + 1).fmod d = (((n + 1) % d : Nat) : Int) := by
      rw [Int.fmod_eq_emod_of_nonneg _ (by omega)]; rcases hd with rfl | rfl <;> omega
     obtain ⟨ps, g1, g2, g3⟩ := hM.up s3
     have hn2 : (n + 1) % d < d := Nat.mod_lt _ (by omega)
     have hps : (n + 1) % d < ps.length := by rw [g2, sM.1]; exact hn2
     refine ⟨by omega, false, l, _, _, _, rfl, rfl, SqB.lst g1, atI_at (x := .ref ps[(n + 1) % d]) (by simp [hps]) en, ?_⟩
     have g4 := g3 ((n + 1) % d) ps[(n + 1) % d] (M.getD ((n + 1) % d) []) (by simp [hps]) (row_at (by rw [sM.1]; exact hn2))
     refine hQ' _ _ (Same.refl _) ⟨_, rfl, fun z => ?_, g4.2⟩
     have := g4.2
     rw [z, ez] at this
     obtain ⟨ps0, g1', g2', g3'⟩ := hM
     have e0 : ps0 = ps := by
      have := (s3 _ _ g1').symm.trans g1
      have h5 : ps0.map V.ref = ps.map V.ref := by injection this with h; injection h
      exact (List.map_inj_right (fun x y e => by injection e)).mp h5
     subst e0
     have g5 := (g3' ((n + 1) % d) ps0[(n + 1) % d] (M.getD ((n + 1) % d) []) (by simp [hps]) (row_at (by rw [sM.1]; exact hn2))).2
     rw [z, ha1] at g5
     cases g5
    ·intro H3 ys s3 e3 hly hr3
     have hM3 := MatL.of e3 hr3
     rw [hly] at hM3
     have hl3 : H a1 = none := by cases w : H a1 with | none => rfl | some o => rw [s2 _ _ w] at ha1; cases ha1
     refine ⟨a1, rfl, s2.trans s3, hl3, rotM d M, hM3, ⟨by simp [rotM], fun r hr => sM.2 r (rot_mem sM.1 hr)⟩, fun r hr x hx => ?_, uM.neg (det_rot hd sM)⟩
     exact (bM.le (show 1 + k * g ≤ 1 + (k + 1) * g by rw [eb]; omega)) r (rot_mem sM.1 hr) x hx
   ·simp only [tAsg, gSub, rSetL]
    try walk_at "rd2"
    refine compE_st fun B0 eB0 => ?_
    simp only [iSeq]
    try walk_at "rd2"
    refine mat_row (hM.b (K := K)) eri rfl fun p1 hp1 => ⟨false, p1, rfl, ⟨_, hp1⟩, fun a1 ha1 => ?_⟩
    refine cg_seq (fun n z _ => ∃ x, (M.getD i [])[n]? = some x ∧ z = .int (-x)) ha1 hp1 (by rw [List.length_map, li]; omega) (fun _ _ _ _ r _ => r) ?_ ?_
    ·intro n z H3 zs ez2 s3 _ Q' hQ'
     obtain ⟨x, en, rfl⟩ := ints_at ez2
     subst eB0
     show tUn _ _ [some (.int x)] H3 Q'
     try walk_at "rd2"
     exact hQ' _ _ (Same.refl _) ⟨x, en, rfl⟩
    ·intro H3 ys s3 e3 hly hr3
     have ey : ys = ((M.getD i []).map fun x => -x).map V.int := by
      refine list_is (by simpa using hly) fun n z e => ?_
      obtain ⟨x, en, rfl⟩ := hr3 n z e
      exact ⟨-x, by rw [List.getElem?_map, en]; rfl, rfl⟩
     subst ey
     obtain ⟨zR, hzR, _⟩ := hM.refs
     have ne : a1 ≠ l := Ne.symm (ne_of_none hzR ha1)
     obtain ⟨zs, z1, z2, z3⟩ := setRowL (hM.up s3) hiM e3 ne
     refine ⟨zs, z1, i, ixN_nat (by omega), ?_⟩
     refine ⟨Same.over hl (s2.trans s3), hl, _, z3, sM.setRow (by rw [List.length_map, li]), ?_, uM.neg (.inr (det_neg hd sM hi))⟩
     rw [eb]
     refine (bM.le (by omega)).setRow fun z hz => ?_
     obtain ⟨x, hx, rfl⟩ := List.mem_map.mp hz
     rw [Int.natAbs_neg]
     exact Nat.lt_of_lt_of_le (bM _ mi x hx) (Nat.pow_le_pow_right (by decide) (by omega))
  ·rintro σ H2 ⟨m, l, M, v4, v5, v6, v7, v8, rfl, s2, hl, hM, sM, bM, uM⟩
   subst e1
   walk_at "rd2"
   have : nn * g ≤ 12 * g := Nat.mul_le_mul_right _ ln
   exact hQ l H2 M s2 hM sM (bM.le (by omega)) uM

theorem det_scale {d : Nat} {M : List (List Int)} {c : Int} (hd : d = 2 ∨ d = 3) (h : Sq d M) : detM d (M.map fun r => r.map (· * c)) = c ^ d * detM d M := by
 rcases hd with rfl | rfl
 ·obtain ⟨a, b, x, e, rfl⟩ := two_of h
  simp
  rw [det2, det2]; grind
 ·obtain ⟨a, b, x, a', b', c', a'', b'', c'', rfl⟩ := three_of h
  simp
  rw [det3, det3]; grind
noncomputable def diagM (d : Nat) (f : Nat → Int) : List (List Int) := (List.range d).map fun i => (List.range d).map fun k => (if i = k then 1 else 0) * f k
theorem det_diag {d : Nat} {f : Nat → Int} (hd : d = 2 ∨ d = 3) (hf : ∀ k, 1 ≤ f k) : detM d (diagM d f) ≠ 0 := by
 have p01 := Int.mul_pos (show 0 < f 0 by have := hf 0; omega) (show 0 < f 1 by have := hf 1; omega)
 have p012 := Int.mul_pos p01 (show 0 < f 2 by have := hf 2; omega)
 rcases hd with rfl | rfl
 ·have e : diagM 2 f = [[f 0, 0], [0, f 1]] := by simp [diagM, List.range, List.range.loop]
  rw [e, det2]; grind
 ·have e : diagM 3 f = [[f 0, 0, 0], [0, f 1, 0], [0, 0, f 2]] := by simp [diagM, List.range, List.range.loop]
  rw [e, det3]; grind
theorem Uni.nz {d : Nat} {M : List (List Int)} (h : Uni d M) : detM d M ≠ 0 ∧ bnd 20 (detM d M) := by
 unfold Uni at h
 unfold bnd
 omega
theorem det_bnd {d B : Nat} {M : List (List Int)} (hd : d = 2 ∨ d = 3) (hs : Sq d M) (hb : BitsM B M) (hB : B ≤ 4) : bnd 20 (detM d M) := by
 refine det_lt (by omega) (by omega) hs hb ?_
 have : d * (B + 2) ≤ 3 * 6 := Nat.mul_le_mul (by omega) (by omega)
 omega
theorem ok_law_columns (T : Txt K mg t) : FnOk P w K mg base CX0 3 t.a_law_columns t.d_law_columns ["_law_script", "_law_d"] (sp_law_columns K) := by
 have G_law_cell : FnOk P w K mg base CX0 1 t.a_law_cell t.d_law_cell ["_law_script", "_law_k"] (sp_law_cell K) := ok_law_cell T
 have G_law_rows : FnOk P w K mg base CX0 2 t.a_law_rows t.d_law_rows ["_law_cell_here", "_law_d", "_law_most"] (sp_law_rows K) := ok_law_rows T
 have G_law_told_columns : FnOk P w K mg base CX0 1 t.a_law_told_columns t.d_law_told_columns ["_law_left", "_law_d"] (sp_law_told_columns K) := ok_law_told_columns T
 have G_law_room : FnOk P w K mg base CX0 2 t.a_law_room t.d_law_room ["_law_rows_here"] (sp_law_room K) := ok_law_room T
 have G_law_units : FnOk P w K mg base CX0 1 t.a_law_units t.d_law_units ["_law_d"] (sp_law_units K) := ok_law_units T
 refine T.F_law_columns.ok sc_law_columns (fun vs H Q E h => ?_) (fun cdv A outer s H vs Q E hr h => ?_)
 ·obtain ⟨a, ns, d, rfl, _⟩ := h
  rfl
 ·obtain ⟨a, ns, d, rfl, hS, hd, hQ⟩ := h
  refine ⟨_, (pss_cons (ps_set (i := 2) sc_law_columns.nd rfl (Or.inl rfl) (pe_op op_modN (pe_op op_fdivB (pe_call G_law_cell (hr.mono (by omega)) rfl T.m_law_cell T.F_law_cell.kp T.b_law_cell .nil pass0 (pa_cons (pv 0) (pa_cons pe_int pa_nil))) pe_int) pe_int))
   (pss_cons (ps_set (i := 3) sc_law_columns.nd rfl (Or.inr rfl) (pe_call G_law_cell (hr.mono (by omega)) rfl T.m_law_cell T.F_law_cell.kp T.b_law_cell .nil pass0 (pa_cons (pv 0) (pa_cons pe_int pa_nil))))
   (pss_cons (ps_set (i := 4) sc_law_columns.nd rfl (Or.inl rfl) (pe_call G_law_rows (hr.mono (by omega)) rfl T.m_law_rows T.F_law_rows.kp T.b_law_rows .nil pass0 (pa_cons (pv 3) (pa_cons (pv 1) (pa_cons pe_int pa_nil)))))
   (pss_cons (ps_set (i := 5) sc_law_columns.nd rfl (Or.inl rfl) pe_int)
   (pss_cons (ps_if (pt_cmpR op_eqZ (pv 2) pe_int (nomark _))
   (pss_one (ps_setCG (i := 4) (xs := ["_law_row"]) (fr := [("_law_cell_here", 3)]) (g := (gName 0)) (tt := (tEl (tCompG (iSeq K (tVar 0)) (gName 0) (tEl (tOp (rI (fun i j => IntMulOk i j) fun i j => .int (i * j)) (tVar 0) (tOp (rI0 fun i j => .int (i + j)) (tC (.int 2)) (tOp (rI (fun _ j => j ≠ 0) fun i j => .int (i.fmod j)) (tVar 1) (tC (.int 3)))))) 1 [("_law_cell_here", 1)]))) (compG_ok (sc := defScope s_law_columns) (N := N_law_columns) rfl rfl (by decide +kernel)) rfl sc_law_columns.nd rfl rfl (pi_seq (pv 4)) (fun _ _ _ hE1 => (pg_own (N := ["_law_row", "_law_cell_here"]) (i := 0) hE1 rfl (by decide +kernel))) (fun _ _ _ hE1 => (po_el (pe_compG (xs := ["_law_number"]) (fr := [("_law_cell_here", 1)]) (g := (gName 0)) (tt := (tEl (tOp (rI (fun i j => IntMulOk i j) fun i j => .int (i * j)) (tVar 0) (tOp (rI0 fun i j => .int (i + j)) (tC (.int 2)) (tOp (rI (fun _ j => j ≠ 0) fun i j => .int (i.fmod j)) (tVar 1) (tC (.int 3))))))) (compG_ok (N := ["_law_row", "_law_cell_here"]) hE1 rfl (by decide +kernel)) rfl (pi_seq (pv 0)) (fun _ _ _ hE2 => (pg_own (N := ["_law_number", "_law_cell_here"]) (i := 0) hE2 rfl (by decide +kernel))) (fun _ _ _ hE2 => (po_el (pe_op op_mulB (pv 0) (pe_op op_add pe_int (pe_op op_modN (pv 1) pe_int))))))))))
   pss_nil)
   (pss_cons (ps_if (pt_cmpR op_eqZ (pv 2) pe_int (nomark _))
   (pss_cons (ps_setCG (i := 4) (xs := ["_law_i"]) (fr := [("_law_d", 1), ("_law_cell_here", 3)]) (g := (gName 0)) (tt := (tEl (tCompG (iRng1 (tCons (tVar 1) tNil)) (gName 0) (tEl (tOp (rI0 fun i j => .int (i - j)) (tOp (rI (fun _ j => j ≠ 0) fun i j => .int (i.fmod j)) (tOp (rI CDivB fun i j => .int (i.fdiv j)) (tVar 2) (tOp (rI0 fun i j => .int (i + j)) (tOp (rI0 fun i j => .int (i + j)) (tOp (rI (fun i j => IntMulOk i j) fun i j => .int (i * j)) (tVar 1) (tC (.int 61))) (tOp (rI (fun i j => IntMulOk i j) fun i j => .int (i * j)) (tVar 0) (tC (.int 13)))) (tC (.int 1)))) (tC (.int 5))) (tC (.int 2)))) 1 [("_law_i", 0), ("_law_cell_here", 2)]))) (compG_ok (sc := defScope s_law_columns) (N := N_law_columns) rfl rfl (by decide +kernel)) rfl sc_law_columns.nd rfl rfl (pi_range1 rfl T.z_range (pa_cons (pv 1) pa_nil)) (fun _ _ _ hE1 => (pg_ownC (N := ["_law_i", "_law_d", "_law_cell_here"]) (i := 0) hE1 rfl (by decide +kernel) rfl)) (fun _ _ _ hE1 => (po_el (pe_compG (xs := ["_law_k"]) (fr := [("_law_i", 0), ("_law_cell_here", 2)]) (g := (gName 0)) (tt := (tEl (tOp (rI0 fun i j => .int (i - j)) (tOp (rI (fun _ j => j ≠ 0) fun i j => .int (i.fmod j)) (tOp (rI CDivB fun i j => .int (i.fdiv j)) (tVar 2) (tOp (rI0 fun i j => .int (i + j)) (tOp (rI0 fun i j => .int (i + j)) (tOp (rI (fun i j => IntMulOk i j) fun i j => .int (i * j)) (tVar 1) (tC (.int 61))) (tOp (rI (fun i j => IntMulOk i j) fun i j => .int (i * j)) (tVar 0) (tC (.int 13)))) (tC (.int 1)))) (tC (.int 5))) (tC (.int 2))))) (compG_ok (N := ["_law_i", "_law_d", "_law_cell_here"]) hE1 rfl (by decide +kernel)) rfl (pi_range1 rfl T.z_range (pa_cons (pv 1) pa_nil)) (fun _ _ _ hE2 => (pg_own (N := ["_law_k", "_law_i", "_law_cell_here"]) (i := 0) hE2 rfl (by decide +kernel))) (fun _ _ _ hE2 => (po_el (pe_op op_sub (pe_op op_modN (pe_op op_fdivB (pv 2) (pe_op op_add (pe_op op_add (pe_op op_mulB (pv 1) pe_int) (pe_op op_mulB (pv 0) pe_int)) pe_int)) pe_int) pe_int)))))))
   (pss_cons (ps_set (i := 5) sc_law_columns.nd rfl (Or.inl rfl) (pe_op op_add pe_int (pe_op op_modN (pv 3) pe_int)))
   (pss_cons (ps_if (pt_cmpR op_ge (pv 3) (pe_op op_pow pe_int pe_int) (nomark _))
   (pss_one (ps_asg (pe_call G_law_told_columns (hr.mono (by omega)) rfl T.m_law_told_columns T.F_law_told_columns.kp T.b_law_told_columns .nil pass0 (pa_cons (pe_op op_sub (pv 3) (pe_op op_pow pe_int pe_int)) (pa_cons (pv 1) pa_nil))) (pg_tup rfl (pgs_cons (pg_name (i := 4) sc_law_columns.nd rfl (Or.inl rfl)) (pgs_cons (pg_name (i := 5) sc_law_columns.nd rfl (Or.inl rfl)) pgs_nil)))))
   pss_nil)
   (pss_one (ps_if (pt_cmpR op_eqZ (pe_call G_law_room (hr.mono (by omega)) rfl T.m_law_room T.F_law_room.kp T.b_law_room .nil pass0 (pa_cons (pv 4) pa_nil)) pe_int (nomark _))
   (pss_one (ps_set (i := 4) sc_law_columns.nd rfl (Or.inl rfl) (pe_call G_law_units (hr.mono (by omega)) rfl T.m_law_units T.F_law_units.kp T.b_law_units .nil pass0 (pa_cons (pv 1) pa_nil))))
   pss_nil)))))
   pss_nil)
   (pss_cons (ps_if (pt_cmpR op_eqZ (pv 2) pe_int (nomark _))
   (pss_cons (ps_setCG (i := 4) (xs := ["_law_i"]) (fr := [("_law_d", 1), ("_law_cell_here", 3)]) (g := (gName 0)) (tt := (tEl (tCompG (iRng1 (tCons (tVar 1) tNil)) (gName 0) (tEl (tOp (rI (fun i j => IntMulOk i j) fun i j => .int (i * j)) (tCB (fun xs H Q => (∃ i, xs = [.int i] ∧ Q (.int i) H) ∨ ∃ k, xs = [.bl k] ∧ Q (.int (if k then 1 else 0)) H) (tCons (tOp (rI0 fun i j => .bl (decide (i = j))) (tVar 1) (tVar 0)) tNil)) (tOp (rI0 fun i j => .int (i + j)) (tC (.int 1)) (tOp (rI (fun _ j => j ≠ 0) fun i j => .int (i.fmod j)) (tOp (rI CDivB fun i j => .int (i.fdiv j)) (tVar 2) (tOp (rI0 fun i j => .int (i + j)) (tVar 0) (tC (.int 1)))) (tC (.int 3)))))) 1 [("_law_i", 0), ("_law_cell_here", 2)]))) (compG_ok (sc := defScope s_law_columns) (N := N_law_columns) rfl rfl (by decide +kernel)) rfl sc_law_columns.nd rfl rfl (pi_range1 rfl T.z_range (pa_cons (pv 1) pa_nil)) (fun _ _ _ hE1 => (pg_ownC (N := ["_law_i", "_law_d", "_law_cell_here"]) (i := 0) hE1 rfl (by decide +kernel) rfl)) (fun _ _ _ hE1 => (po_el (pe_compG (xs := ["_law_k"]) (fr := [("_law_i", 0), ("_law_cell_here", 2)]) (g := (gName 0)) (tt := (tEl (tOp (rI (fun i j => IntMulOk i j) fun i j => .int (i * j)) (tCB (fun xs H Q => (∃ i, xs = [.int i] ∧ Q (.int i) H) ∨ ∃ k, xs = [.bl k] ∧ Q (.int (if k then 1 else 0)) H) (tCons (tOp (rI0 fun i j => .bl (decide (i = j))) (tVar 1) (tVar 0)) tNil)) (tOp (rI0 fun i j => .int (i + j)) (tC (.int 1)) (tOp (rI (fun _ j => j ≠ 0) fun i j => .int (i.fmod j)) (tOp (rI CDivB fun i j => .int (i.fdiv j)) (tVar 2) (tOp (rI0 fun i j => .int (i + j)) (tVar 0) (tC (.int 1)))) (tC (.int 3))))))) (compG_ok (N := ["_law_i", "_law_d", "_law_cell_here"]) hE1 rfl (by decide +kernel)) rfl (pi_range1 rfl T.z_range (pa_cons (pv 1) pa_nil)) (fun _ _ _ hE2 => (pg_own (N := ["_law_k", "_law_i", "_law_cell_here"]) (i := 0) hE2 rfl (by decide +kernel))) (fun _ _ _ hE2 => (po_el (pe_op op_mulB (pe_callTy call_int1 rfl T.z_int (by decide +kernel) (pa_cons (pe_cmpR op_eqZ (pv 1) (pv 0) (nomark _)) pa_nil)) (pe_op op_add pe_int (pe_op op_modN (pe_op op_fdivB (pv 2) (pe_op op_add (pv 0) pe_int)) pe_int)))))))))
   (pss_one (ps_set (i := 5) sc_law_columns.nd rfl (Or.inl rfl) (pe_op op_add pe_int (pe_op op_modN (pe_op op_fdivB (pv 3) pe_int) pe_int)))))
   pss_nil)
   (pss_one (ps_ret (pe_tup (pa_cons (pv 4) (pa_cons (pv 5) pa_nil)))))))))))), ?_⟩
  show tSeq _ _ _ [some (.ref a), some (.int d), none, none, none, none] H
  refine st fun N1 e1 => ?_
  walk_at "rd2"
  refine ⟨a, ns, 0, rfl, hS, by decide, ?_⟩
  try walk_at "rd2"
  refine ⟨dvs _ 2 (by decide) (by decide), by decide, ?_⟩
  generalize ((ns.getD (0 : Int).toNat 0).fdiv 2).fmod 4 = way
  subst e1
  refine st fun N1 e1 => ?_
  walk_at "rd2"
  refine ⟨a, ns, 1, rfl, hS, by decide, ?_⟩
  generalize ns.getD (1 : Int).toNat 0 = c
  subst e1
  refine st fun N1 e1 => ?_
  walk_at "rd2"
  refine ⟨c, 9, d, 4, rfl, hd, .inr ⟨rfl, rfl⟩, fun r H1 M s1 hM sM bM uM => ?_⟩
  subst e1
  refine st fun N1 e1 => ?_
  walk_at "rd2"
  subst e1
  refine st fun N1 e1 => ?_
  have tail : ∀ (H2 : Hp) (r : Addr) (L : List (List Int)), Same H H2 → MatL H2 r L → Sq d L → BitsM 52 L → detM d L ≠ 0 → bnd 20 (detM d L) → N1 [some (.ref a), some (.int d), some (.int way), some (.int c), some (.ref r), some (.int 1)] H2 := by
   intro H2 r L s2 hL sL bL nz bd
   subst e1
   refine st fun N1 e1 => ?_
   have tail2 : ∀ (H3 : Hp) (r : Addr) (L : List (List Int)) (u : Int), Same H H3 → MatL H3 r L → Sq d L → BitsM 52 L → detM d L ≠ 0 → bnd 20 (detM d L) → 1 ≤ u → u ≤ 6 → N1 [some (.ref a), some (.int d), some (.int way), some (.int c), some (.ref r), some (.int u)] H3 := by
    intro H3 r L u s3' hL sL bL nz bd hu1 hu6
    subst e1
    refine st fun N1 e1 => ?_
    have tail3 : ∀ (H3 : Hp) (r : Addr) (L : List (List Int)) (u : Int), Same H H3 → MatL H3 r L → Sq d L → BitsM 52 L → detM d L ≠ 0 → bnd 20 (detM d L) → 1 ≤ u → u ≤ 6 → N1 [some (.ref a), some (.int d), some (.int way), some (.int c), some (.ref r), some (.int u)] H3 := by
     intro H3 r L u s3' hL sL bL nz bd hu1 hu6
     subst e1
     try walk_at "rd2"
     exact ⟨by show 2 ≤ sizeLine; decide, fun p hp => hQ p _ L u (s3'.trans (Same.new hp)) ⟨r, upd_same, hL.up (Same.new hp)⟩ sL bL nz bd hu1 hu6⟩
    try walk_at "rd2"
    refine ite2 (fun _ => ?_) (fun _ => tail3 H3 r L u s3' hL sL bL nz bd hu1 hu6)
    refine compE_st fun B eB => ?_
    simp only [iRng1]
    try walk_at "rd2"
    refine ⟨by omega, by omega, fun a1 ha1 => ?_⟩
    rw [Int.toNat_natCast]
    refine cg_range (RowR a1 fun i => (List.range d).map fun k => (if i = k then (1 : Int) else 0) * (1 + (c.fdiv (0 + (k : Int) + 1)).fmod 3)) ha1 (by omega) (RowR.mono (a := a1)) ?_ ?_
    ·intro i H4 zs hi s4 ez Q' hQ'
     subst eB
     show tCompG _ _ _ _ _ [some (.int (0 + (i : Int))), some (.int d), some (.int c)] H4 Q'
     refine compE_st fun B eB => ?_
     simp only [iRng1]
     try walk_at "rd2"
     refine ⟨by omega, by omega, fun a2 ha2 => ?_⟩
     rw [Int.toNat_natCast]
     refine cg_range (fun k y _ => k < d ∧ y = .int ((if i = k then (1 : Int) else 0) * (1 + (c.fdiv (0 + (k : Int) + 1)).fmod 3))) ha2 (by omega) (fun _ _ _ _ r _ => r) ?_ ?_
     ·intro k H5 zs5 hk s5 ez5 Q2 hQ2
      subst eB
      show tOp _ _ _ [some (.int (0 + (k : Int))), some (.int (0 + (i : Int))), some (.int c)] H5 Q2
      try walk_at "rd2"
      refine .inr ⟨dvs _ _ (by omega) (by omega), by decide, ?_⟩
      have f := fms (c.fdiv (0 + (k : Int) + 1)) 3 (by decide)
      refine ⟨?_, hQ2 _ _ (Same.refl _) ⟨hk, ?_⟩⟩
      ·exact IntMulOk.of_left (by split <;> decide)
      ·by_cases z : i = k
       ·rw [if_pos z, decide_eq_true (by omega)]; rfl
       ·rw [if_neg z, decide_eq_false (by omega)]; rfl
     ·intro H5 ys s5 e5 hly hr5
      have ey : ys = ((List.range d).map fun k => (if i = k then (1 : Int) else 0) * (1 + (c.fdiv (0 + (k : Int) + 1)).fmod 3)).map V.int := by
       refine list_is (by simpa using hly) fun j y e => ?_
       obtain ⟨hj, rfl⟩ := hr5 j y e
       exact ⟨_, by rw [List.getElem?_map, List.getElem?_range hj]; rfl, rfl⟩
      subst ey
      exact hQ' _ _ s5 ⟨a2, rfl, Ne.symm (ne_of_none ez ha2), e5⟩
    intro H4 ys s4 e4 hly hr4
    have hM4 := MatL.of e4 hr4
    rw [hly] at hM4
    try walk_at "rd2"
    refine ⟨dvs _ 5 (by decide) (by decide), by decide, ?_⟩
    have f := fms (c.fdiv 5) 2 (by decide)
    have ff : ∀ k : Nat, 1 ≤ 1 + (c.fdiv (0 + (k : Int) + 1)).fmod 3 ∧ 1 + (c.fdiv (0 + (k : Int) + 1)).fmod 3 ≤ 3 := fun k => by
     have := fms (c.fdiv (0 + (k : Int) + 1)) 3 (by decide)
     omega
    have sD : Sq d (diagM d fun k => 1 + (c.fdiv (0 + (k : Int) + 1)).fmod 3) := ⟨by simp [diagM], fun r hr => by
     obtain ⟨i, _, rfl⟩ := List.mem_map.mp hr
     simp⟩
    have bD : BitsM 2 (diagM d fun k => 1 + (c.fdiv (0 + (k : Int) + 1)).fmod 3) := fun r hr x hx => by
     obtain ⟨i, _, rfl⟩ := List.mem_map.mp hr
     obtain ⟨k, _, rfl⟩ := List.mem_map.mp hx
     have := ff k
     show ((if i = k then (1 : Int) else 0) * (1 + (c.fdiv (0 + (k : Int) + 1)).fmod 3)).natAbs < 2 ^ 2
     split
     ·rw [Int.one_mul]; omega
     ·rw [Int.zero_mul]; decide
    exact tail3 H4 a1 _ _ (s3'.trans s4) hM4 sD (bD.le (by decide)) (det_diag hd fun k => (ff k).1) (det_bnd hd sD bD (by decide)) (by omega) (by omega)
   try walk_at "rd2"
   refine ite2 (fun _ => ?_) (fun _ => tail2 H2 r L 1 s2 hL sL bL nz bd (by decide) (by decide))
   refine compE_st fun B eB => ?_
   simp only [iRng1]
   try walk_at "rd2"
   refine ⟨by omega, by omega, fun a1 ha1 => ?_⟩
   rw [Int.toNat_natCast]
   refine cg_range (RowR a1 fun (i : Nat) => (List.range d).map fun (k : Nat) => (c.fdiv ((0 + (i : Int)) * 61 + (0 + (k : Int)) * 13 + 1)).fmod 5 - 2) ha1 (by omega) (RowR.mono (a := a1)) ?_ ?_
   ·intro i H4 zs hi s4 ez Q' hQ'
    subst eB
    show tCompG _ _ _ _ _ [some (.int (0 + (i : Int))), some (.int d), some (.int c)] H4 Q'
    refine compE_st fun B eB => ?_
    simp only [iRng1]
    try walk_at "rd2"
    refine ⟨by omega, by omega, fun a2 ha2 => ?_⟩
    rw [Int.toNat_natCast]
    refine cg_range (fun k y _ => k < d ∧ y = .int ((c.fdiv ((0 + (i : Int)) * 61 + (0 + (k : Int)) * 13 + 1)).fmod 5 - 2)) ha2 (by omega) (fun _ _ _ _ r _ => r) ?_ ?_
    ·intro k H5 zs5 hk s5 ez5 Q2 hQ2
     subst eB
     show tOp _ _ _ [some (.int (0 + (k : Int))), some (.int (0 + (i : Int))), some (.int c)] H5 Q2
     try walk_at "rd2"
     have bi : bnd 2 (0 + (i : Int)) := by unfold bnd; omega
     have bk : bnd 2 (0 + (k : Int)) := by unfold bnd; omega
     have b61 : bnd 6 61 := by unfold bnd; decide
     have b13 : bnd 6 13 := by unfold bnd; decide
     exact ⟨bi.ok b61, bk.ok b13, dvs _ _ (by omega) (by omega), by decide, hQ2 _ _ (Same.refl _) ⟨hk, rfl⟩⟩
    ·intro H5 ys s5 e5 hly hr5
     have ey : ys = ((List.range d).map fun (k : Nat) => (c.fdiv ((0 + (i : Int)) * 61 + (0 + (k : Int)) * 13 + 1)).fmod 5 - 2).map V.int := by
      refine list_is (by simpa using hly) fun j y e => ?_
      obtain ⟨hj, rfl⟩ := hr5 j y e
      exact ⟨_, by rw [List.getElem?_map, List.getElem?_range hj]; rfl, rfl⟩
     subst ey
     exact hQ' _ _ s5 ⟨a2, rfl, Ne.symm (ne_of_none ez ha2), e5⟩
   intro H4 ys s4 e4 hly hr4
   have hM4 := MatL.of e4 hr4
   rw [hly] at hM4
   have s04 := s2.trans s4
   have sD : Sq d ((List.range d).map fun (i : Nat) => (List.range d).map fun (k : Nat) => (c.fdiv ((0 + (i : Int)) * 61 + (0 + (k : Int)) * 13 + 1)).fmod 5 - 2) := ⟨by simp, fun r hr => by
    obtain ⟨i, _, rfl⟩ := List.mem_map.mp hr
    simp⟩
   have bD : BitsM 4 ((List.range d).map fun (i : Nat) => (List.range d).map fun (k : Nat) => (c.fdiv ((0 + (i : Int)) * 61 + (0 + (k : Int)) * 13 + 1)).fmod 5 - 2) := fun r hr x hx => by
    obtain ⟨i, _, rfl⟩ := List.mem_map.mp hr
    obtain ⟨k, _, rfl⟩ := List.mem_map.mp hx
    have f := fms (c.fdiv ((0 + (i : Int)) * 61 + (0 + (k : Int)) * 13 + 1)) 5 (by decide)
    generalize (c.fdiv ((0 + (i : Int)) * 61 + (0 + (k : Int)) * 13 + 1)).fmod 5 = z at f
    omega
   generalize ((List.range d).map fun (i : Nat) => (List.range d).map fun (k : Nat) => (c.fdiv ((0 + (i : Int)) * 61 + (0 + (k : Int)) * 13 + 1)).fmod 5 - 2) = L2 at hM4 sD bD
   have f3 := fms c 3 (by decide)
   have tailR : ∀ (H5 : Hp) (r : Addr) (L : List (List Int)) (u : Int), Same H H5 → MatL H5 r L → Sq d L → BitsM 4 L → 1 ≤ u → u ≤ 6 → sp_law_room K [.ref r] H5 (fun x H1 => rI0 (fun i j => V.bl (decide (i = j))) x (V.int 0) H1 fun x H' => ∃ k, x = V.bl k ∧ if k = true then sp_law_units K [V.int d] H' (fun x H1 => N1 [some (V.ref a), some (V.int d), some (V.int way), some (V.int c), some x, some (V.int u)] H1) E0 else N1 [some (V.ref a), some (V.int d), some (V.int way), some (V.int c), some (V.ref r), some (V.int u)] H') E0 := by
    intro H5 r L u s5 hL sL bL hu1 hu6
    refine ⟨false, false, r, L, d, rfl, hL.b, sL, hd, bL.le (by decide), fun H6 s6 => ?_⟩
    try walk_at "rd2"
    refine ite2 (fun _ => ?_) (fun z => tail2 H6 r L u (s5.trans s6) (hL.up s6) sL (bL.le (by decide)) (by simpa using z) (det_bnd hd sL bL (by decide)) hu1 hu6)
    refine ⟨d, rfl, by omega, fun r2 H7 _ s7 hU => ?_⟩
    obtain ⟨q1, q2, q3⟩ := idM_uni hd
    exact tail2 H7 r2 _ u ((s5.trans s6).trans s7) hU q1 (q2.le (by decide)) q3.nz.1 q3.nz.2 hu1 hu6
   have p18 : CPow 10 18 := ⟨by decide, by decide, by decide⟩
   refine ⟨by decide, p18, ite2 (fun _ => ?_) (fun _ => tailR H4 a1 L2 _ s04 hM4 sD bD (by omega) (by omega))⟩
   refine ⟨p18, _, d, rfl, hd, fun p H5 L5 u5 s5 hC5 sL5 bL5 h51 h56 => ?_⟩
   obtain ⟨r5, ep5, hL5⟩ := hC5
   refine ⟨p, _, rfl, SqT.of ep5, rfl, _, _, rfl, _, _, rfl, rfl, ?_⟩
   show tIfS _ _ _ _ [some (.ref a), some (.int d), some (.int way), some (.int c), some (.ref r5), some (.int u5)] H5
   walk_at "rd2"
   exact tailR H5 r5 L5 u5 (s04.trans s5) hL5 sL5 bL5 h51 h56
  try walk_at "rd2"
  refine ite2 (fun _ => ?_) (fun _ => tail H1 r M s1 hM sM (bM.le (by decide)) uM.nz.1 uM.nz.2)
  refine compE_st fun B eB => ?_
  simp only [iSeq]
  try walk_at "rd2"
  obtain ⟨xs, x1, x2, x3⟩ := (hM.b (K := K)).walk
  have f3 := fms c 3 (by decide)
  refine ⟨false, ⟨_, x1⟩, fun a1 ha1 => ?_⟩
  refine cg_seq (RowR a1 fun j => (M.getD j []).map (· * (2 + c.fmod 3))) ha1 x1 (by rw [x2, sM.1]; omega) (RowR.mono (a := a1)) ?_ ?_
  ·intro i v H4 zs ex s4 ez Q' hQ'
   obtain ⟨pr, rr, rfl, er, hp⟩ := x3 i v ex
   have hrl := sM.2 rr (List.mem_of_getElem? er)
   subst eB
   show tCompG _ _ _ _ _ [some (.ref pr), some (.int c)] H4 Q'
   refine compE_st fun C2 eC2 => ?_
   simp only [iSeq]
   try walk_at "rd2"
   refine ⟨false, ⟨_, hp.up s4⟩, fun b2 hb2 => ?_⟩
   refine cg_seq (fun j y _ => ∃ m, rr[j]? = some m ∧ y = .int (m * (2 + c.fmod 3))) hb2 (hp.up s4) (by rw [List.length_map]; omega) (fun _ _ _ _ r _ => r) ?_ ?_
   ·intro j x H5 zs2 ex2 s5 ez2 Q2 hQ2
    obtain ⟨m, em, rfl⟩ := ints_at ex2
    subst eC2
    show tOp _ _ _ [some (.int m), some (.int c)] H5 Q2
    try walk_at "rd2"
    have b5 : bnd 49 m := bM rr (List.mem_of_getElem? er) m (List.mem_of_getElem? em)
    have b6 : bnd 3 (2 + c.fmod 3) := by unfold bnd; omega
    exact ⟨by decide, b5.ok b6, hQ2 _ _ (Same.refl _) ⟨m, em, rfl⟩⟩
   ·intro H5 ys s5 e5 hly hr5
    have ey : ys = (rr.map (· * (2 + c.fmod 3))).map V.int := by
     rw [List.map_map]
     exact list_is (by simpa using hly) hr5
    subst ey
    refine hQ' _ _ s5 ⟨b2, rfl, Ne.symm (ne_of_none ez hb2), ?_⟩
    show _ = some (HO.lst (((M.getD i []).map (· * (2 + c.fmod 3))).map V.int))
    rw [e5, List.getD_eq_getElem?_getD, er]; rfl
  intro H4 ys s4 e4 hly hr4
  have hM4 := MatL.of e4 hr4
  rw [hly, x2] at hM4
  have ee : ((List.range M.length).map fun j => (M.getD j []).map (· * (2 + c.fmod 3))) = M.map fun r => r.map (· * (2 + c.fmod 3)) := by
   refine List.ext_getElem? fun i => ?_
   rw [List.getElem?_map, List.getElem?_map]
   by_cases hi : i < M.length
   ·rw [List.getElem?_range hi, List.getElem?_eq_getElem hi]
    simp [List.getD_eq_getElem?_getD, hi]
   ·rw [List.getElem?_eq_none (by simp; omega), List.getElem?_eq_none (by omega)]; rfl
  rw [ee] at hM4
  have b6 : bnd 3 (2 + c.fmod 3) := by unfold bnd; omega
  have hdet : detM d (M.map fun r => r.map (· * (2 + c.fmod 3))) ≠ 0 ∧ bnd 20 (detM d (M.map fun r => r.map (· * (2 + c.fmod 3)))) := by
   rw [det_scale hd sM]
   rcases (show c.fmod 3 = 0 ∨ c.fmod 3 = 1 ∨ c.fmod 3 = 2 by omega) with z | z | z <;> rw [z] <;> rcases hd with rfl | rfl <;> rcases uM with q | q <;> rw [q] <;> unfold bnd <;> decide
  refine tail H4 a1 _ (s1.trans s4) hM4 (sq_map sM) (fun r hr x hx => ?_) hdet.1 hdet.2
  obtain ⟨r0, hr0, rfl⟩ := List.mem_map.mp hr
  obtain ⟨x0, hx0, rfl⟩ := List.mem_map.mp hx
  have b5 : bnd 49 x0 := bM r0 hr0 x0 hx0
  exact b5.mul b6

theorem cell_ok {B : Nat} {c : Int} {k : Nat} (h : bnd B c) (hB : B + B + 10 ≤ 134217728) (hk : k < 3) : IntMulOk (0 + (k : Int)) c ∧ IntMulOk c ((0 + (k : Int)) * c + 1) := by
 have h1 : bnd 2 (0 + (k : Int)) := by unfold bnd; omega
 have h2 := h1.mul h
 have h3 : bnd (2 + B) 1 := by
  unfold bnd
  exact Nat.lt_of_lt_of_le (show (1 : Int).natAbs < 2 ^ 2 by decide) (Nat.pow_le_pow_right (by decide) (by omega))
 exact ⟨h1.ok h (by omega), h.ok (h2.add h3) (by omega)⟩
theorem red_under {u : Int} {ns : List Int} (h : 0 < u) : redU u ns ≤ u := by
 have h1 := under_pos ns (show u ≠ 0 by omega)
 have h2 := abs_fdiv (cs_dvd (gl_u u ns))
 unfold redU
 omega
theorem cutTo {xs : List V} {k : Nat} (h : k ≤ xs.length) : cutV xs none (some (k : Int)) = xs.take k := by
 unfold cutV
 rw [HT.sIx_none, HT.sIx_nat, Nat.min_eq_left h, List.drop_zero, Nat.sub_zero]
theorem bnd_far {x : Int} (h : -(10 ^ 60) ≤ x ∧ x ≤ 10 ^ 60) : bnd 200 x := by
 unfold bnd
 have e : (10 : Int) ^ 60 = 1000000000000000000000000000000000000000000000000000000000000 := by decide
 have e2 : (2 : Nat) ^ 200 = 1606938044258990275541962092341162602522202993782792835301376 := by decide
 rw [e] at h
 rw [e2]
 omega
theorem ok_law_spot (T : Txt K mg t) : FnOk P w K mg base CX0 3 t.a_law_spot t.d_law_spot ["_law_cell_here", "_law_d", "_law_most"] (sp_law_spot K) := by
 have G_law_lowest : FnOk P w K mg base CX0 2 t.a_law_lowest t.d_law_lowest ["_law_tops", "_law_under"] (sp_law_lowest K) := ok_law_lowest T
 refine T.F_law_spot.ok sc_law_spot (fun vs H Q E h => ?_) (fun cdv A outer s H vs Q E hr h => ?_)
 ·obtain ⟨c, most, d, rfl, _⟩ := h
  rfl
 ·obtain ⟨c, most, d, rfl, hd, hm1, hm6, hc, hQ⟩ := h
  have hcb : bnd 1048576 c := intBits_le_iff.mp hc
  refine ⟨_, (pss_cons (ps_set (i := 3) sc_law_spot.nd rfl (Or.inr rfl) (pe_ix ix_B (pe_lst (pa_cons pe_int (pa_cons pe_int (pa_cons pe_int (pa_cons (pe_op op_pow pe_int pe_int) pa_nil))))) (pe_op op_modN (pe_op op_fdivB (pv 0) pe_int) pe_int) (fun _ _ => rfl)))
   (pss_cons (ps_setCG (i := 4) (xs := ["_law_k"]) (fr := [("_law_cell_here", 0), ("_law_far", 3)]) (g := (gName 0)) (tt := (tEl (tOp (rI0 fun i j => .int (i - j)) (tOp (rI (fun _ j => j ≠ 0) fun i j => .int (i.fmod j)) (tOp (rI0 fun i j => .int (i + j)) (tOp (rI (fun i j => IntMulOk i j) fun i j => .int (i * j)) (tVar 1) (tOp (rI0 fun i j => .int (i + j)) (tOp (rI (fun i j => IntMulOk i j) fun i j => .int (i * j)) (tVar 0) (tVar 1)) (tC (.int 1)))) (tVar 2)) (tOp (rI0 fun i j => .int (i + j)) (tOp (rI (fun i j => IntMulOk i j) fun i j => .int (i * j)) (tC (.int 2)) (tVar 2)) (tC (.int 1)))) (tVar 2)))) (compG_ok (sc := defScope s_law_spot) (N := N_law_spot) rfl rfl (by decide +kernel)) rfl sc_law_spot.nd rfl rfl (pi_range1 rfl T.z_range (pa_cons (pv 1) pa_nil)) (fun _ _ _ hE1 => (pg_own (N := ["_law_k", "_law_cell_here", "_law_far"]) (i := 0) hE1 rfl (by decide +kernel))) (fun _ _ _ hE1 => (po_el (pe_op op_sub (pe_op op_modN (pe_op op_add (pe_op op_mulB (pv 1) (pe_op op_add (pe_op op_mulB (pv 0) (pv 1)) pe_int)) (pv 2)) (pe_op op_add (pe_op op_mulB pe_int (pv 2)) pe_int)) (pv 2)))))
   (pss_cons (ps_if (pt_cmpR op_ge (pv 0) (pe_op op_pow pe_int pe_int) (nomark _))
   (pss_cons (ps_set (i := 4) sc_law_spot.nd rfl (Or.inl rfl) (pe_slice sl_B (pe_lst (pa_cons (pe_op op_sub (pe_op op_modN (pv 0) pe_int) pe_int) (pa_cons (pe_op op_sub (pe_op op_modN (pe_op op_fdivB (pv 0) pe_int) pe_int) pe_int) (pa_cons (pe_op op_sub (pe_op op_modN (pe_op op_fdivB (pv 0) pe_int) pe_int) pe_int) pa_nil)))) po_none (po_some (pv 1))))
   (pss_one (ps_ret (pe_call G_law_lowest (hr.mono (by omega)) rfl T.m_law_lowest T.F_law_lowest.kp T.b_law_lowest .nil pass0 (pa_cons (pv 4) (pa_cons (pe_op op_add pe_int (pe_op op_modN (pe_op op_fdivB (pv 0) pe_int) (pv 2))) pa_nil))))))
   pss_nil)
   (pss_one (ps_ret (pe_call G_law_lowest (hr.mono (by omega)) rfl T.m_law_lowest T.F_law_lowest.kp T.b_law_lowest .nil pass0 (pa_cons (pv 4) (pa_cons (pe_op op_add pe_int (pe_op op_modN (pe_op op_fdivB (pv 0) pe_int) (pv 2))) pa_nil)))))))), ?_⟩
  show tSeq _ _ _ [some (.int c), some (.int d), some (.int most), none, none] H
  refine st fun N1 e1 => ?_
  have fin : ∀ (H1 : Hp) (tp : List Int) (a : Addr) (x : Int) (Q1 : VK), Same H H1 → H1 a = some (.lst (tp.map V.int)) → tp.length = d → (∀ t ∈ tp, bnd 200 t) → (∀ p H' z, Same H H' → PlAt H' p z → GoodP d z → (∀ t ∈ z.1, bnd 200 t) → z.2 ≤ 6 → Q1 (.ref p) H') → ∀ E', sp_law_lowest K [.ref a, .int (1 + x.fmod most)] H1 Q1 E' := by
   intro H1 tp a x Q1 s1 ea hl hb hQ1 E'
   have f := fms x most (by omega)
   have su : bnd 3 (1 + x.fmod most) := by unfold bnd; omega
   refine ⟨false, a, tp, _, rfl, SqB.lst ea, by omega, su.up (by decide), by omega, fun p H2 s2 hp => ?_⟩
   have rb := red_bits (B := 200) hb (su.up (by decide))
   have ru := red_under (u := 1 + x.fmod most) (ns := tp) (by omega)
   exact hQ1 p H2 _ (s1.trans s2) hp (redP_good (by omega) hl) rb.1 (by show redU _ _ ≤ 6; omega)
  have key : ∀ (H1 : Hp) (far : Int), Same H H1 → 20 ≤ far → far ≤ 10 ^ 60 → N1 [some (.int c), some (.int d), some (.int most), some (.int far), none] H1 := by
   intro H1 far s1 h20 h60
   subst e1
   refine st fun N1 e1 => ?_
   try walk_at "rd2"
   refine compE_st fun B eB => ?_
   simp only [iRng1]
   try walk_at "rd2"
   refine ⟨by omega, by omega, fun a1 ha1 => ?_⟩
   rw [Int.toNat_natCast]
   refine cg_range (fun k y _ => ∃ v, k < d ∧ (-far ≤ v ∧ v ≤ far) ∧ y = .int v) ha1 (by omega) (fun _ _ _ _ r _ => r) ?_ ?_
   ·intro k H2 zs hk s2 ez Q' hQ'
    subst eB
    show tOp _ _ _ [some (.int (0 + (k : Int))), some (.int c), some (.int far)] H2 Q'
    try walk_at "rd2"
    obtain ⟨k1, k2⟩ := cell_ok (k := k) hcb (by decide) (by omega)
    refine ⟨k1, k2, IntMulOk.of_left (by decide), by omega, ?_⟩
    have f := fms (c * ((0 + (k : Int)) * c + 1) + far) (2 * far + 1) (by omega)
    exact hQ' _ _ (Same.refl _) ⟨_, hk, by omega, rfl⟩
   intro H2 ys s2 e2 hly hr2
   obtain ⟨tp, rfl, htp⟩ : ∃ tp : List Int, ys = tp.map V.int ∧ ∀ x ∈ tp, -far ≤ x ∧ x ≤ far := by
    clear e2 hly
    have : ∀ (ys : List V), (∀ y ∈ ys, ∃ v, (-far ≤ v ∧ v ≤ far) ∧ y = .int v) → ∃ tp : List Int, ys = tp.map V.int ∧ ∀ x ∈ tp, -far ≤ x ∧ x ≤ far := by
     intro ys
     induction ys with
     | nil => intro _; exact ⟨[], rfl, fun x hx => by simp at hx⟩
     | cons y r ih =>
      intro h
      obtain ⟨v, hv, rfl⟩ := h y List.mem_cons_self
      obtain ⟨tp, rfl, ht⟩ := ih fun z hz => h z (List.mem_cons_of_mem _ hz)
      exact ⟨v :: tp, rfl, fun x hx => (List.mem_cons.mp hx).elim (fun e => e ▸ hv) (ht x)⟩
    refine this ys fun y hy => ?_
    obtain ⟨j, hj, e⟩ := List.getElem_of_mem hy
    obtain ⟨v, _, hv, hy'⟩ := hr2 j y (by simp [hj, e])
    exact ⟨v, hv, hy'⟩
   have hlt : tp.length = d := by simpa using hly
   have s02 := s1.trans s2
   subst e1
   refine st fun N1 e1 => ?_
   try walk_at "rd2"
   have p18 : CPow 10 18 := ⟨by decide, by decide, by decide⟩
   refine ⟨p18, ite2 (fun _ => ?_) (fun _ => ?_)⟩
   ·have f1 := fms c 41 (by decide)
    have f2 := fms (c.fdiv 41) 41 (by decide)
    have f3 := fms (c.fdiv 1681) 41 (by decide)
    refine ⟨by decide, dvs _ 41 (by decide) (by decide), by decide, dvs _ 1681 (by decide) (by decide), by decide, by show 3 ≤ sizeLine; decide, fun l hl => ?_⟩
    generalize hx : c.fmod 41 - 20 = x at *
    generalize hy : (c.fdiv 41).fmod 41 - 20 = y at *
    generalize hz : (c.fdiv 1681).fmod 41 - 20 = z at *
    have s3' : Same H2 (upd H2 l (.lst [.int x, .int y, .int z])) := Same.new hl
    have el : (upd H2 l (.lst [.int x, .int y, .int z])) l = some (.lst [.int x, .int y, .int z]) := upd_same
    generalize upd H2 l (.lst [.int x, .int y, .int z]) = H3 at s3' el
    refine ⟨false, l, _, rfl, SqB.lst el, (fun z => by cases z), fun l1 hl1 => ?_⟩
    rw [cutTo (by simp; omega)]
    have ec : ([.int x, .int y, .int z] : List V).take d = ((([x, y, z] : List Int)).take d).map V.int := by rw [List.map_take]; rfl
    rw [ec]
    have s4 : Same H3 (upd H3 l1 (seqO false ((([x, y, z] : List Int).take d).map V.int))) := Same.new hl1
    have e4 : (upd H3 l1 (seqO false ((([x, y, z] : List Int).take d).map V.int))) l1 = some (.lst ((([x, y, z] : List Int).take d).map V.int)) := upd_same
    generalize upd H3 l1 (seqO false ((([x, y, z] : List Int).take d).map V.int)) = H4 at s4 e4
    try walk_at "rd2"
    refine ⟨dvs _ 68921 (by decide) (by decide), by omega, ?_⟩
    refine fin H4 _ l1 _ _ ((s02.trans s3').trans s4) e4 (by simp; omega) (fun t ht => ?_) hQ _
    have ht' := List.mem_of_mem_take ht
    have : t = x ∨ t = y ∨ t = z := by simpa using ht'
    have : bnd 6 t := by unfold bnd; omega
    exact this.up (by decide)
   ·subst e1
    try walk_at "rd2"
    refine ⟨dvs _ 7 (by decide) (by decide), by omega, ?_⟩
    exact fin H2 tp a1 _ _ s02 e2 hlt (fun t ht => bnd_far (by have := htp t ht; omega)) hQ _
  walk_at "rd2"
  have p60 : CPow 10 60 := ⟨by decide, by decide, by decide⟩
  refine ⟨p60, by show 4 ≤ sizeLine; decide, fun l hl => ?_⟩
  have f4 := fms (c.fdiv 3) 4 (by decide)
  refine ⟨dvs _ 3 (by decide) (by decide), by decide, ?_⟩
  have e60 : (10 : Int) ^ (60 : Int).toNat = 10 ^ 60 := rfl
  rw [e60]
  generalize (c.fdiv 3).fmod 4 = f at f4
  have b60 : (20 : Int) ≤ 10 ^ 60 := by decide
  generalize (10 : Int) ^ 60 = big at *
  have s1 : Same H (upd H l (.lst [.int 20, .int 20, .int 20, .int big])) := Same.new hl
  rcases (show f = 0 ∨ f = 1 ∨ f = 2 ∨ f = 3 by omega) with rfl | rfl | rfl | rfl
  ·exact ⟨false, l, _, _, _, rfl, rfl, SqB.lst upd_same, rfl, key _ 20 s1 (by omega) (by omega)⟩
  ·exact ⟨false, l, _, _, _, rfl, rfl, SqB.lst upd_same, rfl, key _ 20 s1 (by omega) (by omega)⟩
  ·exact ⟨false, l, _, _, _, rfl, rfl, SqB.lst upd_same, rfl, key _ 20 s1 (by omega) (by omega)⟩
  ·exact ⟨false, l, _, _, _, rfl, rfl, SqB.lst upd_same, rfl, key _ big s1 (by omega) (by omega)⟩

theorem mul_bits {d A B : Nat} {X Y : List (List Int)} (hd : d ≤ 4) (sX : Sq d X) (sY : Sq d Y) (bX : BitsM A X) (bY : BitsM B Y) : BitsM (A + B + 3) (mulM d X Y) := fun r hr x hx => by
 obtain ⟨r0, hr0, rfl⟩ := List.mem_map.mp hr
 obtain ⟨k, hk, rfl⟩ := List.mem_map.mp hx
 have hk' := List.mem_range.mp hk
 have h1 := dot_abs (B := A) (C := B) r0 (colI k Y) (bX r0 hr0) fun y hy => by
  obtain ⟨r', hr', rfl⟩ := List.mem_map.mp hy
  exact bY r' hr' _ (L2.getD_mem (by rw [sY.2 r' hr']; exact hk'))
 have hl : r0.length ≤ 4 := by rw [sX.2 r0 hr0]; exact hd
 have : r0.length * 2 ^ (A + B) ≤ 4 * 2 ^ (A + B) := Nat.mul_le_mul_right _ hl
 have := Nat.two_pow_pos (A + B)
 rw [Nat.pow_add _ (A + B) 3]
 omega
theorem mulOk_bits {A B : Nat} {X Y : List (List Int)} (bX : BitsM A X) (bY : BitsM B Y) (h : A + B ≤ 134217728) : MulOkM X Y := fun r hr x hx r' hr' y hy => PyProof.Rows.mulOk_of_bits (bits_of (bX r hr x hx)) (bits_of (bY r' hr' y hy)) h
theorem tm_out' {d : Nat} {L : List (List Int)} {u : Int} (h : Sq d L) (i k : Nat) (o : d ≤ i ∨ d ≤ k) : tm L u i k = 0 := tm_out h o
theorem base_iff {d : Nat} {M N L : List (List Int)} (hd : d = 2 ∨ d = 3) (sM : Sq d M) (sL : Sq d L) (sN : Sq d N) (nz : detM d L ≠ 0) : InBase M L N ↔ tm N 1 = tm (mulM d (mulM d (crsM d L) M) L) (detM d L) := by
 have e1 : ((crsM d L).map fun r => r.map ((1 : Int) * ·)) = crsM d L := by
  have : (fun x : Int => 1 * x) = id := funext fun x => Int.one_mul x
  simp [this]
 obtain ⟨i1, i2⟩ := inv_tab (u := 1) hd sL (by decide) nz
 rw [e1] at i1 i2
 have sC : Sq d (crsM d L) := crs_sq
 have t1 := tm_mul (u := detM d L) (v := 1) hd sC sM nz (by decide)
 have t2 := tm_mul (u := detM d L) (v := 1) hd (mul_sq (B := M) sC) sL nz (by decide)
 rw [Int.mul_one] at t1 t2
 rw [t2, t1]
 exact conj_iff (by omega) i1 i2 (tm_out' sL) (tm_out' sM) (tm_out' sN)
noncomputable def TupR (a : Addr) (f : Nat → List Int) (j : Nat) (y : V) (H : Hp) : Prop := ∃ p, y = .ref p ∧ p ≠ a ∧ H p = some (.tup ((f j).map V.int))
theorem TupR.mono {a : Addr} {f : Nat → List Int} (i : Nat) (y : V) (H1 H2 : Hp) (h : TupR a f i y H1) (s : SameX a H1 H2) : TupR a f i y H2 := let ⟨p, e, n, q⟩ := h; ⟨p, e, n, s _ _ n q⟩
theorem TupR.mat {a l : Addr} {H : Hp} {f : Nat → List Int} {N : List (List Int)} {ys : List V} (hl : H l = none) (hn : ys.length = N.length) (hf : ∀ j < N.length, f j = N.getD j []) (hr : ∀ (j : Nat) y, ys[j]? = some y → TupR a f j y H) : MatB true true K (upd H l (.tup ys)) l N := by
 have hps : ∃ ps : List Addr, ys = ps.map V.ref := by
  have : ∀ (zs : List V), (∀ y ∈ zs, ∃ p : Addr, y = .ref p) → ∃ ps : List Addr, zs = ps.map V.ref := by
   intro zs
   induction zs with
   | nil => intro _; exact ⟨[], rfl⟩
   | cons z r ih =>
    intro hz
    obtain ⟨p, e⟩ := hz z List.mem_cons_self
    obtain ⟨ps, e2⟩ := ih fun y q => hz y (List.mem_cons_of_mem _ q)
    exact ⟨p :: ps, by rw [e, e2]; rfl⟩
  refine this ys fun y hy => ?_
  obtain ⟨j, hj, e⟩ := List.getElem_of_mem hy
  obtain ⟨p, e1, _⟩ := hr j y (by simp [hj, e])
  exact ⟨p, e1⟩
 obtain ⟨ps, rfl⟩ := hps
 refine ⟨ps, SqB.tup upd_same, by simpa using hn, fun i p r e2 e3 => ?_⟩
 obtain ⟨p', e4, n4, e5⟩ := hr i (.ref p) (by simp [e2])
 cases e4
 have hi := (List.getElem?_eq_some_iff.mp e3).1
 rw [hf i hi, List.getD_eq_getElem?_getD, e3] at e5
 exact SqB.tup ((Same.new hl) _ _ e5)
theorem ok_law_new_rows (T : Txt K mg t) : FnOk P w K mg base CX0 3 t.a_law_new_rows t.d_law_new_rows ["_law_rows_here", "_law_columns_here"] (sp_law_new_rows K) := by
 have G_law_room : FnOk P w K mg base CX0 2 t.a_law_room t.d_law_room ["_law_rows_here"] (sp_law_room K) := ok_law_room T
 have G_law_undone : FnOk P w K mg base CX0 1 t.a_law_undone t.d_law_undone ["_law_rows_here"] (sp_law_undone K) := ok_law_undone T
 have G_law_times : FnOk P w K mg base CX0 1 t.a_law_times t.d_law_times ["_law_one", "_law_other"] (sp_law_times K) := ok_law_times T
 refine T.F_law_new_rows.ok sc_law_new_rows (fun vs H Q E h => ?_) (fun cdv A outer s H vs Q E hr h => ?_)
 ·obtain ⟨b1, b2, a, b, M, L, d, rfl, _⟩ := h
  rfl
 ·obtain ⟨b1, b2, a, b, M, L, d, rfl, hM, hL, hd, sM, sL, bM, bL, nz, bd, hE, hQ⟩ := h
  refine ⟨_, (pss_cons (ps_set (i := 2) sc_law_new_rows.nd rfl (Or.inr rfl) (pe_call G_law_room (hr.mono (by omega)) rfl T.m_law_room T.F_law_room.kp T.b_law_room .nil pass0 (pa_cons (pv 1) pa_nil)))
   (pss_cons (ps_set (i := 3) sc_law_new_rows.nd rfl (Or.inl rfl) (pe_call G_law_times (hr.mono (by omega)) rfl T.m_law_times T.F_law_times.kp T.b_law_times .nil pass0 (pa_cons (pe_call G_law_times (hr.mono (by omega)) rfl T.m_law_times T.F_law_times.kp T.b_law_times .nil pass0 (pa_cons (pe_call G_law_undone (hr.mono (by omega)) rfl T.m_law_undone T.F_law_undone.kp T.b_law_undone .nil pass0 (pa_cons (pv 1) pa_nil)) (pa_cons (pv 0) pa_nil))) (pa_cons (pv 1) pa_nil))))
   (pss_cons (ps_for PassesOwn.never rfl (pi_seq (pv 3)) (pg_name (i := 4) sc_law_new_rows.nd rfl (Or.inl rfl))
   (pss_one (ps_for PassesOwn.never rfl (pi_seq (pv 4)) (pg_name (i := 5) sc_law_new_rows.nd rfl (Or.inl rfl))
   (pss_one (ps_if (pt_cmpR op_neZ (pe_op op_modN (pv 5) (pv 2)) pe_int (nomark _))
   (pss_one (ps_ret pe_non))
   pss_nil)))))
   (pss_one (ps_ret (pe_callTy call_tupB rfl T.z_tuple (by decide +kernel) (pa_cons (pe_compG (xs := ["_law_row"]) (fr := [("_law_by", 2)]) (g := (gName 0)) (tt := (tEl (tCB (rTupB K) (tCons (tCompG (iSeq K (tVar 0)) (gName 0) (tEl (tOp (rI CDivB fun i j => .int (i.fdiv j)) (tVar 0) (tVar 1))) 1 [("_law_by", 1)]) tNil)))) (compG_ok (sc := defScope s_law_new_rows) (N := N_law_new_rows) rfl rfl (by decide +kernel)) rfl (pi_seq (pv 3)) (fun _ _ _ hE1 => (pg_own (N := ["_law_row", "_law_by"]) (i := 0) hE1 rfl (by decide +kernel))) (fun _ _ _ hE1 => (po_el (pe_callTy call_tupB rfl T.z_tuple (by decide +kernel) (pa_cons (pe_compG (xs := ["_law_number"]) (fr := [("_law_by", 1)]) (g := (gName 0)) (tt := (tEl (tOp (rI CDivB fun i j => .int (i.fdiv j)) (tVar 0) (tVar 1)))) (compG_ok (N := ["_law_row", "_law_by"]) hE1 rfl (by decide +kernel)) rfl (pi_seq (pv 0)) (fun _ _ _ hE2 => (pg_own (N := ["_law_number", "_law_by"]) (i := 0) hE2 rfl (by decide +kernel))) (fun _ _ _ hE2 => (po_el (pe_op op_fdivB (pv 0) (pv 1))))) pa_nil))))) pa_nil))))))), ?_⟩
  show tSeq _ _ _ [some (.ref a), some (.ref b), none, none, none, none] H
  refine st fun N1 e1 => ?_
  walk_at "rd2"
  refine ⟨false, false, b, L, d, rfl, hL, sL, hd, bL.le (by decide), fun H1 s1 => ?_⟩
  subst e1
  refine st fun N1 e1 => ?_
  try walk_at "rd2"
  have sC : Sq d (crsM d L) := crs_sq
  have bC := crs_bits' hd sL bL
  have sX : Sq d (mulM d (crsM d L) M) := mul_sq sC
  have bX := mul_bits (by omega) sC sM bC bM
  have sS : Sq d (mulM d (mulM d (crsM d L) M) L) := mul_sq sX
  have bS := mul_bits (by omega) sX sL bX bL
  have key : ∀ {N : List (List Int)}, Sq d N → (InBase M L N ↔ tm N 1 = tm (mulM d (mulM d (crsM d L) M) L) (detM d L)) := fun sN => base_iff hd sM sL sN nz
  refine ⟨false, false, b, L, d, rfl, hL.up s1, sL, hd, bL.le (by decide), fun r2 H2 _ s2 hC => ?_⟩
  try walk_at "rd2"
  refine ⟨false, false, b1, b2, r2, a, crsM d L, M, d, rfl, hC.b, hM.up (s1.trans s2), sC, sM, by omega, mulOk_bits bC bM (by decide), fun r3 H3 _ s3' hX => ?_⟩
  try walk_at "rd2"
  refine ⟨false, false, false, false, r3, b, _, L, d, rfl, hX.b, hL.up ((s1.trans s2).trans s3'), sX, sL, by omega, mulOk_bits bX bL (by decide), fun r4 H4 _ s4 hS => ?_⟩
  have s04 := ((s1.trans s2).trans s3').trans s4
  generalize mulM d (mulM d (crsM d L) M) L = S at *
  generalize detM d L = D at *
  have dv : ∀ x : Int, x.fmod D = 0 ↔ D ∣ x := fun x => ⟨Int.dvd_of_fmod_eq_zero, Int.fmod_eq_zero_of_dvd⟩
  have bad : (¬ ∀ r ∈ S, ∀ x ∈ r, D ∣ x) → ∀ H', Same H H' → Q .non H' := fun h => hE fun ⟨N, sN, iN⟩ => h (whole_tm sS nz ((key sN).mp iN))
  subst e1
  refine st fun N1 e1 => for_st fun B eB => ?_
  simp only [iSeq]
  try walk_at "rd2"
  obtain ⟨xs, x1, x2, x3⟩ := (hS.b (K := K)).walk
  refine ⟨false, ⟨_, x1⟩, ?_⟩
  refine fr_seq (g := gName 4) (tb := B) (fun i σ H5 => ∃ v4 v5, σ = [some (.ref a), some (.ref b), some (.int D), some (.ref r4), v4, v5] ∧ H5 = H4 ∧ ∀ r ∈ S.take i, ∀ x ∈ r, D ∣ x) ⟨_, _, rfl, rfl, fun r hr => by simp at hr⟩ (fun i σ H5 _ ⟨_, _, _, e, _⟩ => e ▸ x1) ?_ ?_
  ·rintro i x σ H5 hi ⟨v4, v5, rfl, rfl, hdv⟩
   obtain ⟨p, row, rfl, er, hp⟩ := x3 i x hi
   subst eB
   refine for_st fun B eB => ?_
   simp only [iSeq]
   try walk_at "rd2"
   refine ⟨false, ⟨_, hp⟩, ?_⟩
   refine fr_seq (g := gName 5) (tb := B) (fun j σ H6 => ∃ v5, σ = [some (.ref a), some (.ref b), some (.int D), some (.ref r4), some (.ref p), v5] ∧ H6 = H5 ∧ ∀ x ∈ row.take j, D ∣ x) ⟨_, rfl, rfl, fun x hx => by simp at hx⟩ (fun j σ H6 _ ⟨_, _, e, _⟩ => e ▸ hp) ?_ ?_
   ·rintro j y σ H6 hj ⟨v5, rfl, rfl, hdj⟩
    obtain ⟨m, em, rfl⟩ := ints_at hj
    subst eB
    try walk_at "rd2"
    refine ⟨nz, ?_⟩
    by_cases z : m.fmod D = 0
    ·rw [decide_eq_true z]
     refine iteF fun x hx => ?_
     rw [take_snoc em] at hx
     rcases List.mem_append.mp hx with h | h
     ·exact hdj x h
     ·rw [List.mem_singleton.mp h]; exact (dv m).mp z
    ·rw [decide_eq_false z]
     refine iteT (bad (fun h => z ((dv m).mpr (h row (List.mem_of_getElem? er) m (List.mem_of_getElem? em)))) _ s04)
   ·rintro σ H6 ⟨v5, rfl, rfl, hdj⟩
    rw [List.length_map, List.take_length] at hdj
    refine ⟨_, _, rfl, rfl, fun r hr => ?_⟩
    rw [take_snoc er] at hr
    rcases List.mem_append.mp hr with h | h
    ·exact hdv r h
    ·rw [List.mem_singleton.mp h]; exact hdj
  ·rintro σ H5 ⟨v4, v5, rfl, rfl, hdv⟩
   rw [x2, List.take_length] at hdv
   subst e1
   try walk_at "rd2"
   refine compE_st fun B eB => ?_
   simp only [iSeq]
   try walk_at "rd2"
   refine ⟨false, ⟨_, x1⟩, fun a1 ha1 => ?_⟩
   have hcd : ∀ x, CDivB x D := fun x => ⟨nz, Nat.lt_of_lt_of_le ((Nat.log2_lt (by omega)).mpr bd) (by decide)⟩
   refine cg_seq (TupR a1 fun j => (S.getD j []).map (·.fdiv D)) ha1 x1 (by rw [x2, sS.1]; omega) (TupR.mono (a := a1)) ?_ ?_
   ·intro i v H6 zs ex s6 ez Q' hQ'
    obtain ⟨pr, row, rfl, er, hp⟩ := x3 i v ex
    have hrl := sS.2 row (List.mem_of_getElem? er)
    subst eB
    show tCB _ _ [some (.ref pr), some (.int D)] H6 Q'
    try walk_at "rd2"
    refine compE_st fun C2 eC2 => ?_
    simp only [iSeq]
    try walk_at "rd2"
    refine ⟨false, ⟨_, hp.up s6⟩, fun b2 hb2 => ?_⟩
    refine cg_seq (fun j y _ => ∃ m, row[j]? = some m ∧ y = .int (m.fdiv D)) hb2 (hp.up s6) (by rw [List.length_map]; omega) (fun _ _ _ _ r _ => r) ?_ ?_
    ·intro j x H7 zs2 ex2 s7 ez2 Q2 hQ2
     obtain ⟨m, em, rfl⟩ := ints_at ex2
     subst eC2
     show tOp _ _ _ [some (.int m), some (.int D)] H7 Q2
     try walk_at "rd2"
     exact ⟨hcd m, hQ2 _ _ (Same.refl _) ⟨m, em, rfl⟩⟩
    ·intro H7 ys s7 e7 hly hr7
     have ey : ys = (row.map (·.fdiv D)).map V.int := by
      rw [List.map_map]
      exact list_is (by simpa using hly) hr7
     subst ey
     refine ⟨b2, _, rfl, .inl ⟨SqL.of e7, fun l8 hl8 => ?_⟩⟩
     refine hQ' _ _ (s7.trans (Same.new hl8)) ⟨l8, rfl, Ne.symm (ne_of_none (s7 _ _ ez) hl8), ?_⟩
     show _ = some (HO.tup (((S.getD i []).map (·.fdiv D)).map V.int))
     rw [upd_same, List.getD_eq_getElem?_getD, er]; rfl
   intro H6 ys s6 e6 hly6 hr6
   refine ⟨a1, _, rfl, .inl ⟨SqL.of e6, fun l8 hl8 => ?_⟩⟩
   have hB := TupR.mat (K := K) (N := S.map fun r => r.map (·.fdiv D)) hl8 (by rw [hly6, x2]; simp) (fun j hj => by
    have hj' : j < S.length := by simpa using hj
    simp [hj']) hr6
   refine hQ l8 _ _ ((s04.trans s6).trans (Same.new hl8)) hB (sq_map sS) (fun r hr x hx => ?_) ((key (sq_map sS)).mpr (tm_whole sS nz hdv))
   obtain ⟨r0, hr0, rfl⟩ := List.mem_map.mp hr
   obtain ⟨x0, hx0, rfl⟩ := List.mem_map.mp hx
   have h1 := abs_fdiv (hdv r0 hr0 x0 hx0)
   have h2 := bS r0 hr0 x0 hx0
   exact Nat.lt_of_le_of_lt h1 (Nat.lt_of_lt_of_le h2 (Nat.pow_le_pow_right (by decide) (by decide)))

theorem Fit.up {E : Int} {B C : Nat} {q : Rat} (h : Fit E B q) (hl : B ≤ C) : Fit E C q := by
 obtain ⟨z, e, l, u⟩ := h
 have : (2 : Int) ^ C = 2 ^ B * 2 ^ (C - B) := by rw [← two_pow_add]; congr 1; omega
 have p1 := pow_pos2 B
 have p2 := pow_pos2 (C - B)
 have : (2 : Int) ^ B * 1 ≤ 2 ^ B * 2 ^ (C - B) := Int.mul_le_mul_of_nonneg_left (by omega) (by omega)
 exact ⟨z, e, by omega, by omega⟩
theorem ent_bits {d A : Nat} {M : List (List Int)} (s : Sq d M) (b : BitsM A M) (i k : Nat) : ((M.getD i []).getD k 0).natAbs < 2 ^ A := by
 by_cases o : d ≤ i ∨ d ≤ k
 ·have : (M.getD i []).getD k 0 = 0 := by
   by_cases hi : i < d
   ·have hm := List.mem_of_getElem? (row_at (B := M) (j := i) (by rw [s.1]; exact hi))
    have := s.2 _ hm
    rw [List.getD_eq_getElem?_getD, List.getElem?_eq_none (by omega)]; rfl
   ·have e : M.getD i [] = [] := by rw [List.getD_eq_getElem?_getD, List.getElem?_eq_none (by rw [s.1]; omega)]; rfl
    rw [e]; rfl
  rw [this]
  exact Nat.two_pow_pos A
 ·have hm := List.mem_of_getElem? (row_at (B := M) (j := i) (by rw [s.1]; omega))
  exact b _ hm _ (L2.getD_mem (by rw [s.2 _ hm]; omega))
theorem tm_fit {d A : Nat} {M : List (List Int)} (s : Sq d M) (b : BitsM A M) (i k : Nat) : Fit 1 A (tm M 1 i k) := by
 have h := of_bnd (B := A) (ent_bits s b i k)
 refine ⟨(M.getD i []).getD k 0, ?_, h.1, h.2⟩
 unfold tm
 rw [cast_one]
 grind
theorem app_fit {d A B C : Nat} {E : Int} {M : List (List Int)} {z : Pl} {x : Nat → Rat} (s : Sq d M) (bm : BitsM A M) (hz : ∀ i, Fit E C (val z i)) (hx : ∀ i, Fit E B (x i)) (hC : C ≤ A + B) (i : Nat) : Fit E (A + B + 3) ((dA M z).app x i) := by
 obtain ⟨y, ey, ly, uy⟩ := fit_sum (a := fun j => tm M 1 i j) (b := x) (fun j => tm_fit s bm i j) hx
 obtain ⟨v, ev, lv, uv⟩ := (hz i).up hC
 have e1 : (2 : Int) ^ (A + B + 3) = 8 * (2 ^ A * 2 ^ B) := by rw [two_pow_add, two_pow_add]; show _ * (8 : Int) = _; grind
 have e2 : (2 : Int) ^ (A + B) = 2 ^ A * 2 ^ B := two_pow_add A B
 have p := Int.mul_pos (pow_pos2 A) (pow_pos2 B)
 rw [e2] at lv uv
 refine ⟨y + v, ?_, by rw [e1]; omega, by rw [e1]; omega⟩
 rw [Int.one_mul] at ey
 rw [Rat.intCast_add, ← ey, ← ev]
 show ((s3 fun j => tm M 1 i j * x j) + val z i) * _ = _
 generalize (s3 fun j => tm M 1 i j * x j) = p
 grind
theorem inv_fit {d A B : Nat} {E : Int} {M : List (List Int)} {x : Nat → Rat} (s : Sq d M) (bm : BitsM A M) (hx : ∀ i, Fit E B (x i)) (i : Nat) : Fit E (A + B + 3) (- s3 fun j => tm M 1 i j * x j) := by
 obtain ⟨y, ey, ly, uy⟩ := fit_sum (a := fun j => tm M 1 i j) (b := x) (fun j => tm_fit s bm i j) hx
 have e1 : (2 : Int) ^ (A + B + 3) = 8 * (2 ^ A * 2 ^ B) := by rw [two_pow_add, two_pow_add]; show _ * (8 : Int) = _; grind
 have p := Int.mul_pos (pow_pos2 A) (pow_pos2 B)
 refine ⟨-y, ?_, by rw [e1]; omega, by rw [e1]; omega⟩
 rw [Int.one_mul] at ey
 rw [Rat.intCast_neg, ← ey]
 generalize (s3 fun j => tm M 1 i j * x j) = p
 grind
theorem getD_mm {R : List (List Int)} {c : Int} (i k : Nat) : ((R.map fun r => r.map (c * ·)).getD i []).getD k 0 = c * (R.getD i []).getD k 0 := by
 rw [List.getD_eq_getElem?_getD, List.getD_eq_getElem?_getD, List.getD_eq_getElem?_getD (l := R), List.getElem?_map]
 cases R[i]? with
 | none => simp
 | some r =>
  show ((r.map (c * ·))[k]?).getD 0 = c * r.getD k 0
  rw [List.getElem?_map, List.getD_eq_getElem?_getD]
  cases r[k]? <;> simp
theorem tm_inv {d : Nat} {M : List (List Int)} (h : Uni d M) : tm (invM d M) 1 = tm (crsM d M) (detM d M) := by
 rw [← crs_inv]
 funext i k
 unfold tm
 rw [getD_mm, cast_one, Rat.intCast_mul]
 have e1 : ((-1 : Int) : Rat) = -1 := rfl
 rcases h with q | q <;> rw [q]
 ·rw [cast_one]
  grind
 ·rw [e1]
  grind
theorem inv_mm {d : Nat} {M : List (List Int)} (hd : d = 2 ∨ d = 3) (s : Sq d M) (h : Uni d M) : mm (tm M 1) (tm (invM d M) 1) = (oneA d).m ∧ mm (tm (invM d M) 1) (tm M 1) = (oneA d).m := by
 have nz : detM d M ≠ 0 := by unfold Uni at h; omega
 have e1 : ((crsM d M).map fun r => r.map ((1 : Int) * ·)) = crsM d M := by
  have : (fun x : Int => 1 * x) = id := funext fun x => Int.one_mul x
  simp [this]
 have := inv_tab (u := 1) hd s (by decide) nz
 rw [e1] at this
 rw [tm_inv h]
 exact this
theorem inv_bits' {d A : Nat} {M : List (List Int)} (hd : d = 2 ∨ d = 3) (s : Sq d M) (h : Uni d M) (b : BitsM A M) : BitsM (2 * A + 5) (invM d M) := by
 rw [← crs_inv]
 intro r hr x hx
 obtain ⟨r0, hr0, rfl⟩ := List.mem_map.mp hr
 obtain ⟨x0, hx0, rfl⟩ := List.mem_map.mp hx
 have := crs_bits' hd s b r0 hr0 x0 hx0
 show (detM d M * x0).natAbs < _
 rw [Int.natAbs_mul]
 have e : (detM d M).natAbs = 1 := by unfold Uni at h; omega
 rw [e, Nat.one_mul]
 exact this
theorem back_val {d : Nat} {M : List (List Int)} {z : Pl} (hd : d = 2 ∨ d = 3) (gz : GoodP d z) (i : Nat) : val (redP z.2 (backT d M z.1)) i = - s3 fun j => tm (invM d M) 1 i j * val z j := by
 have hz : z.2 ≠ 0 := by have := gz.pos; omega
 have hz' := cast_ne hz
 have sI : Sq d (invM d M) := inv_sq
 rw [redP_val hz]
 by_cases hi : i < d
 ·have e := row_at (B := invM d M) (j := i) (by rw [sI.1]; exact hi)
  have e1 : (backT d M z.1).getD i 0 = -(dotI ((invM d M).getD i []) z.1) := by
   unfold backT
   rw [List.getD_eq_getElem?_getD, List.getElem?_map, e]; rfl
  have h := dot_s3 (u := 1) hd sI gz e (by decide)
  rw [e1, ← h, Rat.intCast_neg, Int.one_mul]
  generalize ((dotI ((invM d M).getD i []) z.1 : Int) : Rat) = a
  generalize (z.2 : Rat) = b at *
  grind
 ·have e1 : (backT d M z.1).getD i 0 = 0 := by
   rw [List.getD_eq_getElem?_getD, List.getElem?_eq_none (by unfold backT; rw [List.length_map, sI.1]; omega)]; rfl
  have e2 : ∀ j, tm (invM d M) 1 i j = 0 := fun j => tm_out sI (.inl (by omega))
  rw [e1]
  simp only [e2]
  unfold s3
  have : ((0 : Int) : Rat) = 0 := rfl
  rw [this]
  grind
theorem back_good {d : Nat} {M : List (List Int)} {z : Pl} (gz : GoodP d z) : GoodP d (redP z.2 (backT d M z.1)) := by
 have sI : Sq d (invM d M) := inv_sq
 exact redP_good (by have := gz.pos; omega) (by unfold backT; rw [List.length_map, sI.1])
theorem dA_in {d : Nat} {M : List (List Int)} {z : Pl} (s : Sq d M) (g : GoodP d z) : InA d (dA M z) := ⟨fun i k o => tm_out s (.inl o), fun i k o => tm_out s (.inr o), fun i o => val_out (by rw [g.len]; exact o)⟩
theorem undo_of {d : Nat} {g b : Aff} (hd : d ≤ 3) (hg : InA d g) (hb : InA d b) (h1 : mm g.m b.m = (oneA d).m) (h2 : mm b.m g.m = (oneA d).m) (h3 : ∀ i, b.s i = - s3 fun j => b.m i j * g.s j) : Undo d g b := by
 have h4 : g.app b.s = fun _ => 0 := by
  funext i
  have e : (s3 fun k => mm g.m b.m i k * g.s k) = g.s i := by
   rw [h1]
   have := congrFun (app_one (d := d) (x := g.s) hd hg.s) i
   unfold Aff.app at this
   have z : (oneA d).s i = 0 := rfl
   rw [z] at this
   grind
  show (s3 fun j => g.m i j * b.s j) + g.s i = 0
  have k0 := h3 0
  have k1 := h3 1
  have k2 := h3 2
  unfold mm at e
  unfold s3 at *
  grind
 obtain ⟨q1, q2, _⟩ := back_one hd hg hb h1 h2 h4
 exact ⟨q2, q1, hb⟩
theorem back_undo {d : Nat} {M : List (List Int)} {z : Pl} (hd : d = 2 ∨ d = 3) (s : Sq d M) (h : Uni d M) (gz : GoodP d z) : Undo d (dA M z) (dA (invM d M) (redP z.2 (backT d M z.1))) := by
 obtain ⟨i1, i2⟩ := inv_mm hd s h
 exact undo_of (by omega) (dA_in s gz) (dA_in inv_sq (back_good gz)) i1 i2 fun i => back_val hd gz i
theorem behind_dA {d : Nat} {M N : List (List Int)} {z x : Pl} (hd : d = 2 ∨ d = 3) (sM : Sq d M) (sN : Sq d N) (gz : GoodP d z) (gx : GoodP d x) : dA (mulM d N M) (redP (x.2 * z.2) (movT N x.1 x.2 z.1 z.2)) = (dA N x).mul (dA M z) := by
 have e1 := tm_mul (u := 1) (v := 1) hd sN sM (by decide) (by decide)
 have e2 := mov_val hd sN gx gz
 show (⟨tm (mulM d N M) 1, val (redP (x.2 * z.2) (movT N x.1 x.2 z.1 z.2))⟩ : Aff) = ⟨mm (tm N 1) (tm M 1), (dA N x).app (val z)⟩
 rw [e2]
 have : tm (mulM d N M) 1 = mm (tm N 1) (tm M 1) := e1
 rw [this]
structure Lt (d : Nat) (E : Int) (a b : Nat) (M : List (List Int)) (z : Pl) : Prop where
 sq : Sq d M
 good : GoodP d z
 bm : BitsM a M
 fit : ∀ i, Fit E b (val z i)
theorem Lt.up {d a b a' b' : Nat} {E : Int} {M : List (List Int)} {z : Pl} (h : Lt d E a b M z) (h1 : a ≤ a') (h2 : b ≤ b') : Lt d E a' b' M z := ⟨h.sq, h.good, h.bm.le h1, fun i => (h.fit i).up h2⟩
theorem pow_mono {B C : Nat} (h : B ≤ C) : (2 : Int) ^ B ≤ 2 ^ C := by
 have : (2 : Int) ^ C = 2 ^ B * 2 ^ (C - B) := by rw [← two_pow_add]; congr 1; omega
 have p1 := pow_pos2 B
 have p2 := pow_pos2 (C - B)
 have : (2 : Int) ^ B * 1 ≤ 2 ^ B * 2 ^ (C - B) := Int.mul_le_mul_of_nonneg_left (by omega) (by omega)
 omega
theorem Lt.bits {d a b : Nat} {E : Int} {M : List (List Int)} {z : Pl} (h : Lt d E a b M z) (h0 : 0 < E) (h1 : E ≤ 2 ^ 100) (hb : 100 ≤ b) : z.2 < 2 ^ 150 ∧ BP (b + 1) z := by
 have hE : E ≤ 2 ^ b := Int.le_trans h1 (pow_mono hb)
 obtain ⟨f1, f2, f3⟩ := FitV.place (D := E) (B := b) ⟨h0, hE, h.fit⟩ h.good
 have := Int.le_of_dvd h0 f1
 have hp := h.good.pos
 have pb := pow_pos2 b
 have e : (2 : Int) ^ 100 < 2 ^ 150 := by decide +kernel
 exact ⟨by omega, fun t ht => bnd_of (f3 t ht), bnd_of ⟨by omega, f2⟩⟩
theorem Lt.fine {d a b : Nat} {E : Int} {M : List (List Int)} {z : Pl} (h : Lt d E a b M z) (h0 : 0 < E) (h1 : E ≤ 2 ^ 100) (hb : 100 ≤ b) (hb2 : b ≤ 199000) (ha : a ≤ 199000) : Fine d M z.1 z.2 := by
 obtain ⟨q1, q2⟩ := h.bits h0 h1 hb
 exact ⟨h.sq, h.good.len, h.good.pos, h.bm.le (by omega), fun x hx => (q2.1 x hx).up (by omega), q1⟩
theorem Lt.mul {d A B a b : Nat} {E : Int} {M N : List (List Int)} {z x : Pl} (hd : d = 2 ∨ d = 3) (h : Lt d E a b M z) (h' : Lt d E A B N x) (hB : B ≤ A + b) : Lt d E (a + A + 3) (b + A + 3) (mulM d N M) (redP (x.2 * z.2) (movT N x.1 x.2 z.1 z.2)) := by
 refine ⟨mul_sq h'.sq, mov_good h'.sq h'.good h.good, (mul_bits (by omega) h'.sq h.sq h'.bm h.bm).le (by omega), fun i => ?_⟩
 rw [mov_val hd h'.sq h'.good h.good]
 exact (app_fit h'.sq h'.bm h'.fit h.fit hB i).up (by omega)
theorem Ltr.lt {d A B : Nat} {E : Int} {M : List (List Int)} {z : Pl} (h : Ltr d E A B M z) : Lt d E A B M z := ⟨h.sq, h.good, h.bm, h.fit⟩
theorem Ltr.back {d A B : Nat} {E : Int} {M : List (List Int)} {z : Pl} (hd : d = 2 ∨ d = 3) (h : Ltr d E A B M z) : Lt d E (2 * A + 5) (B + (2 * A + 8)) (invM d M) (redP z.2 (backT d M z.1)) := by
 have sI : Sq d (invM d M) := inv_sq
 have bI := inv_bits' hd h.sq h.uni h.bm
 refine ⟨sI, back_good h.good, bI, fun i => ?_⟩
 rw [back_val hd h.good]
 exact (inv_fit sI bI h.fit i).up (by omega)

theorem ecls (T : Txt K mg t) : ExcCls K t.a_NotKept := ⟨T.e_ga, T.e_gt, T.e_ca, T.e_cg, T.e_tk, T.e_ob, T.e_bx, by
 have q := T.e_ob
 unfold PySem.W.mroIn at q
 cases e : PySem.W.clsIn K t.a_NotKept with
 | none => rw [e] at q; cases q
 | some c => rfl⟩
theorem ok_law_only (T : Txt K mg t) : FnOkA P w K mg base 1 t.a_law_only t.d_law_only ["_law_e"] (sp_law_only t.a_NotKept) := by
 refine T.F_law_only.okA sc_law_only (fun vs H Q E h => ?_) (fun cdv A outer s H vs Q E hr h => ?_)
 ·obtain ⟨e, rfl, _⟩ := h
  rfl
 ·obtain ⟨e, rfl, he, q⟩ := h
  refine ⟨_, (pss_cons (ps_if (PW.pt (pw_or (pt_val (pe_callB call_isi rfl T.z_isinstance (by decide +kernel) (pa_cons (pv 0) (pa_cons (pe_glob (v := .ref t.a_NoChange) rfl T.m_NoChange rfl) pa_nil)))) (pw_or (pt_val (pe_callB call_isi rfl T.z_isinstance (by decide +kernel) (pa_cons (pv 0) (pa_cons (pe_glob (v := .ref t.a_NoDeed) rfl T.m_NoDeed rfl) pa_nil)))) (pw_or1 (pt_val (pe_callB call_isi rfl T.z_isinstance (by decide +kernel) (pa_cons (pv 0) (pa_cons (pe_glob (v := .ref t.a_TooMany) rfl T.m_TooMany rfl) pa_nil))))))))
   (pss_one (ps_ret pe_bl))
   pss_nil)
   (pss_one (ps_ret (pe_and (pe_callB call_isi rfl T.z_isinstance (by decide +kernel) (pa_cons (pv 0) (pa_cons (pe_glob (v := .ref t.a_NotKept) rfl T.m_NotKept rfl) pa_nil))) (pe_one (pe_callB call_isi rfl T.z_isinstance (by decide +kernel) (pa_cons (pv 0) (pa_cons (pe_bltn (v := .ty "ValueError") rfl T.z_ValueError (by decide +kernel) rfl) pa_nil)))))))), ?_⟩
  show tSeq _ _ _ [some (.ref e)] H
  have isi : ∀ (c : V) (b : Bool) (Q' : VK), isCls c = true → PySem.W.kitOne K (.ref t.a_NotKept) (clsV c) = some b → Q' (.bl b) H → rIsi K [.ref e, c] H Q' := fun c b Q' h1 h2 h3 => ⟨_, _, _, _, rfl, .exc he (ecls T), h1, h2, h3⟩
  refine st fun N1 e1 => ?_
  walk_at "rd2"
  refine isi _ _ _ rfl T.i_NoChange ⟨_, rfl, iteF (isi _ _ _ rfl T.i_NoDeed ⟨_, rfl, iteF (isi _ _ _ rfl T.i_TooMany ⟨_, rfl, iteF ?_⟩)⟩)⟩
  subst e1
  walk_at "rd2"
  exact isi _ _ _ rfl T.i_NotKept ⟨_, rfl, iteT (isi _ _ _ rfl T.i_VE q)⟩
theorem ok_law_asked (T : Txt K mg t) : FnOk P w K mg base CX0 10 t.a_law_asked t.d_law_asked ["_law_one", "_law_way"] (sp_law_asked K) := by
 have G_new_deed : FnOk P w K mg base (CX1 P w) 9 t.a_new_deed t.d_new_deed ["one", "way"] (sp_new_deed K t.a_NotKept) := ok_new_deed T
 have G_law_only : FnOkA P w K mg base 1 t.a_law_only t.d_law_only ["_law_e"] (sp_law_only t.a_NotKept) := ok_law_only T
 refine T.F_law_asked.ok sc_law_asked (fun vs H Q E h => ?_) (fun cdv A outer s H vs Q E hr h => ?_)
 ·obtain ⟨p, q, M, z, C, d, D, B, rfl, _⟩ := h
  rfl
 ·obtain ⟨p, q, M, z, C, d, D, B, rfl, hD, hC, hW, hB, hreg, hM, bM, gz, bz, lz, lc, hE, hQ⟩ := h
  refine ⟨_, (pss_cons (ps_set (i := 2) sc_law_asked.nd rfl (Or.inl rfl) pe_str)
   (pss_cons (ps_set (i := 3) sc_law_asked.nd rfl (Or.inl rfl) pe_non)
   (pss_cons (ps_try (i := 4) rfl rfl rfl sc_law_asked.nd rfl rfl rfl T.m_CrystalError (fun _ _ _ hL =>
   (pss_one (ps_set (i := 3) sc_law_asked.nd rfl (Or.inl rfl) (pe_callX G_new_deed (hr.mono (by omega)) rfl T.m_new_deed T.F_new_deed.kp T.b_new_deed .nil hL (pa_cons (pv 0) (pa_cons (pv 1) pa_nil)))))) (fun _ =>
   (pss_cons (ps_set (i := 2) sc_law_asked.nd rfl (Or.inl rfl) pe_str)
   (pss_one (ps_if (pt_not (pt_val (pe_callA G_law_only ((hr.a.mark _).mono (by omega)) rfl T.m_law_only T.F_law_only.kp T.b_law_only .nil (pa_cons (pv 4) pa_nil))))
   (pss_one (ps_set (i := 2) sc_law_asked.nd rfl (Or.inl rfl) pe_str))
   pss_nil)))))
   (pss_one (ps_ret (pe_tup (pa_cons (pv 2) (pa_cons (pv 3) pa_nil)))))))), ?_⟩
  show tSeq _ _ _ [some (.ref p), some (.ref q), none, none, none] H
  refine st fun N1 e1 => ?_
  walk_at "rd2"
  subst e1
  refine st fun N1 e1 => ?_
  walk_at "rd2"
  subst e1
  refine st fun N1 e1 => ?_
  have keyR : ∀ (H4 : Hp) (v4 : Option V), ¬ Whole d C M → Same H H4 → N1 [some (.ref p), some (.ref q), some (.str "refused"), some .non, v4] H4 := by
   intro H4 v4 nw s4
   subst e1
   walk_at "rd2"
   exact ⟨by show 2 ≤ sizeLine; decide, fun y hy => hE nw y _ (s4.trans (Same.new hy)) upd_same⟩
  have keyO : ∀ (H4 : Hp) (x : Addr) (M' : List (List Int)) (z' : Pl), Same H H4 → DeedAt K H4 x M' z'.1 z'.2 → Sq d M' → GoodP d z' → mm (mx C) (tm M' 1) = mm (tm M 1) (mx C) → (aff C).app (val z') = (dA M z).app (val C.2) → N1 [some (.ref p), some (.ref q), some (.str "told"), some (.ref x), none] H4 := by
   intro H4 x M' z' s4 hD4 sM' gz' c1 c2
   subst e1
   walk_at "rd2"
   exact ⟨by show 2 ≤ sizeLine; decide, fun y hy => hQ y x _ M' z' (s4.trans (Same.new hy)) upd_same (hD4.up (Same.new hy)) sM' gz' c1 c2⟩
  simp only [tTry]
  walk_at "rd2"
  exact ⟨p, q, M, z, C, d, D, B, rfl, hD, hC, hW, hB, hreg, hM, bM, gz, bz, lz, lc, fun nw H4 s4 => ⟨T.xm, fun e he => ⟨e, rfl, upd_same, true, rfl, iteF (keyR _ _ nw (s4.trans (Same.new he)))⟩⟩, fun r H4 M' z' s4 h1 h2 h3 h4 h5 => keyO H4 r M' z' s4 h1 h2 h3 h4 h5⟩

noncomputable def deedD (M : List (List Int)) (ts : List Int) (u : Int) : PyData := .tuple [matD true true M, intsD true ts, .int u]
theorem iT_deed (M : List (List Int)) (ts : List Int) (u : Int) : iT 3 (deedD M ts u) = true := by
 show ([matD true true M, intsD true ts, .int u].all (iT 2)) = true
 simp only [List.all_cons, List.all_nil, iT_mat true true 0 M, iT_ints true 1 ts, Bool.and_true, Bool.true_and]
 rfl
theorem Dt.deed {K : PySem.W.Frag} {H : Hp} {p : Addr} {M : List (List Int)} {ts : List Int} {u : Int} (h : DeedAt K H p M ts u) : Dt K H (.ref p) (deedD M ts u) := by
 obtain ⟨pr, pt, h1, h2, h3⟩ := h
 exact .tup (SqT.of h1) (.cons (Dt.matB h2) (.cons (Dt.intsB (SqB.tup h3)) (.cons (.int u) .nil)))
theorem deed_same {H : Hp} {p q : Addr} {M : List (List Int)} {ts : List Int} {u : Int} {Q : VK} (h1 : DeedAt K H p M ts u) (h2 : DeedAt K H q M ts u) (k : Q (.bl true) H) : rEqD K (.ref p) (.ref q) H Q :=
 eqD_of 3 (by decide) (Dt.deed h1) (Dt.deed h2) (iT_deed _ _ _) (iT_deed _ _ _) (b := true) (by simp) k
noncomputable def plD (x : Pl) : PyData := .tuple [intsD true x.1, .int x.2]
theorem Dt.pl {H : Hp} {p : Addr} {x : Pl} (h : PlAt H p x) : Dt K H (.ref p) (plD x) := by
 obtain ⟨q, h1, h2⟩ := h
 exact .tup (SqT.of h1) (.cons (Dt.intsB (SqB.tup h2)) (.cons (.int x.2) .nil))
theorem iT_pl (n : Nat) (x : Pl) : iT (n + 2) (plD x) = true := by
 show ([intsD true x.1, PyData.int x.2].all (iT (n + 1))) = true
 simp only [List.all_cons, List.all_nil, iT_ints true n x.1, Bool.and_true, Bool.true_and]
 rfl
theorem pl_eq {H : Hp} {p q : Addr} {x : Pl} {Q : VK} (h1 : PlAt H p x) (h2 : PlAt H q x) (k : Q (.bl true) H) : rEqD K (.ref p) (.ref q) H Q :=
 eqD_of 2 (by decide) (Dt.pl h1) (Dt.pl h2) (iT_pl 0 x) (iT_pl 0 x) (b := true) (by simp) k
theorem mat_ne {H : Hp} {p q : Addr} {M : List (List Int)} {Q : VK} (h1 : MatB true true K H p M) (h2 : MatB true true K H q M) (k : Q (.bl false) H) : rNeD K (.ref p) (.ref q) H Q :=
 neD_of 2 (by decide) (Dt.matB h1) (Dt.matB h2) (iT_mat true true 0 M) (iT_mat true true 0 M) (b := true) (by simp) k
theorem ok_law_ints (T : Txt K mg t) : FnOk P w K mg base CX0 1 t.a_law_ints t.d_law_ints ["_law_found"] (sp_law_ints K) := by
 refine T.F_law_ints.ok sc_law_ints (fun vs H Q E h => ?_) (fun cdv A outer s H vs Q E hr h => ?_)
 ·obtain ⟨p, M, z, d, rfl, _⟩ := h
  rfl
 ·obtain ⟨p, M, z, d, rfl, hD, sM, hz, hd, hQ⟩ := h
  refine ⟨_, (pss_cons (ps_for PassesOwn.never rfl (pi_seq (pe_op op_catT (pe_ix ix_B (pv 0) pe_int (fun _ _ => rfl)) (pe_tup (pa_cons (pe_op op_catT (pe_ix ix_B (pv 0) pe_int (fun _ _ => rfl)) (pe_tup (pa_cons (pe_ix ix_B (pv 0) pe_int (fun _ _ => rfl)) pa_nil))) pa_nil)))) (pg_name (i := 1) sc_law_ints.nd rfl (Or.inl rfl))
   (pss_one (ps_for PassesOwn.never rfl (pi_seq (pv 1)) (pg_name (i := 2) sc_law_ints.nd rfl (Or.inl rfl))
   (pss_one (ps_if (PW.pt (pw_or (pt_val (pe_callB call_isi rfl T.z_isinstance (by decide +kernel) (pa_cons (pv 2) (pa_cons (pe_bltn (v := .ty "bool") rfl T.z_bool (by decide +kernel) rfl) pa_nil)))) (pw_or1 (pt_not (pt_val (pe_callB call_isi rfl T.z_isinstance (by decide +kernel) (pa_cons (pv 2) (pa_cons (pe_bltn (v := .ty "int") rfl T.z_int (by decide +kernel) rfl) pa_nil))))))))
   (pss_one (ps_ret pe_bl))
   pss_nil)))))
   (pss_one (ps_ret pe_bl))), ?_⟩
  show tSeq _ _ _ [some (.ref p), none, none] H
  refine st fun N1 e1 => for_st fun B eB => ?_
  simp only [iSeq]
  walk_at "rd2"
  refine deed_ix0 hD fun x hx => ?_
  try walk_at "rd2"
  refine deed_ix1 hD fun y hy => ?_
  try walk_at "rd2"
  refine deed_ix2 hD ?_
  try walk_at "rd2"
  refine ⟨by show 1 ≤ sizeLine; decide, fun p1 hp1 => ?_⟩
  have s1 : Same H (upd H p1 (.tup [.int z.2])) := Same.new hp1
  have ep1 : (upd H p1 (.tup [.int z.2])) p1 = some (.tup [.int z.2]) := upd_same
  generalize upd H p1 (.tup [.int z.2]) = H1 at s1 ep1
  refine ⟨y, p1, _, _, rfl, rfl, SqT.of (s1 _ _ hy), SqT.of ep1, (fun w => by have := congrArg List.length w; simp at this; rw [this] at hz; simp at hz; omega), by rw [List.length_map, hz]; show d + 1 ≤ sizeLine; exact Nat.le_of_lt (small1000 (by omega)), (fun w => by cases w), fun _ p2 hp2 => ?_⟩
  have s2 : Same H1 (upd H1 p2 (.tup (z.1.map V.int ++ [.int z.2]))) := Same.new hp2
  have e2 : (upd H1 p2 (.tup (z.1.map V.int ++ [.int z.2]))) p2 = some (.tup ((z.1 ++ [z.2]).map V.int)) := by rw [List.map_append]; exact upd_same
  generalize upd H1 p2 (.tup (z.1.map V.int ++ [.int z.2])) = H2 at s2 e2
  try walk_at "rd2"
  refine ⟨by show 1 ≤ sizeLine; decide, fun p3 hp3 => ?_⟩
  have s3' : Same H2 (upd H2 p3 (.tup [.ref p2])) := Same.new hp3
  have ep3 : (upd H2 p3 (.tup [.ref p2])) p3 = some (.tup [.ref p2]) := upd_same
  generalize upd H2 p3 (.tup [.ref p2]) = H3 at s3' ep3
  have s03 := (s1.trans s2).trans s3'
  obtain ⟨ps, g1, g2, g3⟩ := hx.up s03
  have hps : ps.length = d := by rw [g2, sM.1]
  refine ⟨x, p3, _, _, rfl, rfl, g1, SqT.of ep3, (fun w => by have := congrArg List.length w; simp at this; rw [this] at hps; simp at hps; omega), by rw [List.length_map, hps]; show d + 1 ≤ sizeLine; exact Nat.le_of_lt (small1000 (by omega)), (fun w => by cases w), fun _ p4 hp4 => ?_⟩
  have s4 : Same H3 (upd H3 p4 (.tup (ps.map V.ref ++ [.ref p2]))) := Same.new hp4
  have e4 : (upd H3 p4 (.tup (ps.map V.ref ++ [.ref p2]))) p4 = some (.tup ((ps ++ [p2]).map V.ref)) := by rw [List.map_append]; exact upd_same
  generalize upd H3 p4 (.tup (ps.map V.ref ++ [.ref p2])) = H4 at s4 e4
  have hR : MatB true true K H4 p4 (M ++ [z.1 ++ [z.2]]) := by
   refine ⟨ps ++ [p2], SqB.tup e4, by simp [g2], fun i q r k1 k2 => ?_⟩
   by_cases hi : i < ps.length
   ·rw [List.getElem?_append_left hi] at k1
    rw [List.getElem?_append_left (by rw [← g2]; exact hi)] at k2
    exact (g3 i q r k1 k2).up s4
   ·have hi2 : i = ps.length := by have := (List.getElem?_eq_some_iff.mp k1).1; simp at this; omega
    subst hi2
    rw [List.getElem?_append_right (Nat.le_refl _)] at k1
    rw [List.getElem?_append_right (by rw [← g2]; exact Nat.le_refl _), ← g2] at k2
    simp at k1 k2
    subst k1 k2
    have := s4 _ _ (s3' _ _ e2)
    rw [List.map_append] at this ⊢
    exact SqB.tup this
  have s04 := s03.trans s4
  obtain ⟨xs, x1, x2, x3⟩ := hR.walk
  refine ⟨true, p4, rfl, ⟨_, x1⟩, ?_⟩
  refine fr_seq (g := gName 1) (tb := B) (fun i σ H5 => ∃ v1 v2, σ = [some (.ref p), v1, v2] ∧ H5 = H4) ⟨none, none, rfl, rfl⟩ (fun i σ H5 _ ⟨_, _, _, e⟩ => e ▸ x1) ?_ ?_
  ·rintro i v σ H5 hi ⟨v1, v2, rfl, rfl⟩
   obtain ⟨q, r, rfl, er, hq⟩ := x3 i v hi
   subst eB
   refine for_st fun B eB => ?_
   simp only [iSeq]
   try walk_at "rd2"
   refine ⟨true, ⟨_, hq⟩, ?_⟩
   refine fr_seq (g := gName 2) (tb := B) (fun j σ H6 => ∃ v2, σ = [some (.ref p), some (.ref q), v2] ∧ H6 = H5) ⟨_, rfl, rfl⟩ (fun j σ H6 _ ⟨_, _, e⟩ => e ▸ hq) ?_ ?_
   ·rintro j v σ H6 hj ⟨v2, rfl, rfl⟩
    obtain ⟨n, hn, rfl⟩ := ints_at hj
    subst eB
    try walk_at "rd2"
    refine ⟨_, _, _, _, rfl, .ty (.int n), rfl, T.k_ib, ?_⟩
    try walk_at "rd2"
    refine ⟨_, _, _, _, rfl, .ty (.int n), rfl, T.k_int, ?_⟩
    try walk_at "rd2"
   ·rintro σ H6 ⟨v2, rfl, rfl⟩
    exact ⟨_, _, rfl, rfl⟩
  ·rintro σ H5 ⟨v1, v2, rfl, rfl⟩
   subst e1
   try walk_at "rd2"
   exact hQ _ s04

theorem s3_cut {d : Nat} {r : List Int} {x : Pl} (hd : d = 2 ∨ d = 3) (hr : r.length = d) (gx : GoodP d x) {R : List (List Int)} {i : Nat} {u : Int} (hu : u ≠ 0) (sR : Sq d R) (e : R[i]? = some r) : ((dotI r x.1 : Int) : Rat) = ((u * x.2 : Int) : Rat) * s3 fun j => tm R u i j * val x j := by
 have h := dot_s3 hd sR gx e hu
 have h0 := cast_ne (show u * x.2 ≠ 0 from Int.mul_ne_zero hu (by have := gx.pos; omega))
 rw [← h]
 generalize ((dotI r x.1 : Int) : Rat) = a at *
 generalize ((u * x.2 : Int) : Rat) = b at *
 grind
theorem lies_eq {d i : Nat} {M L : List (List Int)} {z' z x : Pl} {u : Int} {rM rL : List Int} (hd : d = 2 ∨ d = 3) (sM : Sq d M) (sL : Sq d L) (gz' : GoodP d z') (gz : GoodP d z) (gx : GoodP d x) (hu : u ≠ 0) (eM : M[i]? = some rM) (eL : L[i]? = some rL)
  (h : (⟨tm L u, val x⟩ : Aff).app (val z') = (dA M z).app (val x)) :
  (dotI rL z'.1 * x.2 + x.1.getD i 0 * u * z'.2) * z.2 = (dotI rM x.1 * z.2 + z.1.getD i 0 * x.2) * u * z'.2 := by
 have h1 := s3_cut hd (sL.2 rL (List.mem_of_getElem? eL)) gz' hu sL eL
 have h2 := s3_cut (u := 1) hd (sM.2 rM (List.mem_of_getElem? eM)) gx (by decide) sM eM
 have h3 : (s3 fun j => tm L u i j * val z' j) + val x i = (s3 fun j => tm M 1 i j * val x j) + val z i := congrFun h i
 have p1 := cast_ne (show z'.2 ≠ 0 by have := gz'.pos; omega)
 have p2 := cast_ne (show z.2 ≠ 0 by have := gz.pos; omega)
 have p3 := cast_ne (show x.2 ≠ 0 by have := gx.pos; omega)
 have p4 := cast_ne hu
 refine Rat.intCast_inj.mp ?_
 simp only [Rat.intCast_mul, Rat.intCast_add]
 rw [h1, h2]
 rw [Int.one_mul, Rat.intCast_mul]
 have e1 : val x i * (x.2 : Rat) = ((x.1.getD i 0 : Int) : Rat) := by
  unfold val
  generalize ((x.1.getD i 0 : Int) : Rat) = a
  generalize (x.2 : Rat) = b at *
  grind
 have e2 : val z i * (z.2 : Rat) = ((z.1.getD i 0 : Int) : Rat) := by
  unfold val
  generalize ((z.1.getD i 0 : Int) : Rat) = a
  generalize (z.2 : Rat) = b at *
  grind
 rw [← e1, ← e2]
 generalize (s3 fun j => tm L u i j * val z' j) = A at *
 generalize (s3 fun j => tm M 1 i j * val x j) = B at *
 generalize val x i = C at *
 generalize val z i = D at *
 generalize (z'.2 : Rat) = a at *
 generalize (z.2 : Rat) = b at *
 generalize (x.2 : Rat) = c at *
 generalize (u : Rat) = e at *
 grind
theorem dot_bnd {A B : Nat} {r ts : List Int} (hr : r.length ≤ 4) (h1 : ∀ x ∈ r, bnd A x) (h2 : ∀ y ∈ ts, bnd B y) : bnd (A + B + 3) (dotI r ts) := by
 have h := dot_abs (B := A) (C := B) r ts h1 h2
 have : r.length * 2 ^ (A + B) ≤ 4 * 2 ^ (A + B) := Nat.mul_le_mul_right _ hr
 have := Nat.two_pow_pos (A + B)
 unfold bnd
 rw [Nat.pow_add _ (A + B) 3]
 omega
theorem zip_dot {H : Hp} {b1 b2 : Bool} {p q : Addr} {r ts : List Int} {σ : St} {Q : VK} {a : Addr} {A B : Nat} (ha : H a = none) (hp : SqB b1 K H p (r.map V.int)) (hq : SqB b2 K H q (ts.map V.int)) (hl : r.length = ts.length) (h4 : r.length ≤ 4) (h1 : ∀ x ∈ r, bnd A x) (h2 : ∀ y ∈ ts, bnd B y) (hAB : A + B ≤ 134217728)
  (hQ : ∀ H' zs, Same H H' → SqL K H' a ((List.zipWith (· * ·) r ts).map V.int) → H' a = some (.lst zs) → Q (.ref a) H') :
  CompWG (Itz K b1 p b2 q) (gTup K 2 (gCons (gName 0) (gCons (gName 1) gNil))) (tEl (tOp (rI (fun i j => IntMulOk i j) fun i j => .int (i * j)) (tVar 0) (tVar 1))) 2 [] σ a H Q := by
 refine cg_zip (fun j z _ => ∃ m n, r[j]? = some m ∧ ts[j]? = some n ∧ z = .int (m * n)) ha hp hq (by simp [hl]) (by rw [List.length_map]; omega) (fun _ _ _ _ r _ => r) ?_ ?_
 ·intro i v1 v2 H1 zs ex ey s1 ez Q' hQ'
  obtain ⟨m, em, rfl⟩ := ints_at ex
  obtain ⟨n, en, rfl⟩ := ints_at ey
  show tOp _ _ _ [some (.int m), some (.int n)] H1 Q'
  try walk_at "rd2"
  exact ⟨(h1 m (List.mem_of_getElem? em)).ok (h2 n (List.mem_of_getElem? en)) hAB, hQ' _ _ (Same.refl _) ⟨m, n, em, en, rfl⟩⟩
 ·intro H1 zs s1 ez hlz hr'
  have ey : zs = (List.zipWith (· * ·) r ts).map V.int := by
   refine list_is (by simp at hlz ⊢; omega) fun j z e => ?_
   obtain ⟨m, n, em, en, rfl⟩ := hr' j z e
   exact ⟨_, by rw [List.getElem?_zipWith, em, en], rfl⟩
  subst ey
  exact hQ H1 _ s1 (SqL.of ez) ez
theorem ok_law_lies (T : Txt K mg t) : FnOk P w K mg base CX0 3 t.a_law_lies t.d_law_lies ["_law_found", "_law_one", "_law_columns_here", "_law_under", "_law_spot_here"] (sp_law_lies K) := by
 have G_law_lowest : FnOk P w K mg base CX0 2 t.a_law_lowest t.d_law_lowest ["_law_tops", "_law_under"] (sp_law_lowest K) := ok_law_lowest T
 refine T.F_law_lies.ok sc_law_lies (fun vs H Q E h => ?_) (fun cdv A outer s H vs Q E hr h => ?_)
 ·obtain ⟨p, q, c, sp, M', M, L, z', z, x, u, d, rfl, _⟩ := h
  rfl
 ·obtain ⟨p, q, c, sp, M', M, L, z', z, x, u, d, rfl, hD', hD, hL, hx, hd, sM, sL, gz', gz, gx, bz', bz, bx, bM, bL, u1, u6, hap, hQ⟩ := h
  have hu := hr.units
  refine ⟨_, (pss_cons (ps_par (i := 5) (j := 6) rfl sc_law_lies.nd rfl rfl (by decide) rfl rfl (pa_cons (pe_ix ix_B (pv 0) pe_int (fun _ _ => rfl)) (pa_cons (pe_ix ix_B (pv 0) pe_int (fun _ _ => rfl)) pa_nil)) rfl)
   (pss_cons (ps_for PassesOwn.never rfl (pi_range1 rfl T.z_range (pa_cons (pe_callB call_lenB rfl T.z_len (by decide +kernel) (pa_cons (pv 2) pa_nil)) pa_nil)) (pg_name (i := 7) sc_law_lies.nd rfl (Or.inl rfl))
   (pss_cons (ps_set (i := 8) sc_law_lies.nd rfl (Or.inl rfl) (pe_callB (call_sum rfl) rfl T.z_sum (by decide +kernel) (pa_cons (pe_compG (xs := ["_law_number", "_law_top"]) (fr := []) (g := (gTup K 2 (gCons (gName 0) (gCons (gName 1) gNil)))) (tt := (tEl (tOp (rI (fun i j => IntMulOk i j) fun i j => .int (i * j)) (tVar 0) (tVar 1)))) (compG_ok (sc := defScope s_law_lies) (N := N_law_lies) rfl rfl (by decide +kernel)) rfl (pi_zip rfl T.z_zip (pa_cons (pe_ix ix_B (pv 2) (pv 7) (fun _ _ => rfl)) (pa_cons (pv 5) pa_nil))) (fun _ _ _ hE1 => (pg_tup rfl (pgs_cons (pg_own (N := ["_law_number", "_law_top"]) (i := 0) hE1 rfl (by decide +kernel)) (pgs_cons (pg_own (N := ["_law_number", "_law_top"]) (i := 1) hE1 rfl (by decide +kernel)) pgs_nil)))) (fun _ _ _ hE1 => (po_el (pe_op op_mulB (pv 0) (pv 1))))) pa_nil)))
   (pss_cons (ps_set (i := 9) sc_law_lies.nd rfl (Or.inl rfl) (pe_callB (call_sum rfl) rfl T.z_sum (by decide +kernel) (pa_cons (pe_compG (xs := ["_law_number", "_law_top"]) (fr := []) (g := (gTup K 2 (gCons (gName 0) (gCons (gName 1) gNil)))) (tt := (tEl (tOp (rI (fun i j => IntMulOk i j) fun i j => .int (i * j)) (tVar 0) (tVar 1)))) (compG_ok (sc := defScope s_law_lies) (N := N_law_lies) rfl rfl (by decide +kernel)) rfl (pi_zip rfl T.z_zip (pa_cons (pe_ix ix_B (pe_ix ix_B (pv 1) pe_int (fun _ _ => rfl)) (pv 7) (fun _ _ => rfl)) (pa_cons (pe_ix ix_B (pv 4) pe_int (fun _ _ => rfl)) pa_nil))) (fun _ _ _ hE1 => (pg_tup rfl (pgs_cons (pg_own (N := ["_law_number", "_law_top"]) (i := 0) hE1 rfl (by decide +kernel)) (pgs_cons (pg_own (N := ["_law_number", "_law_top"]) (i := 1) hE1 rfl (by decide +kernel)) pgs_nil)))) (fun _ _ _ hE1 => (po_el (pe_op op_mulB (pv 0) (pv 1))))) pa_nil)))
   (pss_cons (ps_set (i := 10) sc_law_lies.nd rfl (Or.inl rfl) (pe_op op_mulB (pe_op op_add (pe_op op_mulB (pv 8) (pe_ix ix_B (pv 4) pe_int (fun _ _ => rfl))) (pe_op op_mulB (pe_op op_mulB (pe_ix ix_B (pe_ix ix_B (pv 4) pe_int (fun _ _ => rfl)) (pv 7) (fun _ _ => rfl)) (pv 3)) (pv 6))) (pe_ix ix_B (pv 1) pe_int (fun _ _ => rfl))))
   (pss_one (ps_if (pt_cmpR op_neZ (pv 10) (pe_op op_mulB (pe_op op_mulB (pe_op op_add (pe_op op_mulB (pv 9) (pe_ix ix_B (pv 1) pe_int (fun _ _ => rfl))) (pe_op op_mulB (pe_ix ix_B (pe_ix ix_B (pv 1) pe_int (fun _ _ => rfl)) (pv 7) (fun _ _ => rfl)) (pe_ix ix_B (pv 4) pe_int (fun _ _ => rfl)))) (pv 3)) (pv 6)) (nomark _))
   (pss_one (ps_ret pe_bl))
   pss_nil))))))
   (pss_one (ps_ret (pe_cmpR (op_eqD hu) (pe_call G_law_lowest (hr.mono (by omega)) rfl T.m_law_lowest T.F_law_lowest.kp T.b_law_lowest .nil pass0 (pa_cons (pv 5) (pa_cons (pv 6) pa_nil))) (pe_tup (pa_cons (pv 5) (pa_cons (pv 6) pa_nil))) (nomark _)))))), ?_⟩
  show tSeq _ _ _ [some (.ref p), some (.ref q), some (.ref c), some (.int u), some (.ref sp), none, none, none, none, none, none] H
  refine st fun N1 e1 => ?_
  walk_at "rd2"
  refine deed_ix1 hD' fun t' ht' => ?_
  try walk_at "rd2"
  refine deed_ix2 hD' ?_
  try walk_at "rd2"
  have but : bnd 3 u := by unfold bnd; omega
  subst e1
  refine st fun N1 e1 => for_st fun B eB => ?_
  simp only [iRng1]
  try walk_at "rd2"
  refine mat_len hL ?_
  try walk_at "rd2"
  rw [sL.1]
  refine ⟨by omega, by omega, ?_⟩
  rw [Int.toNat_natCast]
  refine fr_range (g := gName 7) (tb := B) (fun i σ H2 => ∃ (v7 v8 v9 v10 : Option V), σ = [some (.ref p), some (.ref q), some (.ref c), some (.int u), some (.ref sp), some (.ref t'), some (.int z'.2), v7, v8, v9, v10] ∧ Same H H2)
   ⟨none, none, none, none, rfl, Same.refl _⟩ ?_ ?_
  ·rintro i σ H2 hi ⟨v7, v8, v9, v10, rfl, s2⟩
   have eL := row_at (B := L) (j := i) (by rw [sL.1]; exact hi)
   have eM := row_at (B := M) (j := i) (by rw [sM.1]; exact hi)
   have mL := List.mem_of_getElem? eL
   have mM := List.mem_of_getElem? eM
   have lL := sL.2 _ mL
   have lM := sM.2 _ mM
   have hx2 := hx.up s2
   have bx1 : bnd 1000 (x.1.getD i 0) := bx.1 _ (L2.getD_mem (by rw [gx.len]; exact hi))
   have bz1 : bnd 1000 (z.1.getD i 0) := bz.1 _ (L2.getD_mem (by rw [gz.len]; exact hi))
   have bf : bnd 2003 (dotI (L.getD i []) z'.1) := dot_bnd (by omega) (bL _ mL) bz'.1
   have bo : bnd 2003 (dotI (M.getD i []) x.1) := dot_bnd (by omega) (bM _ mM) bx.1
   subst eB
   show tSeq _ _ _ [some (.ref p), some (.ref q), some (.ref c), some (.int u), some (.ref sp), some (.ref t'), some (.int z'.2), some (.int (0 + (i : Int))), v8, v9, v10] H2
   refine st fun N2 e2 => ?_
   try walk_at "rd2"
   refine compE_st fun C eC => ?_
   simp only [iZip]
   try walk_at "rd2"
   refine mat_row (hL.up s2) eL (by omega) fun r1 hr1 => ?_
   try walk_at "rd2"
   refine ⟨false, ⟨_, hr1⟩, true, ⟨_, SqB.tup (s2 _ _ ht')⟩, fun a1 ha1 => ?_⟩
   subst eC
   refine zip_dot ha1 hr1 (SqB.tup (s2 _ _ ht')) (by rw [lL, gz'.len]) (by omega) (bL _ mL) bz'.1 (by decide) fun H3 _ s3' e3 _ => ?_
   refine ⟨a1, rfl, _, e3, ?_⟩
   subst e2
   refine st fun N2 e2 => ?_
   try walk_at "rd2"
   refine compE_st fun C eC => ?_
   simp only [iZip]
   try walk_at "rd2"
   have s23 := s2.trans s3'
   refine deed_ix0 (hD.up s23) fun m0 hm0 => ?_
   try walk_at "rd2"
   refine mat_row hm0 eM (by omega) fun r2 hr2 => ?_
   try walk_at "rd2"
   refine place_ix0 (hx.up s23) fun x1 hx1 => ?_
   try walk_at "rd2"
   refine ⟨true, ⟨_, hr2⟩, true, ⟨_, SqB.tup hx1⟩, fun a2 ha2 => ?_⟩
   subst eC
   refine zip_dot ha2 hr2 (SqB.tup hx1) (by rw [lM, gx.len]) (by omega) (bM _ mM) bx.1 (by decide) fun H4 _ s4 e4 _ => ?_
   refine ⟨a2, rfl, _, e4, ?_⟩
   have s24 := s23.trans s4
   subst e2
   refine st fun N2 e2 => ?_
   try walk_at "rd2"
   refine place_ix1 (hx.up s24) ?_
   try walk_at "rd2"
   refine ⟨bf.ok bx.2, ?_⟩
   refine place_ix0 (hx.up s24) fun x2 hx2 => ?_
   try walk_at "rd2"
   refine ⟨true, x2, _, _, _, rfl, rfl, SqB.tup hx2, atI_at (int_at (getD_at (k := i) (by rw [gx.len]; exact hi))) (by omega), ?_⟩
   try walk_at "rd2"
   have b1 := bx1.mul but
   have b2 := b1.mul bz'.2
   have b3 := bf.mul bx.2
   have b4 := (b3.up (show 3003 ≤ 4000 by decide)).add (b2.up (show 2003 ≤ 4000 by decide))
   refine ⟨bx1.ok but, b1.ok bz'.2, ?_⟩
   refine deed_ix2 (hD.up s24) ?_
   try walk_at "rd2"
   refine ⟨b4.ok bz.2, ?_⟩
   subst e2
   try walk_at "rd2"
   refine deed_ix2 (hD.up s24) ?_
   try walk_at "rd2"
   refine ⟨bo.ok bz.2, ?_⟩
   refine deed_ix1 (hD.up s24) fun y2 hy2 => ?_
   try walk_at "rd2"
   refine ⟨true, y2, _, _, _, rfl, rfl, SqB.tup hy2, atI_at (int_at (getD_at (k := i) (by rw [gz.len]; exact hi))) (by omega), ?_⟩
   try walk_at "rd2"
   refine place_ix1 (hx.up s24) ?_
   try walk_at "rd2"
   have b5 := bo.mul bz.2
   have b6 := bz1.mul bx.2
   have b7 := (b5.up (show 3003 ≤ 4000 by decide)).add (b6.up (show 2000 ≤ 4000 by decide))
   have b8 := b7.mul but
   refine ⟨bz1.ok bx.2, b7.ok but, b8.ok bz'.2, ?_⟩
   have eq := lies_eq hd sM sL gz' gz gx (by omega) eM eL hap
   have eq2 : ((List.zipWith (· * ·) (L.getD i []) z'.1).sum * x.2 + x.1.getD i 0 * u * z'.2) * z.2 = ((List.zipWith (· * ·) (M.getD i []) x.1).sum * z.2 + z.1.getD i 0 * x.2) * u * z'.2 := eq
   rw [decide_eq_true eq2]
   exact iteF s24
  ·rintro σ H2 ⟨v7, v8, v9, v10, rfl, s2⟩
   subst e1
   try walk_at "rd2"
   refine ⟨true, t', z'.1, z'.2, rfl, SqB.tup (s2 _ _ ht'), by rw [gz'.len]; omega, bz'.2.up (by decide), gz'.pos, fun r H3 s3' hr3 => ?_⟩
   have es : redP z'.2 z'.1 = z' := by
    have := red_good gz'
    exact Prod.ext this.1 this.2
   rw [es] at hr3
   try walk_at "rd2"
   refine ⟨by show 2 ≤ sizeLine; decide, fun l hl => ?_⟩
   have s4 : Same H3 (upd H3 l (.tup [.ref t', .int z'.2])) := Same.new hl
   exact pl_eq (hr3.up s4) ⟨t', upd_same, s4 _ _ (s3' _ _ (s2 _ _ ht'))⟩ (hQ _ ((s2.trans s3').trans s4))

theorem ok_law_right (T : Txt K mg t) : FnOk P w K mg base CX0 4 t.a_law_right t.d_law_right ["_law_found", "_law_one", "_law_columns_here", "_law_under", "_law_spot_here", "_law_due"] (sp_law_right K) := by
 have G_law_ints : FnOk P w K mg base CX0 1 t.a_law_ints t.d_law_ints ["_law_found"] (sp_law_ints K) := ok_law_ints T
 have G_law_lies : FnOk P w K mg base CX0 3 t.a_law_lies t.d_law_lies ["_law_found", "_law_one", "_law_columns_here", "_law_under", "_law_spot_here"] (sp_law_lies K) := ok_law_lies T
 refine T.F_law_right.ok sc_law_right (fun vs H Q E h => ?_) (fun cdv A outer s H vs Q E hr h => ?_)
 ·obtain ⟨p, q, c, sp, e, M', M, L, z', z, x, u, d, rfl, _⟩ := h
  rfl
 ·obtain ⟨p, q, c, sp, e, M', M, L, z', z, x, u, d, rfl, hD', hD, hL, hx, he, hd, sM', sM, sL, gz', gz, gx, bz', bz, bx, bM, bL, u1, u6, hap, hQ⟩ := h
  have hu := hr.units
  refine ⟨_, (pss_cons (ps_if (PW.pt (pw_or (pt_not (pt_val (pe_callB call_isi rfl T.z_isinstance (by decide +kernel) (pa_cons (pv 0) (pa_cons (pe_bltn (v := .ty "tuple") rfl T.z_tuple (by decide +kernel) rfl) pa_nil))))) (pw_or (pt_cmpR op_neZ (pe_callB call_lenB rfl T.z_len (by decide +kernel) (pa_cons (pv 0) pa_nil)) pe_int (nomark _)) (pw_or (pt_cmpR (op_neD hu) (pe_ix ix_B (pv 0) pe_int (fun _ _ => rfl)) (pv 5) (nomark _)) (pw_or1 (pt_not (pt_val (pe_callB call_isi rfl T.z_isinstance (by decide +kernel) (pa_cons (pe_ix ix_B (pv 0) pe_int (fun _ _ => rfl)) (pa_cons (pe_bltn (v := .ty "tuple") rfl T.z_tuple (by decide +kernel) rfl) pa_nil))))))))))
   (pss_one (ps_ret pe_bl))
   pss_nil)
   (pss_cons (ps_if (PW.pt (pw_or (pt_cmpR op_neZ (pe_callB call_lenB rfl T.z_len (by decide +kernel) (pa_cons (pe_ix ix_B (pv 0) pe_int (fun _ _ => rfl)) pa_nil)) (pe_callB call_lenB rfl T.z_len (by decide +kernel) (pa_cons (pv 2) pa_nil)) (nomark _)) (pw_or (pt_not (pt_val (pe_call G_law_ints (hr.mono (by omega)) rfl T.m_law_ints T.F_law_ints.kp T.b_law_ints .nil pass0 (pa_cons (pv 0) pa_nil)))) (pw_or1 (pt_cmpR op_lt (pe_ix ix_B (pv 0) pe_int (fun _ _ => rfl)) pe_int (nomark _))))))
   (pss_one (ps_ret pe_bl))
   pss_nil)
   (pss_one (ps_ret (pe_call G_law_lies (hr.mono (by omega)) rfl T.m_law_lies T.F_law_lies.kp T.b_law_lies .nil pass0 (pa_cons (pv 0) (pa_cons (pv 1) (pa_cons (pv 2) (pa_cons (pv 3) (pa_cons (pv 4) pa_nil)))))))))), ?_⟩
  show tSeq _ _ _ [some (.ref p), some (.ref q), some (.ref c), some (.int u), some (.ref sp), some (.ref e)] H
  obtain ⟨pr, pt, h1, h2, h3⟩ := id hD'
  have hp : SqB true K H p [.ref pr, .ref pt, .int z'.2] := SqB.tup h1
  refine st fun N1 e1 => ?_
  walk_at "rd2"
  refine ⟨_, _, _, _, rfl, .tupS hp, rfl, T.k_tt, ?_⟩
  try walk_at "rd2"
  refine ⟨true, p, _, rfl, hp, ?_⟩
  try walk_at "rd2"
  refine iteF ?_
  refine deed_ix0 hD' fun x0 hx0 => ?_
  try walk_at "rd2"
  refine mat_ne hx0 he ?_
  try walk_at "rd2"
  refine deed_ix1 hD' fun x1 hx1 => ?_
  try walk_at "rd2"
  refine ⟨_, _, _, _, rfl, .tupS (SqB.tup hx1), rfl, T.k_tt, ?_⟩
  try walk_at "rd2"
  subst e1
  refine st fun N1 e1 => ?_
  try walk_at "rd2"
  refine deed_ix1 hD' fun x1 hx1 => ?_
  try walk_at "rd2"
  refine ints_len (SqB.tup hx1) ?_
  try walk_at "rd2"
  refine mat_len hL ?_
  try walk_at "rd2"
  rw [decide_eq_true (by rw [gz'.len, sL.1])]
  refine iteF ?_
  refine ⟨p, M', z', d, rfl, hD', sM', gz'.len, hd, fun H1 s1 => ?_⟩
  try walk_at "rd2"
  refine deed_ix2 (hD'.up s1) ?_
  try walk_at "rd2"
  rw [decide_eq_false (by have := gz'.pos; omega)]
  refine iteF ?_
  subst e1
  try walk_at "rd2"
  exact ⟨p, q, c, sp, M', M, L, z', z, x, u, d, rfl, hD'.up s1, hD.up s1, hL.up s1, hx.up s1, hd, sM, sL, gz', gz, gx, bz', bz, bx, bM, bL, u1, u6, hap, fun H2 s2 => hQ H2 (s1.trans s2)⟩

theorem cut_8_28 (ns : List Int) : cutV (ns.map V.int) (some 8) (some 28) = (cut20 ns).map V.int := by
 rw [cut_ints ns (some 8) (some 28)]
 have e1 : HT.sIx ns.length 0 (some 8) = min 8 ns.length := HT.sIx_nat ns.length 0 8
 have e2 : HT.sIx ns.length ns.length (some 28) = min 28 ns.length := HT.sIx_nat ns.length ns.length 28
 rw [e1, e2]
 unfold cut20
 congr 1
 by_cases h : 8 ≤ ns.length
 ·rw [Nat.min_eq_left h]
  by_cases h2 : 28 ≤ ns.length
  ·rw [Nat.min_eq_left h2]
  ·rw [Nat.min_eq_right (by omega), List.take_of_length_le (by simp), List.take_of_length_le (by simp; omega)]
 ·rw [Nat.min_eq_right (by omega), Nat.min_eq_right (by omega), List.drop_of_length_le (Nat.le_refl _), List.drop_of_length_le (by omega)]
  simp
noncomputable def hid (a : Addr) (H : Hp) : Hp := fun b => if b = a then none else H b
theorem hid_same {a : Addr} {H : Hp} : Same (hid a H) H := fun b o e => by
 unfold hid at e
 split at e
 ·cases e
 ·exact e
theorem hid_x {a : Addr} {H1 H2 : Hp} (s : SameX a H1 H2) : Same (hid a H1) (hid a H2) := fun b o e => by
 unfold hid at e ⊢
 split at e
 ·cases e
 ·rename_i n
  rw [if_neg n]
  exact s b o n e
theorem hid_upd {a : Addr} {H : Hp} {u : HO} : Same (hid a H) (upd H a u) := fun b o e => by
 unfold hid at e
 split at e
 ·cases e
 ·rename_i n
  rw [upd_ne n]
  exact e
theorem hid_tup {a p : Addr} {H : Hp} {zs xs : List V} (e : H a = some (.lst zs)) (h : H p = some (.tup xs)) : hid a H p = some (.tup xs) := by
 unfold hid
 rw [if_neg (fun z => by rw [z, e] at h; cases h)]
 exact h
theorem hid_sqT {a p : Addr} {H : Hp} {zs xs : List V} (e : H a = some (.lst zs)) (h : SqT K H p xs) : SqT K (hid a H) p xs := by
 rcases h with (h | ⟨o, h⟩) | h
 ·exact .inl (.inl (hid_tup e h))
 ·refine .inl (.inr ⟨o, ?_⟩)
  unfold hid
  rw [if_neg (fun z => by rw [z, e] at h; cases h)]
  exact h
 ·exact .inr h
theorem DeedAt.hid {a p : Addr} {H : Hp} {zs : List V} {M : List (List Int)} {ts : List Int} {u : Int} (h : DeedAt K H p M ts u) (e : H a = some (.lst zs)) : DeedAt K (hid a H) p M ts u :=
 let ⟨pr, pt, h1, ⟨ps, g1, g2, g3⟩, h3⟩ := h; ⟨pr, pt, hid_tup e h1, ⟨ps, hid_sqT e g1, g2, fun i p r e1 e2 => hid_sqT e (g3 i p r e1 e2)⟩, hid_tup e h3⟩
theorem DeedAt.set {a p : Addr} {H : Hp} {zs : List V} {o : HO} {M : List (List Int)} {ts : List Int} {u : Int} (h : DeedAt K H p M ts u) (e : H a = some (.lst zs)) : DeedAt K (upd H a o) p M ts u := (h.hid e).up hid_upd
theorem wordA_snoc (ns : List Int) (c : Int) (g0 g1 b0 b1 : Aff) : wordA (ns ++ [c]) g0 g1 b0 b1 = (lett g0 g1 b0 b1 c).mul (wordA ns g0 g1 b0 b1) := by
 unfold wordA
 rw [List.foldl_append]
 rfl
theorem ok_law_word (T : Txt K mg t) : FnOk P w K mg base CX0 9 t.a_law_word t.d_law_word ["_law_some", "_law_script"] (sp_law_word K) := by
 have G_back : FnOk P w K mg base CX0 8 t.a_back t.d_back ["one"] (sp_back K) := ok_back T
 have G_behind : FnOk P w K mg base CX0 4 t.a_behind t.d_behind ["one", "other"] (sp_behind K) := ok_behind T
 refine T.F_law_word.ok sc_law_word (fun vs H Q E h => ?_) (fun cdv A outer s H vs Q E hr h => ?_)
 ·obtain ⟨l, a, p0, p1, ns, M0, M1, z0, z1, E, d, A, B, rfl, _⟩ := h
  rfl
 ·obtain ⟨l, a, p0, p1, ns, M0, M1, z0, z1, Ee, d, A, B, rfl, hl, hS, hd, hD0, hD1, l0, l1, hA, hB1, hB2, hQ⟩ := h
  have pE := l0.pos
  have leE := l0.le
  generalize hL : 2 * A + 8 = L at hQ
  have f0 := l0.lt.fine pE leE (by omega) (by omega) (by omega)
  have f1 := l1.lt.fine pE leE (by omega) (by omega) (by omega)
  obtain ⟨_, c0⟩ := l0.lt.bits pE leE hB1
  obtain ⟨_, c1⟩ := l1.lt.bits pE leE hB1
  have k0 := l0.back hd
  have k1 := l1.back hd
  have w0 := back_undo hd l0.sq l0.uni l0.good
  have w1 := back_undo hd l1.sq l1.uni l1.good
  rw [hL] at k0 k1
  refine ⟨_, (pss_cons (ps_set (i := 2) sc_law_word.nd rfl (Or.inl rfl) (pe_op op_cat (pv 0) (pe_compG (xs := ["_law_one"]) (fr := []) (g := (gName 0)) (tt := (tEl (tCall (sp_back K) [] E0 (tCons (tVar 0) tNil)))) (compG_ok (sc := defScope s_law_word) (N := N_law_word) rfl rfl (by decide +kernel)) rfl (pi_seq (pv 0)) (fun _ _ _ hE1 => (pg_own (N := ["_law_one"]) (i := 0) hE1 rfl (by decide +kernel))) (fun _ _ _ hE1 => (po_el (pe_call G_back (hr.mono (by omega)) rfl T.m_back T.F_back.kp T.b_back .nil pass0 (pa_cons (pv 0) pa_nil)))))))
   (pss_cons (ps_set (i := 3) sc_law_word.nd rfl (Or.inl rfl) (pe_call G_behind (hr.mono (by omega)) rfl T.m_behind T.F_behind.kp T.b_behind .nil pass0 (pa_cons (pe_ix ix_B (pv 0) pe_int (fun _ _ => rfl)) (pa_cons (pe_ix ix_B (pv 2) pe_int (fun _ _ => rfl)) pa_nil))))
   (pss_cons (ps_for PassesOwn.never rfl (pi_seq (pe_slice sl_B (pv 1) (po_some pe_int) (po_some pe_int))) (pg_name (i := 4) sc_law_word.nd rfl (Or.inl rfl))
   (pss_one (ps_set (i := 3) sc_law_word.nd rfl (Or.inl rfl) (pe_call G_behind (hr.mono (by omega)) rfl T.m_behind T.F_behind.kp T.b_behind .nil pass0 (pa_cons (pv 3) (pa_cons (pe_ix ix_B (pv 2) (pe_op op_modN (pv 4) pe_int) (fun _ _ => rfl)) pa_nil))))))
   (pss_one (ps_ret (pv 3)))))), ?_⟩
  show tSeq _ _ _ [some (.ref l), some (.ref a), none, none, none] H
  refine st fun N1 e1 => ?_
  walk_at "rd2"
  refine compE_st fun C eC => ?_
  simp only [iSeq]
  try walk_at "rd2"
  refine ⟨false, ⟨_, SqB.lst hl⟩, fun a1 ha1 => ?_⟩
  generalize hN0 : invM d M0 = N0 at *
  generalize hN1 : invM d M1 = Nn at *
  generalize hy0 : redP z0.2 (backT d M0 z0.1) = y0 at *
  generalize hy1 : redP z1.2 (backT d M1 z1.1) = y1 at *
  refine cg_seq (fun j y H' => ∃ q, y = .ref q ∧ ((j = 0 ∧ DeedAt K (hid a1 H') q N0 y0.1 y0.2) ∨ (j = 1 ∧ DeedAt K (hid a1 H') q Nn y1.1 y1.2))) ha1 (SqB.lst hl) (by simp)
   (fun j y H1 H2 ⟨q, e, h⟩ sx => ⟨q, e, h.imp (fun h => ⟨h.1, h.2.up (hid_x sx)⟩) (fun h => ⟨h.1, h.2.up (hid_x sx)⟩)⟩) ?_ ?_
  ·intro i v H1 zs ex s1 ez Q' hQ'
   match i, ex with
   | 0, ex =>
    cases ex
    subst eC
    show tCall _ _ _ _ [some (.ref p0)] H1 Q'
    try walk_at "rd2"
    refine ⟨p0, M0, z0.1, z0.2, d, rfl, hD0.up s1, f0, l0.bm.le (by omega), fun x hx => (c0.1 x hx).up (by omega), by omega, by omega, fun r H2 s2 hr2 => ?_⟩
    have hr2' : DeedAt K H2 r N0 y0.1 y0.2 := by rw [← hN0, ← hy0]; exact hr2
    exact hQ' _ _ s2 ⟨r, rfl, .inl ⟨rfl, hr2'.hid (s2 _ _ ez)⟩⟩
   | 1, ex =>
    cases ex
    subst eC
    show tCall _ _ _ _ [some (.ref p1)] H1 Q'
    try walk_at "rd2"
    refine ⟨p1, M1, z1.1, z1.2, d, rfl, hD1.up s1, f1, l1.bm.le (by omega), fun x hx => (c1.1 x hx).up (by omega), by omega, by omega, fun r H2 s2 hr2 => ?_⟩
    have hr2' : DeedAt K H2 r Nn y1.1 y1.2 := by rw [← hN1, ← hy1]; exact hr2
    exact hQ' _ _ s2 ⟨r, rfl, .inr ⟨rfl, hr2'.hid (s2 _ _ ez)⟩⟩
   | n + 2, ex => simp at ex
  intro H1 ys s1 ey hly hr1
  obtain ⟨q0, q1, rfl, d0, d1⟩ : ∃ q0 q1, ys = [.ref q0, .ref q1] ∧ DeedAt K H1 q0 N0 y0.1 y0.2 ∧ DeedAt K H1 q1 Nn y1.1 y1.2 := by
   match ys, hly with
   | [u0, u1], _ =>
    obtain ⟨q0, e0, h0⟩ := hr1 0 u0 rfl
    obtain ⟨q1, e1, h1⟩ := hr1 1 u1 rfl
    refine ⟨q0, q1, by rw [e0, e1], ?_, ?_⟩
    ·rcases h0 with h | h
     ·exact h.2.up hid_same
     ·exact absurd h.1 (by decide)
    ·rcases h1 with h | h
     ·exact absurd h.1 (by decide)
     ·exact h.2.up hid_same
  clear hr1 hly
  refine ⟨l, a1, _, _, rfl, rfl, s1 _ _ hl, ey, by show 4 ≤ sizeLine; decide, fun ll hll => ?_⟩
  have s2 : Same H1 (upd H1 ll (.lst ([V.ref p0, V.ref p1] ++ [V.ref q0, V.ref q1]))) := Same.new hll
  have el : (upd H1 ll (.lst ([V.ref p0, V.ref p1] ++ [V.ref q0, V.ref q1]))) ll = some (.lst [.ref p0, .ref p1, .ref q0, .ref q1]) := upd_same
  generalize upd H1 ll (.lst ([V.ref p0, V.ref p1] ++ [V.ref q0, V.ref q1])) = H2 at s2 el
  have s02 := s1.trans s2
  have D0 := hD0.up s02
  have D1 := hD1.up s02
  replace d0 := d0.up s2
  replace d1 := d1.up s2
  have g0 := k0.fine pE leE (by omega) (by omega) (by omega)
  have lb : ∀ c : Int, ∃ (q : Addr) (N : List (List Int)) (y : Pl), atI [V.ref p0, V.ref p1, V.ref q0, V.ref q1] (c.fmod 4) = some (.ref q) ∧ DeedAt K H2 q N y.1 y.2 ∧ Lt d Ee (2 * A + 5) (B + L) N y ∧ lett (dA M0 z0) (dA M1 z1) (dA N0 y0) (dA Nn y1) c = dA N y := by
   intro c
   have f := fms c 4 (by decide)
   unfold lett
   rcases (show c.fmod 4 = 0 ∨ c.fmod 4 = 1 ∨ c.fmod 4 = 2 ∨ c.fmod 4 = 3 by omega) with z | z | z | z <;> rw [z]
   ·exact ⟨p0, M0, z0, rfl, D0, l0.lt.up (by omega) (by omega), rfl⟩
   ·exact ⟨p1, M1, z1, rfl, D1, l1.lt.up (by omega) (by omega), rfl⟩
   ·exact ⟨q0, N0, y0, rfl, d0, k0, rfl⟩
   ·exact ⟨q1, Nn, y1, rfl, d1, k1, rfl⟩
  subst e1
  refine st fun N1 e1 => ?_
  try walk_at "rd2"
  refine ⟨false, l, _, _, _, rfl, rfl, SqB.lst (s02 _ _ hl), rfl, ?_⟩
  try walk_at "rd2"
  refine ⟨false, ll, _, _, _, rfl, rfl, SqB.lst el, rfl, ?_⟩
  try walk_at "rd2"
  refine ⟨p0, q0, M0, N0, z0.1, y0.1, z0.2, y0.2, d, rfl, D0, d0, f0, g0, by omega, by omega, fun r0 H3 s3' hr0 => ?_⟩
  have t0 := Lt.mul hd (l0.lt.up (Nat.le_refl A) (show B ≤ B + L by omega)) k0 (by omega)
  have t0e := behind_dA hd l0.sq k0.sq l0.good k0.good
  subst e1
  refine st fun N1 e1 => for_st fun B0 eB => ?_
  simp only [iSeq]
  try walk_at "rd2"
  have s03 := s02.trans s3'
  refine ⟨false, a, _, rfl, s03.seq hS, (fun z => by cases z), fun sl hsl => ?_⟩
  rw [cut_8_28]
  have s4 : Same H3 (upd H3 sl (seqO false ((cut20 ns).map V.int))) := Same.new hsl
  have es : (upd H3 sl (seqO false ((cut20 ns).map V.int))) sl = some (.lst ((cut20 ns).map V.int)) := upd_same
  generalize upd H3 sl (seqO false ((cut20 ns).map V.int)) = H4 at s4 es
  have hc20 : (cut20 ns).length ≤ 20 := by unfold cut20; rw [List.length_take]; omega
  generalize cut20 ns = cs at *
  refine ⟨false, sl, rfl, ⟨_, SqB.lst es⟩, ?_⟩
  refine fr_seq (g := gName 4) (tb := B0) (fun i σ H5 => ∃ (r : Addr) (M : List (List Int)) (z : Pl) (v4 : Option V), σ = [some (.ref l), some (.ref a), some (.ref ll), some (.ref r), v4] ∧ Same H4 H5 ∧ DeedAt K H5 r M z.1 z.2 ∧ Lt d Ee ((2 + i) * L) (B + (2 + i) * L) M z ∧ dA M z = wordA (cs.take i) (dA M0 z0) (dA M1 z1) (dA N0 y0) (dA Nn y1))
   ⟨r0, _, redP (y0.2 * z0.2) (movT N0 y0.1 y0.2 z0.1 z0.2), none, rfl, Same.refl _, hr0.up s4, t0.up (by omega) (by omega), by rw [t0e]; rfl⟩ (fun i σ H5 _ ⟨_, _, _, _, _, e, _⟩ => SqB.lst (e _ _ es)) ?_ ?_
  ·rintro i v σ H5 hi ⟨r, M, z, v4, rfl, s5, hr5, lt5, e5⟩
   obtain ⟨c, ec, rfl⟩ := ints_at hi
   have hi20 : i < 20 := by have := (List.getElem?_eq_some_iff.mp ec).1; omega
   obtain ⟨q, N, y, ea, dq, lq, eq⟩ := lb c
   have s25 := (s3'.trans s4).trans s5
   have x1 : (2 + i) * L ≤ 22 * L := Nat.mul_le_mul_right _ (by omega)
   have x2 : (2 + (i + 1)) * L = (2 + i) * L + L := by rw [← Nat.add_assoc, Nat.add_mul _ 1, Nat.one_mul]
   have x3 : L ≤ (2 + i) * L := Nat.le_mul_of_pos_left _ (by omega)
   have hLb : L ≤ 408 := by omega
   have F1 := lt5.fine pE leE (by omega) (by omega) (by omega)
   have F2 := lq.fine pE leE (by omega) (by omega) (by omega)
   subst eB
   try walk_at "rd2"
   refine ⟨by decide, ?_⟩
   refine ⟨false, ll, _, _, _, rfl, rfl, SqB.lst (s25 _ _ el), ea, ?_⟩
   try walk_at "rd2"
   refine ⟨r, q, M, N, z.1, y.1, z.2, y.2, d, rfl, hr5, dq.up s25, F1, F2, by omega, by omega, fun r6 H6 s6 hr6 => ?_⟩
   have t6 := Lt.mul hd lt5 lq (by omega)
   have t6e := behind_dA hd lt5.sq lq.sq lt5.good lq.good
   refine ⟨r6, rfl, s5.trans s6, _, redP (y.2 * z.2) (movT N y.1 y.2 z.1 z.2), hr6, t6.up (by omega) (by omega), ?_⟩
   rw [t6e, take_snoc ec, wordA_snoc, eq, e5]
  ·rintro σ H5 ⟨r, M, z, v4, rfl, s5, hr5, lt5, e5⟩
   rw [List.length_map, List.take_length] at e5
   rw [List.length_map] at lt5
   have x1 : (2 + cs.length) * L ≤ 22 * L := Nat.mul_le_mul_right _ (by omega)
   subst e1
   try walk_at "rd2"
   exact hQ r H5 M z (dA N0 y0) (dA Nn y1) ((s03.trans s4).trans s5) hr5 lt5.sq lt5.good (lt5.bm.le x1) (fun i => (lt5.fit i).up (by omega)) w0 w1 e5

theorem mul_in {d : Nat} {A B : Aff} (ha : InA d A) (hb : InA d B) : InA d (A.mul B) := by
 refine ⟨fun i k o => ?_, fun i k o => ?_, fun i o => ?_⟩
 ·show (s3 fun j => A.m i j * B.m j k) = 0
  simp only [ha.r i _ o]
  unfold s3; grind
 ·show (s3 fun j => A.m i j * B.m j k) = 0
  simp only [hb.c _ k o]
  unfold s3; grind
 ·show (s3 fun j => A.m i j * B.s j) + A.s i = 0
  simp only [ha.r i _ o, ha.s i o]
  unfold s3; grind
theorem cj_mul {A g h g' h' : Aff} (e : A.mul h = g.mul A) (e' : A.mul h' = g'.mul A) : A.mul (h'.mul h) = (g'.mul g).mul A := by
 rw [← mul_assocA, e', mul_assocA, e, ← mul_assocA]
theorem cj_undo {d : Nat} {A g h bg bh : Aff} (hd : d ≤ 3) (hA : InA d A) (e : A.mul h = g.mul A) (ug : Undo d g bg) (uh : Undo d h bh) : A.mul bh = bg.mul A := by
 have e1 : bg.mul ((g.mul A).mul bh) = bg.mul ((A.mul h).mul bh) := by rw [e]
 rw [mul_assocA, ← mul_assocA bg g, ug.l, one_mulA hd (mul_in hA uh.i), mul_assocA, uh.r, mul_oneA hd hA] at e1
 exact e1
theorem cj_lett {A g0 g1 c0 c1 h0 h1 e0 e1 : Aff} (k0 : A.mul h0 = g0.mul A) (k1 : A.mul h1 = g1.mul A) (l0 : A.mul e0 = c0.mul A) (l1 : A.mul e1 = c1.mul A) (c : Int) : A.mul (lett h0 h1 e0 e1 c) = (lett g0 g1 c0 c1 c).mul A := by
 unfold lett
 split <;> assumption
theorem cj_word {A g0 g1 c0 c1 h0 h1 e0 e1 : Aff} (k0 : A.mul h0 = g0.mul A) (k1 : A.mul h1 = g1.mul A) (l0 : A.mul e0 = c0.mul A) (l1 : A.mul e1 = c1.mul A) (cs : List Int) : A.mul (wordA cs h0 h1 e0 e1) = (wordA cs g0 g1 c0 c1).mul A := by
 have key : ∀ (cs : List Int) (T S : Aff), A.mul T = S.mul A → A.mul (cs.foldl (fun T c => (lett h0 h1 e0 e1 c).mul T) T) = (cs.foldl (fun T c => (lett g0 g1 c0 c1 c).mul T) S).mul A := by
  intro cs
  induction cs with
  | nil => intro T S e; exact e
  | cons c r ih => intro T S e; exact ih _ _ (cj_mul e (cj_lett k0 k1 l0 l1 c))
 exact key cs _ _ (cj_mul k0 l0)
theorem cancelA {d : Nat} {A b X Y : Aff} (hd : d ≤ 3) (u : Undo d A b) (hX : InA d X) (hY : InA d Y) (e : A.mul X = A.mul Y) : X = Y := by
 have : b.mul (A.mul X) = b.mul (A.mul Y) := by rw [e]
 rw [← mul_assocA, ← mul_assocA, u.l, one_mulA hd hX, one_mulA hd hY] at this
 exact this
theorem tm_inj {d : Nat} {M N : List (List Int)} (sM : Sq d M) (sN : Sq d N) (e : tm M 1 = tm N 1) : M = N := by
 refine List.ext_getElem (by rw [sM.1, sN.1]) fun i h1 h2 => ?_
 have l1 := sM.2 _ (List.getElem_mem h1)
 have l2 := sN.2 _ (List.getElem_mem h2)
 refine List.ext_getElem (by rw [l1, l2]) fun k k1 k2 => ?_
 have := congrFun (congrFun e i) k
 unfold tm at this
 rw [cast_one] at this
 have a1 : (M.getD i []).getD k 0 = M[i][k] := by simp [h1, k1]
 have a2 : (N.getD i []).getD k 0 = N[i][k] := by simp [h2, k2]
 rw [a1, a2] at this
 refine Rat.intCast_inj.mp ?_
 generalize ((M[i][k] : Int) : Rat) = x at *
 generalize ((N[i][k] : Int) : Rat) = y at *
 grind
theorem dA_inj {d : Nat} {M N : List (List Int)} {z x : Pl} (sM : Sq d M) (sN : Sq d N) (gz : GoodP d z) (gx : GoodP d x) (e : dA M z = dA N x) : M = N ∧ z = x :=
 ⟨tm_inj sM sN (congrArg Aff.m e), place_ext gz gx fun i _ => congrFun (congrArg Aff.s e) i⟩
theorem tm_scale {L : List (List Int)} {u : Int} (hu : u ≠ 0) (i k : Nat) : tm L u i k * (u : Rat) = tm L 1 i k := by
 unfold tm
 have := cast_ne hu
 rw [cast_one]
 generalize (((L.getD i []).getD k 0 : Int) : Rat) = a
 generalize (u : Rat) = b at *
 grind
theorem base_mx {L : List (List Int)} {X Y : Nat → Nat → Rat} {u : Int} (hu : u ≠ 0) : mm (tm L u) Y = mm X (tm L u) ↔ mm (tm L 1) Y = mm X (tm L 1) := by
 have hu' := cast_ne hu
 have e1 : ∀ i k, mm (tm L 1) Y i k = mm (tm L u) Y i k * (u : Rat) := fun i k => by
  show tm L 1 i 0 * Y 0 k + tm L 1 i 1 * Y 1 k + tm L 1 i 2 * Y 2 k = (tm L u i 0 * Y 0 k + tm L u i 1 * Y 1 k + tm L u i 2 * Y 2 k) * _
  rw [← tm_scale hu i 0, ← tm_scale hu i 1, ← tm_scale hu i 2]
  grind
 have e2 : ∀ i k, mm X (tm L 1) i k = mm X (tm L u) i k * (u : Rat) := fun i k => by
  show X i 0 * tm L 1 0 k + X i 1 * tm L 1 1 k + X i 2 * tm L 1 2 k = (X i 0 * tm L u 0 k + X i 1 * tm L u 1 k + X i 2 * tm L u 2 k) * _
  rw [← tm_scale hu 0 k, ← tm_scale hu 1 k, ← tm_scale hu 2 k]
  grind
 constructor
 ·intro h
  funext i k
  rw [e1, e2, h]
 ·intro h
  funext i k
  have := congrFun (congrFun h i) k
  rw [e1, e2] at this
  generalize (u : Rat) = b at *
  grind
theorem base_uni {d : Nat} {M L N : List (List Int)} (hd : d = 2 ∨ d = 3) (sM : Sq d M) (sL : Sq d L) (sN : Sq d N) (nz : detM d L ≠ 0) (h : InBase M L N) (u : Uni d M) : Uni d N := by
 have iL : InA d ⟨tm L 1, fun _ => 0⟩ := ⟨fun i k o => tm_out sL (.inl o), fun i k o => tm_out sL (.inr o), fun _ _ => rfl⟩
 have iM : InA d ⟨tm M 1, fun _ => 0⟩ := ⟨fun i k o => tm_out sM (.inl o), fun i k o => tm_out sM (.inr o), fun _ _ => rfl⟩
 have iN : InA d ⟨tm N 1, fun _ => 0⟩ := ⟨fun i k o => tm_out sN (.inl o), fun i k o => tm_out sN (.inr o), fun _ _ => rfl⟩
 have e1 := dt_mul hd iL iN
 have e2 := dt_mul hd iM iL
 have e3 : dt d (mm (tm L 1) (tm N 1)) = dt d (tm L 1) * dt d (tm N 1) := e1
 have e4 : dt d (mm (tm M 1) (tm L 1)) = dt d (tm M 1) * dt d (tm L 1) := e2
 have h' : mm (tm L 1) (tm N 1) = mm (tm M 1) (tm L 1) := h
 rw [h', e4] at e3
 have d1 := det_tab (u := 1) hd sL (by decide)
 have d2 := det_tab (u := 1) hd sM (by decide)
 have d3 := det_tab (u := 1) hd sN (by decide)
 have nz' := cast_ne nz
 have p1 : ((1 : Int) : Rat) ^ d = 1 := by rw [cast_one]; rcases hd with rfl | rfl <;> grind
 rw [p1] at d1 d2 d3
 have e5 : detM d N = detM d M := by
  refine Rat.intCast_inj.mp ?_
  rw [d2, d3]
  rw [d1] at nz'
  generalize dt d (tm L 1) = x at *
  generalize dt d (tm M 1) = y at *
  generalize dt d (tm N 1) = z at *
  grind
 unfold Uni at *
 rw [e5]
 exact u
theorem fit60 {t u : Int} {B : Nat} (hu : 1 ≤ u ∧ u ≤ 6) (ht : bnd B t) : Fit 60 (B + 6) ((t : Rat) / (u : Rat)) := by
 have hb := of_bnd ht
 have p := pow_pos2 B
 have e10 : (2 : Int) ^ (B + 6) = 64 * 2 ^ B := by rw [two_pow_add]; show _ * (64 : Int) = _; grind
 have f : ∀ (c : Int), u * c = 60 → 0 ≤ c → c ≤ 60 → Fit 60 (B + 6) ((t : Rat) / (u : Rat)) := fun c hc h0 h1 => by
  have k := bd_mul hb.1 hb.2 (show -60 ≤ c by omega) h1
  refine ⟨t * c, ?_, by rw [e10]; omega, by rw [e10]; omega⟩
  have h2 := cast_ne (show u ≠ 0 by omega)
  have h3 : (u : Rat) * (c : Rat) = ((60 : Int) : Rat) := by rw [← Rat.intCast_mul, hc]
  rw [← h3, Rat.intCast_mul]
  generalize (u : Rat) = a at *
  grind
 rcases (show u = 1 ∨ u = 2 ∨ u = 3 ∨ u = 4 ∨ u = 5 ∨ u = 6 by omega) with rfl | rfl | rfl | rfl | rfl | rfl
 ·exact f 60 (by decide) (by decide) (by decide)
 ·exact f 30 (by decide) (by decide) (by decide)
 ·exact f 20 (by decide) (by decide) (by decide)
 ·exact f 15 (by decide) (by decide) (by decide)
 ·exact f 12 (by decide) (by decide) (by decide)
 ·exact f 10 (by decide) (by decide) (by decide)
theorem spot_fit {d : Nat} {x : Pl} (g : GoodP d x) (h : ∀ t ∈ x.1, bnd 200 t) (h6 : x.2 ≤ 6) (i : Nat) : Fit 60 206 (val x i) := by
 refine fit60 (B := 200) ⟨by have := g.pos; omega, h6⟩ ?_
 by_cases hi : i < x.1.length
 ·exact h _ (L2.getD_mem hi)
 ·rw [List.getD_eq_getElem?_getD, List.getElem?_eq_none (by omega)]
  exact Nat.two_pow_pos 200
noncomputable def colP (d : Nat) (L : List (List Int)) (u : Int) : List Pl := (List.range d).map fun k => redP u (colI k L)
theorem col_good {d : Nat} {L : List (List Int)} {u : Int} {x : Pl} (sL : Sq d L) (hu : u ≠ 0) (gx : GoodP d x) : GoodC d (colP d L u, x) := ⟨by simp [colP], fun y hy => by
 obtain ⟨k, _, rfl⟩ := List.mem_map.mp hy
 exact redP_good hu (by simp [colI, sL.1]), gx⟩
theorem col_mx {d : Nat} {L : List (List Int)} {u : Int} {x : Pl} (sL : Sq d L) (hu : u ≠ 0) : mx (colP d L u, x) = tm L u := by
 funext i k
 by_cases o : d ≤ i ∨ d ≤ k
 ·rw [tm_out sL o]
  unfold mx
  by_cases hk : k < d
  ·have e : (colP d L u).getD k ([], 1) = redP u (colI k L) := by simp [colP, hk]
   show val ((colP d L u).getD k ([], 1)) i = 0
   rw [e]
   refine val_out ?_
   simp [redP, redT, colI, sL.1]
   omega
  ·show val ((colP d L u).getD k ([], 1)) i = 0
   rw [List.getD_eq_getElem?_getD, List.getElem?_eq_none (by simp [colP]; omega)]
   exact val_out (by simp)
 ·have hk : k < d := by omega
  have hi : i < L.length := by rw [sL.1]; omega
  have e : (colP d L u).getD k ([], 1) = redP u (colI k L) := by simp [colP, hk]
  show val ((colP d L u).getD k ([], 1)) i = _
  rw [e, redP_val hu]
  unfold tm
  have : (colI k L).getD i 0 = (L.getD i []).getD k 0 := by simp [colI, hi]
  rw [this]
theorem col_fit {d : Nat} {L : List (List Int)} {u : Int} {x : Pl} (sL : Sq d L) (bL : BitsM 52 L) (hu : 1 ≤ u ∧ u ≤ 6) (gx : GoodP d x) (bx : ∀ t ∈ x.1, bnd 200 t) (h6 : x.2 ≤ 6) : FitA 60 210 (aff (colP d L u, x)) := by
 refine ⟨by decide, by decide +kernel, fun i k => ?_, fun i => (spot_fit gx bx h6 i).up (by decide)⟩
 show Fit 60 210 (mx (colP d L u, x) i k)
 rw [col_mx sL (by omega)]
 exact (fit60 (B := 52) hu (ent_bits sL bL i k)).up (by decide)
theorem col_undo {d : Nat} {L : List (List Int)} {u : Int} {x : Pl} (hd : d = 2 ∨ d = 3) (sL : Sq d L) (hu : u ≠ 0) (nz : detM d L ≠ 0) (gx : GoodP d x) :
  Undo d (aff (colP d L u, x)) ⟨tm ((crsM d L).map fun r => r.map (u * ·)) (detM d L), fun i => - s3 fun j => tm ((crsM d L).map fun r => r.map (u * ·)) (detM d L) i j * val x j⟩ := by
 have sW : Sq d ((crsM d L).map fun r => r.map (u * ·)) := sq_map crs_sq'
 obtain ⟨i1, i2⟩ := inv_tab hd sL hu nz
 refine undo_of (by omega) (col_good sL hu gx).inA ⟨fun i k o => tm_out sW (.inl o), fun i k o => tm_out sW (.inr o), fun i o => ?_⟩ ?_ ?_ fun i => rfl
 ·show (- s3 fun j => tm ((crsM d L).map fun r => r.map (u * ·)) (detM d L) i j * val x j) = 0
  have : ∀ j, tm ((crsM d L).map fun r => r.map (u * ·)) (detM d L) i j = 0 := fun j => tm_out sW (.inl o)
  simp only [this]
  unfold s3; grind
 ·show mm (mx (colP d L u, x)) _ = _
  rw [col_mx sL hu]; exact i1
 ·show mm _ (mx (colP d L u, x)) = _
  rw [col_mx sL hu]; exact i2
theorem Fit.sub {E : Int} {B : Nat} {p q : Rat} (h : Fit E B p) (h' : Fit E B q) : Fit E (B + 1) (p - q) := by
 obtain ⟨z, e, l, r⟩ := h
 obtain ⟨z', e', l', r'⟩ := h'
 have : (2 : Int) ^ (B + 1) = 2 * 2 ^ B := by rw [two_pow_add]; show _ * (2 : Int) = _; grind
 refine ⟨z - z', ?_, by omega, by omega⟩
 rw [Rat.intCast_sub, ← e, ← e']
 grind
theorem new_fit {d : Nat} {L M : List (List Int)} {u : Int} {x z z' : Pl} (hd : d = 2 ∨ d = 3) (sL : Sq d L) (bL : BitsM 52 L) (hu : 1 ≤ u ∧ u ≤ 6) (nz : detM d L ≠ 0) (gx : GoodP d x) (bx : ∀ t ∈ x.1, bnd 200 t) (h6 : x.2 ≤ 6) (sM : Sq d M) (bM : BitsM 13 M) (gz : GoodP d z) (bz : ∀ t ∈ z.1, bnd 200 t) (z6 : z.2 ≤ 6) (gz' : GoodP d z')
  (h : (aff (colP d L u, x)).app (val z') = (dA M z).app (val x)) (i : Nat) : Fit (((detM d L).natAbs : Int) * 60) 340 (val z' i) := by
 have un := col_undo hd sL (show u ≠ 0 by omega) nz gx
 have e1 : val z' i = s3 fun j => tm ((crsM d L).map fun r => r.map (u * ·)) (detM d L) i j * ((dA M z).app (val x) j - val x j) := by
  have e2 := congrFun (congrArg (Aff.app ⟨tm ((crsM d L).map fun r => r.map (u * ·)) (detM d L), fun i => - s3 fun j => tm ((crsM d L).map fun r => r.map (u * ·)) (detM d L) i j * val x j⟩) h) i
  rw [← app_mul, un.l, app_one (by omega) fun i o => val_out (by rw [gz'.len]; exact o)] at e2
  refine e2.trans ?_
  show (s3 fun j => _ * _) + (- s3 fun j => _) = _
  unfold s3
  grind
 have fW : ∀ j, Fit ((detM d L).natAbs : Int) 112 (tm ((crsM d L).map fun r => r.map (u * ·)) (detM d L) i j) := fun j => by
  have b1 : bnd 109 (((crsM d L).getD i []).getD j 0) := ent_bits crs_sq' (crs_bits' hd sL bL) i j
  have b2 : bnd 3 u := by unfold bnd; omega
  have b3 := of_bnd ((b2.mul b1).up (show 3 + 109 ≤ 112 by decide))
  have hz' := cast_ne nz
  unfold tm
  rw [getD_mm]
  generalize u * ((crsM d L).getD i []).getD j 0 = t at *
  rcases Int.lt_or_le (detM d L) 0 with l | l
  ·refine ⟨-t, ?_, by omega, by omega⟩
   have : (((detM d L).natAbs : Int)) = -detM d L := by omega
   rw [this, Rat.intCast_neg, Rat.intCast_neg]
   generalize (t : Rat) = a
   generalize ((detM d L : Int) : Rat) = b at *
   grind
  ·refine ⟨t, ?_, b3.1, b3.2⟩
   have : (((detM d L).natAbs : Int)) = detM d L := by omega
   rw [this]
   generalize (t : Rat) = a
   generalize ((detM d L : Int) : Rat) = b at *
   grind
 have fX : ∀ j, Fit 60 223 ((dA M z).app (val x) j - val x j) := fun j => by
  have f1 := app_fit (C := 206) sM bM (spot_fit gz bz z6) (spot_fit gx bx h6) (by decide) j
  exact Fit.sub (B := 222) f1 ((spot_fit gx bx h6 j).up (by decide))
 obtain ⟨y, ey, ly, uy⟩ := fit_sum (a := fun j => tm ((crsM d L).map fun r => r.map (u * ·)) (detM d L) i j) (b := fun j => (dA M z).app (val x) j - val x j) fW fX
 have e3 : (2 : Int) ^ 340 = 32 * (2 ^ 112 * 2 ^ 223) := by decide +kernel
 have p := Int.mul_pos (pow_pos2 112) (pow_pos2 223)
 refine ⟨y, ?_, by rw [e3]; omega, by rw [e3]; omega⟩
 rw [e1]
 exact ey
theorem lett_rows {d : Nat} {g0 g1 b0 b1 : Aff} (h0 : ∃ N, Sq d N ∧ tm N 1 = g0.m) (h1 : ∃ N, Sq d N ∧ tm N 1 = g1.m) (k0 : ∃ N, Sq d N ∧ tm N 1 = b0.m) (k1 : ∃ N, Sq d N ∧ tm N 1 = b1.m) (c : Int) : ∃ N, Sq d N ∧ tm N 1 = (lett g0 g1 b0 b1 c).m := by
 unfold lett
 split <;> assumption
theorem mul_rows {d : Nat} {g h : Aff} (hd : d = 2 ∨ d = 3) (h0 : ∃ N, Sq d N ∧ tm N 1 = g.m) (h1 : ∃ N, Sq d N ∧ tm N 1 = h.m) : ∃ N, Sq d N ∧ tm N 1 = (g.mul h).m := by
 obtain ⟨N, sN, eN⟩ := h0
 obtain ⟨M, sM, eM⟩ := h1
 refine ⟨mulM d N M, mul_sq sN, ?_⟩
 have e := tm_mul (u := 1) (v := 1) hd sN sM (by decide) (by decide)
 have e2 : tm (mulM d N M) 1 = mm (tm N 1) (tm M 1) := e
 rw [e2, eN, eM]
 rfl
theorem word_rows {d : Nat} {g0 g1 b0 b1 : Aff} (hd : d = 2 ∨ d = 3) (h0 : ∃ N, Sq d N ∧ tm N 1 = g0.m) (h1 : ∃ N, Sq d N ∧ tm N 1 = g1.m) (k0 : ∃ N, Sq d N ∧ tm N 1 = b0.m) (k1 : ∃ N, Sq d N ∧ tm N 1 = b1.m) (cs : List Int) : ∃ N, Sq d N ∧ tm N 1 = (wordA cs g0 g1 b0 b1).m := by
 have key : ∀ (cs : List Int) (T : Aff), (∃ N, Sq d N ∧ tm N 1 = T.m) → ∃ N, Sq d N ∧ tm N 1 = (cs.foldl (fun T c => (lett g0 g1 b0 b1 c).mul T) T).m := by
  intro cs
  induction cs with
  | nil => intro T e; exact e
  | cons c r ih => intro T e; exact ih _ (mul_rows hd (lett_rows h0 h1 k0 k1 c) e)
 exact key cs _ (mul_rows hd k0 h0)

structure Pair (K : PySem.W.Frag) (H : Hp) (d : Nat) (A : Aff) (E : Int) (p q : Addr) (M : List (List Int)) (z : Pl) (N : List (List Int)) (x : Pl) : Prop where
 dp : DeedAt K H p M z.1 z.2
 dq : DeedAt K H q N x.1 x.2
 lp : Ltr d 60 13 207 M z
 lq : Ltr d E 200 340 N x
 cj : A.mul (dA N x) = (dA M z).mul A
theorem Pair.up {H H' : Hp} {d : Nat} {A : Aff} {E : Int} {p q : Addr} {M N : List (List Int)} {z x : Pl} (h : Pair K H d A E p q M z N x) (s : Same H H') : Pair K H' d A E p q M z N x := ⟨h.dp.up s, h.dq.up s, h.lp, h.lq, h.cj⟩
theorem Pair.set {H : Hp} {d : Nat} {A : Aff} {E : Int} {p q l : Addr} {M N : List (List Int)} {z x : Pl} {ys : List V} {o : HO} (h : Pair K H d A E p q M z N x) (e : H l = some (.lst ys)) : Pair K (upd H l o) d A E p q M z N x := ⟨h.dp.set e, h.dq.set e, h.lp, h.lq, h.cj⟩
noncomputable def Pairs (K : PySem.W.Frag) (H : Hp) (d : Nat) (A : Aff) (E : Int) (ps qs : List Addr) : Prop := ps.length = qs.length ∧ ∀ (j : Nat) (p q : Addr), ps[j]? = some p → qs[j]? = some q → ∃ M z N x, Pair K H d A E p q M z N x
theorem Pairs.up {H H' : Hp} {d : Nat} {A : Aff} {E : Int} {ps qs : List Addr} (h : Pairs K H d A E ps qs) (s : Same H H') : Pairs K H' d A E ps qs := ⟨h.1, fun j p q e1 e2 => let ⟨M, z, N, x, k⟩ := h.2 j p q e1 e2; ⟨M, z, N, x, k.up s⟩⟩
theorem Pairs.set {H : Hp} {d : Nat} {A : Aff} {E : Int} {ps qs : List Addr} {l : Addr} {ys : List V} {o : HO} (h : Pairs K H d A E ps qs) (e : H l = some (.lst ys)) : Pairs K (upd H l o) d A E ps qs := ⟨h.1, fun j p q e1 e2 => let ⟨M, z, N, x, k⟩ := h.2 j p q e1 e2; ⟨M, z, N, x, k.set e⟩⟩
theorem Pairs.snoc {H : Hp} {d : Nat} {A : Aff} {E : Int} {ps qs : List Addr} {p q : Addr} {M N : List (List Int)} {z x : Pl} (h : Pairs K H d A E ps qs) (k : Pair K H d A E p q M z N x) : Pairs K H d A E (ps ++ [p]) (qs ++ [q]) := by
 refine ⟨by simp [h.1], fun j p' q' e1 e2 => ?_⟩
 by_cases hj : j < ps.length
 ·rw [List.getElem?_append_left hj] at e1
  rw [List.getElem?_append_left (by rw [← h.1]; exact hj)] at e2
  exact h.2 j p' q' e1 e2
 ·have hj2 : j = ps.length := by
   have := (List.getElem?_eq_some_iff.mp e1).1
   simp at this
   omega
  subst hj2
  rw [List.getElem?_append_right (Nat.le_refl _)] at e1
  rw [List.getElem?_append_right (by rw [← h.1]; exact Nat.le_refl _), ← h.1] at e2
  simp at e1 e2
  subst e1 e2
  exact ⟨M, z, N, x, k⟩
theorem bits_cell {ns : List Int} (h : ∀ m ∈ ns, Builtin.Int.intBits m ≤ 1048576) (k : Nat) : Builtin.Int.intBits (ns.getD k 0) ≤ 1048576 := by
 by_cases hk : k < ns.length
 ·exact h _ (L2.getD_mem hk)
 ·rw [List.getD_eq_getElem?_getD, List.getElem?_eq_none (by omega)]
  exact intBits_le_iff.mpr (Nat.two_pow_pos _)
theorem ok_law (T : Txt K mg t) : FnOk P w K mg base CX0 11 t.a_law t.d_law ["_law_script"] (spLaw K) := by
 have G_law_cell : FnOk P w K mg base CX0 1 t.a_law_cell t.d_law_cell ["_law_script", "_law_k"] (sp_law_cell K) := ok_law_cell T
 have G_law_columns : FnOk P w K mg base CX0 3 t.a_law_columns t.d_law_columns ["_law_script", "_law_d"] (sp_law_columns K) := ok_law_columns T
 have G_law_spot : FnOk P w K mg base CX0 3 t.a_law_spot t.d_law_spot ["_law_cell_here", "_law_d", "_law_most"] (sp_law_spot K) := ok_law_spot T
 have G_law_lowest : FnOk P w K mg base CX0 2 t.a_law_lowest t.d_law_lowest ["_law_tops", "_law_under"] (sp_law_lowest K) := ok_law_lowest T
 have G_change : FnOk P w K mg base (CX1 P w) 6 t.a_change t.d_change ["vectors", "spot"] (sp_changeX K t.a_NoChange) := ok_change T
 have G_law_rows : FnOk P w K mg base CX0 2 t.a_law_rows t.d_law_rows ["_law_cell_here", "_law_d", "_law_most"] (sp_law_rows K) := ok_law_rows T
 have G_deed : FnOk P w K mg base (CX1 P w) 6 t.a_deed t.d_deed ["rows", "tops", "under"] (sp_deed K t.a_NoDeed) := ok_deed T
 have G_law_new_rows : FnOk P w K mg base CX0 3 t.a_law_new_rows t.d_law_new_rows ["_law_rows_here", "_law_columns_here"] (sp_law_new_rows K) := ok_law_new_rows T
 have G_law_asked : FnOk P w K mg base CX0 10 t.a_law_asked t.d_law_asked ["_law_one", "_law_way"] (sp_law_asked K) := ok_law_asked T
 have G_law_right : FnOk P w K mg base CX0 4 t.a_law_right t.d_law_right ["_law_found", "_law_one", "_law_columns_here", "_law_under", "_law_spot_here", "_law_due"] (sp_law_right K) := ok_law_right T
 have G_law_word : FnOk P w K mg base CX0 9 t.a_law_word t.d_law_word ["_law_some", "_law_script"] (sp_law_word K) := ok_law_word T
 have G_new_deed : FnOk P w K mg base (CX1 P w) 9 t.a_new_deed t.d_new_deed ["one", "way"] (sp_new_deed K t.a_NotKept) := ok_new_deed T
 refine T.F_law.ok sc_law (fun vs H Q E h => ?_) (fun cdv A outer s H vs Q E hr h => ?_)
 ·obtain ⟨a, ns, rfl, _⟩ := h
  rfl
 ·obtain ⟨a, ns, rfl, hS, hlen, hbits, hQ⟩ := h
  have hu := hr.units
  refine ⟨_, (pss_cons (ps_set (i := 1) sc_law.nd rfl (Or.inl rfl) (pe_op op_add pe_int (pe_op op_modN (pe_call G_law_cell (hr.mono (by omega)) rfl T.m_law_cell T.F_law_cell.kp T.b_law_cell .nil pass0 (pa_cons (pv 0) (pa_cons pe_int pa_nil))) pe_int)))
   (pss_cons (ps_asg (pe_call G_law_columns (hr.mono (by omega)) rfl T.m_law_columns T.F_law_columns.kp T.b_law_columns .nil pass0 (pa_cons (pv 0) (pa_cons (pv 1) pa_nil))) (pg_tup rfl (pgs_cons (pg_name (i := 2) sc_law.nd rfl (Or.inr rfl)) (pgs_cons (pg_name (i := 3) sc_law.nd rfl (Or.inr rfl)) pgs_nil))))
   (pss_cons (ps_set (i := 4) sc_law.nd rfl (Or.inl rfl) (pe_call G_law_spot (hr.mono (by omega)) rfl T.m_law_spot T.F_law_spot.kp T.b_law_spot .nil pass0 (pa_cons (pe_call G_law_cell (hr.mono (by omega)) rfl T.m_law_cell T.F_law_cell.kp T.b_law_cell .nil pass0 (pa_cons (pv 0) (pa_cons pe_int pa_nil))) (pa_cons (pv 1) (pa_cons pe_int pa_nil)))))
   (pss_cons (ps_set (i := 5) sc_law.nd rfl (Or.inl rfl) (pe_call G_change (hr.mono (by omega)) rfl T.m_change T.F_change.kp T.b_change .nil passes1 (pa_cons (pe_compG (xs := ["_law_k"]) (fr := [("_law_columns_here", 2), ("_law_under", 3)]) (g := (gName 0)) (tt := (tEl (tCall (sp_law_lowest K) [] E0 (tCons (tCompG (iSeq K (tVar 1)) (gName 0) (tEl (tOp (rIxB K) (tVar 0) (tVar 1))) 1 [("_law_k", 0)]) (tCons (tVar 2) tNil))))) (compG_ok (sc := defScope s_law) (N := N_law) rfl rfl (by decide +kernel)) rfl (pi_range1 rfl T.z_range (pa_cons (pv 1) pa_nil)) (fun _ _ _ hE1 => (pg_ownC (N := ["_law_k", "_law_columns_here", "_law_under"]) (i := 0) hE1 rfl (by decide +kernel) rfl)) (fun _ _ _ hE1 => (po_el (pe_call G_law_lowest (hr.mono (by omega)) rfl T.m_law_lowest T.F_law_lowest.kp T.b_law_lowest .nil pass0 (pa_cons (pe_compG (xs := ["_law_row"]) (fr := [("_law_k", 0)]) (g := (gName 0)) (tt := (tEl (tOp (rIxB K) (tVar 0) (tVar 1)))) (compG_ok (N := ["_law_k", "_law_columns_here", "_law_under"]) hE1 rfl (by decide +kernel)) rfl (pi_seq (pv 1)) (fun _ _ _ hE2 => (pg_own (N := ["_law_row", "_law_k"]) (i := 0) hE2 rfl (by decide +kernel))) (fun _ _ _ hE2 => (po_el (pe_ix ix_B (pv 0) (pv 1) (fun _ _ => rfl))))) (pa_cons (pv 2) pa_nil)))))) (pa_cons (pv 4) pa_nil))))
   (pss_cons (ps_set (i := 6) sc_law.nd rfl (Or.inl rfl) (pe_lst pa_nil))
   (pss_cons (ps_set (i := 7) sc_law.nd rfl (Or.inl rfl) (pe_lst pa_nil))
   (pss_cons (ps_for PassesOwn.never rfl (pi_range1 rfl T.z_range (pa_cons pe_int pa_nil)) (pg_name (i := 8) sc_law.nd rfl (Or.inl rfl))
   (pss_cons (ps_set (i := 9) sc_law.nd rfl (Or.inl rfl) (pe_call G_law_rows (hr.mono (by omega)) rfl T.m_law_rows T.F_law_rows.kp T.b_law_rows .nil pass0 (pa_cons (pe_call G_law_cell (hr.mono (by omega)) rfl T.m_law_cell T.F_law_cell.kp T.b_law_cell .nil pass0 (pa_cons (pv 0) (pa_cons (pe_op op_add pe_int (pe_op op_mulB pe_int (pv 8))) pa_nil))) (pa_cons (pv 1) (pa_cons pe_int pa_nil)))))
   (pss_cons (ps_asg (pe_call G_law_spot (hr.mono (by omega)) rfl T.m_law_spot T.F_law_spot.kp T.b_law_spot .nil pass0 (pa_cons (pe_call G_law_cell (hr.mono (by omega)) rfl T.m_law_cell T.F_law_cell.kp T.b_law_cell .nil pass0 (pa_cons (pv 0) (pa_cons (pe_op op_add pe_int (pe_op op_mulB pe_int (pv 8))) pa_nil))) (pa_cons (pv 1) (pa_cons pe_int pa_nil)))) (pg_tup rfl (pgs_cons (pg_name (i := 10) sc_law.nd rfl (Or.inl rfl)) (pgs_cons (pg_name (i := 11) sc_law.nd rfl (Or.inl rfl)) pgs_nil))))
   (pss_cons (ps_set (i := 12) sc_law.nd rfl (Or.inl rfl) (pe_call G_deed (hr.mono (by omega)) rfl T.m_deed T.F_deed.kp T.b_deed .nil passes1 (pa_cons (pv 9) (pa_cons (pv 10) (pa_cons (pv 11) pa_nil)))))
   (pss_cons (ps_set (i := 13) sc_law.nd rfl (Or.inl rfl) (pe_call G_law_new_rows (hr.mono (by omega)) rfl T.m_law_new_rows T.F_law_new_rows.kp T.b_law_new_rows .nil pass0 (pa_cons (pv 9) (pa_cons (pv 2) pa_nil))))
   (pss_cons (ps_asg (pe_call G_law_asked (hr.mono (by omega)) rfl T.m_law_asked T.F_law_asked.kp T.b_law_asked .nil pass0 (pa_cons (pv 12) (pa_cons (pv 5) pa_nil))) (pg_tup rfl (pgs_cons (pg_name (i := 14) sc_law.nd rfl (Or.inl rfl)) (pgs_cons (pg_name (i := 15) sc_law.nd rfl (Or.inl rfl)) pgs_nil))))
   (pss_cons (ps_if (pt_cmpR op_ne (pv 14) (pe_ix ix_B (pe_lst (pa_cons pe_str (pa_cons pe_str pa_nil))) (pe_callTy call_int1 rfl T.z_int (by decide +kernel) (pa_cons (pe_cmpR op_isN (pv 13) pe_non (nomark _)) pa_nil)) (fun _ _ => rfl)) (nomark _))
   (pss_one (ps_ret pe_bl))
   pss_nil)
   (pss_one (ps_if (pt_cmpR op_eq (pv 14) pe_str (nomark _))
   (pss_cons (ps_if (pt_not (pt_val (pe_call G_law_right (hr.mono (by omega)) rfl T.m_law_right T.F_law_right.kp T.b_law_right .nil pass0 (pa_cons (pv 15) (pa_cons (pv 12) (pa_cons (pv 2) (pa_cons (pv 3) (pa_cons (pv 4) (pa_cons (pv 13) pa_nil)))))))))
   (pss_one (ps_ret pe_bl))
   pss_nil)
   (pss_cons (ps_expr (pe_bm PySem.F.plainAttrs_list PySem.F.slot_list_append PySem.F.type_list_append mt_append (pv 6) (pa_cons (pv 12) pa_nil)))
   (pss_one (ps_expr (pe_bm PySem.F.plainAttrs_list PySem.F.slot_list_append PySem.F.type_list_append mt_append (pv 7) (pa_cons (pv 15) pa_nil))))))
   pss_nil)))))))))
   (pss_cons (ps_if (pt_cmpR op_lt (pe_callB call_lenB rfl T.z_len (by decide +kernel) (pa_cons (pv 6) pa_nil)) pe_int (nomark _))
   (pss_one (ps_ret pe_bl))
   pss_nil)
   (pss_one (ps_ret (pe_cmpR (op_eqD hu) (pe_call G_new_deed (hr.mono (by omega)) rfl T.m_new_deed T.F_new_deed.kp T.b_new_deed .nil passes1 (pa_cons (pe_call G_law_word (hr.mono (by omega)) rfl T.m_law_word T.F_law_word.kp T.b_law_word .nil pass0 (pa_cons (pv 6) (pa_cons (pv 0) pa_nil))) (pa_cons (pv 5) pa_nil))) (pe_call G_law_word (hr.mono (by omega)) rfl T.m_law_word T.F_law_word.kp T.b_law_word .nil pass0 (pa_cons (pv 7) (pa_cons (pv 0) pa_nil))) (nomark _)))))))))))), ?_⟩
  show tSeq _ _ _ [some (.ref a), none, none, none, none, none, none, none, none, none, none, none, none, none, none, none] H
  refine st fun N1 e1 => ?_
  walk_at "rd2"
  refine ⟨a, ns, 0, rfl, hS, by decide, ?_⟩
  try walk_at "rd2"
  refine ⟨by decide, ?_⟩
  have f2 := fms (ns.getD (0 : Int).toNat 0) 2 (by decide)
  obtain ⟨d, hde, hd⟩ : ∃ d : Nat, 2 + (ns.getD (0 : Int).toNat 0).fmod 2 = (d : Int) ∧ (d = 2 ∨ d = 3) := by
   rcases (show (ns.getD (0 : Int).toNat 0).fmod 2 = 0 ∨ (ns.getD (0 : Int).toNat 0).fmod 2 = 1 by omega) with z | z <;> rw [z]
   ·exact ⟨2, rfl, .inl rfl⟩
   ·exact ⟨3, rfl, .inr rfl⟩
  rw [hde]
  subst e1
  refine st fun N1 e1 => ?_
  try walk_at "rd2"
  refine ⟨a, ns, d, rfl, hS, hd, fun pc H1 L u s1 hCol sL bL nz bd u1 u6 => ?_⟩
  obtain ⟨rc, epc, hL⟩ := hCol
  refine ⟨pc, _, rfl, SqT.of epc, rfl, _, _, rfl, _, _, rfl, rfl, ?_⟩
  show N1 [some (.ref a), some (.int d), some (.ref rc), some (.int u), none, none, none, none, none, none, none, none, none, none, none, none] H1
  subst e1
  refine st fun N1 e1 => ?_
  try walk_at "rd2"
  refine ⟨a, ns, 2, rfl, s1.seq hS, by decide, ?_⟩
  try walk_at "rd2"
  refine ⟨_, 5, d, rfl, hd, by decide, by decide, bits_cell hbits _, fun sp H2 x s2 hx gx bx x6 => ?_⟩
  have s02 := s1.trans s2
  have hu0 : u ≠ 0 := by omega
  have gC := col_good sL hu0 gx
  have eC := col_mx (x := x) sL hu0
  have hW : Wd d 60 210 (colP d L u, x) := ⟨hd, gC, col_fit sL bL ⟨u1, u6⟩ gx bx x6, by decide⟩
  have dtL := det_tab hd sL hu0
  have hreg : dt d (mx (colP d L u, x)) ≠ 0 := by
   rw [eC]
   intro z
   rw [z] at dtL
   have := cast_ne nz
   grind
  have hund := col_undo hd sL hu0 nz gx
  have bx2 : bnd 3 x.2 := by have := gx.pos; unfold bnd; omega
  have bxP : BP 200 x := ⟨bx, bx2.up (by decide)⟩
  have x150 : x.2 < 2 ^ 150 := Int.lt_of_le_of_lt x6 (by decide +kernel)
  subst e1
  refine st fun N1 e1 => ?_
  try walk_at "rd2"
  refine compE_st fun B eB => ?_
  simp only [iRng1]
  try walk_at "rd2"
  refine ⟨by omega, by omega, fun a1 ha1 => ?_⟩
  rw [Int.toNat_natCast]
  have hL2 := hL.up s2
  refine cg_range (PlS a1 fun k z => k < d ∧ z = redP u (colI k L)) ha1 (by omega) PlS.mono ?_ ?_
  ·intro k H3 zs hk s3' ez Q' hQ'
   subst eB
   show tCall _ _ _ _ [some (.int (0 + (k : Int))), some (.ref rc), some (.int u)] H3 Q'
   try walk_at "rd2"
   refine compE_st fun C2 eC2 => ?_
   simp only [iSeq]
   try walk_at "rd2"
   obtain ⟨xs, y1, y2, y3⟩ := ((hL2.up s3').b (K := K)).walk
   refine ⟨false, ⟨_, y1⟩, fun a2 ha2 => ?_⟩
   refine cg_seq (fun j y _ => ∃ r, L[j]? = some r ∧ y = .int (r.getD k 0)) ha2 y1 (by rw [y2, sL.1]; omega) (fun _ _ _ _ r _ => r) ?_ ?_
   ·intro j v H4 zs4 ev s4 ez4 Q2 hQ2
    obtain ⟨p, r, rfl, er, hp⟩ := y3 j v ev
    have hrl := sL.2 r (List.mem_of_getElem? er)
    subst eC2
    show tOp _ _ _ [some (.ref p), some (.int (0 + (k : Int)))] H4 Q2
    try walk_at "rd2"
    exact ⟨false, p, _, _, _, rfl, rfl, hp.up s4, atI_at (int_at (getD_at (k := k) (by omega))) (by omega), hQ2 _ _ (Same.refl _) ⟨r, er, rfl⟩⟩
   ·intro H4 ys s4 e4 hly hr4
    have ey : ys = (colI k L).map V.int := by
     unfold colI
     rw [List.map_map]
     exact list_is (by rw [hly, y2]) hr4
    subst ey
    have b3 : bnd 3 u := by unfold bnd; omega
    refine ⟨false, a2, colI k L, u, rfl, SqB.lst e4, by simp [colI, sL.1]; omega, b3.up (by decide), by omega, fun p H5 s5 hp => ?_⟩
    exact hQ' _ _ (s4.trans s5) ⟨p, _, rfl, PlX.of hp (s5 _ _ (s4 _ _ ez)), hk, rfl⟩
  intro H3 ys s3' e3 hly hr3
  obtain ⟨ps, xs, rfl, hps, hlx, hxs⟩ := pls_of hr3
  have exs : xs = colP d L u := by
   refine List.ext_getElem (by rw [hlx, hly]; simp [colP]) fun i h1 h2 => ?_
   have := (hxs i xs[i] (by simp [h1])).2
   rw [this]
   simp [colP]
  subst exs
  have s03 := s02.trans s3'
  try walk_at "rd2"
  have nbad : ¬ BadCh (colP d L u) x := fun z => by
   have hlc : (colP d L u).length = d := by simp [colP]
   rcases z with z | ⟨y, hy, z⟩ | z | z
   ·rw [hlc] at z; exact z hd
   ·rw [hlc] at z; exact z (gC.vec y hy).len
   ·rw [hlc] at z; exact z gx.len
   ·rw [hlc] at z; exact (rdet hd gC).mp hreg z
  refine ⟨false, a1, sp, ps, (colP d L u, x), rfl, SqB.lst e3, hps, hx.up s3', by simp [colP]; omega, fun y hy => ?_, fun z => absurd z nbad, fun _ => ⟨by simpa [colP] using gC, bxP.up (by decide), fun rw0 H4 s4 hCh => ?_⟩⟩
  ·obtain ⟨k, hk, rfl⟩ := List.mem_map.mp hy
   have b3 : bnd 3 u := by unfold bnd; omega
   refine ⟨(red_bits (B := 60) (fun t ht => ?_) (b3.up (by decide))).up (by decide), under_pos _ hu0⟩
   obtain ⟨r, hr, rfl⟩ := List.mem_map.mp ht
   have hk' := List.mem_range.mp hk
   have : bnd 52 (r.getD k 0) := bL r hr _ (L2.getD_mem (by rw [sL.2 r hr]; exact hk'))
   exact this.up (by decide)
  have s04 := s03.trans s4
  have hS4 := s04.seq hS
  have hL4 : MatL H4 rc L := (hL2.up s3').up s4
  have hx4 : PlAt H4 sp x := (hx.up s3').up s4
  clear hps hxs hlx hr3 e3 hly
  subst e1
  refine st fun N1 e1 => ?_
  try walk_at "rd2"
  refine ⟨by show 0 ≤ sizeLine; decide, fun lS hlS => ?_⟩
  have s5 : Same H4 (upd H4 lS (.lst [])) := Same.new hlS
  have eS5 : (upd H4 lS (.lst [])) lS = some (.lst []) := upd_same
  generalize upd H4 lS (.lst []) = H5 at s5 eS5
  subst e1
  refine st fun N1 e1 => ?_
  try walk_at "rd2"
  refine ⟨by show 0 ≤ sizeLine; decide, fun lN hlN => ?_⟩
  have nSN : lS ≠ lN := ne_of_none eS5 hlN
  have hlN4 : H4 lN = none := by cases w : H4 lN with | none => rfl | some o => rw [s5 _ _ w] at hlN; cases hlN
  have s6 : Same H5 (upd H5 lN (.lst [])) := Same.new hlN
  have eN6 : (upd H5 lN (.lst [])) lN = some (.lst []) := upd_same
  have eS6 := s6 _ _ eS5
  generalize upd H5 lN (.lst []) = H6 at s6 eN6 eS6
  have s46 := s5.trans s6
  generalize hEe : ((detM d L).natAbs : Int) * 60 = Ee
  have pE : 0 < Ee := by omega
  have leE : Ee ≤ 2 ^ 100 := by
   have : (detM d L).natAbs < 2 ^ 20 := bd
   have e100 : (2 : Int) ^ 100 = 1267650600228229401496703205376 := by decide +kernel
   omega
  subst e1
  refine st fun N1 e1 => for_st fun B eB => ?_
  simp only [iRng1]
  try walk_at "rd2"
  refine ⟨by decide, by decide, ?_⟩
  refine fr_range (n := 2) (g := gName 8) (tb := B) (fun i σ H7 => ∃ (ps qs : List Addr) (v8 v9 v10 v11 v12 v13 v14 v15 : Option V), σ = [some (.ref a), some (.int d), some (.ref rc), some (.int u), some (.ref sp), some (.ref rw0), some (.ref lS), some (.ref lN), v8, v9, v10, v11, v12, v13, v14, v15] ∧ Same H4 H7 ∧ H7 lS = some (.lst (ps.map V.ref)) ∧ H7 lN = some (.lst (qs.map V.ref)) ∧ Pairs K H7 d (aff (colP d L u, x)) Ee ps qs ∧ ps.length ≤ i)
   ⟨[], [], none, none, none, none, none, none, none, none, rfl, s46, eS6, eN6, ⟨rfl, fun j p q e => by simp at e⟩, Nat.le_refl _⟩ ?_ ?_
  ·rintro i σ H7 hi ⟨ps, qs, v8, v9, v10, v11, v12, v13, v14, v15, rfl, s47, eS7, eN7, hPr, hlp⟩
   have s07 := s04.trans s47
   have hS7 := s07.seq hS
   subst eB
   show tSeq _ _ _ [some (.ref a), some (.int d), some (.ref rc), some (.int u), some (.ref sp), some (.ref rw0), some (.ref lS), some (.ref lN), some (.int (0 + (i : Int))), v9, v10, v11, v12, v13, v14, v15] H7
   refine st fun N2 e2 => ?_
   try walk_at "rd2"
   refine ⟨IntMulOk.of_left (by decide), a, ns, _, rfl, hS7, by omega, ?_⟩
   try walk_at "rd2"
   refine ⟨_, 1, d, 1, rfl, hd, .inl ⟨rfl, rfl⟩, fun rr H8 M s8 hM sM bM uM => ?_⟩
   subst e2
   refine st fun N2 e2 => ?_
   try walk_at "rd2"
   refine ⟨IntMulOk.of_left (by decide), a, ns, _, rfl, s8.seq hS7, by omega, ?_⟩
   try walk_at "rd2"
   refine ⟨_, 6, d, rfl, hd, by decide, by decide, bits_cell hbits _, fun zp H9 z s9 hz gz bz z6 => ?_⟩
   obtain ⟨tq, ez1, ez2⟩ := hz
   refine ⟨zp, _, rfl, SqT.of ez1, rfl, _, _, rfl, _, _, rfl, rfl, ?_⟩
   try walk_at "rd2"
   have pz := gz.pos
   have bzu : bnd 3 z.2 := by unfold bnd; omega
   have bzP : BP 200 z := ⟨bz, bzu.up (by decide)⟩
   have z150 : z.2 < 2 ^ 150 := Int.lt_of_le_of_lt z6 (by decide +kernel)
   have bM13 : BitsM 13 M := bM.le (by decide)
   subst e2
   refine st fun N2 e2 => ?_
   try walk_at "rd2"
   have gd : GoodDeed M z.1 z.2 := by
    refine ⟨by rw [sM.1]; exact hd, fun r hr => by rw [sM.1]; exact sM.2 r hr, by rw [sM.1]; exact gz.len, by omega, ?_⟩
    rw [sM.1]; exact uM
   refine ⟨false, false, true, rr, tq, M, z.1, z.2, 13, rfl, (hM.up s9).b, SqB.tup ez2, by rw [sM.1]; omega, by rw [gz.len]; omega, bM13, by decide, bzu.up (by decide), fun ng => absurd gd ng, fun _ q H10 s10 hD => ?_⟩
   rw [(red_good gz).1, (red_good gz).2] at hD
   have s710 := (s8.trans s9).trans s10
   have s410 := s47.trans s710
   subst e2
   refine st fun N2 e2 => ?_
   try walk_at "rd2"
   have hM10 : MatL H10 rr M := (hM.up s9).up s10
   refine ⟨false, false, rr, rc, M, L, d, rfl, hM10.b, (hL4.up s410).b, hd, sM, sL, bM13, bL, nz, bd, fun no H11 s11 => ?_, fun re H11 N s11 hN sN bN iN => ?_⟩
   ·subst e2
    refine st fun N2 e2 => ?_
    try walk_at "rd2"
    have s411 := s410.trans s11
    refine ⟨q, rw0, M, z, (colP d L u, x), d, 60, 210, rfl, hD.up s11, hCh.up s411, hW, by decide, hreg, sM, bM13.le (by decide), gz, bzP.up (by decide), z150, x150, fun _ r H12 s12 er => ?_, fun r y H12 M' z' s12 er dy sM' gz' c1 c2 => ?_⟩
    ·refine ⟨r, _, rfl, SqT.of er, rfl, _, _, rfl, _, _, rfl, rfl, ?_⟩
     try walk_at "rd2"
     have s712 := (s710.trans s11).trans s12
     subst e2
     refine st fun N2 e2 => ?_
     try walk_at "rd2"
     refine ⟨by show 2 ≤ sizeLine; decide, fun pl hpl => .inr ?_⟩
     have s13 : Same H12 (upd H12 pl (.lst [V.str "told", V.str "refused"])) := Same.new hpl
     refine ⟨false, pl, _, _, _, rfl, rfl, SqB.lst upd_same, rfl, rfl, false, by rw [decide_eq_true rfl]; rfl, iteF ?_⟩
     generalize upd H12 pl (.lst [V.str "told", V.str "refused"]) = H13 at s13
     have s713 := s712.trans s13
     subst e2
     try walk_at "rd2"
     exact ⟨rfl, false, rfl, iteF ⟨s47.trans s713, ps, s713 _ _ eS7, qs, s713 _ _ eN7, hPr.up s713, by omega⟩⟩
    ·rw [eC] at c1
     exact absurd ⟨M', sM', (base_mx hu0).mp c1⟩ no
   ·subst e2
    refine st fun N2 e2 => ?_
    try walk_at "rd2"
    have s411 := s410.trans s11
    refine ⟨q, rw0, M, z, (colP d L u, x), d, 60, 210, rfl, hD.up s11, hCh.up s411, hW, by decide, hreg, sM, bM13.le (by decide), gz, bzP.up (by decide), z150, x150, fun nw => ?_, fun r y H12 M' z' s12 er dy sM' gz' c1 c2 => ?_⟩
    ·exact absurd ⟨N, sN, by rw [eC]; exact (base_mx hu0).mpr iN⟩ nw
    ·refine ⟨r, _, rfl, SqT.of er, rfl, _, _, rfl, _, _, rfl, rfl, ?_⟩
     try walk_at "rd2"
     have s712 := (s710.trans s11).trans s12
     have c1' : InBase M L M' := by rw [eC] at c1; exact (base_mx hu0).mp c1
     have eNM : M' = N := tm_inj sM' sN (((base_iff hd sM sL sM' nz).mp c1').trans ((base_iff hd sM sL sN nz).mp iN).symm)
     subst eNM
     have lp : Ltr d 60 13 207 M z := ⟨sM, gz, uM, bM13, by decide, by decide +kernel, fun i => (spot_fit gz bz z6 i).up (by decide)⟩
     have lq : Ltr d Ee 200 340 M' z' := ⟨sM', gz', base_uni hd sM sL sM' nz c1' uM, bN, pE, leE, fun i => by rw [← hEe]; exact new_fit hd sL bL ⟨u1, u6⟩ nz gx bx x6 sM bM13 gz bz z6 gz' c2 i⟩
     have cj : (aff (colP d L u, x)).mul (dA M' z') = (dA M z).mul (aff (colP d L u, x)) := by
      show (⟨mm (mx (colP d L u, x)) (tm M' 1), (aff (colP d L u, x)).app (val z')⟩ : Aff) = ⟨mm (tm M 1) (mx (colP d L u, x)), (dA M z).app (val x)⟩
      rw [c1, c2]
     have hap : (⟨tm L u, val x⟩ : Aff).app (val z') = (dA M z).app (val x) := by
      have : (⟨tm L u, val x⟩ : Aff) = aff (colP d L u, x) := by unfold aff; rw [eC]
      rw [this]; exact c2
     obtain ⟨_, bz'⟩ := lq.lt.bits pE leE (by decide)
     have s412 := s411.trans s12
     have pr12 : Pair K H12 d (aff (colP d L u, x)) Ee q y M z M' z' := ⟨(hD.up s11).up s12, dy, lp, lq, cj⟩
     subst e2
     refine st fun N2 e2 => ?_
     try walk_at "rd2"
     have er0 : decide (V.ref re = V.non) = false := decide_eq_false (fun h => by cases h)
     refine ⟨by show 2 ≤ sizeLine; decide, fun pl hpl => .inr ?_⟩
     rw [er0]
     have s13 : Same H12 (upd H12 pl (.lst [V.str "told", V.str "refused"])) := Same.new hpl
     refine ⟨false, pl, _, _, _, rfl, rfl, SqB.lst upd_same, rfl, rfl, false, by rw [decide_eq_true rfl]; rfl, iteF ?_⟩
     generalize upd H12 pl (.lst [V.str "told", V.str "refused"]) = H13 at s13
     have s713 := s712.trans s13
     have s413 := s412.trans s13
     subst e2
     try walk_at "rd2"
     refine ⟨rfl, true, rfl, iteT ?_⟩
     refine ⟨y, q, rc, sp, re, M', M, L, z', z, x, u, d, rfl, dy.up s13, ((hD.up s11).up s12).up s13, (hL4.up s413).b, hx4.up s413, (hN.up s12).up s13, hd, sM', sM, sL, gz', gz, gx, bz'.up (by decide), bzP.up (by decide), bxP.up (by decide), bM13.le (by decide), bL.le (by decide), u1, u6, hap, fun H14 s14 => ?_⟩
     refine ⟨true, rfl, iteF ?_⟩
     have s714 := s713.trans s14
     have eS14 := s714 _ _ eS7
     have eN14 := s714 _ _ eN7
     refine ⟨.inl ⟨rfl, _, SqL.of eS14⟩, lS, _, _, rfl, rfl, eS14, small1000 (by rw [List.length_map]; omega), ?_⟩
     have e15 : ps.map V.ref ++ [V.ref q] = (ps ++ [q]).map V.ref := by simp
     rw [e15]
     have eN15 : (upd H14 lS (.lst ((ps ++ [q]).map V.ref))) lN = some (.lst (qs.map V.ref)) := by rw [upd_ne (Ne.symm nSN)]; exact eN14
     refine ⟨.inl ⟨rfl, _, SqL.of eN15⟩, lN, _, _, rfl, rfl, eN15, small1000 (by have := hPr.1; rw [List.length_map]; omega), ?_⟩
     have e16 : qs.map V.ref ++ [V.ref y] = (qs ++ [y]).map V.ref := by simp
     rw [e16]
     refine ⟨Same.over hlN4 (Same.over hlS (s413.trans s14)), ps ++ [q], ?_, qs ++ [y], upd_same, ?_, by rw [List.length_append]; show ps.length + 1 ≤ i + 1; omega⟩
     ·rw [upd_ne nSN]; exact upd_same
     ·exact (((hPr.up s714).snoc (pr12.up (s13.trans s14))).set eS14).set eN15
  ·rintro σ H7 ⟨ps, qs, v8, v9, v10, v11, v12, v13, v14, v15, rfl, s47, eS7, eN7, hPr, hlp⟩
   have s07 := s04.trans s47
   have hS7 := s07.seq hS
   subst e1
   refine st fun N1 e1 => ?_
   try walk_at "rd2"
   refine ⟨false, lS, _, rfl, SqB.lst eS7, ?_⟩
   rw [List.length_map]
   try walk_at "rd2"
   by_cases h2 : ps.length < 2
   ·rw [decide_eq_true (by omega)]
    exact iteT (hQ _)
   rw [decide_eq_false (by omega)]
   refine iteF ?_
   obtain ⟨hpl, hpr⟩ := hPr
   have hdi : d ≤ 3 := by omega
   match ps, qs, (show ps.length = 2 by omega), (show qs.length = 2 by omega) with
   | [p0, p1], [q0, q1], _, _ =>
    obtain ⟨M0, z0, N0, x0, P0⟩ := hpr 0 p0 q0 rfl rfl
    obtain ⟨M1, z1, Nb, x1, P1⟩ := hpr 1 p1 q1 rfl rfl
    have iA := gC.inA
    subst e1
    try walk_at "rd2"
    refine ⟨lS, a, p0, p1, ns, M0, M1, z0, z1, 60, d, 13, 207, rfl, eS7, hS7, hd, P0.dp, P1.dp, P0.lp, P1.lp, by decide, by decide, by decide, fun r H8 Mw zw b0 b1 s8 dr sW gW bW fW ud0 ud1 ew => ?_⟩
    have lw : Lt d 60 748 955 Mw zw := ⟨sW, gW, bW, fW⟩
    obtain ⟨zw150, bzw⟩ := lw.bits (by decide) (by decide +kernel) (by decide)
    have v0 := back_undo hd P0.lq.sq P0.lq.uni P0.lq.good
    have v1 := back_undo hd P1.lq.sq P1.lq.uni P1.lq.good
    try walk_at "rd2"
    refine ⟨r, rw0, Mw, zw, (colP d L u, x), d, 60, 210, rfl, dr, hCh.up (s47.trans s8), hW, by decide, hreg, sW, bW.le (by decide), gW, bzw.up (by decide), zw150, x150, fun nw => ?_, fun y H9 M' z' s9 dy sM' gz' c1 c2 => ?_⟩
    ·obtain ⟨N, sN, eN⟩ := word_rows hd ⟨N0, P0.lq.sq, rfl⟩ ⟨Nb, P1.lq.sq, rfl⟩ ⟨invM d N0, inv_sq, rfl⟩ ⟨invM d Nb, inv_sq, rfl⟩ (cut20 ns) (g0 := dA N0 x0) (g1 := dA Nb x1) (b0 := dA (invM d N0) (redP x0.2 (backT d N0 x0.1))) (b1 := dA (invM d Nb) (redP x1.2 (backT d Nb x1.1)))
     have cw := cj_word P0.cj P1.cj (cj_undo hdi iA P0.cj ud0 v0) (cj_undo hdi iA P1.cj ud1 v1) (cut20 ns)
     rw [← ew] at cw
     have cm := congrArg Aff.m cw
     refine absurd ⟨N, sN, ?_⟩ nw
     show mm (mx (colP d L u, x)) (tm N 1) = mm (tm Mw 1) (mx (colP d L u, x))
     rw [eN]
     exact cm
    ·try walk_at "rd2"
     refine ⟨lN, a, q0, q1, ns, N0, Nb, x0, x1, Ee, d, 200, 340, rfl, (s8.trans s9) _ _ eN7, s9.seq (s8.seq hS7), hd, (P0.dq.up s8).up s9, (P1.dq.up s8).up s9, P0.lq, P1.lq, by decide, by decide, by decide, fun r2 H10 Mv zv f0 f1 s10 dr2 sV gV bV fV w0 w1 ev => ?_⟩
     try walk_at "rd2"
     have cw := cj_word P0.cj P1.cj (cj_undo hdi iA P0.cj ud0 w0) (cj_undo hdi iA P1.cj ud1 w1) (cut20 ns)
     rw [← ew, ← ev] at cw
     have cr : (aff (colP d L u, x)).mul (dA M' z') = (dA Mw zw).mul (aff (colP d L u, x)) := by
      show (⟨mm (mx (colP d L u, x)) (tm M' 1), (aff (colP d L u, x)).app (val z')⟩ : Aff) = ⟨mm (tm Mw 1) (mx (colP d L u, x)), (dA Mw zw).app (val x)⟩
      rw [c1, c2]
     have ee := cancelA hdi hund (dA_in sM' gz') (dA_in sV gV) (cr.trans cw.symm)
     obtain ⟨ea, eb⟩ := dA_inj sM' sV gz' gV ee
     subst ea eb
     exact deed_same (dy.up s10) dr2 (hQ _)


end
theorem txt_mk {K : PySem.W.Frag} {h : Heap} {mg : Str → Option Value} (X : K.In h) (G : h.Ns mainGlobals mg)
  {f_divisor : Addr} {od_divisor an_divisor : Option Addr} {sl_divisor : Array (Option Value)} {oc_divisor kV_divisor dc_divisor pm_divisor cd_divisor ct_divisor : Value}
  {f_multiple : Addr} {od_multiple an_multiple : Option Addr} {sl_multiple : Array (Option Value)} {oc_multiple kV_multiple dc_multiple pm_multiple cd_multiple ct_multiple : Value}
  {f_place : Addr} {od_place an_place : Option Addr} {sl_place : Array (Option Value)} {oc_place kV_place dc_place pm_place cd_place ct_place : Value}
  {f_place_sum : Addr} {od_place_sum an_place_sum : Option Addr} {sl_place_sum : Array (Option Value)} {oc_place_sum kV_place_sum dc_place_sum pm_place_sum cd_place_sum ct_place_sum : Value}
  {f_opposite : Addr} {od_opposite an_opposite : Option Addr} {sl_opposite : Array (Option Value)} {oc_opposite kV_opposite dc_opposite pm_opposite cd_opposite ct_opposite : Value}
  {f_place_less : Addr} {od_place_less an_place_less : Option Addr} {sl_place_less : Array (Option Value)} {oc_place_less kV_place_less dc_place_less pm_place_less cd_place_less ct_place_less : Value}
  {f_dot : Addr} {od_dot an_dot : Option Addr} {sl_dot : Array (Option Value)} {oc_dot kV_dot dc_dot pm_dot cd_dot ct_dot : Value}
  {f_turned : Addr} {od_turned an_turned : Option Addr} {sl_turned : Array (Option Value)} {oc_turned kV_turned dc_turned pm_turned cd_turned ct_turned : Value}
  {f_times : Addr} {od_times an_times : Option Addr} {sl_times : Array (Option Value)} {oc_times kV_times dc_times pm_times cd_times ct_times : Value}
  {f_without : Addr} {od_without an_without : Option Addr} {sl_without : Array (Option Value)} {oc_without kV_without dc_without pm_without cd_without ct_without : Value}
  {f_determinant : Addr} {od_determinant an_determinant : Option Addr} {sl_determinant : Array (Option Value)} {oc_determinant kV_determinant dc_determinant pm_determinant cd_determinant ct_determinant : Value}
  {f_cofactor : Addr} {od_cofactor an_cofactor : Option Addr} {sl_cofactor : Array (Option Value)} {oc_cofactor kV_cofactor dc_cofactor pm_cofactor cd_cofactor ct_cofactor : Value}
  {f_crossed : Addr} {od_crossed an_crossed : Option Addr} {sl_crossed : Array (Option Value)} {oc_crossed kV_crossed dc_crossed pm_crossed cd_crossed ct_crossed : Value}
  {f_scaled : Addr} {od_scaled an_scaled : Option Addr} {sl_scaled : Array (Option Value)} {oc_scaled kV_scaled dc_scaled pm_scaled cd_scaled ct_scaled : Value}
  {f_inverse : Addr} {od_inverse an_inverse : Option Addr} {sl_inverse : Array (Option Value)} {oc_inverse kV_inverse dc_inverse pm_inverse cd_inverse ct_inverse : Value}
  {f_joined : Addr} {od_joined an_joined : Option Addr} {sl_joined : Array (Option Value)} {oc_joined kV_joined dc_joined pm_joined cd_joined ct_joined : Value}
  {f_deed : Addr} {od_deed an_deed : Option Addr} {sl_deed : Array (Option Value)} {oc_deed kV_deed dc_deed pm_deed cd_deed ct_deed : Value}
  {f_moved : Addr} {od_moved an_moved : Option Addr} {sl_moved : Array (Option Value)} {oc_moved kV_moved dc_moved pm_moved cd_moved ct_moved : Value}
  {f_behind : Addr} {od_behind an_behind : Option Addr} {sl_behind : Array (Option Value)} {oc_behind kV_behind dc_behind pm_behind cd_behind ct_behind : Value}
  {f_back : Addr} {od_back an_back : Option Addr} {sl_back : Array (Option Value)} {oc_back kV_back dc_back pm_back cd_back ct_back : Value}
  {f_change : Addr} {od_change an_change : Option Addr} {sl_change : Array (Option Value)} {oc_change kV_change dc_change pm_change cd_change ct_change : Value}
  {f_check_beside : Addr} {od_check_beside an_check_beside : Option Addr} {sl_check_beside : Array (Option Value)} {oc_check_beside kV_check_beside dc_check_beside pm_check_beside cd_check_beside ct_check_beside : Value}
  {f_forth : Addr} {od_forth an_forth : Option Addr} {sl_forth : Array (Option Value)} {oc_forth kV_forth dc_forth pm_forth cd_forth ct_forth : Value}
  {f_home : Addr} {od_home an_home : Option Addr} {sl_home : Array (Option Value)} {oc_home kV_home dc_home pm_home cd_home ct_home : Value}
  {f_led : Addr} {od_led an_led : Option Addr} {sl_led : Array (Option Value)} {oc_led kV_led dc_led pm_led cd_led ct_led : Value}
  {f_new_place : Addr} {od_new_place an_new_place : Option Addr} {sl_new_place : Array (Option Value)} {oc_new_place kV_new_place dc_new_place pm_new_place cd_new_place ct_new_place : Value}
  {f_new_deed : Addr} {od_new_deed an_new_deed : Option Addr} {sl_new_deed : Array (Option Value)} {oc_new_deed kV_new_deed dc_new_deed pm_new_deed cd_new_deed ct_new_deed : Value}
  {f_law_cell : Addr} {od_law_cell an_law_cell : Option Addr} {sl_law_cell : Array (Option Value)} {oc_law_cell kV_law_cell dc_law_cell pm_law_cell cd_law_cell ct_law_cell : Value}
  {f_law_divides : Addr} {od_law_divides an_law_divides : Option Addr} {sl_law_divides : Array (Option Value)} {oc_law_divides kV_law_divides dc_law_divides pm_law_divides cd_law_divides ct_law_divides : Value}
  {f_law_lowest : Addr} {od_law_lowest an_law_lowest : Option Addr} {sl_law_lowest : Array (Option Value)} {oc_law_lowest kV_law_lowest dc_law_lowest pm_law_lowest cd_law_lowest ct_law_lowest : Value}
  {f_law_units : Addr} {od_law_units an_law_units : Option Addr} {sl_law_units : Array (Option Value)} {oc_law_units kV_law_units dc_law_units pm_law_units cd_law_units ct_law_units : Value}
  {f_law_rows : Addr} {od_law_rows an_law_rows : Option Addr} {sl_law_rows : Array (Option Value)} {oc_law_rows kV_law_rows dc_law_rows pm_law_rows cd_law_rows ct_law_rows : Value}
  {f_law_spot : Addr} {od_law_spot an_law_spot : Option Addr} {sl_law_spot : Array (Option Value)} {oc_law_spot kV_law_spot dc_law_spot pm_law_spot cd_law_spot ct_law_spot : Value}
  {f_law_times : Addr} {od_law_times an_law_times : Option Addr} {sl_law_times : Array (Option Value)} {oc_law_times kV_law_times dc_law_times pm_law_times cd_law_times ct_law_times : Value}
  {f_law_undone : Addr} {od_law_undone an_law_undone : Option Addr} {sl_law_undone : Array (Option Value)} {oc_law_undone kV_law_undone dc_law_undone pm_law_undone cd_law_undone ct_law_undone : Value}
  {f_law_room : Addr} {od_law_room an_law_room : Option Addr} {sl_law_room : Array (Option Value)} {oc_law_room kV_law_room dc_law_room pm_law_room cd_law_room ct_law_room : Value}
  {f_law_told_columns : Addr} {od_law_told_columns an_law_told_columns : Option Addr} {sl_law_told_columns : Array (Option Value)} {oc_law_told_columns kV_law_told_columns dc_law_told_columns pm_law_told_columns cd_law_told_columns ct_law_told_columns : Value}
  {f_law_columns : Addr} {od_law_columns an_law_columns : Option Addr} {sl_law_columns : Array (Option Value)} {oc_law_columns kV_law_columns dc_law_columns pm_law_columns cd_law_columns ct_law_columns : Value}
  {f_law_new_rows : Addr} {od_law_new_rows an_law_new_rows : Option Addr} {sl_law_new_rows : Array (Option Value)} {oc_law_new_rows kV_law_new_rows dc_law_new_rows pm_law_new_rows cd_law_new_rows ct_law_new_rows : Value}
  {f_law_only : Addr} {od_law_only an_law_only : Option Addr} {sl_law_only : Array (Option Value)} {oc_law_only kV_law_only dc_law_only pm_law_only cd_law_only ct_law_only : Value}
  {f_law_asked : Addr} {od_law_asked an_law_asked : Option Addr} {sl_law_asked : Array (Option Value)} {oc_law_asked kV_law_asked dc_law_asked pm_law_asked cd_law_asked ct_law_asked : Value}
  {f_law_ints : Addr} {od_law_ints an_law_ints : Option Addr} {sl_law_ints : Array (Option Value)} {oc_law_ints kV_law_ints dc_law_ints pm_law_ints cd_law_ints ct_law_ints : Value}
  {f_law_lies : Addr} {od_law_lies an_law_lies : Option Addr} {sl_law_lies : Array (Option Value)} {oc_law_lies kV_law_lies dc_law_lies pm_law_lies cd_law_lies ct_law_lies : Value}
  {f_law_right : Addr} {od_law_right an_law_right : Option Addr} {sl_law_right : Array (Option Value)} {oc_law_right kV_law_right dc_law_right pm_law_right cd_law_right ct_law_right : Value}
  {f_law_word : Addr} {od_law_word an_law_word : Option Addr} {sl_law_word : Array (Option Value)} {oc_law_word kV_law_word dc_law_word pm_law_word cd_law_word ct_law_word : Value}
  {f_law : Addr} {od_law an_law : Option Addr} {sl_law : Array (Option Value)} {oc_law kV_law dc_law pm_law cd_law ct_law : Value}
  {C_CrystalError : Addr}
  {C_NoPlace : Addr}
  {C_NoDeed : Addr}
  {C_TooMany : Addr}
  {C_NoChange : Addr}
  {C_NotKept : Addr}
  (n_divisor : PySem.W.nsIn K mainGlobals "divisor" = some (some (.ref f_divisor)))
  (l_divisor : K.lookup f_divisor = some ⟨oc_divisor, od_divisor, .func (PySem.W.fnOf "divisor" "divisor" (defArgs s_divisor) (defBody s_divisor) (defScope s_divisor) .none kV_divisor dc_divisor pm_divisor an_divisor cd_divisor ct_divisor), sl_divisor⟩)
  (c_divisor : PySem.W.codeIn K cd_divisor "divisor" = true)
  (k_divisor : PySem.W.keepIn K (.ref f_divisor) = true)
  (n_multiple : PySem.W.nsIn K mainGlobals "multiple" = some (some (.ref f_multiple)))
  (l_multiple : K.lookup f_multiple = some ⟨oc_multiple, od_multiple, .func (PySem.W.fnOf "multiple" "multiple" (defArgs s_multiple) (defBody s_multiple) (defScope s_multiple) .none kV_multiple dc_multiple pm_multiple an_multiple cd_multiple ct_multiple), sl_multiple⟩)
  (c_multiple : PySem.W.codeIn K cd_multiple "multiple" = true)
  (k_multiple : PySem.W.keepIn K (.ref f_multiple) = true)
  (n_place : PySem.W.nsIn K mainGlobals "place" = some (some (.ref f_place)))
  (l_place : K.lookup f_place = some ⟨oc_place, od_place, .func (PySem.W.fnOf "place" "place" (defArgs s_place) (defBody s_place) (defScope s_place) .none kV_place dc_place pm_place an_place cd_place ct_place), sl_place⟩)
  (c_place : PySem.W.codeIn K cd_place "place" = true)
  (k_place : PySem.W.keepIn K (.ref f_place) = true)
  (n_place_sum : PySem.W.nsIn K mainGlobals "place_sum" = some (some (.ref f_place_sum)))
  (l_place_sum : K.lookup f_place_sum = some ⟨oc_place_sum, od_place_sum, .func (PySem.W.fnOf "place_sum" "place_sum" (defArgs s_place_sum) (defBody s_place_sum) (defScope s_place_sum) .none kV_place_sum dc_place_sum pm_place_sum an_place_sum cd_place_sum ct_place_sum), sl_place_sum⟩)
  (c_place_sum : PySem.W.codeIn K cd_place_sum "place_sum" = true)
  (k_place_sum : PySem.W.keepIn K (.ref f_place_sum) = true)
  (n_opposite : PySem.W.nsIn K mainGlobals "opposite" = some (some (.ref f_opposite)))
  (l_opposite : K.lookup f_opposite = some ⟨oc_opposite, od_opposite, .func (PySem.W.fnOf "opposite" "opposite" (defArgs s_opposite) (defBody s_opposite) (defScope s_opposite) .none kV_opposite dc_opposite pm_opposite an_opposite cd_opposite ct_opposite), sl_opposite⟩)
  (c_opposite : PySem.W.codeIn K cd_opposite "opposite" = true)
  (k_opposite : PySem.W.keepIn K (.ref f_opposite) = true)
  (n_place_less : PySem.W.nsIn K mainGlobals "place_less" = some (some (.ref f_place_less)))
  (l_place_less : K.lookup f_place_less = some ⟨oc_place_less, od_place_less, .func (PySem.W.fnOf "place_less" "place_less" (defArgs s_place_less) (defBody s_place_less) (defScope s_place_less) .none kV_place_less dc_place_less pm_place_less an_place_less cd_place_less ct_place_less), sl_place_less⟩)
  (c_place_less : PySem.W.codeIn K cd_place_less "place_less" = true)
  (k_place_less : PySem.W.keepIn K (.ref f_place_less) = true)
  (n_dot : PySem.W.nsIn K mainGlobals "dot" = some (some (.ref f_dot)))
  (l_dot : K.lookup f_dot = some ⟨oc_dot, od_dot, .func (PySem.W.fnOf "dot" "dot" (defArgs s_dot) (defBody s_dot) (defScope s_dot) .none kV_dot dc_dot pm_dot an_dot cd_dot ct_dot), sl_dot⟩)
  (c_dot : PySem.W.codeIn K cd_dot "dot" = true)
  (k_dot : PySem.W.keepIn K (.ref f_dot) = true)
  (n_turned : PySem.W.nsIn K mainGlobals "turned" = some (some (.ref f_turned)))
  (l_turned : K.lookup f_turned = some ⟨oc_turned, od_turned, .func (PySem.W.fnOf "turned" "turned" (defArgs s_turned) (defBody s_turned) (defScope s_turned) .none kV_turned dc_turned pm_turned an_turned cd_turned ct_turned), sl_turned⟩)
  (c_turned : PySem.W.codeIn K cd_turned "turned" = true)
  (k_turned : PySem.W.keepIn K (.ref f_turned) = true)
  (n_times : PySem.W.nsIn K mainGlobals "times" = some (some (.ref f_times)))
  (l_times : K.lookup f_times = some ⟨oc_times, od_times, .func (PySem.W.fnOf "times" "times" (defArgs s_times) (defBody s_times) (defScope s_times) .none kV_times dc_times pm_times an_times cd_times ct_times), sl_times⟩)
  (c_times : PySem.W.codeIn K cd_times "times" = true)
  (k_times : PySem.W.keepIn K (.ref f_times) = true)
  (n_without : PySem.W.nsIn K mainGlobals "without" = some (some (.ref f_without)))
  (l_without : K.lookup f_without = some ⟨oc_without, od_without, .func (PySem.W.fnOf "without" "without" (defArgs s_without) (defBody s_without) (defScope s_without) .none kV_without dc_without pm_without an_without cd_without ct_without), sl_without⟩)
  (c_without : PySem.W.codeIn K cd_without "without" = true)
  (k_without : PySem.W.keepIn K (.ref f_without) = true)
  (n_determinant : PySem.W.nsIn K mainGlobals "determinant" = some (some (.ref f_determinant)))
  (l_determinant : K.lookup f_determinant = some ⟨oc_determinant, od_determinant, .func (PySem.W.fnOf "determinant" "determinant" (defArgs s_determinant) (defBody s_determinant) (defScope s_determinant) .none kV_determinant dc_determinant pm_determinant an_determinant cd_determinant ct_determinant), sl_determinant⟩)
  (c_determinant : PySem.W.codeIn K cd_determinant "determinant" = true)
  (k_determinant : PySem.W.keepIn K (.ref f_determinant) = true)
  (n_cofactor : PySem.W.nsIn K mainGlobals "cofactor" = some (some (.ref f_cofactor)))
  (l_cofactor : K.lookup f_cofactor = some ⟨oc_cofactor, od_cofactor, .func (PySem.W.fnOf "cofactor" "cofactor" (defArgs s_cofactor) (defBody s_cofactor) (defScope s_cofactor) .none kV_cofactor dc_cofactor pm_cofactor an_cofactor cd_cofactor ct_cofactor), sl_cofactor⟩)
  (c_cofactor : PySem.W.codeIn K cd_cofactor "cofactor" = true)
  (k_cofactor : PySem.W.keepIn K (.ref f_cofactor) = true)
  (n_crossed : PySem.W.nsIn K mainGlobals "crossed" = some (some (.ref f_crossed)))
  (l_crossed : K.lookup f_crossed = some ⟨oc_crossed, od_crossed, .func (PySem.W.fnOf "crossed" "crossed" (defArgs s_crossed) (defBody s_crossed) (defScope s_crossed) .none kV_crossed dc_crossed pm_crossed an_crossed cd_crossed ct_crossed), sl_crossed⟩)
  (c_crossed : PySem.W.codeIn K cd_crossed "crossed" = true)
  (k_crossed : PySem.W.keepIn K (.ref f_crossed) = true)
  (n_scaled : PySem.W.nsIn K mainGlobals "scaled" = some (some (.ref f_scaled)))
  (l_scaled : K.lookup f_scaled = some ⟨oc_scaled, od_scaled, .func (PySem.W.fnOf "scaled" "scaled" (defArgs s_scaled) (defBody s_scaled) (defScope s_scaled) .none kV_scaled dc_scaled pm_scaled an_scaled cd_scaled ct_scaled), sl_scaled⟩)
  (c_scaled : PySem.W.codeIn K cd_scaled "scaled" = true)
  (k_scaled : PySem.W.keepIn K (.ref f_scaled) = true)
  (n_inverse : PySem.W.nsIn K mainGlobals "inverse" = some (some (.ref f_inverse)))
  (l_inverse : K.lookup f_inverse = some ⟨oc_inverse, od_inverse, .func (PySem.W.fnOf "inverse" "inverse" (defArgs s_inverse) (defBody s_inverse) (defScope s_inverse) .none kV_inverse dc_inverse pm_inverse an_inverse cd_inverse ct_inverse), sl_inverse⟩)
  (c_inverse : PySem.W.codeIn K cd_inverse "inverse" = true)
  (k_inverse : PySem.W.keepIn K (.ref f_inverse) = true)
  (n_joined : PySem.W.nsIn K mainGlobals "joined" = some (some (.ref f_joined)))
  (l_joined : K.lookup f_joined = some ⟨oc_joined, od_joined, .func (PySem.W.fnOf "joined" "joined" (defArgs s_joined) (defBody s_joined) (defScope s_joined) .none kV_joined dc_joined pm_joined an_joined cd_joined ct_joined), sl_joined⟩)
  (c_joined : PySem.W.codeIn K cd_joined "joined" = true)
  (k_joined : PySem.W.keepIn K (.ref f_joined) = true)
  (n_deed : PySem.W.nsIn K mainGlobals "deed" = some (some (.ref f_deed)))
  (l_deed : K.lookup f_deed = some ⟨oc_deed, od_deed, .func (PySem.W.fnOf "deed" "deed" (defArgs s_deed) (defBody s_deed) (defScope s_deed) .none kV_deed dc_deed pm_deed an_deed cd_deed ct_deed), sl_deed⟩)
  (c_deed : PySem.W.codeIn K cd_deed "deed" = true)
  (k_deed : PySem.W.keepIn K (.ref f_deed) = true)
  (n_moved : PySem.W.nsIn K mainGlobals "moved" = some (some (.ref f_moved)))
  (l_moved : K.lookup f_moved = some ⟨oc_moved, od_moved, .func (PySem.W.fnOf "moved" "moved" (defArgs s_moved) (defBody s_moved) (defScope s_moved) .none kV_moved dc_moved pm_moved an_moved cd_moved ct_moved), sl_moved⟩)
  (c_moved : PySem.W.codeIn K cd_moved "moved" = true)
  (k_moved : PySem.W.keepIn K (.ref f_moved) = true)
  (n_behind : PySem.W.nsIn K mainGlobals "behind" = some (some (.ref f_behind)))
  (l_behind : K.lookup f_behind = some ⟨oc_behind, od_behind, .func (PySem.W.fnOf "behind" "behind" (defArgs s_behind) (defBody s_behind) (defScope s_behind) .none kV_behind dc_behind pm_behind an_behind cd_behind ct_behind), sl_behind⟩)
  (c_behind : PySem.W.codeIn K cd_behind "behind" = true)
  (k_behind : PySem.W.keepIn K (.ref f_behind) = true)
  (n_back : PySem.W.nsIn K mainGlobals "back" = some (some (.ref f_back)))
  (l_back : K.lookup f_back = some ⟨oc_back, od_back, .func (PySem.W.fnOf "back" "back" (defArgs s_back) (defBody s_back) (defScope s_back) .none kV_back dc_back pm_back an_back cd_back ct_back), sl_back⟩)
  (c_back : PySem.W.codeIn K cd_back "back" = true)
  (k_back : PySem.W.keepIn K (.ref f_back) = true)
  (n_change : PySem.W.nsIn K mainGlobals "change" = some (some (.ref f_change)))
  (l_change : K.lookup f_change = some ⟨oc_change, od_change, .func (PySem.W.fnOf "change" "change" (defArgs s_change) (defBody s_change) (defScope s_change) .none kV_change dc_change pm_change an_change cd_change ct_change), sl_change⟩)
  (c_change : PySem.W.codeIn K cd_change "change" = true)
  (k_change : PySem.W.keepIn K (.ref f_change) = true)
  (n_check_beside : PySem.W.nsIn K mainGlobals "check_beside" = some (some (.ref f_check_beside)))
  (l_check_beside : K.lookup f_check_beside = some ⟨oc_check_beside, od_check_beside, .func (PySem.W.fnOf "check_beside" "check_beside" (defArgs s_check_beside) (defBody s_check_beside) (defScope s_check_beside) .none kV_check_beside dc_check_beside pm_check_beside an_check_beside cd_check_beside ct_check_beside), sl_check_beside⟩)
  (c_check_beside : PySem.W.codeIn K cd_check_beside "check_beside" = true)
  (k_check_beside : PySem.W.keepIn K (.ref f_check_beside) = true)
  (n_forth : PySem.W.nsIn K mainGlobals "forth" = some (some (.ref f_forth)))
  (l_forth : K.lookup f_forth = some ⟨oc_forth, od_forth, .func (PySem.W.fnOf "forth" "forth" (defArgs s_forth) (defBody s_forth) (defScope s_forth) .none kV_forth dc_forth pm_forth an_forth cd_forth ct_forth), sl_forth⟩)
  (c_forth : PySem.W.codeIn K cd_forth "forth" = true)
  (k_forth : PySem.W.keepIn K (.ref f_forth) = true)
  (n_home : PySem.W.nsIn K mainGlobals "home" = some (some (.ref f_home)))
  (l_home : K.lookup f_home = some ⟨oc_home, od_home, .func (PySem.W.fnOf "home" "home" (defArgs s_home) (defBody s_home) (defScope s_home) .none kV_home dc_home pm_home an_home cd_home ct_home), sl_home⟩)
  (c_home : PySem.W.codeIn K cd_home "home" = true)
  (k_home : PySem.W.keepIn K (.ref f_home) = true)
  (n_led : PySem.W.nsIn K mainGlobals "led" = some (some (.ref f_led)))
  (l_led : K.lookup f_led = some ⟨oc_led, od_led, .func (PySem.W.fnOf "led" "led" (defArgs s_led) (defBody s_led) (defScope s_led) .none kV_led dc_led pm_led an_led cd_led ct_led), sl_led⟩)
  (c_led : PySem.W.codeIn K cd_led "led" = true)
  (k_led : PySem.W.keepIn K (.ref f_led) = true)
  (n_new_place : PySem.W.nsIn K mainGlobals "new_place" = some (some (.ref f_new_place)))
  (l_new_place : K.lookup f_new_place = some ⟨oc_new_place, od_new_place, .func (PySem.W.fnOf "new_place" "new_place" (defArgs s_new_place) (defBody s_new_place) (defScope s_new_place) .none kV_new_place dc_new_place pm_new_place an_new_place cd_new_place ct_new_place), sl_new_place⟩)
  (c_new_place : PySem.W.codeIn K cd_new_place "new_place" = true)
  (k_new_place : PySem.W.keepIn K (.ref f_new_place) = true)
  (n_new_deed : PySem.W.nsIn K mainGlobals "new_deed" = some (some (.ref f_new_deed)))
  (l_new_deed : K.lookup f_new_deed = some ⟨oc_new_deed, od_new_deed, .func (PySem.W.fnOf "new_deed" "new_deed" (defArgs s_new_deed) (defBody s_new_deed) (defScope s_new_deed) .none kV_new_deed dc_new_deed pm_new_deed an_new_deed cd_new_deed ct_new_deed), sl_new_deed⟩)
  (c_new_deed : PySem.W.codeIn K cd_new_deed "new_deed" = true)
  (k_new_deed : PySem.W.keepIn K (.ref f_new_deed) = true)
  (n_law_cell : PySem.W.nsIn K mainGlobals "_law_cell" = some (some (.ref f_law_cell)))
  (l_law_cell : K.lookup f_law_cell = some ⟨oc_law_cell, od_law_cell, .func (PySem.W.fnOf "_law_cell" "_law_cell" (defArgs s_law_cell) (defBody s_law_cell) (defScope s_law_cell) .none kV_law_cell dc_law_cell pm_law_cell an_law_cell cd_law_cell ct_law_cell), sl_law_cell⟩)
  (c_law_cell : PySem.W.codeIn K cd_law_cell "_law_cell" = true)
  (k_law_cell : PySem.W.keepIn K (.ref f_law_cell) = true)
  (n_law_divides : PySem.W.nsIn K mainGlobals "_law_divides" = some (some (.ref f_law_divides)))
  (l_law_divides : K.lookup f_law_divides = some ⟨oc_law_divides, od_law_divides, .func (PySem.W.fnOf "_law_divides" "_law_divides" (defArgs s_law_divides) (defBody s_law_divides) (defScope s_law_divides) .none kV_law_divides dc_law_divides pm_law_divides an_law_divides cd_law_divides ct_law_divides), sl_law_divides⟩)
  (c_law_divides : PySem.W.codeIn K cd_law_divides "_law_divides" = true)
  (k_law_divides : PySem.W.keepIn K (.ref f_law_divides) = true)
  (n_law_lowest : PySem.W.nsIn K mainGlobals "_law_lowest" = some (some (.ref f_law_lowest)))
  (l_law_lowest : K.lookup f_law_lowest = some ⟨oc_law_lowest, od_law_lowest, .func (PySem.W.fnOf "_law_lowest" "_law_lowest" (defArgs s_law_lowest) (defBody s_law_lowest) (defScope s_law_lowest) .none kV_law_lowest dc_law_lowest pm_law_lowest an_law_lowest cd_law_lowest ct_law_lowest), sl_law_lowest⟩)
  (c_law_lowest : PySem.W.codeIn K cd_law_lowest "_law_lowest" = true)
  (k_law_lowest : PySem.W.keepIn K (.ref f_law_lowest) = true)
  (n_law_units : PySem.W.nsIn K mainGlobals "_law_units" = some (some (.ref f_law_units)))
  (l_law_units : K.lookup f_law_units = some ⟨oc_law_units, od_law_units, .func (PySem.W.fnOf "_law_units" "_law_units" (defArgs s_law_units) (defBody s_law_units) (defScope s_law_units) .none kV_law_units dc_law_units pm_law_units an_law_units cd_law_units ct_law_units), sl_law_units⟩)
  (c_law_units : PySem.W.codeIn K cd_law_units "_law_units" = true)
  (k_law_units : PySem.W.keepIn K (.ref f_law_units) = true)
  (n_law_rows : PySem.W.nsIn K mainGlobals "_law_rows" = some (some (.ref f_law_rows)))
  (l_law_rows : K.lookup f_law_rows = some ⟨oc_law_rows, od_law_rows, .func (PySem.W.fnOf "_law_rows" "_law_rows" (defArgs s_law_rows) (defBody s_law_rows) (defScope s_law_rows) .none kV_law_rows dc_law_rows pm_law_rows an_law_rows cd_law_rows ct_law_rows), sl_law_rows⟩)
  (c_law_rows : PySem.W.codeIn K cd_law_rows "_law_rows" = true)
  (k_law_rows : PySem.W.keepIn K (.ref f_law_rows) = true)
  (n_law_spot : PySem.W.nsIn K mainGlobals "_law_spot" = some (some (.ref f_law_spot)))
  (l_law_spot : K.lookup f_law_spot = some ⟨oc_law_spot, od_law_spot, .func (PySem.W.fnOf "_law_spot" "_law_spot" (defArgs s_law_spot) (defBody s_law_spot) (defScope s_law_spot) .none kV_law_spot dc_law_spot pm_law_spot an_law_spot cd_law_spot ct_law_spot), sl_law_spot⟩)
  (c_law_spot : PySem.W.codeIn K cd_law_spot "_law_spot" = true)
  (k_law_spot : PySem.W.keepIn K (.ref f_law_spot) = true)
  (n_law_times : PySem.W.nsIn K mainGlobals "_law_times" = some (some (.ref f_law_times)))
  (l_law_times : K.lookup f_law_times = some ⟨oc_law_times, od_law_times, .func (PySem.W.fnOf "_law_times" "_law_times" (defArgs s_law_times) (defBody s_law_times) (defScope s_law_times) .none kV_law_times dc_law_times pm_law_times an_law_times cd_law_times ct_law_times), sl_law_times⟩)
  (c_law_times : PySem.W.codeIn K cd_law_times "_law_times" = true)
  (k_law_times : PySem.W.keepIn K (.ref f_law_times) = true)
  (n_law_undone : PySem.W.nsIn K mainGlobals "_law_undone" = some (some (.ref f_law_undone)))
  (l_law_undone : K.lookup f_law_undone = some ⟨oc_law_undone, od_law_undone, .func (PySem.W.fnOf "_law_undone" "_law_undone" (defArgs s_law_undone) (defBody s_law_undone) (defScope s_law_undone) .none kV_law_undone dc_law_undone pm_law_undone an_law_undone cd_law_undone ct_law_undone), sl_law_undone⟩)
  (c_law_undone : PySem.W.codeIn K cd_law_undone "_law_undone" = true)
  (k_law_undone : PySem.W.keepIn K (.ref f_law_undone) = true)
  (n_law_room : PySem.W.nsIn K mainGlobals "_law_room" = some (some (.ref f_law_room)))
  (l_law_room : K.lookup f_law_room = some ⟨oc_law_room, od_law_room, .func (PySem.W.fnOf "_law_room" "_law_room" (defArgs s_law_room) (defBody s_law_room) (defScope s_law_room) .none kV_law_room dc_law_room pm_law_room an_law_room cd_law_room ct_law_room), sl_law_room⟩)
  (c_law_room : PySem.W.codeIn K cd_law_room "_law_room" = true)
  (k_law_room : PySem.W.keepIn K (.ref f_law_room) = true)
  (n_law_told_columns : PySem.W.nsIn K mainGlobals "_law_told_columns" = some (some (.ref f_law_told_columns)))
  (l_law_told_columns : K.lookup f_law_told_columns = some ⟨oc_law_told_columns, od_law_told_columns, .func (PySem.W.fnOf "_law_told_columns" "_law_told_columns" (defArgs s_law_told_columns) (defBody s_law_told_columns) (defScope s_law_told_columns) .none kV_law_told_columns dc_law_told_columns pm_law_told_columns an_law_told_columns cd_law_told_columns ct_law_told_columns), sl_law_told_columns⟩)
  (c_law_told_columns : PySem.W.codeIn K cd_law_told_columns "_law_told_columns" = true)
  (k_law_told_columns : PySem.W.keepIn K (.ref f_law_told_columns) = true)
  (n_law_columns : PySem.W.nsIn K mainGlobals "_law_columns" = some (some (.ref f_law_columns)))
  (l_law_columns : K.lookup f_law_columns = some ⟨oc_law_columns, od_law_columns, .func (PySem.W.fnOf "_law_columns" "_law_columns" (defArgs s_law_columns) (defBody s_law_columns) (defScope s_law_columns) .none kV_law_columns dc_law_columns pm_law_columns an_law_columns cd_law_columns ct_law_columns), sl_law_columns⟩)
  (c_law_columns : PySem.W.codeIn K cd_law_columns "_law_columns" = true)
  (k_law_columns : PySem.W.keepIn K (.ref f_law_columns) = true)
  (n_law_new_rows : PySem.W.nsIn K mainGlobals "_law_new_rows" = some (some (.ref f_law_new_rows)))
  (l_law_new_rows : K.lookup f_law_new_rows = some ⟨oc_law_new_rows, od_law_new_rows, .func (PySem.W.fnOf "_law_new_rows" "_law_new_rows" (defArgs s_law_new_rows) (defBody s_law_new_rows) (defScope s_law_new_rows) .none kV_law_new_rows dc_law_new_rows pm_law_new_rows an_law_new_rows cd_law_new_rows ct_law_new_rows), sl_law_new_rows⟩)
  (c_law_new_rows : PySem.W.codeIn K cd_law_new_rows "_law_new_rows" = true)
  (k_law_new_rows : PySem.W.keepIn K (.ref f_law_new_rows) = true)
  (n_law_only : PySem.W.nsIn K mainGlobals "_law_only" = some (some (.ref f_law_only)))
  (l_law_only : K.lookup f_law_only = some ⟨oc_law_only, od_law_only, .func (PySem.W.fnOf "_law_only" "_law_only" (defArgs s_law_only) (defBody s_law_only) (defScope s_law_only) .none kV_law_only dc_law_only pm_law_only an_law_only cd_law_only ct_law_only), sl_law_only⟩)
  (c_law_only : PySem.W.codeIn K cd_law_only "_law_only" = true)
  (k_law_only : PySem.W.keepIn K (.ref f_law_only) = true)
  (n_law_asked : PySem.W.nsIn K mainGlobals "_law_asked" = some (some (.ref f_law_asked)))
  (l_law_asked : K.lookup f_law_asked = some ⟨oc_law_asked, od_law_asked, .func (PySem.W.fnOf "_law_asked" "_law_asked" (defArgs s_law_asked) (defBody s_law_asked) (defScope s_law_asked) .none kV_law_asked dc_law_asked pm_law_asked an_law_asked cd_law_asked ct_law_asked), sl_law_asked⟩)
  (c_law_asked : PySem.W.codeIn K cd_law_asked "_law_asked" = true)
  (k_law_asked : PySem.W.keepIn K (.ref f_law_asked) = true)
  (n_law_ints : PySem.W.nsIn K mainGlobals "_law_ints" = some (some (.ref f_law_ints)))
  (l_law_ints : K.lookup f_law_ints = some ⟨oc_law_ints, od_law_ints, .func (PySem.W.fnOf "_law_ints" "_law_ints" (defArgs s_law_ints) (defBody s_law_ints) (defScope s_law_ints) .none kV_law_ints dc_law_ints pm_law_ints an_law_ints cd_law_ints ct_law_ints), sl_law_ints⟩)
  (c_law_ints : PySem.W.codeIn K cd_law_ints "_law_ints" = true)
  (k_law_ints : PySem.W.keepIn K (.ref f_law_ints) = true)
  (n_law_lies : PySem.W.nsIn K mainGlobals "_law_lies" = some (some (.ref f_law_lies)))
  (l_law_lies : K.lookup f_law_lies = some ⟨oc_law_lies, od_law_lies, .func (PySem.W.fnOf "_law_lies" "_law_lies" (defArgs s_law_lies) (defBody s_law_lies) (defScope s_law_lies) .none kV_law_lies dc_law_lies pm_law_lies an_law_lies cd_law_lies ct_law_lies), sl_law_lies⟩)
  (c_law_lies : PySem.W.codeIn K cd_law_lies "_law_lies" = true)
  (k_law_lies : PySem.W.keepIn K (.ref f_law_lies) = true)
  (n_law_right : PySem.W.nsIn K mainGlobals "_law_right" = some (some (.ref f_law_right)))
  (l_law_right : K.lookup f_law_right = some ⟨oc_law_right, od_law_right, .func (PySem.W.fnOf "_law_right" "_law_right" (defArgs s_law_right) (defBody s_law_right) (defScope s_law_right) .none kV_law_right dc_law_right pm_law_right an_law_right cd_law_right ct_law_right), sl_law_right⟩)
  (c_law_right : PySem.W.codeIn K cd_law_right "_law_right" = true)
  (k_law_right : PySem.W.keepIn K (.ref f_law_right) = true)
  (n_law_word : PySem.W.nsIn K mainGlobals "_law_word" = some (some (.ref f_law_word)))
  (l_law_word : K.lookup f_law_word = some ⟨oc_law_word, od_law_word, .func (PySem.W.fnOf "_law_word" "_law_word" (defArgs s_law_word) (defBody s_law_word) (defScope s_law_word) .none kV_law_word dc_law_word pm_law_word an_law_word cd_law_word ct_law_word), sl_law_word⟩)
  (c_law_word : PySem.W.codeIn K cd_law_word "_law_word" = true)
  (k_law_word : PySem.W.keepIn K (.ref f_law_word) = true)
  (n_law : PySem.W.nsIn K mainGlobals "law" = some (some (.ref f_law)))
  (l_law : K.lookup f_law = some ⟨oc_law, od_law, .func (PySem.W.fnOf "law" "law" (defArgs s_law) (defBody s_law) (defScope s_law) .none kV_law dc_law pm_law an_law cd_law ct_law), sl_law⟩)
  (c_law : PySem.W.codeIn K cd_law "law" = true)
  (k_law : PySem.W.keepIn K (.ref f_law) = true)
  (n_CrystalError : PySem.W.nsIn K mainGlobals "CrystalError" = some (some (.ref C_CrystalError)))
  (n_NoPlace : PySem.W.nsIn K mainGlobals "NoPlace" = some (some (.ref C_NoPlace)))
  (n_NoDeed : PySem.W.nsIn K mainGlobals "NoDeed" = some (some (.ref C_NoDeed)))
  (n_TooMany : PySem.W.nsIn K mainGlobals "TooMany" = some (some (.ref C_TooMany)))
  (n_NoChange : PySem.W.nsIn K mainGlobals "NoChange" = some (some (.ref C_NoChange)))
  (n_NotKept : PySem.W.nsIn K mainGlobals "NotKept" = some (some (.ref C_NotKept)))
  (y_sum : PySem.W.nsIn K mainGlobals "sum" = some none)
  (y_zip : PySem.W.nsIn K mainGlobals "zip" = some none)
  (y_enumerate : PySem.W.nsIn K mainGlobals "enumerate" = some none)
  (y_range : PySem.W.nsIn K mainGlobals "range" = some none)
  (y_len : PySem.W.nsIn K mainGlobals "len" = some none)
  (y_abs : PySem.W.nsIn K mainGlobals "abs" = some none)
  (y_int : PySem.W.nsIn K mainGlobals "int" = some none)
  (y_bool : PySem.W.nsIn K mainGlobals "bool" = some none)
  (y_isinstance : PySem.W.nsIn K mainGlobals "isinstance" = some none)
  (y_list : PySem.W.nsIn K mainGlobals "list" = some none)
  (y_tuple : PySem.W.nsIn K mainGlobals "tuple" = some none)
  (y_any : PySem.W.nsIn K mainGlobals "any" = some none)
  (y_ValueError : PySem.W.nsIn K mainGlobals "ValueError" = some none)
  (q_k_int : PySem.W.kitOne K (.type "int") (.type "int") = some true)
  (q_k_ib : PySem.W.kitOne K (.type "int") (.type "bool") = some false)
  (q_k_tt : PySem.W.kitOne K (.type "tuple") (.type "tuple") = some true)
  (q_x_NoPlace : PySem.W.excIn K C_NoPlace [.type "ValueError", .type "Exception", .type "BaseException", .type "object"] "ValueError.__new__" = true)
  (q_x_NoDeed : PySem.W.excIn K C_NoDeed [.type "ValueError", .type "Exception", .type "BaseException", .type "object"] "ValueError.__new__" = true)
  (q_x_NoChange : PySem.W.excIn K C_NoChange [.type "ValueError", .type "Exception", .type "BaseException", .type "object"] "ValueError.__new__" = true)
  (q_x_NotKept : PySem.W.excIn K C_NotKept [.type "ValueError", .type "Exception", .type "BaseException", .type "object"] "ValueError.__new__" = true)
  (q_xm : PySem.W.exmOne K (.ref C_NotKept) (.ref C_CrystalError) = some true)
  (q_e_ga : PySem.W.findIn K (.ref C_NotKept) "__getattribute__" = some (some (.builtin "BaseException.__getattribute__")))
  (q_e_gt : PySem.W.findIn K (.ref C_NotKept) "__getattr__" = some none)
  (q_e_ca : PySem.W.findIn K (.ref C_NotKept) "__class__" = some (some (.builtin "object.__class__")))
  (q_e_cg : PySem.W.specialIn K (.builtin "object.__class__") "__get__" = some (some (.builtin "getset_descriptor.__get__")))
  (q_e_tk : PySem.W.takesIn K (.builtin "object.__class__") = some true)
  (q_e_ob : PySem.W.mroIn K C_NotKept (.type "object") = some true)
  (q_e_bx : PySem.W.mroIn K C_NotKept (.type "BaseException") = some true)
  (q_i_VE : PySem.W.kitOne K (.ref C_NotKept) (.type "ValueError") = some true)
  (q_i_NotKept : PySem.W.kitOne K (.ref C_NotKept) (.ref C_NotKept) = some true)
  (q_i_NoChange : PySem.W.kitOne K (.ref C_NotKept) (.ref C_NoChange) = some false)
  (q_i_NoDeed : PySem.W.kitOne K (.ref C_NotKept) (.ref C_NoDeed) = some false)
  (q_i_TooMany : PySem.W.kitOne K (.ref C_NotKept) (.ref C_TooMany) = some false)
  : ∃ t, Txt K mg t := by
 have F_divisor := fun_mk (st := s_divisor) l_divisor c_divisor k_divisor
 have b_divisor := F_divisor.binds (ps := ["one", "other"]) fun _ _ _ _ _ _ us hl => match us, hl with | [_, _], _ => rfl
 have F_multiple := fun_mk (st := s_multiple) l_multiple c_multiple k_multiple
 have b_multiple := F_multiple.binds (ps := ["numbers"]) fun _ _ _ _ _ _ us hl => match us, hl with | [_], _ => rfl
 have F_place := fun_mk (st := s_place) l_place c_place k_place
 have b_place := F_place.binds (ps := ["tops", "under"]) fun _ _ _ _ _ _ us hl => match us, hl with | [_, _], _ => rfl
 have F_place_sum := fun_mk (st := s_place_sum) l_place_sum c_place_sum k_place_sum
 have b_place_sum := F_place_sum.binds (ps := ["one", "other"]) fun _ _ _ _ _ _ us hl => match us, hl with | [_, _], _ => rfl
 have F_opposite := fun_mk (st := s_opposite) l_opposite c_opposite k_opposite
 have b_opposite := F_opposite.binds (ps := ["one"]) fun _ _ _ _ _ _ us hl => match us, hl with | [_], _ => rfl
 have F_place_less := fun_mk (st := s_place_less) l_place_less c_place_less k_place_less
 have b_place_less := F_place_less.binds (ps := ["one", "other"]) fun _ _ _ _ _ _ us hl => match us, hl with | [_, _], _ => rfl
 have F_dot := fun_mk (st := s_dot) l_dot c_dot k_dot
 have b_dot := F_dot.binds (ps := ["one", "other"]) fun _ _ _ _ _ _ us hl => match us, hl with | [_, _], _ => rfl
 have F_turned := fun_mk (st := s_turned) l_turned c_turned k_turned
 have b_turned := F_turned.binds (ps := ["rows"]) fun _ _ _ _ _ _ us hl => match us, hl with | [_], _ => rfl
 have F_times := fun_mk (st := s_times) l_times c_times k_times
 have b_times := F_times.binds (ps := ["one", "other"]) fun _ _ _ _ _ _ us hl => match us, hl with | [_, _], _ => rfl
 have F_without := fun_mk (st := s_without) l_without c_without k_without
 have b_without := F_without.binds (ps := ["rows", "i", "k"]) fun _ _ _ _ _ _ us hl => match us, hl with | [_, _, _], _ => rfl
 have F_determinant := fun_mk (st := s_determinant) l_determinant c_determinant k_determinant
 have b_determinant := F_determinant.binds (ps := ["rows"]) fun _ _ _ _ _ _ us hl => match us, hl with | [_], _ => rfl
 have F_cofactor := fun_mk (st := s_cofactor) l_cofactor c_cofactor k_cofactor
 have b_cofactor := F_cofactor.binds (ps := ["rows", "i", "k"]) fun _ _ _ _ _ _ us hl => match us, hl with | [_, _, _], _ => rfl
 have F_crossed := fun_mk (st := s_crossed) l_crossed c_crossed k_crossed
 have b_crossed := F_crossed.binds (ps := ["rows"]) fun _ _ _ _ _ _ us hl => match us, hl with | [_], _ => rfl
 have F_scaled := fun_mk (st := s_scaled) l_scaled c_scaled k_scaled
 have b_scaled := F_scaled.binds (ps := ["rows", "count"]) fun _ _ _ _ _ _ us hl => match us, hl with | [_, _], _ => rfl
 have F_inverse := fun_mk (st := s_inverse) l_inverse c_inverse k_inverse
 have b_inverse := F_inverse.binds (ps := ["rows"]) fun _ _ _ _ _ _ us hl => match us, hl with | [_], _ => rfl
 have F_joined := fun_mk (st := s_joined) l_joined c_joined k_joined
 have b_joined := F_joined.binds (ps := ["rows", "spot"]) fun _ _ _ _ _ _ us hl => match us, hl with | [_, _], _ => rfl
 have F_deed := fun_mk (st := s_deed) l_deed c_deed k_deed
 have b_deed := F_deed.binds (ps := ["rows", "tops", "under"]) fun _ _ _ _ _ _ us hl => match us, hl with | [_, _, _], _ => rfl
 have F_moved := fun_mk (st := s_moved) l_moved c_moved k_moved
 have b_moved := F_moved.binds (ps := ["one", "spot"]) fun _ _ _ _ _ _ us hl => match us, hl with | [_, _], _ => rfl
 have F_behind := fun_mk (st := s_behind) l_behind c_behind k_behind
 have b_behind := F_behind.binds (ps := ["one", "other"]) fun _ _ _ _ _ _ us hl => match us, hl with | [_, _], _ => rfl
 have F_back := fun_mk (st := s_back) l_back c_back k_back
 have b_back := F_back.binds (ps := ["one"]) fun _ _ _ _ _ _ us hl => match us, hl with | [_], _ => rfl
 have F_change := fun_mk (st := s_change) l_change c_change k_change
 have b_change := F_change.binds (ps := ["vectors", "spot"]) fun _ _ _ _ _ _ us hl => match us, hl with | [_, _], _ => rfl
 have F_check_beside := fun_mk (st := s_check_beside) l_check_beside c_check_beside k_check_beside
 have b_check_beside := F_check_beside.binds (ps := ["axes", "one"]) fun _ _ _ _ _ _ us hl => match us, hl with | [_, _], _ => rfl
 have F_forth := fun_mk (st := s_forth) l_forth c_forth k_forth
 have b_forth := F_forth.binds (ps := ["one"]) fun _ _ _ _ _ _ us hl => match us, hl with | [_], _ => rfl
 have F_home := fun_mk (st := s_home) l_home c_home k_home
 have b_home := F_home.binds (ps := ["one"]) fun _ _ _ _ _ _ us hl => match us, hl with | [_], _ => rfl
 have F_led := fun_mk (st := s_led) l_led c_led k_led
 have b_led := F_led.binds (ps := ["table", "spot"]) fun _ _ _ _ _ _ us hl => match us, hl with | [_, _], _ => rfl
 have F_new_place := fun_mk (st := s_new_place) l_new_place c_new_place k_new_place
 have b_new_place := F_new_place.binds (ps := ["spot", "one"]) fun _ _ _ _ _ _ us hl => match us, hl with | [_, _], _ => rfl
 have F_new_deed := fun_mk (st := s_new_deed) l_new_deed c_new_deed k_new_deed
 have b_new_deed := F_new_deed.binds (ps := ["one", "way"]) fun _ _ _ _ _ _ us hl => match us, hl with | [_, _], _ => rfl
 have F_law_cell := fun_mk (st := s_law_cell) l_law_cell c_law_cell k_law_cell
 have b_law_cell := F_law_cell.binds (ps := ["_law_script", "_law_k"]) fun _ _ _ _ _ _ us hl => match us, hl with | [_, _], _ => rfl
 have F_law_divides := fun_mk (st := s_law_divides) l_law_divides c_law_divides k_law_divides
 have b_law_divides := F_law_divides.binds (ps := ["_law_one", "_law_other"]) fun _ _ _ _ _ _ us hl => match us, hl with | [_, _], _ => rfl
 have F_law_lowest := fun_mk (st := s_law_lowest) l_law_lowest c_law_lowest k_law_lowest
 have b_law_lowest := F_law_lowest.binds (ps := ["_law_tops", "_law_under"]) fun _ _ _ _ _ _ us hl => match us, hl with | [_, _], _ => rfl
 have F_law_units := fun_mk (st := s_law_units) l_law_units c_law_units k_law_units
 have b_law_units := F_law_units.binds (ps := ["_law_d"]) fun _ _ _ _ _ _ us hl => match us, hl with | [_], _ => rfl
 have F_law_rows := fun_mk (st := s_law_rows) l_law_rows c_law_rows k_law_rows
 have b_law_rows := F_law_rows.binds (ps := ["_law_cell_here", "_law_d", "_law_most"]) fun _ _ _ _ _ _ us hl => match us, hl with | [_, _, _], _ => rfl
 have F_law_spot := fun_mk (st := s_law_spot) l_law_spot c_law_spot k_law_spot
 have b_law_spot := F_law_spot.binds (ps := ["_law_cell_here", "_law_d", "_law_most"]) fun _ _ _ _ _ _ us hl => match us, hl with | [_, _, _], _ => rfl
 have F_law_times := fun_mk (st := s_law_times) l_law_times c_law_times k_law_times
 have b_law_times := F_law_times.binds (ps := ["_law_one", "_law_other"]) fun _ _ _ _ _ _ us hl => match us, hl with | [_, _], _ => rfl
 have F_law_undone := fun_mk (st := s_law_undone) l_law_undone c_law_undone k_law_undone
 have b_law_undone := F_law_undone.binds (ps := ["_law_rows_here"]) fun _ _ _ _ _ _ us hl => match us, hl with | [_], _ => rfl
 have F_law_room := fun_mk (st := s_law_room) l_law_room c_law_room k_law_room
 have b_law_room := F_law_room.binds (ps := ["_law_rows_here"]) fun _ _ _ _ _ _ us hl => match us, hl with | [_], _ => rfl
 have F_law_told_columns := fun_mk (st := s_law_told_columns) l_law_told_columns c_law_told_columns k_law_told_columns
 have b_law_told_columns := F_law_told_columns.binds (ps := ["_law_left", "_law_d"]) fun _ _ _ _ _ _ us hl => match us, hl with | [_, _], _ => rfl
 have F_law_columns := fun_mk (st := s_law_columns) l_law_columns c_law_columns k_law_columns
 have b_law_columns := F_law_columns.binds (ps := ["_law_script", "_law_d"]) fun _ _ _ _ _ _ us hl => match us, hl with | [_, _], _ => rfl
 have F_law_new_rows := fun_mk (st := s_law_new_rows) l_law_new_rows c_law_new_rows k_law_new_rows
 have b_law_new_rows := F_law_new_rows.binds (ps := ["_law_rows_here", "_law_columns_here"]) fun _ _ _ _ _ _ us hl => match us, hl with | [_, _], _ => rfl
 have F_law_only := fun_mk (st := s_law_only) l_law_only c_law_only k_law_only
 have b_law_only := F_law_only.binds (ps := ["_law_e"]) fun _ _ _ _ _ _ us hl => match us, hl with | [_], _ => rfl
 have F_law_asked := fun_mk (st := s_law_asked) l_law_asked c_law_asked k_law_asked
 have b_law_asked := F_law_asked.binds (ps := ["_law_one", "_law_way"]) fun _ _ _ _ _ _ us hl => match us, hl with | [_, _], _ => rfl
 have F_law_ints := fun_mk (st := s_law_ints) l_law_ints c_law_ints k_law_ints
 have b_law_ints := F_law_ints.binds (ps := ["_law_found"]) fun _ _ _ _ _ _ us hl => match us, hl with | [_], _ => rfl
 have F_law_lies := fun_mk (st := s_law_lies) l_law_lies c_law_lies k_law_lies
 have b_law_lies := F_law_lies.binds (ps := ["_law_found", "_law_one", "_law_columns_here", "_law_under", "_law_spot_here"]) fun _ _ _ _ _ _ us hl => match us, hl with | [_, _, _, _, _], _ => rfl
 have F_law_right := fun_mk (st := s_law_right) l_law_right c_law_right k_law_right
 have b_law_right := F_law_right.binds (ps := ["_law_found", "_law_one", "_law_columns_here", "_law_under", "_law_spot_here", "_law_due"]) fun _ _ _ _ _ _ us hl => match us, hl with | [_, _, _, _, _, _], _ => rfl
 have F_law_word := fun_mk (st := s_law_word) l_law_word c_law_word k_law_word
 have b_law_word := F_law_word.binds (ps := ["_law_some", "_law_script"]) fun _ _ _ _ _ _ us hl => match us, hl with | [_, _], _ => rfl
 have F_law := fun_mk (st := s_law) l_law c_law k_law
 have b_law := F_law.binds (ps := ["_law_script"]) fun _ _ _ _ _ _ us hl => match us, hl with | [_], _ => rfl
 exact ⟨⟨f_divisor, _, f_multiple, _, f_place, _, f_place_sum, _, f_opposite, _, f_place_less, _, f_dot, _, f_turned, _, f_times, _, f_without, _, f_determinant, _, f_cofactor, _, f_crossed, _, f_scaled, _, f_inverse, _, f_joined, _, f_deed, _, f_moved, _, f_behind, _, f_back, _, f_change, _, f_check_beside, _, f_forth, _, f_home, _, f_led, _, f_new_place, _, f_new_deed, _, f_law_cell, _, f_law_divides, _, f_law_lowest, _, f_law_units, _, f_law_rows, _, f_law_spot, _, f_law_times, _, f_law_undone, _, f_law_room, _, f_law_told_columns, _, f_law_columns, _, f_law_new_rows, _, f_law_only, _, f_law_asked, _, f_law_ints, _, f_law_lies, _, f_law_right, _, f_law_word, _, f_law, _, C_CrystalError, C_NoPlace, C_NoDeed, C_TooMany, C_NoChange, C_NotKept⟩, ⟨F_divisor, PySem.W.mg_of X G n_divisor, b_divisor, F_multiple, PySem.W.mg_of X G n_multiple, b_multiple, F_place, PySem.W.mg_of X G n_place, b_place, F_place_sum, PySem.W.mg_of X G n_place_sum, b_place_sum, F_opposite, PySem.W.mg_of X G n_opposite, b_opposite, F_place_less, PySem.W.mg_of X G n_place_less, b_place_less, F_dot, PySem.W.mg_of X G n_dot, b_dot, F_turned, PySem.W.mg_of X G n_turned, b_turned, F_times, PySem.W.mg_of X G n_times, b_times, F_without, PySem.W.mg_of X G n_without, b_without, F_determinant, PySem.W.mg_of X G n_determinant, b_determinant, F_cofactor, PySem.W.mg_of X G n_cofactor, b_cofactor, F_crossed, PySem.W.mg_of X G n_crossed, b_crossed, F_scaled, PySem.W.mg_of X G n_scaled, b_scaled, F_inverse, PySem.W.mg_of X G n_inverse, b_inverse, F_joined, PySem.W.mg_of X G n_joined, b_joined, F_deed, PySem.W.mg_of X G n_deed, b_deed, F_moved, PySem.W.mg_of X G n_moved, b_moved, F_behind, PySem.W.mg_of X G n_behind, b_behind, F_back, PySem.W.mg_of X G n_back, b_back, F_change, PySem.W.mg_of X G n_change, b_change, F_check_beside, PySem.W.mg_of X G n_check_beside, b_check_beside, F_forth, PySem.W.mg_of X G n_forth, b_forth, F_home, PySem.W.mg_of X G n_home, b_home, F_led, PySem.W.mg_of X G n_led, b_led, F_new_place, PySem.W.mg_of X G n_new_place, b_new_place, F_new_deed, PySem.W.mg_of X G n_new_deed, b_new_deed, F_law_cell, PySem.W.mg_of X G n_law_cell, b_law_cell, F_law_divides, PySem.W.mg_of X G n_law_divides, b_law_divides, F_law_lowest, PySem.W.mg_of X G n_law_lowest, b_law_lowest, F_law_units, PySem.W.mg_of X G n_law_units, b_law_units, F_law_rows, PySem.W.mg_of X G n_law_rows, b_law_rows, F_law_spot, PySem.W.mg_of X G n_law_spot, b_law_spot, F_law_times, PySem.W.mg_of X G n_law_times, b_law_times, F_law_undone, PySem.W.mg_of X G n_law_undone, b_law_undone, F_law_room, PySem.W.mg_of X G n_law_room, b_law_room, F_law_told_columns, PySem.W.mg_of X G n_law_told_columns, b_law_told_columns, F_law_columns, PySem.W.mg_of X G n_law_columns, b_law_columns, F_law_new_rows, PySem.W.mg_of X G n_law_new_rows, b_law_new_rows, F_law_only, PySem.W.mg_of X G n_law_only, b_law_only, F_law_asked, PySem.W.mg_of X G n_law_asked, b_law_asked, F_law_ints, PySem.W.mg_of X G n_law_ints, b_law_ints, F_law_lies, PySem.W.mg_of X G n_law_lies, b_law_lies, F_law_right, PySem.W.mg_of X G n_law_right, b_law_right, F_law_word, PySem.W.mg_of X G n_law_word, b_law_word, F_law, PySem.W.mg_of X G n_law, b_law, PySem.W.mg_none_of X G y_sum, PySem.W.mg_none_of X G y_zip, PySem.W.mg_none_of X G y_enumerate, PySem.W.mg_none_of X G y_range, PySem.W.mg_none_of X G y_len, PySem.W.mg_none_of X G y_abs, PySem.W.mg_none_of X G y_int, PySem.W.mg_none_of X G y_bool, PySem.W.mg_none_of X G y_isinstance, PySem.W.mg_none_of X G y_list, PySem.W.mg_none_of X G y_tuple, PySem.W.mg_none_of X G y_any, PySem.W.mg_none_of X G y_ValueError, PySem.W.mg_of X G n_CrystalError, PySem.W.mg_of X G n_NoPlace, PySem.W.mg_of X G n_NoDeed, PySem.W.mg_of X G n_TooMany, PySem.W.mg_of X G n_NoChange, PySem.W.mg_of X G n_NotKept, q_k_int, q_k_ib, q_k_tt, q_x_NoPlace, q_x_NoDeed, q_x_NoChange, q_x_NotKept, q_xm, q_e_ga, q_e_gt, q_e_ca, q_e_cg, q_e_tk, q_e_ob, q_e_bx, q_i_VE, q_i_NotKept, q_i_NoChange, q_i_NoDeed, q_i_TooMany, fun s v => .of_eq rfl⟩⟩
end Cw
open PySem PySem.W PyProof.Rows
set_option maxRecDepth 100000 in
set_option maxHeartbeats 0 in
/-! Names that the head would else lay equations under (of whole heaps and of their trees): the proof wants none of them. -/
noncomputable def PySem.W.Fast.tw9819147090570462984 : Unit := ()
noncomputable def PySem.W.Fast.tw7910047641147643639 : Unit := ()
noncomputable def PySem.W.Fast.tw1597609536673676210 : Unit := ()
noncomputable def PySem.W.Fast.tw7808921321852890947 : Unit := ()
noncomputable def PySem.W.Fast.tw5630859238787697986 : Unit := ()
noncomputable def PySem.W.Fast.tw12415585199559055933 : Unit := ()
noncomputable def PySem.W.Fast.tw6874408927076486261 : Unit := ()
noncomputable def PySem.W.Fast.tw5943145439349844826 : Unit := ()
noncomputable def PySem.W.Fast.tw14072154210301372574 : Unit := ()
noncomputable def PySem.W.Fast.tw8170230231229096487 : Unit := ()
theorem PySem.Challenge.cw_crystalwords_k53_whole_deeds_in_new_base_holds : PySem.Challenge.rw_crystalwords_k53_whole_deeds_in_new_base.Holds := by
 w_on; o_law; k_head; (case hw => w_witness2)
 k_fill
 refine L2.walkB (l := PySem.Challenge.rw_crystalwords_k53_whole_deeds_in_new_base) (k := 11) (x := "_law_script") rfl rfl ⟨rfl, by decide, by decide⟩ (fun w h Y => PySem.W.kIn_of Y) ?F
 case F =>
  intro w mg fa h KX G hmg
  have T : ∃ t, Cw.Txt (L2.KOf KX) mg t := by
   dsimp only [L2.KOf]
   refine' Cw.txt_mk KX G ?n_divisor ?l_divisor ?c_divisor ?k_divisor ?n_multiple ?l_multiple ?c_multiple ?k_multiple ?n_place ?l_place ?c_place ?k_place ?n_place_sum ?l_place_sum ?c_place_sum ?k_place_sum ?n_opposite ?l_opposite ?c_opposite ?k_opposite ?n_place_less ?l_place_less ?c_place_less ?k_place_less ?n_dot ?l_dot ?c_dot ?k_dot ?n_turned ?l_turned ?c_turned ?k_turned ?n_times ?l_times ?c_times ?k_times ?n_without ?l_without ?c_without ?k_without ?n_determinant ?l_determinant ?c_determinant ?k_determinant ?n_cofactor ?l_cofactor ?c_cofactor ?k_cofactor ?n_crossed ?l_crossed ?c_crossed ?k_crossed ?n_scaled ?l_scaled ?c_scaled ?k_scaled ?n_inverse ?l_inverse ?c_inverse ?k_inverse ?n_joined ?l_joined ?c_joined ?k_joined ?n_deed ?l_deed ?c_deed ?k_deed ?n_moved ?l_moved ?c_moved ?k_moved ?n_behind ?l_behind ?c_behind ?k_behind ?n_back ?l_back ?c_back ?k_back ?n_change ?l_change ?c_change ?k_change ?n_check_beside ?l_check_beside ?c_check_beside ?k_check_beside ?n_forth ?l_forth ?c_forth ?k_forth ?n_home ?l_home ?c_home ?k_home ?n_led ?l_led ?c_led ?k_led ?n_new_place ?l_new_place ?c_new_place ?k_new_place ?n_new_deed ?l_new_deed ?c_new_deed ?k_new_deed ?n_law_cell ?l_law_cell ?c_law_cell ?k_law_cell ?n_law_divides ?l_law_divides ?c_law_divides ?k_law_divides ?n_law_lowest ?l_law_lowest ?c_law_lowest ?k_law_lowest ?n_law_units ?l_law_units ?c_law_units ?k_law_units ?n_law_rows ?l_law_rows ?c_law_rows ?k_law_rows ?n_law_spot ?l_law_spot ?c_law_spot ?k_law_spot ?n_law_times ?l_law_times ?c_law_times ?k_law_times ?n_law_undone ?l_law_undone ?c_law_undone ?k_law_undone ?n_law_room ?l_law_room ?c_law_room ?k_law_room ?n_law_told_columns ?l_law_told_columns ?c_law_told_columns ?k_law_told_columns ?n_law_columns ?l_law_columns ?c_law_columns ?k_law_columns ?n_law_new_rows ?l_law_new_rows ?c_law_new_rows ?k_law_new_rows ?n_law_only ?l_law_only ?c_law_only ?k_law_only ?n_law_asked ?l_law_asked ?c_law_asked ?k_law_asked ?n_law_ints ?l_law_ints ?c_law_ints ?k_law_ints ?n_law_lies ?l_law_lies ?c_law_lies ?k_law_lies ?n_law_right ?l_law_right ?c_law_right ?k_law_right ?n_law_word ?l_law_word ?c_law_word ?k_law_word ?n_law ?l_law ?c_law ?k_law ?n_CrystalError ?n_NoPlace ?n_NoDeed ?n_TooMany ?n_NoChange ?n_NotKept ?y_sum ?y_zip ?y_enumerate ?y_range ?y_len ?y_abs ?y_int ?y_bool ?y_isinstance ?y_list ?y_tuple ?y_any ?y_ValueError ?q_k_int ?q_k_ib ?q_k_tt ?q_x_NoPlace ?q_x_NoDeed ?q_x_NoChange ?q_x_NotKept ?q_xm ?q_e_ga ?q_e_gt ?q_e_ca ?q_e_cg ?q_e_tk ?q_e_ob ?q_e_bx ?q_i_VE ?q_i_NotKept ?q_i_NoChange ?q_i_NoDeed ?q_i_TooMany
   (case n_divisor => k_is)
   (case l_divisor => k_is)
   (case c_divisor => k_is)
   (case k_divisor => k_is)
   (case n_multiple => k_is)
   (case l_multiple => k_is)
   (case c_multiple => k_is)
   (case k_multiple => k_is)
   (case n_place => k_is)
   (case l_place => k_is)
   (case c_place => k_is)
   (case k_place => k_is)
   (case n_place_sum => k_is)
   (case l_place_sum => k_is)
   (case c_place_sum => k_is)
   (case k_place_sum => k_is)
   (case n_opposite => k_is)
   (case l_opposite => k_is)
   (case c_opposite => k_is)
   (case k_opposite => k_is)
   (case n_place_less => k_is)
   (case l_place_less => k_is)
   (case c_place_less => k_is)
   (case k_place_less => k_is)
   (case n_dot => k_is)
   (case l_dot => k_is)
   (case c_dot => k_is)
   (case k_dot => k_is)
   (case n_turned => k_is)
   (case l_turned => k_is)
   (case c_turned => k_is)
   (case k_turned => k_is)
   (case n_times => k_is)
   (case l_times => k_is)
   (case c_times => k_is)
   (case k_times => k_is)
   (case n_without => k_is)
   (case l_without => k_is)
   (case c_without => k_is)
   (case k_without => k_is)
   (case n_determinant => k_is)
   (case l_determinant => k_is)
   (case c_determinant => k_is)
   (case k_determinant => k_is)
   (case n_cofactor => k_is)
   (case l_cofactor => k_is)
   (case c_cofactor => k_is)
   (case k_cofactor => k_is)
   (case n_crossed => k_is)
   (case l_crossed => k_is)
   (case c_crossed => k_is)
   (case k_crossed => k_is)
   (case n_scaled => k_is)
   (case l_scaled => k_is)
   (case c_scaled => k_is)
   (case k_scaled => k_is)
   (case n_inverse => k_is)
   (case l_inverse => k_is)
   (case c_inverse => k_is)
   (case k_inverse => k_is)
   (case n_joined => k_is)
   (case l_joined => k_is)
   (case c_joined => k_is)
   (case k_joined => k_is)
   (case n_deed => k_is)
   (case l_deed => k_is)
   (case c_deed => k_is)
   (case k_deed => k_is)
   (case n_moved => k_is)
   (case l_moved => k_is)
   (case c_moved => k_is)
   (case k_moved => k_is)
   (case n_behind => k_is)
   (case l_behind => k_is)
   (case c_behind => k_is)
   (case k_behind => k_is)
   (case n_back => k_is)
   (case l_back => k_is)
   (case c_back => k_is)
   (case k_back => k_is)
   (case n_change => k_is)
   (case l_change => k_is)
   (case c_change => k_is)
   (case k_change => k_is)
   (case n_check_beside => k_is)
   (case l_check_beside => k_is)
   (case c_check_beside => k_is)
   (case k_check_beside => k_is)
   (case n_forth => k_is)
   (case l_forth => k_is)
   (case c_forth => k_is)
   (case k_forth => k_is)
   (case n_home => k_is)
   (case l_home => k_is)
   (case c_home => k_is)
   (case k_home => k_is)
   (case n_led => k_is)
   (case l_led => k_is)
   (case c_led => k_is)
   (case k_led => k_is)
   (case n_new_place => k_is)
   (case l_new_place => k_is)
   (case c_new_place => k_is)
   (case k_new_place => k_is)
   (case n_new_deed => k_is)
   (case l_new_deed => k_is)
   (case c_new_deed => k_is)
   (case k_new_deed => k_is)
   (case n_law_cell => k_is)
   (case l_law_cell => k_is)
   (case c_law_cell => k_is)
   (case k_law_cell => k_is)
   (case n_law_divides => k_is)
   (case l_law_divides => k_is)
   (case c_law_divides => k_is)
   (case k_law_divides => k_is)
   (case n_law_lowest => k_is)
   (case l_law_lowest => k_is)
   (case c_law_lowest => k_is)
   (case k_law_lowest => k_is)
   (case n_law_units => k_is)
   (case l_law_units => k_is)
   (case c_law_units => k_is)
   (case k_law_units => k_is)
   (case n_law_rows => k_is)
   (case l_law_rows => k_is)
   (case c_law_rows => k_is)
   (case k_law_rows => k_is)
   (case n_law_spot => k_is)
   (case l_law_spot => k_is)
   (case c_law_spot => k_is)
   (case k_law_spot => k_is)
   (case n_law_times => k_is)
   (case l_law_times => k_is)
   (case c_law_times => k_is)
   (case k_law_times => k_is)
   (case n_law_undone => k_is)
   (case l_law_undone => k_is)
   (case c_law_undone => k_is)
   (case k_law_undone => k_is)
   (case n_law_room => k_is)
   (case l_law_room => k_is)
   (case c_law_room => k_is)
   (case k_law_room => k_is)
   (case n_law_told_columns => k_is)
   (case l_law_told_columns => k_is)
   (case c_law_told_columns => k_is)
   (case k_law_told_columns => k_is)
   (case n_law_columns => k_is)
   (case l_law_columns => k_is)
   (case c_law_columns => k_is)
   (case k_law_columns => k_is)
   (case n_law_new_rows => k_is)
   (case l_law_new_rows => k_is)
   (case c_law_new_rows => k_is)
   (case k_law_new_rows => k_is)
   (case n_law_only => k_is)
   (case l_law_only => k_is)
   (case c_law_only => k_is)
   (case k_law_only => k_is)
   (case n_law_asked => k_is)
   (case l_law_asked => k_is)
   (case c_law_asked => k_is)
   (case k_law_asked => k_is)
   (case n_law_ints => k_is)
   (case l_law_ints => k_is)
   (case c_law_ints => k_is)
   (case k_law_ints => k_is)
   (case n_law_lies => k_is)
   (case l_law_lies => k_is)
   (case c_law_lies => k_is)
   (case k_law_lies => k_is)
   (case n_law_right => k_is)
   (case l_law_right => k_is)
   (case c_law_right => k_is)
   (case k_law_right => k_is)
   (case n_law_word => k_is)
   (case l_law_word => k_is)
   (case c_law_word => k_is)
   (case k_law_word => k_is)
   (case n_law => k_is)
   (case l_law => k_is)
   (case c_law => k_is)
   (case k_law => k_is)
   (case n_CrystalError => k_is)
   (case n_NoPlace => k_is)
   (case n_NoDeed => k_is)
   (case n_TooMany => k_is)
   (case n_NoChange => k_is)
   (case n_NotKept => k_is)
   (case y_sum => k_is)
   (case y_zip => k_is)
   (case y_enumerate => k_is)
   (case y_range => k_is)
   (case y_len => k_is)
   (case y_abs => k_is)
   (case y_int => k_is)
   (case y_bool => k_is)
   (case y_isinstance => k_is)
   (case y_list => k_is)
   (case y_tuple => k_is)
   (case y_any => k_is)
   (case y_ValueError => k_is)
   (case q_k_int => kit_is)
   (case q_k_ib => kit_is)
   (case q_k_tt => kit_is)
   (case q_x_NoPlace => k_exc)
   (case q_x_NoDeed => k_exc)
   (case q_x_NoChange => k_exc)
   (case q_x_NotKept => k_exc)
   (case q_xm => kts_exm)
   (case q_e_ga => k_is)
   (case q_e_gt => k_is)
   (case q_e_ca => k_is)
   (case q_e_cg => k_is)
   (case q_e_tk => k_is)
   (case q_e_ob => k_is)
   (case q_e_bx => k_is)
   (case q_i_VE => kit_is)
   (case q_i_NotKept => kit_is)
   (case q_i_NoChange => kit_is)
   (case q_i_NoDeed => kit_is)
   (case q_i_TooMany => kit_is)
  obtain ⟨t, T⟩ := T
  have e0 := hmg.symm.trans T.m_law
  cases e0
  exact ⟨t.d_law, T.bl, fun base kb nb => Cw.ok_law T⟩
#print axioms PySem.Challenge.cw_crystalwords_k53_whole_deeds_in_new_base_holds
