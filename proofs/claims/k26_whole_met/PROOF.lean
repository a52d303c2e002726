import PyProof.Rows.All
import Wide.All
import OpenK.AllK
import Wide.FinOn
import Lean
import PyProof.EqAt
import PyProof.EqKinds
import PyProof.TupleCall
import PySem.Challenge.RW_crystalwords_k26_whole_met
set_option Elab.async false
set_option linter.all false
set_option maxRecDepth 100000
namespace L2
open PySem PySem.Spec PyProof.Rows
open PySem.W (Frag)

noncomputable abbrev Key := Sum Int Str
noncomputable def keyIs : Key → Value → Bool
  | .inl k, v => Value.isInt k v
  | .inr x, v => Value.isStrOf x v
noncomputable def keyH (w : World) : Key → Int
  | .inl k => hashInt k
  | .inr x => hashStr w x
theorem keyIs_shape : ∀ {k : Key} {v : Value}, keyIs k v = true → (∃ i t, k = Sum.inl i ∧ v = Value.int i t) ∨ (∃ x t, k = Sum.inr x ∧ v = Value.str x t)
  | .inl i, v, h => by
    obtain ⟨t, e⟩ := Value.isInt_shape (k := i) (v := v) h
    exact .inl ⟨i, t, rfl, e⟩
  | .inr x, v, h => by
    obtain ⟨t, e⟩ := Value.isStrOf_shape (x := x) (v := v) h
    exact .inr ⟨x, t, rfl, e⟩
theorem key_ll (a b : Int) : decide ((Sum.inl a : Key) = Sum.inl b) = (a == b) := by
  by_cases e : a = b
  · subst e; simp
  · have h : ¬ (Sum.inl a : Key) = Sum.inl b := fun q => e (Sum.inl.inj q)
    rw [decide_eq_false h]
    exact (beq_eq_false_iff_ne.mpr e).symm
theorem key_rr (a b : Str) : decide ((Sum.inr a : Key) = Sum.inr b) = decide (a = b) := by
  by_cases e : a = b
  · subst e; simp
  · have h : ¬ (Sum.inr a : Key) = Sum.inr b := fun q => e (Sum.inr.inj q)
    rw [decide_eq_false h, decide_eq_false e]
theorem key_lr (a : Int) (b : Str) : decide ((Sum.inl a : Key) = Sum.inr b) = false := decide_eq_false (fun q => nomatch q)
theorem key_rl (a : Str) (b : Int) : decide ((Sum.inr a : Key) = Sum.inl b) = false := decide_eq_false (fun q => nomatch q)

noncomputable def mixKind (prog : Program) (w : World) : PySem.KeyKind prog w Key where
  is := keyIs
  hash := keyH w
  inj := fun v a b ha hb => by
    rcases keyIs_shape ha with ⟨i, t, rfl, rfl⟩ | ⟨x, t, rfl, rfl⟩
    · rcases keyIs_shape hb with ⟨j, u, rfl, e⟩ | ⟨y, u, rfl, e⟩
      · injection e with e1 _; rw [e1]
      · exact nomatch e
    · rcases keyIs_shape hb with ⟨j, u, rfl, e⟩ | ⟨y, u, rfl, e⟩
      · exact nomatch e
      · injection e with e1 _; rw [e1]
  byValue := fun k v h => by
    rcases keyIs_shape h with ⟨i, t, rfl, rfl⟩ | ⟨x, t, rfl, rfl⟩ <;> rfl
  pyHash := fun hv h => by
    rcases keyIs_shape hv with ⟨i, t, rfl, rfl⟩ | ⟨x, t, rfl, rfl⟩
    · exact wpAny_pyHash_int h
    · exact wpAny_pyHash_str h
  eqBool := fun hu hv h => by
    rcases keyIs_shape hu with ⟨i, t, rfl, rfl⟩ | ⟨x, t, rfl, rfl⟩
    · rcases keyIs_shape hv with ⟨j, u, rfl, rfl⟩ | ⟨y, u, rfl, rfl⟩
      · rw [key_ll] at h; exact wpAny_eqBool_int h
      · rw [key_lr] at h; exact SeqAt.EqAt.int_str i t y u _ _ _ _ h
    · rcases keyIs_shape hv with ⟨j, u, rfl, rfl⟩ | ⟨y, u, rfl, rfl⟩
      · rw [key_rl] at h; exact SeqAt.EqAt.str_int x t j u _ _ _ _ h
      · rw [key_rr] at h; exact wpAny_eqBool_str h
  «strs» := fun k x t v h => by
    rcases keyIs_shape h with ⟨i, u, rfl, e⟩ | ⟨y, u, rfl, e⟩
    · exact nomatch e
    · injection e with e1 _
      subst e1
      cases v <;> rfl


inductive V where
  | non | bl (b : Bool) | int (i : Int) | str (x : Str) | byt (b : Array UInt8) | flt (b : UInt64) | ref (a : Addr) | ty (n : String)
  deriving DecidableEq

noncomputable def RelV : V → Value → Prop
  | .non, u => u = Value.none
  | .bl b, u => u = Value.bool b
  | .int i, u => ∃ t, u = Value.int i t
  | .str x, u => ∃ t, u = Value.str x t
  | .byt b, u => ∃ t, u = Value.bytes b t
  | .flt b, u => ∃ t, u = Value.float b t
  | .ref a, u => u = Value.ref a
  | .ty n, u => u = Value.type n

noncomputable abbrev Vals : List V → List Value → Prop := Paired RelV
theorem Vals.length {xs : List V} {us : List Value} (r : Vals xs us) : xs.length = us.length := Paired.length r
theorem Vals.get : ∀ {xs : List V} {us : List Value} {i : Nat} {x : V}, Vals xs us → xs[i]? = some x → ∃ u, us[i]? = some u ∧ RelV x u
  | _, _, _, _, .nil, e => by simp at e
  | _, _, 0, _, .cons r _, e => by simp at e; subst e; exact ⟨_, rfl, r⟩
  | _, _, i + 1, x, .cons _ t, e => by
    obtain ⟨u, h1, h2⟩ := Vals.get (i := i) (x := x) t (by simpa using e)
    exact ⟨u, by simpa using h1, h2⟩
theorem Vals.set {x : V} {u : Value} (r : RelV x u) : ∀ {xs : List V} {us : List Value} (i : Nat), Vals xs us → Vals (xs.set i x) (us.set i u)
  | _, _, _, .nil => .nil
  | _, _, 0, .cons _ t => .cons r t
  | _, _, i + 1, .cons q t => .cons q (Vals.set r i t)
theorem Vals.append : ∀ {xs ys : List V} {us ws : List Value}, Vals xs us → Vals ys ws → Vals (xs ++ ys) (us ++ ws)
  | _, _, _, _, .nil, s => s
  | _, _, _, _, .cons r t, s => .cons r (Vals.append t s)
theorem Vals.take : ∀ {xs : List V} {us : List Value} (n : Nat), Vals xs us → Vals (xs.take n) (us.take n)
  | _, _, 0, _ => .nil
  | _, _, _ + 1, .nil => .nil
  | _, _, n + 1, .cons r t => .cons r (Vals.take n t)
theorem Vals.drop : ∀ {xs : List V} {us : List Value} (n : Nat), Vals xs us → Vals (xs.drop n) (us.drop n)
  | _, _, 0, r => r
  | _, _, _ + 1, .nil => .nil
  | _, _, n + 1, .cons _ t => Vals.drop n t
theorem Vals.none_of : ∀ {xs : List V} {us : List Value} {i : Nat}, Vals xs us → xs[i]? = none → us[i]? = none := fun {xs us i} r e => by
  have h1 := r.length
  have h2 : xs.length ≤ i := List.getElem?_eq_none_iff.mp e
  exact List.getElem?_eq_none_iff.mpr (by omega)

noncomputable def RelO : Option V → Option Value → Prop
  | some v, some u => RelV v u
  | none, none => True
  | _, _ => False
noncomputable def KV {κ : Type} : List (κ × V) → List (κ × Value) → Prop := Paired fun (p : κ × V) (q : κ × Value) => p.1 = q.1 ∧ RelV p.2 q.2

noncomputable def kV : Key → V
  | .inl i => .int i
  | .inr x => .str x

inductive HO where
    | lst (xs : List V)
    | tup (xs : List V)
    | dK (kvs : List (Key × V)) | dT (kvs : List (List Key × V))
    | set (S : Int → Bool) (n : Nat)
    | ins (C dx : Addr) (fs : List (Str × V))
    | own (x : Addr)
    | xd (fs : List (Str × V))
    | met (f x : Addr)
    | rng (lo hi : Int)
    | frz (o : Obj) (u : HO)
    | tbl (ps : Array Value)
    | ext (φ : Heap → Prop)

noncomputable abbrev Hp := Addr → Option HO
noncomputable def upd (H : Hp) (a : Addr) (o : HO) : Hp := fun b => if b = a then some o else H b
theorem upd_same {H : Hp} {a : Addr} {o : HO} : upd H a o a = some o := by unfold upd; rw [if_pos rfl]
theorem upd_ne {H : Hp} {a b : Addr} {o : HO} (h : b ≠ a) : upd H a o b = H b := by unfold upd; rw [if_neg h]
theorem upd_upd {H : Hp} {a : Addr} {o u : HO} : upd (upd H a o) a u = upd H a u := by
  funext b; unfold upd; split <;> rfl
theorem ne_of_none {H : Hp} {a b : Addr} {o : HO} (h : H a = some o) (h' : H b = none) : a ≠ b := by
  intro e; subst e; rw [h] at h'; cases h'

section
variable (P : Program) (w : World)
noncomputable def ObjOk (H : Hp) (h : Heap) (a : Addr) : HO → Prop
  | .lst xs => xs.length ≤ sizeLine ∧ ∃ (its : List Value) (n : Nat), Vals xs its ∧ h.get? a = some { cls := .type "list", data := .seq its.toArray n }
  | .tup xs => xs.length ≤ sizeLine ∧ ∃ its : List Value, Vals xs its ∧ IsTup h a its.toArray
  | .dK kvs => kvs.length ≤ sizeLine ∧ (a == sysModules) = false ∧ ∃ vs, KV kvs vs ∧ h.DictOf (mixKind P w) a vs
  | .dT kvs => kvs.length ≤ sizeLine ∧ (a == sysModules) = false ∧ ∃ xs : List (List Key × Addr × Value),
      Paired (fun (p : List Key × V) (q : List Key × Addr × Value) => p.1 = q.1 ∧ H q.2.1 = some (.tup (p.1.map kV)) ∧ RelV p.2 q.2.2) kvs xs ∧
      ∃ o es ep, h.get? a = some o ∧ o.ExactDict ∧ o.data = .dict es ep ∧ es.toList = xs.map (entryOfKey (tupleKind (mixKind P w))) ∧ (xs.map (·.1)).Nodup
  | .set S n => h.SetOf (intKind P w) a S n
  | .ins C dx fs => H dx = some (.own a) ∧ fs.length ≤ 1000 ∧ dx ≠ a ∧ h.get? a = some (PySem.W.instObj C dx) ∧
      ∃ mA, h.Ns1 dx mA ∧ (∀ f, RelO (fs.lookup f) (mA f)) ∧ PySem.Within mA (fs.map (·.1))
  | .own _ => ∃ o, h.get? a = some o
  | .xd fs => ∃ mA, h.Ns1 a mA ∧ ∀ f, RelO (fs.lookup f) (mA f)
  | .rng lo hi => ∃ t u v, h.get? a = some { cls := .type "range", data := .fields #[.int lo t, .int hi u, .int 1 v] }
  | .frz o u => h.get? a = some o ∧ ObjOk H h a u
  | .tbl ps => h.get? a = some { cls := .none, data := .fields ps }
  | .met f x => h.get? a = some (PySem.W.methodObj (.ref f) (.ref x))
  | .ext φ => φ h ∧ (∃ o, h.get? a = some o) ∧ ∀ h1 h2 : Heap, φ h1 → (∀ o, h1.get? a = some o → h2.get? a = some o) → φ h2
noncomputable def HOk (H : Hp) (h : Heap) : Prop := ∀ a o, H a = some o → ObjOk P w H h a o
end

section
variable {P : Program} {w : World} {H H' : Hp} {h h' : Heap} {a : Addr} {o : HO}
theorem ObjOk.lt (x : ObjOk P w H h a o) : a < h.objs.size := by
  cases o with
  | lst xs => obtain ⟨_, _, _, _, e⟩ := x; exact Heap.lt_size e
  | tup xs => obtain ⟨_, _, _, p⟩ := x; exact p.lt
  | dK kvs => obtain ⟨_, _, _, _, o, _, _, e, _⟩ := x; exact Heap.lt_size e
  | dT kvs => obtain ⟨_, _, _, _, o, _, _, e, _⟩ := x; exact Heap.lt_size e
  | set S n => obtain ⟨o, _, _, _, e, _⟩ := x; exact Heap.lt_size e
  | ins C dx fs => obtain ⟨_, _, _, e, _⟩ := x; exact Heap.lt_size e
  | own y => obtain ⟨_, e⟩ := x; exact Heap.lt_size e
  | xd fs => obtain ⟨_, ⟨_, _, _, e, _⟩, _⟩ := x; exact Heap.lt_size e
  | rng lo hi => obtain ⟨_, _, _, e⟩ := x; exact Heap.lt_size e
  | frz ob u => obtain ⟨e, _⟩ := x; exact Heap.lt_size e
  | tbl ps => exact Heap.lt_size (show h.get? a = some _ from x)
  | met f y => exact Heap.lt_size (show h.get? a = some _ from x)
  | ext φ => obtain ⟨_, ⟨_, e⟩, _⟩ := x; exact Heap.lt_size e
theorem Paired.mapP {α β : Type} {F G : α → β → Prop} : ∀ {l₁ : List α} {l₂ : List β}, Paired F l₁ l₂ → (∀ a b, F a b → G a b) → Paired G l₁ l₂
  | _, _, .nil, _ => .nil
  | _, _, .cons r t, f => .cons (f _ _ r) (Paired.mapP t f)
theorem ObjOk.stay (x : ObjOk P w H h a o) (k : ∀ b u, (b = a ∨ H b = some (.own a)) → h.get? b = some u → h'.get? b = some u)
    (ho : ∀ b, H b = some (.own a) → H' b = some (.own a)) (ht : ∀ b xs, H b = some (.tup xs) → H' b = some (.tup xs)) : ObjOk P w H' h' a o := by
  induction o with
  | lst xs => obtain ⟨z, its, n, r, e⟩ := x; exact ⟨z, its, n, r, k _ _ (.inl rfl) e⟩
  | tup xs => obtain ⟨z, its, r, ob, e, c⟩ := x; exact ⟨z, its, r, ob, k _ _ (.inl rfl) e, c⟩
  | dK kvs => obtain ⟨z, y, vs, r, ob, es, ep, e, c⟩ := x; exact ⟨z, y, vs, r, ob, es, ep, k _ _ (.inl rfl) e, c⟩
  | dT kvs =>
    obtain ⟨z, y, xs, r, ob, es, ep, e, c⟩ := x
    exact ⟨z, y, xs, Paired.mapP r fun p q z => ⟨z.1, ht _ _ z.2.1, z.2.2⟩, ob, es, ep, k _ _ (.inl rfl) e, c⟩
  | set S n => obtain ⟨ob, es, ep, t, e, c⟩ := x; exact ⟨ob, es, ep, t, k _ _ (.inl rfl) e, c⟩
  | ins C dx fs =>
    obtain ⟨d, z, ne, e, mA, ⟨od, es, ep, e2, c⟩, r⟩ := x
    exact ⟨ho _ d, z, ne, k _ _ (.inl rfl) e, mA, ⟨od, es, ep, k _ _ (.inr d) e2, c⟩, r⟩
  | own y => obtain ⟨ob, e⟩ := x; exact ⟨ob, k _ _ (.inl rfl) e⟩
  | xd fs => obtain ⟨mA, ⟨od, es, ep, e, c⟩, r⟩ := x; exact ⟨mA, ⟨od, es, ep, k _ _ (.inl rfl) e, c⟩, r⟩
  | rng lo hi => obtain ⟨t, u, v, e⟩ := x; exact ⟨t, u, v, k _ _ (.inl rfl) e⟩
  | frz ob u ih => obtain ⟨e, q⟩ := x; exact ⟨k _ _ (.inl rfl) e, ih q⟩
  | tbl ps =>
    have e : h.get? a = some { cls := .none, data := .fields ps } := x
    show h'.get? a = some { cls := .none, data := .fields ps }
    exact k a _ (.inl rfl) e
  | met f y =>
    have e : h.get? a = some (PySem.W.methodObj (.ref f) (.ref y)) := x
    show h'.get? a = some (PySem.W.methodObj (.ref f) (.ref y))
    exact k a _ (.inl rfl) e
  | ext φ => obtain ⟨p, ⟨o, e⟩, st⟩ := x; exact ⟨st _ _ p fun o q => k _ _ (.inl rfl) q, ⟨o, k _ _ (.inl rfl) e⟩, st⟩
theorem HOk.lt (x : HOk P w H h) (e : H a = some o) : a < h.objs.size := (x a o e).lt
theorem HOk.fresh (x : HOk P w H h) (e : h.objs.size ≤ a) : H a = none := by
  cases q : H a with
  | none => rfl
  | some u => exact absurd (Nat.lt_of_lt_of_le (x.lt q) e) (Nat.lt_irrefl _)
theorem HOk.kept (x : HOk P w H h) (k : ∀ b u, h.get? b = some u → h'.get? b = some u) : HOk P w H h' := fun a o e =>
  (x a o e).stay (fun b u _ q => k b u q) (fun _ q => q) fun _ _ q => q
theorem HOk.laid (x : HOk P w H h) (k : ∀ b u, h.get? b = some u → h'.get? b = some u) (hp : h.objs.size ≤ a) (new : ObjOk P w (upd H a o) h' a o) : HOk P w (upd H a o) h' := fun b u e => by
  have hn := x.fresh hp
  by_cases hb : b = a
  · subst hb; rw [upd_same] at e; cases e; exact new
  · rw [upd_ne hb] at e
    exact (x b u e).stay (fun c v _ q => k c v q) (fun c q => by rw [upd_ne (ne_of_none q hn)]; exact q) fun c xs q => by rw [upd_ne (ne_of_none q hn)]; exact q
end

noncomputable def Rd (H : Hp) (a : Addr) (u : HO) : Prop := H a = some u ∨ ∃ o, H a = some (.frz o u)
theorem Rd.of {H : Hp} {a : Addr} {u : HO} (h : H a = some u) : Rd H a u := .inl h
theorem Rd.ok {P : Program} {w : World} {H : Hp} {h : Heap} {a : Addr} {u : HO} (r : Rd H a u) (x : HOk P w H h) : ObjOk P w H h a u := by
  rcases r with r | ⟨o, r⟩
  · exact x a u r
  · obtain ⟨_, q⟩ := x a _ r
    exact q
noncomputable def Mut : Option HO → Prop
  | some (.lst _) => True
  | some (.dK _) => True
  | some (.dT _) => True
  | some (.set _ _) => True
  | some (.ins _ _ _) => True
  | some (.ext _) => True
  | _ => False
section
variable {P : Program} {w : World} {H : Hp} {h h' : Heap} {x e : Addr} {o' : HO}
theorem HOk.write (ok : HOk P w H h) (mu : Mut (H x)) (he : e = x ∨ H e = some (.own x)) (k : ∀ b u, b ≠ e → h.get? b = some u → h'.get? b = some u) (heo : ∃ u, h'.get? e = some u)
    (new : ObjOk P w (upd H x o') h' x o') : HOk P w (upd H x o') h' := fun b u q => by
  have nown : ∀ c y, H c = some (.own y) → c ≠ x := fun c y r z => by subst z; rw [r] at mu; exact mu
  have ntup : ∀ c xs, H c = some (.tup xs) → c ≠ x := fun c xs r z => by subst z; rw [r] at mu; exact mu
  by_cases hb : b = x
  · subst hb; rw [upd_same] at q; cases q; exact new
  · rw [upd_ne hb] at q
    by_cases hbe : b = e
    · have q' : H b = some (.own x) := by
        rcases he with z | z
        · exact absurd (hbe.trans z) hb
        · rw [hbe]; exact z
      rw [q] at q'; cases q'
      obtain ⟨v, hv⟩ := heo
      exact ⟨v, by rw [hbe]; exact hv⟩
    · refine (ok b u q).stay (fun c v hc r => k c v ?_ r) (fun c r => by rw [upd_ne (nown c b r)]; exact r) fun c xs r => by rw [upd_ne (ntup c xs r)]; exact r
      rcases hc with rfl | hc
      · exact hbe
      · rintro rfl
        rcases he with z | z
        · exact nown c b hc z
        · rw [hc] at z; cases z; exact hb rfl
end

structure Un (fs ex : List Addr) (H H' : Hp) (h h' : Heap) : Prop where
  keep : ∀ b o, h.get? b = some o → H b = none → b ∉ fs → b ∉ ex → h'.get? b = some o
  slot : ∀ b o, h.get? b = some o → H b = none → b ∈ fs → b ∉ ex → ∃ sl, h'.get? b = some { o with slots := sl }
  free : ∀ b o, h.get? b = some o → H b = none → b ∉ ex → H' b = none
  there : ∀ b o, h.get? b = some o → b ∉ ex → ∃ o', h'.get? b = some o'
  tups : ∀ b xs, H b = some (.tup xs) → H' b = some (.tup xs)
  frzs : ∀ b o u, H b = some (.frz o u) → H' b = some (.frz o u)
  tbls : ∀ b ps, H b = some (.tbl ps) → ∃ more, H' b = some (.tbl (ps ++ more))
section
variable {fs fs' ex ex' : List Addr} {H H1 H2 : Hp} {h h1 h2 h' : Heap} {a x e : Addr} {o : HO}
theorem Un.any (u : Un fs ex H H1 h h1) {b : Addr} {ob : Obj} (q : h.get? b = some ob) (n : H b = none) (hx : b ∉ ex) : ∃ sl, h1.get? b = some { ob with slots := sl } := by
  by_cases hb : b ∈ fs
  · exact u.slot b ob q n hb hx
  · exact ⟨ob.slots, u.keep b ob q n hb hx⟩
theorem Un.trans (a : Un fs ex H H1 h h1) (b : Un fs ex H1 H2 h1 h2) : Un fs ex H H2 h h2 where
  keep := fun c ob q n hc hx => b.keep c ob (a.keep c ob q n hc hx) (a.free c ob q n hx) hc hx
  slot := fun c ob q n hc hx => by
    obtain ⟨sl, e1⟩ := a.slot c ob q n hc hx
    obtain ⟨sl', e2⟩ := b.slot c _ e1 (a.free c ob q n hx) hc hx
    exact ⟨sl', e2⟩
  free := fun c ob q n hx => by
    obtain ⟨o', e1⟩ := a.there c ob q hx
    exact b.free c o' e1 (a.free c ob q n hx) hx
  there := fun c ob q hx => by
    obtain ⟨o', e1⟩ := a.there c ob q hx
    exact b.there c o' e1 hx
  tups := fun c xs q => b.tups c xs (a.tups c xs q)
  frzs := fun c ob xs q => b.frzs c ob xs (a.frzs c ob xs q)
  tbls := fun c ps q => by
    obtain ⟨m1, e1⟩ := a.tbls c ps q
    obtain ⟨m2, e2⟩ := b.tbls c _ e1
    exact ⟨m1 ++ m2, by rw [e2, Array.append_assoc]⟩
theorem Un.kept (k : ∀ b u, h.get? b = some u → h'.get? b = some u) : Un fs ex H H h h' :=
  ⟨fun b ob q _ _ _ => k b ob q, fun b ob q _ _ _ => ⟨ob.slots, k b ob q⟩, fun _ _ _ n _ => n, fun b ob q _ => ⟨ob, k b ob q⟩, fun _ _ q => q, fun _ _ _ q => q, fun _ ps q => ⟨#[], by rw [q]; simp⟩⟩
theorem Un.refl : Un fs ex H H h h := Un.kept fun _ _ q => q
theorem Un.laid (k : ∀ b u, h.get? b = some u → h'.get? b = some u) (hp : h.objs.size ≤ a) (hn : H a = none) : Un fs ex H (upd H a o) h h' where
  keep := fun b u q _ _ _ => k b u q
  slot := fun b u q _ _ _ => ⟨u.slots, k b u q⟩
  free := fun b u q n _ => by rw [upd_ne (Nat.ne_of_lt (Nat.lt_of_lt_of_le (Heap.lt_size q) hp))]; exact n
  there := fun b u q _ => ⟨u, k b u q⟩
  tups := fun b xs q => by rw [upd_ne (ne_of_none q hn)]; exact q
  frzs := fun b u xs q => by rw [upd_ne (ne_of_none q hn)]; exact q
  tbls := fun b ps q => ⟨#[], by rw [upd_ne (ne_of_none q hn), q]; simp⟩
theorem Un.write (mu : Mut (H x)) (he : e = x ∨ H e = some (.own x)) (k : ∀ b u, b ≠ e → h.get? b = some u → h'.get? b = some u) (heo : ∃ u, h'.get? e = some u) : Un fs ex H (upd H x o) h h' := by
  have hx : ∀ b, H b = none → b ≠ x := fun b n z => by subst z; rw [n] at mu; exact mu
  have hb : ∀ b, H b = none → b ≠ e := fun b n z => by
    subst z
    rcases he with r | r
    · exact hx b n r
    · rw [n] at r; cases r
  have hm : ∀ b u, H b = some u → ¬ Mut (some u) → b ≠ x := fun b u q nm z => by subst z; rw [q] at mu; exact nm mu
  refine ⟨fun b u q n _ _ => k b u (hb b n) q, fun b u q n _ _ => ⟨u.slots, k b u (hb b n) q⟩, fun b u q n _ => by rw [upd_ne (hx b n)]; exact n, fun b u q _ => ?_,
    fun b xs q => by rw [upd_ne (hm b _ q fun z => z)]; exact q, fun b u xs q => by rw [upd_ne (hm b _ q fun z => z)]; exact q, fun b ps q => ⟨#[], by rw [upd_ne (hm b _ q fun z => z), q]; simp⟩⟩
  by_cases hbe : b = e
  · subst hbe; exact heo
  · exact ⟨u, k b u hbe q⟩
theorem Un.mono (u : Un fs ex H H1 h h1) (hs : ∀ b ∈ fs, b ∈ fs') (hx : ∀ b ∈ ex, b ∈ ex') : Un fs' ex' H H1 h h1 :=
  ⟨fun b ob q n hb he => u.keep b ob q n (fun z => hb (hs b z)) fun z => he (hx b z), fun _ _ q n _ he => u.any q n fun z => he (hx _ z), fun b ob q n he => u.free b ob q n fun z => he (hx b z), fun b ob q he => u.there b ob q fun z => he (hx b z), u.tups, u.frzs, u.tbls⟩
end

noncomputable def trk (h : Heap) (H : Hp) : List Addr := (List.range h.objs.size).filter fun a => (H a).isSome
noncomputable def hidT (h : Heap) (H : Hp) : Heap := PySem.W.hideAll h (trk h H)
theorem hidT_size (h : Heap) (H : Hp) : (hidT h H).objs.size = h.objs.size := PySem.W.hideAll_size _ _
theorem hidT_get {h : Heap} {H : Hp} {b : Addr} {o : Obj} (e : h.get? b = some o) (n : H b = none) : (hidT h H).get? b = some o :=
  PySem.W.hideAll_get _ e fun hm => by
    have q : (H b).isSome = true := (List.mem_filter.mp hm).2
    rw [n] at q; simp at q
theorem of_hidT {h : Heap} {H : Hp} {b : Addr} {o : Obj} (e : (hidT h H).get? b = some o) : h.get? b = some o ∧ H b = none := by
  have e' : h.get? b = some o := PySem.W.of_hideAll (trk h H) e
  refine ⟨e', ?_⟩
  cases q : H b with
  | none => rfl
  | some x =>
    have hm : b ∈ trk h H := List.mem_filter.mpr ⟨List.mem_range.mpr (Heap.lt_size e'), by simp [q]⟩
    have z : (hidT h H).get? b = none := PySem.W.hideAll_none (trk h H) hm
    rw [z] at e; cases e

noncomputable def allNews (g h : Heap) (L : Addr) : List (Addr × Obj) := (List.range h.objs.size).filterMap fun a => if a = L ∨ (g.get? a).isSome = true then none else (h.get? a).map fun o => (a, o)
noncomputable def rest (g h : Heap) (L d : Addr) : List (Addr × Obj) := (allNews g h L).filter fun p => decide (p.1 ≠ d)

structure Mod (K : Frag) (mg : Str → Option Value) (base : Heap) : Prop where
  kin : K.In base
  glob : base.Ns mainGlobals mg
  blt : ∃ mb, base.Ns builtinsNs mb ∧ ∀ x : Str, x ≠ "__name__" → mb x = bootBuiltins x
  nolimit : base.NoLimit

structure Cx where
  prog : Program
  w : World
  K : Frag
  mg : Str → Option Value
  base : Heap
  A : Around
  N : List Str
  s₀ : Shared
  H₀ : Hp
  env : Env
  outer : List Env
  stack : List Env
  ex : List Addr
  fn : Str → Bool
  calm : Bool
  pn : List (Addr × Obj)
  xe : Value → Shared → Prop
noncomputable def frs (l : List Env) : List Addr := l.filterMap (·.frame)
noncomputable abbrev Cx.fs (X : Cx) : List Addr := frs X.outer

noncomputable def Vis (sc : Scope) (x : Str) : Prop := sc.names.lookup x = some .local ∨ sc.names.lookup x = some .cell ∨ sc.names.lookup x = some .free
noncomputable def Loc (sc : Scope) (x : Str) : Prop := sc.names.lookup x = some .local ∨ sc.names.lookup x = some .cell
noncomputable def Look (env : Env) (h : Heap) (m : Str → Option Value) (x : Str) (u : Value) : Prop :=
  (env.kindOf x = some .local ∧ m x = some u) ∨ ((env.kindOf x = some .cell ∨ env.kindOf x = some .free) ∧ ∃ c, env.cells.lookup x = some c ∧ h.IsCell c (some u))

structure Cx.Ok (X : Cx) : Prop where
  mod : Mod X.K X.mg X.base
  kind : X.env.scope.kind = .function
  glob : X.env.globals = mainGlobals
  blt : X.env.builtins = builtinsNs
  above : X.s₀.heap.objs.size ≤ X.env.locals
  inj : ∀ x y c, X.env.cells.lookup x = some c → X.env.cells.lookup y = some c → x = y
  has : ∀ x, (X.env.kindOf x = some .cell ∨ X.env.kindOf x = some .free) → ∃ c, X.env.cells.lookup x = some c
  cab : ∀ x c, X.fn x = true → X.env.cells.lookup x = some c → X.s₀.heap.objs.size ≤ c
  hd : X.calm = true → X.A.handled = none
  frames : X.A.frames = some X.stack
  stk : X.stack = X.outer ∨ (X.stack = X.env :: X.outer ∧ X.env.frame = some X.env.locals)
  exf : ∀ b ∈ X.ex, b ≠ X.env.locals ∧ ∀ x c, X.env.cells.lookup x = some c → c ≠ b
  bs : ∀ b o, X.base.get? b = some o → X.s₀.heap.get? b = some o ∧ X.H₀ b = none
  bsz : X.base.objs.size ≤ X.s₀.heap.objs.size
  noex : ∀ b o, X.base.get? b = some o → b ∉ X.ex
  exfs : ∀ b ∈ X.ex, b ∉ X.fs
  funs : X.s₀.heap.FunFrames X.base X.outer
  frf : ∀ b ∈ X.fs, X.H₀ b = none

structure Inv (X : Cx) (pins : List (Addr × Obj)) (σ : List (Option V)) (H : Hp) (s : Shared) : Prop where
  ok : X.Ok
  os : s.os = X.s₀.os
  bare : AllBare s.gens
  base : Un X.fs X.ex X.H₀ H X.s₀.heap s.heap
  loc : ∃ m, s.heap.Ns X.env.locals m ∧ ∀ (i : Nat) (x : Str) (v : V), X.N[i]? = some x → σ[i]? = some (some v) → Vis X.env.scope x → ∃ u, RelV v u ∧ Look X.env s.heap m x u
  cell : ∀ x c, X.env.cells.lookup x = some c → ∃ v, s.heap.IsCell c v
  free : H X.env.locals = none
  freeC : ∀ x c, X.env.cells.lookup x = some c → H c = none
  pin : ∀ p ∈ X.pn ++ pins, s.heap.get? p.1 = some p.2 ∧ H p.1 = none ∧ p.1 ≠ X.env.locals ∧ p.1 ∉ X.fs ∧ ∀ v, p.2.data ≠ .cell v
  hok : HOk X.prog X.w H s.heap
  len : σ.length = X.N.length

section
variable {X : Cx} {pins : List (Addr × Obj)} {σ : List (Option V)} {H H' : Hp} {s : Shared} {h' : Heap}

theorem Cx.Ok.nofr (ok : X.Ok) {b : Addr} {o : Obj} (e : X.base.get? b = some o) : b ∉ X.fs := fun hb => by
  have := (ok.funs.mem hb).1
  rw [e] at this; cases this
theorem Inv.bs (I : Inv X pins σ H s) : ∀ b o, X.base.get? b = some o → s.heap.get? b = some o ∧ H b = none := fun b o e =>
  ⟨I.base.keep b o (I.ok.bs b o e).1 (I.ok.bs b o e).2 (I.ok.nofr e) (I.ok.noex b o e), I.base.free b o (I.ok.bs b o e).1 (I.ok.bs b o e).2 (I.ok.noex b o e)⟩
theorem Inv.bk (I : Inv X pins σ H s) : ∀ b o, X.base.get? b = some o → s.heap.get? b = some o := fun b o e => (I.bs b o e).1
theorem Inv.mod (I : Inv X pins σ H s) : Mod X.K X.mg X.base := I.ok.mod
theorem Inv.kIn (I : Inv X pins σ H s) : X.K.In s.heap := I.ok.mod.kin.keeps I.bk
theorem Inv.nolimit (I : Inv X pins σ H s) : s.heap.NoLimit := I.ok.mod.nolimit.keeps I.bk
theorem Inv.fr (I : Inv X pins σ H s) : ∃ m, Fr X.base X.env.locals s.heap m :=
  let ⟨m, hn, _⟩ := I.loc
  ⟨m, hn, I.bk, Nat.le_trans I.ok.bsz I.ok.above⟩
theorem Inv.lt (I : Inv X pins σ H s) : X.env.locals < s.heap.objs.size := let ⟨_, hn, _⟩ := I.loc; hn.lt
theorem Inv.sz (I : Inv X pins σ H s) : X.s₀.heap.objs.size ≤ s.heap.objs.size := Nat.le_trans I.ok.above (Nat.le_of_lt I.lt)
theorem Inv.nofs (I : Inv X pins σ H s) {a : Addr} (h : s.heap.objs.size ≤ a) : a ∉ X.fs := fun hb => by
  obtain ⟨_, o, ho, _⟩ := I.ok.funs.mem hb
  exact absurd (Nat.lt_of_lt_of_le (Heap.lt_size ho) (Nat.le_trans I.sz h)) (Nat.lt_irrefl _)
theorem Inv.cne (I : Inv X pins σ H s) : ∀ x c, X.env.cells.lookup x = some c → c ≠ X.env.locals := fun x c e z => by
  obtain ⟨v, o, ho, hd⟩ := I.cell x c e
  obtain ⟨m, ⟨o', es, ep, ho', hd', _⟩, _⟩ := I.loc
  rw [z, ho'] at ho; cases ho; rw [hd'] at hd; cases hd
theorem Inv.funs (I : Inv X pins σ H s) : s.heap.FunFrames X.base X.outer := by
  have all : ∀ (l : List Env), (∀ b ∈ frs l, b ∈ X.fs) → X.s₀.heap.FunFrames X.base l → s.heap.FunFrames X.base l := by
    intro l
    induction l with
    | nil => intro _ _; trivial
    | cons env r ih =>
      intro hs hl
      obtain ⟨hk, ⟨L, o, hf, hn, ho, hd⟩, hr⟩ := hl
      have hL : L ∈ X.fs := hs L (by unfold frs; rw [List.filterMap_cons, hf]; exact List.mem_cons_self)
      obtain ⟨sl, e⟩ := I.base.slot L o ho (I.ok.frf L hL) hL fun z => I.ok.exfs L z hL
      exact ⟨hk, ⟨L, _, hf, hn, e, hd⟩, ih (fun b hb => hs b (by unfold frs; rw [List.filterMap_cons, hf]; exact List.mem_cons_of_mem _ hb)) hr⟩
  exact all X.outer (fun _ hb => hb) I.ok.funs

theorem Inv.stack (I : Inv X pins σ H s) : s.heap.FunFrames X.base X.stack := by
  rcases I.ok.stk with e | ⟨e, hf⟩
  · rw [e]; exact I.funs
  · rw [e]
    obtain ⟨m, hn, _⟩ := I.loc
    refine .cons (by rw [I.ok.kind]; decide) hf hn ?_ I.funs
    exact Heap.get?_none_of_le (Nat.le_trans I.ok.bsz I.ok.above)
theorem Inv.stkSub (I : Inv X pins σ H s) : ∀ b ∈ frs X.stack, b ∈ X.env.locals :: X.fs := fun b hb => by
  rcases I.ok.stk with e | ⟨e, hf⟩
  · rw [e] at hb; exact List.mem_cons_of_mem _ hb
  · rw [e] at hb
    unfold frs at hb
    rw [List.filterMap_cons, hf] at hb
    exact hb
theorem Inv.stkFree (I : Inv X pins σ H s) : ∀ b ∈ frs X.stack, H b = none := fun b hb => by
  rcases List.mem_cons.mp (I.stkSub b hb) with e | hb
  · rw [e]; exact I.free
  · obtain ⟨_, o, ho, _⟩ := I.ok.funs.mem hb
    exact I.base.free b o ho (I.ok.frf b hb) fun z => I.ok.exfs b z hb

theorem Inv.step {g' : Array GenState} {t' : Nat} {d' : Drawn} {ch : List Addr} (I : Inv X pins σ H s)
    (hch : ∀ b ∈ ch, (b ∈ X.ex ∨ X.s₀.heap.objs.size ≤ b) ∧ b ≠ X.env.locals ∧ (∀ x c, X.env.cells.lookup x = some c → c ≠ b) ∧ ∀ p ∈ X.pn ++ pins, p.1 ≠ b)
    (keep : ∀ b o, b ≠ X.env.locals → b ∉ X.fs → b ∉ ch → s.heap.get? b = some o → H b = none → h'.get? b = some o)
    (slot : ∀ b o, b ≠ X.env.locals → b ∈ X.fs → b ∉ ch → s.heap.get? b = some o → H b = none → ∃ sl, h'.get? b = some { o with slots := sl }) (free : ∀ b o, b ∉ ch → s.heap.get? b = some o → H b = none → H' b = none)
    (there : ∀ b o, b ∉ ch → s.heap.get? b = some o → ∃ o', h'.get? b = some o')
    (tups : ∀ b xs, H b = some (.tup xs) → H' b = some (.tup xs)) (frzs : ∀ b o u, H b = some (.frz o u) → H' b = some (.frz o u)) (tbls : ∀ b ps, H b = some (.tbl ps) → ∃ more, H' b = some (.tbl (ps ++ more)))
    (ns : ∀ m, s.heap.Ns X.env.locals m → h'.Ns X.env.locals m) (hok : HOk X.prog X.w H' h') (hg : AllBare g') :
    Inv X pins σ H' { s with heap := h', gens := g', drawn := d', toks := t' } := by
  have neL : ∀ b o, X.s₀.heap.get? b = some o → b ≠ X.env.locals := fun b o e => Nat.ne_of_lt (Nat.lt_of_lt_of_le (Heap.lt_size e) I.ok.above)
  have neC : ∀ b o, X.s₀.heap.get? b = some o → b ∉ X.ex → b ∉ ch := fun b o e hx hb => by
    rcases (hch b hb).1 with z | z
    · exact hx z
    · exact absurd (Nat.lt_of_lt_of_le (Heap.lt_size e) z) (Nat.lt_irrefl _)
  have cellK : ∀ x c, X.env.cells.lookup x = some c → ∀ v, s.heap.IsCell c v → h'.IsCell c v := fun x c e v ⟨o, ho, hd⟩ => by
    have nch : c ∉ ch := fun z => (hch c z).2.2.1 x c e rfl
    by_cases hc : c ∈ X.fs
    · obtain ⟨sl, q⟩ := slot c o (I.cne x c e) hc nch ho (I.freeC x c e)
      exact ⟨_, q, hd⟩
    · exact ⟨o, keep c o (I.cne x c e) hc nch ho (I.freeC x c e), hd⟩
  refine ⟨I.ok, I.os, hg, ⟨fun b o e n hb hx => ?_, fun b o e n hb hx => ?_, fun b o e n hx => ?_, fun b o e hx => ?_, fun b xs e => tups b xs (I.base.tups b xs e), fun b o xs e => frzs b o xs (I.base.frzs b o xs e), fun b ps e => ?_⟩, ?_, fun x c e => ?_, ?_, fun x c e => ?_, fun p hp => ?_, hok, I.len⟩
  · exact keep b o (neL b o e) hb (neC b o e hx) (I.base.keep b o e n hb hx) (I.base.free b o e n hx)
  · obtain ⟨sl, e1⟩ := I.base.slot b o e n hb hx
    obtain ⟨sl', e2⟩ := slot b _ (neL b o e) hb (neC b o e hx) e1 (I.base.free b o e n hx)
    exact ⟨sl', e2⟩
  · obtain ⟨o', e1⟩ := I.base.there b o e hx
    exact free b o' (neC b o e hx) e1 (I.base.free b o e n hx)
  · obtain ⟨o', e1⟩ := I.base.there b o e hx
    exact there b o' (neC b o e hx) e1
  · obtain ⟨m1, e1⟩ := I.base.tbls b ps e
    obtain ⟨m2, e2⟩ := tbls b _ e1
    exact ⟨m1 ++ m2, by rw [e2, Array.append_assoc]⟩
  · obtain ⟨m, hn, hl⟩ := I.loc
    refine ⟨m, ns m hn, fun i x v e1 e2 e3 => ?_⟩
    obtain ⟨u, r, l⟩ := hl i x v e1 e2 e3
    refine ⟨u, r, ?_⟩
    rcases l with l | ⟨k, c, e, z⟩
    · exact .inl l
    · exact .inr ⟨k, c, e, cellK x c e _ z⟩
  · obtain ⟨v, z⟩ := I.cell x c e
    exact ⟨v, cellK x c e v z⟩
  · obtain ⟨m, ⟨o, _, _, ho, _⟩, _⟩ := I.loc
    exact free _ o (fun z => (hch _ z).2.1 rfl) ho I.free
  · obtain ⟨v, o, ho, hd⟩ := I.cell x c e
    exact free c o (fun z => (hch c z).2.2.1 x c e rfl) ho (I.freeC x c e)
  · obtain ⟨e, n, ne, nf, d⟩ := I.pin p hp
    have nch : p.1 ∉ ch := fun z => (hch p.1 z).2.2.2 p hp rfl
    exact ⟨keep p.1 p.2 ne nf nch e n, free p.1 p.2 nch e n, ne, nf, d⟩
theorem Inv.un {t' : Nat} (I : Inv X pins σ H s) (u : Un X.fs [] H H' s.heap h') (hok : HOk X.prog X.w H' h') : Inv X pins σ H' { s with heap := h', toks := t' } := by
  obtain ⟨m, ⟨o, es, ep, ho, r⟩, _⟩ := id I.loc
  obtain ⟨sl, hL⟩ := u.any ho I.free (by simp)
  exact I.step (g' := s.gens) (d' := s.drawn) (ch := []) (fun _ z => nomatch z) (fun b o _ hb _ e n => u.keep b o e n hb (by simp)) (fun b o _ hb _ e n => u.slot b o e n hb (by simp)) (fun b o _ e n => u.free b o e n (by simp)) (fun b o _ e => u.there b o e (by simp)) u.tups u.frzs u.tbls (fun m' hm => by
    obtain ⟨o', es', ep', ho', r'⟩ := hm
    rw [ho] at ho'; cases ho'
    exact ⟨_, es', ep', hL, r'⟩) hok I.bare
theorem Inv.call {g' : Array GenState} {t' : Nat} {d' : Drawn} {ch : List Addr} (I : Inv X pins σ H s) (u : Un (frs X.stack) ch H H' s.heap h') (hok : HOk X.prog X.w H' h') (hg : AllBare g')
    (hch : ∀ b ∈ ch, (b ∈ X.ex ∨ X.s₀.heap.objs.size ≤ b) ∧ b ≠ X.env.locals ∧ (∀ x c, X.env.cells.lookup x = some c → c ≠ b) ∧ ∀ p ∈ X.pn ++ pins, p.1 ≠ b) :
    Inv X pins σ H' { s with heap := h', gens := g', drawn := d', toks := t' } := by
  obtain ⟨m, ⟨o, es, ep, ho, r⟩, _⟩ := id I.loc
  obtain ⟨sl, hL⟩ := u.any ho I.free fun z => (hch _ z).2.1 rfl
  exact I.step (ch := ch) hch (fun b o hL hb hc e n => u.keep b o e n (fun z => (List.mem_cons.mp (I.stkSub b z)).elim hL hb) hc) (fun b o _ _ hc e n => u.any e n hc) (fun b o hc e n => u.free b o e n hc) (fun b o hc e => u.there b o e hc) u.tups u.frzs u.tbls (fun m' hm => by
    obtain ⟨o', es', ep', ho', r'⟩ := hm
    rw [ho] at ho'; cases ho'
    exact ⟨_, es', ep', hL, r'⟩) hok hg
theorem Inv.turned {t' : Nat} {it : Addr} (I : Inv X pins σ H s) (k : ∀ b o, b ≠ it → s.heap.get? b = some o → h'.get? b = some o) (hn : H it = none) (hL : it ≠ X.env.locals)
    (h1 : it ∈ X.ex ∨ X.s₀.heap.objs.size ≤ it) (h2 : ∀ x c, X.env.cells.lookup x = some c → c ≠ it) (h3 : ∀ p ∈ X.pn ++ pins, p.1 ≠ it) : Inv X pins σ H { s with heap := h', toks := t' } := by
  have nit : ∀ b u, H b = some u → b ≠ it := fun b u e z => by rw [z, hn] at e; cases e
  refine I.step (g' := s.gens) (d' := s.drawn) (ch := [it]) (fun b hb => ?_) (fun b o _ _ hc e _ => k b o (fun z => hc (by simp [z])) e) (fun b o _ _ hc e _ => ⟨o.slots, k b o (fun z => hc (by simp [z])) e⟩) (fun _ _ _ _ n => n)
    (fun b o hc e => ⟨o, k b o (fun z => hc (by simp [z])) e⟩) (fun _ _ e => e) (fun _ _ _ e => e) (fun b ps e => ⟨#[], by rw [e]; simp⟩) (fun m hm => ?_) (fun b u e => ?_) I.bare
  · have e : b = it := by simpa using hb
    subst e
    exact ⟨h1, hL, h2, h3⟩
  · obtain ⟨o, es, ep, ho, r⟩ := hm
    exact ⟨o, es, ep, k _ o (Ne.symm hL) ho, r⟩
  · refine (I.hok b u e).stay (fun c v hc q => k c v ?_ q) (fun _ q => q) fun _ _ q => q
    rcases hc with z | z
    · rw [z]; exact nit b u e
    · exact nit c _ z
theorem Inv.tok (I : Inv X pins σ H s) (t : Nat) : Inv X pins σ H { s with toks := t } := I.un (h' := s.heap) (t' := t) Un.refl I.hok
theorem Inv.kept {t' : Nat} (I : Inv X pins σ H s) (k : ∀ b u, s.heap.get? b = some u → h'.get? b = some u) : Inv X pins σ H { s with heap := h', toks := t' } := I.un (Un.kept k) (I.hok.kept k)
theorem Inv.laid {a : Addr} {o : HO} {t' : Nat} (I : Inv X pins σ H s) (k : ∀ b u, s.heap.get? b = some u → h'.get? b = some u) (hp : s.heap.objs.size ≤ a) (new : ObjOk X.prog X.w (upd H a o) h' a o) :
    Inv X pins σ (upd H a o) { s with heap := h', toks := t' } := I.un (Un.laid k hp (I.hok.fresh hp)) (I.hok.laid k hp new)
theorem Inv.write {x e : Addr} {o : HO} {t' : Nat} (I : Inv X pins σ H s) (mu : Mut (H x)) (he : e = x ∨ H e = some (.own x)) (k : ∀ b u, b ≠ e → s.heap.get? b = some u → h'.get? b = some u) (heo : ∃ u, h'.get? e = some u)
    (new : ObjOk X.prog X.w (upd H x o) h' x o) : Inv X pins σ (upd H x o) { s with heap := h', toks := t' } := I.un (Un.write mu he k heo) (I.hok.write mu he k heo new)
theorem Inv.pins_of {pins' : List (Addr × Obj)} (I : Inv X pins σ H s) (h : ∀ p ∈ pins', s.heap.get? p.1 = some p.2 ∧ H p.1 = none ∧ p.1 ≠ X.env.locals ∧ p.1 ∉ X.fs ∧ ∀ v, p.2.data ≠ .cell v) : Inv X pins' σ H s :=
  ⟨I.ok, I.os, I.bare, I.base, I.loc, I.cell, I.free, I.freeC, fun p hp => (List.mem_append.mp hp).elim (fun z => I.pin p (List.mem_append_left _ z)) (h p), I.hok, I.len⟩

theorem nodup_ix {N : List Str} (hN : N.Nodup) {i j : Nat} {x : Str} (a : N[i]? = some x) (b : N[j]? = some x) : i = j := by
  obtain ⟨h1, e1⟩ := List.getElem?_eq_some_iff.mp a
  obtain ⟨h2, e2⟩ := List.getElem?_eq_some_iff.mp b
  exact (List.getElem_inj hN).mp (e1.trans e2.symm)

theorem store_ok2 {M : Model} {A : Around} {E : Value → Shared → Prop} {i : Nat} {x : Str} {v : V} {u : Value} {Q : Unit → Shared → Prop} (I : Inv X pins σ H s) (hN : X.N.Nodup) (hi : X.N[i]? = some x) (hx : Loc X.env.scope x) (r : RelV v u)
    (h : ∀ s', Inv X pins (σ.set i (some v)) H s' → (∃ a, Heap.SameBut a s.heap s'.heap ∧ (a = X.env.locals ∨ X.env.cells.lookup x = some a)) → Q () s') (hf : X.fn x = true ∨ X.env.scope.names.lookup x = some .local := by first | exact .inl rfl | exact .inr rfl | assumption) : wpAny M A (storeName X.env x u) Q E s := by
  obtain ⟨m, hn, hl⟩ := id I.loc
  have hcls : (X.env.scope.kind == .class || (X.env.scope.kind == .module && X.env.locals != X.env.globals)) = false := by rw [I.ok.kind]; rfl
  have hiσ : i < σ.length := by rw [I.len]; exact (List.getElem?_eq_some_iff.mp hi).1
  have cne := I.cne
  have tracked : ∀ {a : Addr} {h' : Heap}, (∃ o, s.heap.get? a = some o ∧ H a = none) → Heap.SameBut a s.heap h' → HOk X.prog X.w H h' := fun {a h'} ha hs b ob e => by
    obtain ⟨_, _, hfree⟩ := ha
    refine (I.hok b ob e).stay (fun c w' hc q => (hs.2 c ?_).trans q) (fun _ q => q) fun _ _ q => q
    rintro rfl
    rcases hc with rfl | hc
    · rw [hfree] at e; cases e
    · rw [hfree] at hc; cases hc
  rcases hx with hk | hk
  · refine wpAny_storeName_local hk hn (fun h' hn' hs => ?_) hcls
    obtain ⟨oL, _, _, hoL, _⟩ := id hn
    refine h _ ⟨I.ok, I.os, I.bare, ⟨fun b o e n hb hx => ?_, fun b o e n hb hx => ?_, I.base.free, fun b o e hx => ?_, I.base.tups, I.base.frzs, I.base.tbls⟩, ⟨_, hn', fun j y v' e1 e2 e3 => ?_⟩, fun y c e => ?_, I.free, I.freeC, fun p hp => ?_, tracked ⟨oL, hoL, I.free⟩ hs, by simpa using I.len⟩ ⟨_, hs, .inl rfl⟩
    · exact (hs.2 b (Nat.ne_of_lt (Nat.lt_of_lt_of_le (Heap.lt_size e) I.ok.above))).trans (I.base.keep b o e n hb hx)
    · obtain ⟨sl, e1⟩ := I.base.slot b o e n hb hx
      exact ⟨sl, (hs.2 b (Nat.ne_of_lt (Nat.lt_of_lt_of_le (Heap.lt_size e) I.ok.above))).trans e1⟩
    · obtain ⟨o', e1⟩ := I.base.there b o e hx
      exact ⟨o', (hs.2 b (Nat.ne_of_lt (Nat.lt_of_lt_of_le (Heap.lt_size e) I.ok.above))).trans e1⟩
    · by_cases hj : j = i
      · subst hj
        rw [hi] at e1; cases e1
        rw [List.getElem?_set_self hiσ] at e2
        cases e2
        exact ⟨u, r, .inl ⟨hk, by simp⟩⟩
      · rw [List.getElem?_set_ne (Ne.symm hj)] at e2
        obtain ⟨u', r', q⟩ := hl j y v' e1 e2 e3
        refine ⟨u', r', ?_⟩
        rcases q with ⟨k, e⟩ | ⟨k, c, e, z⟩
        · refine .inl ⟨k, ?_⟩
          have : y ≠ x := fun e => hj (nodup_ix hN e1 (e ▸ hi))
          simp [this, e]
        · exact .inr ⟨k, c, e, z.sameBut hs (cne y c e)⟩
    · obtain ⟨w', z⟩ := I.cell y c e
      exact ⟨w', z.sameBut hs (cne y c e)⟩
    · obtain ⟨e, n, ne, nf, d⟩ := I.pin p hp
      exact ⟨(hs.2 p.1 ne).trans e, n, ne, nf, d⟩
  · have hfn : X.fn x = true := by
      rcases hf with z | z
      · exact z
      · rw [z] at hk; cases hk
    obtain ⟨c, hc⟩ := I.ok.has x (.inl hk)
    obtain ⟨w', z⟩ := I.cell x c hc
    refine wpAny_storeName_cell I.ok.kind hk hc z (fun h' hc' hs => ?_)
    obtain ⟨oc, hoc, hocd⟩ := id z
    refine h { s with heap := h' } ⟨I.ok, I.os, I.bare, ⟨fun b o e n hb hx => ?_, fun b o e n hb hx => ?_, I.base.free, fun b o e hx => ?_, I.base.tups, I.base.frzs, I.base.tbls⟩, ⟨m, hn.sameBut hs (Ne.symm (cne x c hc)), fun j y v' e1 e2 e3 => ?_⟩, fun y c' e => ?_, I.free, I.freeC, fun p hp => ?_, tracked ⟨oc, hoc, I.freeC x c hc⟩ hs, by simpa using I.len⟩ ⟨c, hs, .inr hc⟩
    · exact (hs.2 b (Nat.ne_of_lt (Nat.lt_of_lt_of_le (Heap.lt_size e) (I.ok.cab x c hfn hc)))).trans (I.base.keep b o e n hb hx)
    · obtain ⟨sl, e1⟩ := I.base.slot b o e n hb hx
      exact ⟨sl, (hs.2 b (Nat.ne_of_lt (Nat.lt_of_lt_of_le (Heap.lt_size e) (I.ok.cab x c hfn hc)))).trans e1⟩
    · obtain ⟨o', e1⟩ := I.base.there b o e hx
      exact ⟨o', (hs.2 b (Nat.ne_of_lt (Nat.lt_of_lt_of_le (Heap.lt_size e) (I.ok.cab x c hfn hc)))).trans e1⟩
    · by_cases hj : j = i
      · subst hj
        rw [hi] at e1; cases e1
        rw [List.getElem?_set_self hiσ] at e2
        cases e2
        exact ⟨u, r, .inr ⟨.inl hk, c, hc, hc'⟩⟩
      · rw [List.getElem?_set_ne (Ne.symm hj)] at e2
        obtain ⟨u', r', q⟩ := hl j y v' e1 e2 e3
        refine ⟨u', r', ?_⟩
        rcases q with q | ⟨k, c', e, z'⟩
        · exact .inl q
        · refine .inr ⟨k, c', e, z'.sameBut hs ?_⟩
          rintro rfl
          exact hj (nodup_ix hN e1 (I.ok.inj _ _ _ e hc ▸ hi))
    · by_cases hcc : c' = c
      · subst hcc; exact ⟨_, hc'⟩
      · obtain ⟨w2, z2⟩ := I.cell y c' e
        exact ⟨w2, z2.sameBut hs hcc⟩
    · obtain ⟨e, n, ne, nf, d⟩ := I.pin p hp
      refine ⟨(hs.2 p.1 ?_).trans e, n, ne, nf, d⟩
      intro q
      rw [q, hoc] at e
      have q' : oc = p.2 := Option.some.inj e
      exact d w' (by rw [← q']; exact hocd)
theorem store_ok {M : Model} {A : Around} {E : Value → Shared → Prop} {i : Nat} {x : Str} {v : V} {u : Value} {Q : Unit → Shared → Prop} (I : Inv X pins σ H s) (hN : X.N.Nodup) (hi : X.N[i]? = some x) (hx : Loc X.env.scope x) (r : RelV v u)
    (h : ∀ s', Inv X pins (σ.set i (some v)) H s' → Q () s') (hf : X.fn x = true ∨ X.env.scope.names.lookup x = some .local := by first | exact .inl rfl | exact .inr rfl | assumption) : wpAny M A (storeName X.env x u) Q E s :=
  store_ok2 I hN hi hx r (fun s' I' _ => h s' I') hf
theorem Inv.call' {s' : Shared} {ch : List Addr} (I : Inv X pins σ H s) (ho : s'.os = s.os) (u : Un (frs X.stack) ch H H' s.heap s'.heap) (hok : HOk X.prog X.w H' s'.heap) (hg : AllBare s'.gens)
    (hch : ∀ b ∈ ch, (b ∈ X.ex ∨ X.s₀.heap.objs.size ≤ b) ∧ b ≠ X.env.locals ∧ (∀ x c, X.env.cells.lookup x = some c → c ≠ b) ∧ ∀ p ∈ X.pn ++ pins, p.1 ≠ b) : Inv X pins σ H' s' := by
  obtain ⟨h', g', d', t', o'⟩ := s'
  have e : o' = s.os := ho
  subst e
  exact I.call (g' := g') (t' := t') (d' := d') u hok hg hch
end

noncomputable abbrev XK := Value → Option Addr → Hp → Prop
noncomputable abbrev St := List (Option V)
noncomputable abbrev VK := V → Hp → Prop
noncomputable abbrev TE := St → Hp → VK → Prop
noncomputable abbrev TT := St → Hp → (Bool → Hp → Prop) → Prop
noncomputable abbrev TA := St → Hp → (List V → Hp → Prop) → Prop
structure Ends where
  nx : St → Hp → Prop
  rt : VK
  bk : St → Hp → Prop := fun _ _ => False
  ct : St → Hp → Prop := fun _ _ => False
noncomputable abbrev TS := Ends → St → Hp → Prop

noncomputable def EP (X : Cx) (pins : List (Addr × Obj)) (σ : St) (Q : VK) (u : Value) (s' : Shared) : Prop := ∃ v H', Inv X pins σ H' s' ∧ RelV v u ∧ Q v H'
noncomputable def TP (X : Cx) (pins : List (Addr × Obj)) (σ : St) (Q : Bool → Hp → Prop) (b : Bool) (s' : Shared) : Prop := ∃ H', Inv X pins σ H' s' ∧ Q b H'
noncomputable def AP (X : Cx) (pins : List (Addr × Obj)) (σ : St) (Q : List V → Hp → Prop) (us : List Value) (s' : Shared) : Prop := ∃ vs H', Inv X pins σ H' s' ∧ Vals vs us ∧ Q vs H'
noncomputable def SP (X : Cx) (pins : List (Addr × Obj)) (D : Ends) (f : Flow) (s' : Shared) : Prop :=
  match f with
  | .next => ∃ σ' H', Inv X pins σ' H' s' ∧ D.nx σ' H'
  | .brk => ∃ σ' H', Inv X pins σ' H' s' ∧ D.bk σ' H'
  | .cont => ∃ σ' H', Inv X pins σ' H' s' ∧ D.ct σ' H'
  | .ret u => ∃ v σ' H', Inv X pins σ' H' s' ∧ RelV v u ∧ D.rt v H'

noncomputable def PE (X : Cx) (e : Expr) (t : TE) : Prop :=
  ∀ (pins : List (Addr × Obj)) (s : Shared) (σ : St) (H : Hp) (Q : VK), Inv X pins σ H s → t σ H Q → wpAny (model X.prog X.w) X.A (eval e X.env) (EP X pins σ Q) X.xe s
noncomputable def PT (X : Cx) (e : Expr) (t : TT) : Prop :=
  ∀ (pins : List (Addr × Obj)) (s : Shared) (σ : St) (H : Hp) (Q : Bool → Hp → Prop), Inv X pins σ H s → t σ H Q → wpAny (model X.prog X.w) X.A (isTrue e X.env (eval e X.env)) (TP X pins σ Q) X.xe s
noncomputable def PW (X : Cx) (e : Expr) (t : TT) : Prop :=
  ∀ (whole : Sem Value) (pins : List (Addr × Obj)) (s : Shared) (σ : St) (H : Hp) (Q : Bool → Hp → Prop), Inv X pins σ H s → t σ H Q → wpAny (model X.prog X.w) X.A (isTrue e X.env whole) (TP X pins σ Q) X.xe s
theorem PW.pt {X : Cx} {e : Expr} {t : TT} (h : PW X e t) : PT X e t := h _
noncomputable def PA (X : Cx) (es : List Expr) (t : TA) : Prop :=
  ∀ (pos : Pos) (pins : List (Addr × Obj)) (s : Shared) (σ : St) (H : Hp) (Q : List V → Hp → Prop), Inv X pins σ H s → t σ H Q → wpAny (model X.prog X.w) X.A (spliced (backTo pos (starEach es X.env))) (AP X pins σ Q) X.xe s
noncomputable def PS (X : Cx) (st : Stmt) (t : TS) : Prop :=
  ∀ (pins : List (Addr × Obj)) (s : Shared) (σ : St) (H : Hp) (D : Ends), Inv X pins σ H s → t D σ H → wpAny (model X.prog X.w) X.A (exec st X.env) (SP X pins D) X.xe s
noncomputable def PSs (X : Cx) (st : List Stmt) (t : TS) : Prop :=
  ∀ (pins : List (Addr × Obj)) (s : Shared) (σ : St) (H : Hp) (D : Ends), Inv X pins σ H s → t D σ H → wpAny (model X.prog X.w) X.A (execs st X.env) (SP X pins D) X.xe s
theorem thn {α : Type} {t : Sem α} {Q Q' : α → Shared → Prop} {M : Model} {A : Around} {E : Value → Shared → Prop} {s : Shared} (h : wpAny M A t Q E s) (hQ : ∀ a s, Q a s → Q' a s) : wpAny M A t Q' E s := wpAny_mono h hQ fun _ _ x => x
section
variable {X : Cx}

noncomputable def tVar (i : Nat) : TE := fun σ H Q => ∃ v, σ[i]? = some (some v) ∧ Q v H
noncomputable def tC (v : V) : TE := fun _ H Q => Q v H
theorem pe_var {i : Nat} {x : Str} {pos : Pos} (hN : X.N[i]? = some x) (hv : Vis X.env.scope x) (hd : (x == ("__debug__" : Str)) = false := by decide) (hcd : (x == ("__classdict__" : Str)) = false := by decide) : PE X (.Name x pos) (tVar i) := by
  intro pins s σ H Q I h
  obtain ⟨v, e, h⟩ := h
  obtain ⟨m, hn, hl⟩ := I.loc
  obtain ⟨u, r, l⟩ := hl i x v hN e hv
  have fin : EP X pins σ Q u s := ⟨v, H, I, r, h⟩
  rcases l with ⟨hk, hm⟩ | ⟨hk, c, hc, hcell⟩
  · exact wpAny_Name (wpAny_loadName_local I.ok.kind hk hn hm fin) hd
  · rcases hk with hk | hk
    · exact wpAny_Name (wpAny_loadName_cell I.ok.kind hk hc hcell fin) hd
    · exact wpAny_Name (wpAny_loadName_free I.ok.kind hk hc hcell fin hcd) hd
theorem pe_int {i j pos} : PE X (.Constant (.int i) j pos) (tC (.int i)) := fun _ _ _ H _ I h => wpAny_Constant_int ⟨.int i, H, I.tok _, ⟨_, rfl⟩, h⟩
theorem pe_bl {b j pos} : PE X (.Constant (.bool b) j pos) (tC (.bl b)) := fun _ _ _ H _ I h => Constant_bool ⟨.bl b, H, I, rfl, h⟩
theorem pe_str {x j pos} : PE X (.Constant (.str x) j pos) (tC (.str x)) := fun _ _ _ H _ I h => Calls.Constant_str ⟨.str x, H, I.tok _, ⟨_, rfl⟩, h⟩

noncomputable def Gl (X : Cx) (x : Str) : Prop := X.env.kindOf x = some .globalImplicit
theorem ld_glob {E : Value → Shared → Prop} {pins : List (Addr × Obj)} {s : Shared} {σ : St} {H : Hp} {x : Str} {u : Value} {pos : Pos} {Q : Value → Shared → Prop} (I : Inv X pins σ H s) (hg : Gl X x) (hm : X.mg x = some u) (h : Q u s)
    (hd : (x == ("__debug__" : Str)) = false := by decide) : wpAny (model X.prog X.w) X.A (eval (.Name x pos) X.env) Q E s :=
  Calls.Name_function_global I.ok.kind hg (Calls.loadGlobal_global (by rw [I.ok.glob]; exact I.mod.glob.keeps I.bk) hm h) hd
theorem ld_blt {E : Value → Shared → Prop} {pins : List (Addr × Obj)} {s : Shared} {σ : St} {H : Hp} {x : Str} {u : Value} {pos : Pos} {Q : Value → Shared → Prop} (I : Inv X pins σ H s) (hg : Gl X x) (hm : X.mg x = none) (hv : bootBuiltins x = some u) (h : Q u s)
    (hn : x ≠ "__name__" := by decide) (hd : (x == ("__debug__" : Str)) = false := by decide) : wpAny (model X.prog X.w) X.A (eval (.Name x pos) X.env) Q E s := by
  obtain ⟨mb, h1, h2⟩ := I.mod.blt
  exact Calls.Name_function_global I.ok.kind hg (Calls.loadGlobal_builtin (by rw [I.ok.glob]; exact I.mod.glob.keeps I.bk) hm (by rw [I.ok.blt]; exact h1.keeps I.bk) ((h2 x hn).trans hv) h) hd
theorem pe_bltn {x : Str} {v : V} {u : Value} {pos : Pos} (hg : Gl X x) (hm : X.mg x = none) (hv : bootBuiltins x = some u) (r : RelV v u) (hn : x ≠ "__name__" := by decide) (hd : (x == ("__debug__" : Str)) = false := by decide) : PE X (.Name x pos) (tC v) :=
  fun _ _ _ H _ I h => ld_blt I hg hm hv ⟨v, H, I, r, h⟩ hn hd

variable {a b : Expr} {ta tb : TE} {pos : Pos}
noncomputable def tB (t : TE) : TT := fun σ H Q => t σ H fun x H1 => ∃ c, x = .bl c ∧ Q c H1
theorem pt_val {e : Expr} {t : TE} (h : PE X e t) (he : ∀ whole, isTrue e X.env whole = (do let v ← whole; standAt e.pos; holding [v] (truthy v)) := by intro _; rfl) : PT X e (tB t) := by
  intro pins s σ H Q I hw
  refine isTrue_plain (thn (h pins s σ H _ I hw) fun v s1 ⟨x, H1, I1, r1, q1⟩ => ?_) (he _)
  obtain ⟨d, rfl, q⟩ := q1
  cases r1
  exact wpAny_truthy_bool ⟨H1, I1, q⟩

variable {tA tB' : TT} {rest : List Expr}
noncomputable def tAnd (t u : TT) : TT := fun σ H Q => t σ H fun c H1 => if c = true then u σ H1 Q else Q false H1
noncomputable def tOr (t u : TT) : TT := fun σ H Q => t σ H fun c H1 => if c = true then Q true H1 else u σ H1 Q
noncomputable def tNot (t : TT) : TT := fun σ H Q => t σ H fun c H1 => Q (!c) H1
theorem pw_and1 (ha : PT X a tA) : PW X (.BoolOp .And [a] pos) tA := by
  intro wh pins s σ H Q I h
  refine isTrue_and (thn (ha pins s σ H Q I h) fun c s1 e => ?_)
  cases c with
  | true => exact isTrue_and_nil e
  | false => exact e
theorem pw_or1 (ha : PT X a tA) : PW X (.BoolOp .Or [a] pos) tA := by
  intro wh pins s σ H Q I h
  refine isTrue_or (thn (ha pins s σ H Q I h) fun c s1 e => ?_)
  cases c with
  | false => exact isTrue_or_nil e
  | true => exact e
theorem pw_and (ha : PT X a tA) (hb : PW X (.BoolOp .And (b :: rest) pos) tB') : PW X (.BoolOp .And (a :: b :: rest) pos) (tAnd tA tB') := by
  intro wh pins s σ H Q I h
  refine isTrue_and (thn (ha pins s σ H _ I h) fun c s1 ⟨H1, I1, q1⟩ => ?_)
  cases c with
  | true => exact hb wh pins s1 σ H1 Q I1 q1
  | false => exact ⟨H1, I1, q1⟩
theorem pw_or (ha : PT X a tA) (hb : PW X (.BoolOp .Or (b :: rest) pos) tB') : PW X (.BoolOp .Or (a :: b :: rest) pos) (tOr tA tB') := by
  intro wh pins s σ H Q I h
  refine isTrue_or (thn (ha pins s σ H _ I h) fun c s1 ⟨H1, I1, q1⟩ => ?_)
  cases c with
  | true => exact ⟨H1, I1, q1⟩
  | false => exact hb wh pins s1 σ H1 Q I1 q1
theorem pt_not (ha : PT X a tA) : PT X (.UnaryOp .Not a pos) (tNot tA) := by
  intro pins s σ H Q I h
  exact isTrue_not (ha pins s σ H (fun c H1 => Q (!c) H1) I h)
noncomputable def tAndV (ta tb : TE) : TE := fun σ H Q => ta σ H fun x H1 => ∃ c, x = .bl c ∧ if c = true then tb σ H1 Q else Q (.bl false) H1
noncomputable def tOrV (ta tb : TE) : TE := fun σ H Q => ta σ H fun x H1 => ∃ c, x = .bl c ∧ if c = true then Q (.bl true) H1 else tb σ H1 Q
noncomputable def tNotV (ta : TE) : TE := fun σ H Q => ta σ H fun x H1 => ∃ c, x = .bl c ∧ Q (.bl (!c)) H1
theorem pe_one {op} {t : TE} (h : PE X a t) : PE X (.BoolOp op [a] pos) t := fun pins s σ H Q I hw => BoolOp_one (h pins s σ H Q I hw)
theorem pe_and (ha : PE X a ta) (hb : PE X (.BoolOp .And (b :: rest) pos) tb) : PE X (.BoolOp .And (a :: b :: rest) pos) (tAndV ta tb) := by
  intro pins s σ H Q I h
  refine BoolOp_and (thn (ha pins s σ H _ I h) fun v s1 ⟨x, H1, I1, r1, q1⟩ => ?_)
  obtain ⟨c, rfl, q1⟩ := q1
  cases r1
  refine wpAny_truthy_bool ?_
  cases c with
  | true => exact hb pins s1 σ H1 Q I1 q1
  | false => exact ⟨.bl false, H1, I1, rfl, q1⟩
theorem pe_not (ha : PE X a ta) : PE X (.UnaryOp .Not a pos) (tNotV ta) := by
  intro pins s σ H Q I h
  refine UnaryOp_ (thn (ha pins s σ H _ I h) fun v s1 ⟨x, H1, I1, r1, q1⟩ => ?_)
  obtain ⟨c, rfl, q1⟩ := q1
  cases r1
  exact not_of (wpAny_truthy_bool ⟨.bl (!c), H1, I1, rfl, q1⟩)
noncomputable def tIf (t : TT) (ta tb : TE) : TE := fun σ H Q => t σ H fun c H1 => if c = true then ta σ H1 Q else tb σ H1 Q
theorem pe_ifExp {c : Expr} (hc : PT X c tA) (ha : PE X a ta) (hb : PE X b tb) : PE X (.IfExp c a b pos) (tIf tA ta tb) := by
  intro pins s σ H Q I h
  refine wpAny_IfExp (thn (hc pins s σ H _ I h) fun d s1 ⟨H1, I1, q1⟩ => ?_)
  cases d with
  | true => exact ha pins s1 σ H1 Q I1 q1
  | false => exact hb pins s1 σ H1 Q I1 q1
end

noncomputable def SqL (K : Frag) (H : Hp) (a : Addr) (xs : List V) : Prop :=
  Rd H a (.lst xs) ∨
    ∃ (o : Obj) (its : Array Value) (n : Nat), K.lookup a = some o ∧ o.cls = .type "list" ∧ o.dict = none ∧ o.data = .seq its n ∧ its.size ≤ sizeLine ∧ Vals xs its.toList
noncomputable def SqT (K : Frag) (H : Hp) (a : Addr) (xs : List V) : Prop :=
  Rd H a (.tup xs) ∨
    ∃ (o : Obj) (its : Array Value) (n : Nat), K.lookup a = some o ∧ o.cls = .type "tuple" ∧ o.data = .seq its n ∧ its.size ≤ sizeLine ∧ Vals xs its.toList
noncomputable def absV : Value → Option V
  | .none => some .non
  | .bool b => some (.bl b)
  | .int i _ => some (.int i)
  | .str x _ => some (.str x)
  | .bytes b _ => some (.byt b)
  | .float b _ => some (.flt b)
  | .ref a => some (.ref a)
  | .type n => some (.ty n)
  | _ => none
theorem RelV.abs {x : V} {u : Value} (r : RelV x u) : absV u = some x := by
  cases x with
  | non => cases r; rfl
  | bl _ => cases r; rfl
  | int _ => obtain ⟨t, rfl⟩ := r; rfl
  | str _ => obtain ⟨t, rfl⟩ := r; rfl
  | byt _ => obtain ⟨t, rfl⟩ := r; rfl
  | flt _ => obtain ⟨t, rfl⟩ := r; rfl
  | ref _ => cases r; rfl
  | ty _ => cases r; rfl
theorem RelV.inj {x y : V} {u : Value} (r : RelV x u) (q : RelV y u) : x = y := Option.some.inj (r.abs.symm.trans q.abs)
theorem Vals.inj : ∀ {xs ys : List V} {us : List Value}, Vals xs us → Vals ys us → xs = ys
  | _, _, _, .nil, .nil => rfl
  | _, _, _, .cons r t, .cons r' t' => by rw [r.inj r', Vals.inj t t']
section
variable {X : Cx} {pins : List (Addr × Obj)} {σ : St} {H : Hp} {s : Shared} {a : Addr} {xs ys : List V}
theorem SqL.of {K : Frag} (h : H a = some (.lst xs)) : SqL K H a xs := .inl (.inl h)
theorem SqT.of {K : Frag} (h : H a = some (.tup xs)) : SqT K H a xs := .inl (.inl h)
theorem Inv.list (I : Inv X pins σ H s) (h : SqL X.K H a xs) : ∃ its : List Value, Vals xs its ∧ PlainL s.heap a its.toArray ∧ xs.length ≤ sizeLine := by
  rcases h with h | ⟨o, its, n, hk, hc, hd, hs, hz, r⟩
  · obtain ⟨z, its, n, r, e⟩ := h.ok I.hok
    exact ⟨its, r, ⟨_, n, e, rfl, rfl, rfl⟩, z⟩
  · refine ⟨its.toList, r, ⟨o, n, I.kIn a o hk, hc, hd, by simpa using hs⟩, ?_⟩
    have e := r.length
    simp only [Array.length_toList] at e
    omega
theorem Inv.tuple (I : Inv X pins σ H s) (h : SqT X.K H a xs) : ∃ its : List Value, Vals xs its ∧ IsTup s.heap a its.toArray ∧ xs.length ≤ sizeLine := by
  rcases h with h | ⟨o, its, n, hk, hc, hs, hz, r⟩
  · obtain ⟨z, its, r, p⟩ := h.ok I.hok
    exact ⟨its, r, p, z⟩
  · refine ⟨its.toList, r, ⟨o, I.kIn a o hk, hc, n, by simpa using hs⟩, ?_⟩
    have e := r.length
    simp only [Array.length_toList] at e
    omega
theorem Inv.list_inj (I : Inv X pins σ H s) (h : SqL X.K H a xs) (h' : SqL X.K H a ys) : xs = ys := by
  obtain ⟨its, r, ⟨o, n, e, _, _, d⟩, _⟩ := I.list h
  obtain ⟨its', r', ⟨o', n', e', _, _, d'⟩, _⟩ := I.list h'
  rw [e] at e'; cases e'
  rw [d] at d'
  injection d' with d1 _
  have : its = its' := by simpa using congrArg Array.toList d1
  subst this
  exact r.inj r'
theorem Inv.tuple_inj (I : Inv X pins σ H s) (h : SqT X.K H a xs) (h' : SqT X.K H a ys) : xs = ys := by
  obtain ⟨its, r, ⟨o, e, _, n, d⟩, _⟩ := I.tuple h
  obtain ⟨its', r', ⟨o', e', _, n', d'⟩, _⟩ := I.tuple h'
  rw [e] at e'; cases e'
  rw [d] at d'
  injection d' with d1 _
  have : its = its' := by simpa using congrArg Array.toList d1
  subst this
  exact r.inj r'
end

noncomputable abbrev Cx.wish (X : Cx) (E : Value → Shared → Prop) : Cx := { X with xe := E }
noncomputable abbrev Cx.nox (X : Cx) : Cx := X.wish fun _ _ => False
theorem Cx.Ok.wish {X : Cx} (ok : X.Ok) (E : Value → Shared → Prop) : (X.wish E).Ok :=
  ⟨ok.mod, ok.kind, ok.glob, ok.blt, ok.above, ok.inj, ok.has, ok.cab, ok.hd, ok.frames, ok.stk, ok.exf, ok.bs, ok.bsz, ok.noex, ok.exfs, ok.funs, ok.frf⟩
theorem Cx.Ok.unwish {X : Cx} {E : Value → Shared → Prop} (ok : (X.wish E).Ok) : X.Ok :=
  ⟨ok.mod, ok.kind, ok.glob, ok.blt, ok.above, ok.inj, ok.has, ok.cab, ok.hd, ok.frames, ok.stk, ok.exf, ok.bs, ok.bsz, ok.noex, ok.exfs, ok.funs, ok.frf⟩
section
variable {X : Cx} {pins : List (Addr × Obj)} {σ : St} {H : Hp} {s : Shared} {E : Value → Shared → Prop}
theorem Inv.wish (I : Inv X pins σ H s) (E : Value → Shared → Prop) : Inv (X.wish E) pins σ H s := ⟨I.ok.wish E, I.os, I.bare, I.base, I.loc, I.cell, I.free, I.freeC, I.pin, I.hok, I.len⟩
theorem Inv.unwish (I : Inv (X.wish E) pins σ H s) : Inv X pins σ H s := ⟨I.ok.unwish, I.os, I.bare, I.base, I.loc, I.cell, I.free, I.freeC, I.pin, I.hok, I.len⟩
theorem SP.unwish {D : Ends} {f : Flow} {s' : Shared} (h : SP (X.wish E) pins D f s') : SP X pins D f s' := by
  cases f with
  | next => obtain ⟨σ', H', I, q⟩ := h; exact ⟨σ', H', I.unwish, q⟩
  | brk => obtain ⟨σ', H', I, q⟩ := h; exact ⟨σ', H', I.unwish, q⟩
  | cont => obtain ⟨σ', H', I, q⟩ := h; exact ⟨σ', H', I.unwish, q⟩
  | ret u => obtain ⟨v, σ', H', I, r, q⟩ := h; exact ⟨v, σ', H', I.unwish, r, q⟩
theorem PE.nox {e : Expr} {t : TE} (h : PE X.nox e t) : PE X e t := fun pins s σ H Q I hw =>
  wpAny_mono (h pins s σ H Q (I.wish _) hw) (fun _ _ ⟨v, H', I', r, q⟩ => ⟨v, H', I'.unwish, r, q⟩) fun _ _ z => False.elim z
theorem PT.nox {e : Expr} {t : TT} (h : PT X.nox e t) : PT X e t := fun pins s σ H Q I hw =>
  wpAny_mono (h pins s σ H Q (I.wish _) hw) (fun _ _ ⟨H', I', q⟩ => ⟨H', I'.unwish, q⟩) fun _ _ z => False.elim z
theorem PSs.nox {st : List Stmt} {t : TS} (h : PSs X.nox st t) : PSs X st t := fun pins s σ H D I hw =>
  wpAny_mono (h pins s σ H D (I.wish _) hw) (fun _ _ q => q.unwish) fun _ _ z => False.elim z
end

section
variable {X : Cx} {st : Stmt} {rest : List Stmt} {t u : TS} {e : Expr} {te : TE} {pos : Pos}
noncomputable def tNext : TS := fun D σ H => D.nx σ H
noncomputable def tSeq (t u : TS) : TS := fun D σ H => t { D with nx := u D } σ H
theorem pss_nil : PSs X [] tNext := fun _ _ σ H _ I h => wpAny_execs_nil ⟨σ, H, I, h⟩
theorem pss_cons (h1 : PS X st t) (h2 : PSs X rest u) : PSs X (st :: rest) (tSeq t u) := by
  intro pins s σ H D I h
  refine wpAny_execs_cons (thn (h1 pins s σ H { D with nx := u D } I h) fun f s1 q => ?_)
  cases f with
  | next =>
    obtain ⟨σ', H', I', q⟩ := q
    exact h2 pins s1 σ' H' D I' q
  | ret v => exact q
  | brk => exact q
  | cont => exact q
theorem pss_one (h1 : PS X st t) : PSs X [st] t := by
  intro pins s σ H D I h
  refine wpAny_execs_cons (thn (h1 pins s σ H D I h) fun f s1 q => ?_)
  cases f with
  | next => exact wpAny_execs_nil q
  | ret v => exact q
  | brk => exact q
  | cont => exact q
theorem Inv.quiet {pins : List (Addr × Obj)} {σ : St} {H : Hp} {s : Shared} (I : Inv X pins σ H s) : interactive X.env = false := by simp [interactive, I.ok.kind]
noncomputable def tDrop (te : TE) : TS := fun D σ H => te σ H fun _ H1 => D.nx σ H1
theorem ps_expr (he : PE X e te) (hs : swapsWith e none pos.line X.env = pure false := by rfl) : PS X (.Expr e pos) (tDrop te) := by
  intro pins s σ H D I h
  exact wpAny_Expr_any (thn (he pins s σ H _ I h) fun v s1 ⟨x, H1, I1, r1, q1⟩ => ⟨σ, H1, I1, q1⟩) I.quiet hs
noncomputable def tRet (te : TE) : TS := fun D σ H => te σ H D.rt
theorem ps_ret (he : PE X e te) : PS X (.Return (some e) pos) (tRet te) := by
  intro pins s σ H D I h
  exact wpAny_Return_some (thn (he pins s σ H _ I h) fun v s1 ⟨x, H1, I1, r1, q1⟩ => ⟨x, σ, H1, I1, r1, q1⟩)
noncomputable def tRetN : TS := fun D _ H => D.rt .non H
noncomputable def tIfS (c : TT) (t u : TS) : TS := fun D σ H => c σ H fun b H1 => if b = true then t D σ H1 else u D σ H1
theorem ps_if {c : Expr} {a b : List Stmt} {tc : TT} (hc : PT X c tc) (ha : PSs X a t) (hb : PSs X b u) : PS X (.If c a b pos) (tIfS tc t u) := by
  intro pins s σ H D I h
  refine wpAny_If (thn (hc pins s σ H _ I h) fun d s1 ⟨H1, I1, q1⟩ => ?_)
  cases d with
  | true => exact ha pins s1 σ H1 D I1 q1
  | false => exact hb pins s1 σ H1 D I1 q1
end

noncomputable abbrev TG := V → St → Hp → (St → Hp → Prop) → Prop
noncomputable abbrev TGs := List V → St → Hp → (St → Hp → Prop) → Prop
noncomputable def PG (X : Cx) (target : Expr) (t : TG) : Prop :=
  ∀ (pins : List (Addr × Obj)) (s : Shared) (σ : St) (H : Hp) (v : V) (u : Value) (Q : St → Hp → Prop), Inv X pins σ H s → RelV v u → t v σ H Q →
    wpAny (model X.prog X.w) X.A (assign target X.env u) (fun _ s' => ∃ σ' H', Inv X pins σ' H' s' ∧ Q σ' H') X.xe s
noncomputable def PGs (X : Cx) (ts : List Expr) (t : TGs) : Prop :=
  ∀ (pins : List (Addr × Obj)) (s : Shared) (σ : St) (H : Hp) (vs : List V) (us : List Value) (Q : St → Hp → Prop), Inv X pins σ H s → Vals vs us → t vs σ H Q →
    wpAny (model X.prog X.w) X.A (assignInOrder ((assignEach ts X.env).map (·.2)) us) (fun _ s' => ∃ σ' H', Inv X pins σ' H' s' ∧ Q σ' H') X.xe s
noncomputable abbrev TSet := V → V → V → Hp → (Hp → Prop) → Prop
noncomputable def PSet (X : Cx) (t : TSet) : Prop :=
  ∀ (pins : List (Addr × Obj)) (s : Shared) (σ : St) (H : Hp) (o i v : V) (ov iv u : Value) (Q : Hp → Prop), Inv X pins σ H s → RelV o ov → RelV i iv → RelV v u → t o i v H Q →
    wpAny (model X.prog X.w) X.A (setItem ov iv u) (fun _ s' => ∃ H', Inv X pins σ H' s' ∧ Q H') X.xe s
noncomputable abbrev TIp := V → V → Hp → VK → Prop
noncomputable def PIp (X : Cx) (op : Operator) (t : TIp) : Prop :=
  ∀ (pins : List (Addr × Obj)) (s : Shared) (σ : St) (H : Hp) (x y : V) (v u : Value) (Q : VK), Inv X pins σ H s → RelV x v → RelV y u → t x y H Q →
    wpAny (model X.prog X.w) X.A (inplaceOp op v u) (EP X pins σ Q) X.xe s
section
variable {X : Cx} {pos : Pos}
noncomputable def gName (i : Nat) : TG := fun v σ H Q => Q (σ.set i (some v)) H
theorem pg_name {i : Nat} {x : Str} (hN : X.N.Nodup) (hi : X.N[i]? = some x) (hx : Loc X.env.scope x) (hf : X.fn x = true ∨ X.env.scope.names.lookup x = some .local := by first | exact .inl rfl | exact .inr rfl | assumption) : PG X (.Name x pos) (gName i) := by
  intro pins s σ H v u Q I r h
  exact wpAny_assign_Name (store_ok I hN hi hx r (fun s' I' => ⟨_, H, I', h⟩) hf)
noncomputable def gNil : TGs := fun vs σ H Q => vs = [] ∧ Q σ H
noncomputable def gCons (t : TG) (u : TGs) : TGs := fun vs σ H Q => ∃ v r, vs = v :: r ∧ t v σ H fun σ' H' => u r σ' H' Q
theorem pgs_nil : PGs X [] gNil := by
  intro pins s σ H vs us Q I r h
  obtain ⟨e, h⟩ := h
  subst e
  cases r
  exact assignInOrder_nil ⟨σ, H, I, h⟩
theorem pgs_cons {e : Expr} {es : List Expr} {t : TG} {u : TGs} (h1 : PG X e t) (h2 : PGs X es u)
    (hs : (assignEach (e :: es) X.env).map (·.2) = assign e X.env :: (assignEach es X.env).map (·.2) := by rfl) : PGs X (e :: es) (gCons t u) := by
  intro pins s σ H vs us Q I r h
  obtain ⟨v, vr, e1, h⟩ := h
  subst e1
  cases r with
  | cons r rr =>
    rw [hs]
    refine assignInOrder_cons (thn (h1 pins s σ H _ _ _ I r h) fun _ s1 ⟨σ1, H1, I1, q1⟩ => ?_)
    exact h2 pins s1 σ1 H1 _ _ Q I1 rr q1
noncomputable def gTup (K : Frag) (n : Nat) (t : TGs) : TG := fun v σ H Q => ∃ a xs, v = .ref a ∧ SqT K H a xs ∧ xs.length = n ∧ t xs σ H Q
theorem pg_tup {es : List Expr} {k : Nat} {t : TGs} {n : Nat} (hc : X.calm = true) (h : PGs X es t)
    (hn : (assignEach es X.env).length = n := by rfl) (hst : (assignEach es X.env).findIdx? (·.1) = none := by rfl) : PG X (.Tuple es k pos) (gTup X.K n t) := by
  intro pins s σ H v u Q I r hw
  obtain ⟨a, xs, e1, hq, hl, hw⟩ := hw
  subst e1
  cases r
  obtain ⟨its, rv, ht, hz⟩ := I.tuple hq
  refine assign_Tuple_tuple (I.ok.hd hc) ht (by simp [hn, ← hl, rv.length]) hst fun h' hx => ?_
  have I1 : Inv X pins σ H { s with heap := h' } := I.kept (t' := s.toks) fun b o e => hx b o (Nat.ne_of_lt (Heap.lt_size e)) e
  exact h pins _ σ H xs _ Q I1 (by simpa using rv) hw
noncomputable def gSub (to ti : TE) (t : TSet) : TG := fun v σ H Q => to σ H fun o H1 => ti σ H1 fun i H2 => t o i v H2 fun H3 => Q σ H3
theorem pg_sub {o i : Expr} {to ti : TE} {t : TSet} (ho : PE X o to) (hi : PE X i ti) (hs : PSet X t)
    (ha : ∀ v, assign (.Subscript o i pos) X.env v = (do
      let ov ← holding [v] (eval o X.env)
      let iv ← holding [v, ov] (eval i X.env)
      standAt pos
      holding [v, ov, iv] (setItem ov iv v)
      release [v, ov, iv] []) := by intro _; rfl) : PG X (.Subscript o i pos) (gSub to ti t) := by
  intro pins s σ H v u Q I r h
  rw [ha]
  refine wpAny_bind (wpAny_holding (thn (ho pins s σ H _ I h) fun ov s1 ⟨x, H1, I1, r1, q1⟩ => ?_))
  refine wpAny_bind (wpAny_holding (thn (hi pins s1 σ H1 _ I1 q1) fun iv s2 ⟨y, H2, I2, r2, q2⟩ => ?_))
  refine wpAny_bind (wpAny_standAt (wpAny_bind (wpAny_holding (thn (hs pins s2 σ H2 x y v ov iv u _ I2 r1 r2 r q2) fun _ s3 ⟨H3, I3, q3⟩ => ?_))))
  exact wpAny_release ⟨σ, H3, I3, q3⟩
noncomputable def tAsg (te : TE) (g : TG) : TS := fun D σ H => te σ H fun x H1 => g x σ H1 D.nx
theorem ps_asg {tg e : Expr} {te : TE} {g : TG} (he : PE X e te) (hg : PG X tg g) (hs : swapsWithSole [tg] e pos.line X.env = pure false := by rfl) (hw : swappedStores [tg] e X.env = pure none := by rfl)
    (h1 : (assignEach [tg] X.env).map (·.2) = [assign tg X.env] := by rfl) : PS X (.Assign [tg] e pos) (tAsg te g) := by
  intro pins s σ H D I h
  refine wpAny_Assign_stores (thn (he pins s σ H _ I h) fun v s1 ⟨x, H1, I1, r1, q1⟩ => ?_) hs hw
  rw [h1]
  exact thn (hg pins s1 σ H1 x v _ I1 r1 q1) fun _ s2 q => q
theorem ps_set {i : Nat} {x : Str} {e : Expr} {te : TE} {pos' : Pos} (hN : X.N.Nodup) (hi : X.N[i]? = some x) (hx : Loc X.env.scope x) (he : PE X e te) (hs : swapsWith e (some (.Name x pos')) pos.line X.env = pure false := by rfl) (hf : X.fn x = true ∨ X.env.scope.names.lookup x = some .local := by first | exact .inl rfl | exact .inr rfl | assumption) :
    PS X (.Assign [.Name x pos'] e pos) (tAsg te (gName i)) := by
  intro pins s σ H D I h
  refine wpAny_Assign_Name (thn (he pins s σ H _ I h) fun v s1 ⟨y, H1, I1, r1, q1⟩ => ?_) hs
  exact store_ok I1 hN hi hx r1 (fun s2 I2 => ⟨_, H1, I2, q1⟩) hf
noncomputable def tPar (i j : Nat) (ta : TA) : TS := fun D σ H => ta σ H fun vs H1 => ∃ v w, vs = [v, w] ∧ D.nx ((σ.set i (some v)).set j (some w)) H1
noncomputable def tAug (i : Nat) (te : TE) (ti : TIp) : TS := fun D σ H => ∃ x, σ[i]? = some (some x) ∧ te σ H fun y H1 => ti x y H1 fun z H2 => D.nx (σ.set i (some z)) H2
theorem ps_aug {i : Nat} {x : Str} {e : Expr} {te : TE} {op : Operator} {ti : TIp} {pos' : Pos} (hN : X.N.Nodup) (hi : X.N[i]? = some x) (hx : Loc X.env.scope x) (he : PE X e te) (ho : PIp X op ti) (hf : X.fn x = true ∨ X.env.scope.names.lookup x = some .local := by first | exact .inl rfl | exact .inr rfl | assumption) :
    PS X (.AugAssign (.Name x pos') op e pos) (tAug i te ti) := by
  intro pins s σ H D I h
  obtain ⟨v, e1, h⟩ := h
  obtain ⟨m, hn, hl⟩ := I.loc
  have vis : Vis X.env.scope x := by rcases hx with k | k; exact .inl k; exact .inr (.inl k)
  obtain ⟨u, r, l⟩ := hl i x v hi e1 vis
  refine wpAny_AugAssign_Name ?_
  have go : wpAny (model X.prog X.w) X.A (eval e X.env) (fun w s₂ => wpAny (model X.prog X.w) X.A (inplaceOp op u w) (fun r s₃ => wpAny (model X.prog X.w) X.A (storeName X.env x r) (fun _ => SP X pins D .next) X.xe s₃) X.xe s₂) X.xe s := by
    refine thn (he pins s σ H _ I h) fun w s1 ⟨y, H1, I1, r1, q1⟩ => ?_
    refine thn (ho pins s1 σ H1 v y u w _ I1 r r1 q1) fun z s2 ⟨zv, H2, I2, r2, q2⟩ => ?_
    exact store_ok I2 hN hi hx r2 (fun s3 I3 => ⟨_, H2, I3, q2⟩) hf
  rcases l with ⟨hk, hm⟩ | ⟨hk, c, hc, hcell⟩
  · exact wpAny_loadName_local I.ok.kind hk hn hm go
  · rcases hk with hk | hk
    · exact wpAny_loadName_cell I.ok.kind hk hc hcell go
    · rcases hx with k | k
      · have : X.env.scope.names.lookup x = some .free := hk
        rw [k] at this; cases this
      · have : X.env.scope.names.lookup x = some .free := hk
        rw [k] at this; cases this
noncomputable def tAugS (to ti te : TE) (tget : V → V → Hp → VK → Prop) (tip : TIp) (tset : TSet) : TS := fun D σ H => to σ H fun o H1 => ti σ H1 fun i H2 => tget o i H2 fun x H3 => te σ H3 fun y H4 => tip x y H4 fun z H5 => tset o i z H5 fun H6 => D.nx σ H6
noncomputable def PGet (X : Cx) (t : V → V → Hp → VK → Prop) : Prop :=
  ∀ (pins : List (Addr × Obj)) (s : Shared) (σ : St) (H : Hp) (o i : V) (ov iv : Value) (Q : VK), Inv X pins σ H s → RelV o ov → RelV i iv → t o i H Q →
    wpAny (model X.prog X.w) X.A (getItem ov iv) (EP X pins σ Q) X.xe s
theorem ps_augS {o i e : Expr} {to ti te : TE} {tget : V → V → Hp → VK → Prop} {tip : TIp} {tset : TSet} {op : Operator} {tpos : Pos} (ho : PE X o to) (hi : PE X i ti) (hg : PGet X tget) (he : PE X e te) (hp : PIp X op tip) (hs : PSet X tset)
    (ha : ∀ ov iv new, augStore i ov iv new = (do holding [new, ov, iv] (setItem ov iv new); release [new, ov, iv] []; pure .next) := by intros; rfl) : PS X (.AugAssign (.Subscript o i tpos) op e pos) (tAugS to ti te tget tip tset) := by
  intro pins s σ H D I h
  refine wpAny_AugAssign_SubscriptAny (thn (ho pins s σ H _ I h) fun ov s1 ⟨x1, H1, I1, r1, q1⟩ => ?_) ha
  refine thn (hi pins s1 σ H1 _ I1 q1) fun iv s2 ⟨x2, H2, I2, r2, q2⟩ => ?_
  refine thn (hg pins s2 σ H2 x1 x2 ov iv _ I2 r1 r2 q2) fun old s3 ⟨x3, H3, I3, r3, q3⟩ => ?_
  refine thn (he pins s3 σ H3 _ I3 q3) fun v s4 ⟨x4, H4, I4, r4, q4⟩ => ?_
  refine thn (hp pins s4 σ H4 x3 x4 old v _ I4 r3 r4 q4) fun new s5 ⟨x5, H5, I5, r5, q5⟩ => ?_
  exact thn (hs pins s5 σ H5 x1 x2 x5 ov iv new _ I5 r1 r2 r5 q5) fun _ s6 ⟨H6, I6, q6⟩ => ⟨σ, H6, I6, q6⟩
noncomputable def ipI (f : Int → Int → Int) : TIp := fun x y H Q => ∃ i j, x = .int i ∧ y = .int j ∧ Q (.int (f i j)) H
theorem ip_add : PIp X .Add (ipI fun i j => i + j) := by
  intro pins s σ H x y v u Q I r1 r2 h
  obtain ⟨i, j, e1, e2, q⟩ := h
  subst e1; subst e2
  obtain ⟨t, rfl⟩ := r1
  obtain ⟨t', rfl⟩ := r2
  exact iadd_int ⟨.int _, H, I.tok _, ⟨_, rfl⟩, q⟩
end

section
variable {X : Cx} {pos : Pos}
noncomputable def tWhile (c : TT) (tb : TS) : TS := fun D σ H => ∃ W : Nat → St → Hp → Prop, (∃ m, W m σ H) ∧ ∀ m σ H, W m σ H →
  c σ H fun b H1 => if b = true then ∃ N : St → Hp → Prop, (∀ σ' H', N σ' H' → ∃ m', m' < m ∧ W m' σ' H') ∧ tb { D with nx := N, ct := N, bk := D.nx } σ H1 else D.nx σ H1
theorem ps_while {c : Expr} {body : List Stmt} {tc : TT} {tb : TS} (hp : PassesOwn (model X.prog X.w) X.A X.env X.xe) (hc : PT X c tc) (hb : PSs X body tb) : PS X (.While c body [] pos) (tWhile tc tb) := by
  intro pins s σ H D I h
  obtain ⟨W, ⟨m0, w0⟩, turn⟩ := h
  refine wpAny_While (codeAny_whileLoop (fun n s' => ∃ σ' H', Inv X pins σ' H' s' ∧ W n σ' H') ?_ m0 ⟨σ, H, I, w0⟩)
  rintro n s1 ⟨σ1, H1, I1, w1⟩
  refine wpAny_passesOwn hp (thn (hc pins s1 σ1 H1 _ I1 (turn n σ1 H1 w1)) fun b s2 ⟨H2, I2, q2⟩ => ?_)
  cases b with
  | true =>
    obtain ⟨N, hN, q2⟩ := q2
    rw [if_pos rfl]
    refine wpAny_passesOwn hp (thn (hb pins s2 σ1 H2 _ I2 q2) fun f s3 q3 => ?_)
    cases f with
    | next =>
      obtain ⟨σ3, H3, I3, n3⟩ := q3
      obtain ⟨m', hm, w3⟩ := hN σ3 H3 n3
      exact ⟨m', hm, σ3, H3, I3, w3⟩
    | cont =>
      obtain ⟨σ3, H3, I3, n3⟩ := q3
      obtain ⟨m', hm, w3⟩ := hN σ3 H3 n3
      exact ⟨m', hm, σ3, H3, I3, w3⟩
    | brk => exact q3
    | ret v => exact q3
  | false =>
    rw [if_neg Bool.false_ne_true]
    exact wpAny_execs_nil ⟨σ1, H2, I2, q2⟩
end

structure It where
  go : Nat → Hp → Prop
  yld : Nat → Hp → V → Hp → Prop
  stop : Nat → Hp → Prop
noncomputable def FpOk (X : Cx) (pins : List (Addr × Obj)) (H : Hp) (b : Addr) : Prop :=
  H b = none ∧ b ≠ X.env.locals ∧ b ∉ X.fs ∧ (b ∈ X.ex ∨ X.s₀.heap.objs.size ≤ b) ∧ (∀ x c, X.env.cells.lookup x = some c → c ≠ b) ∧ ∀ p ∈ X.pn ++ pins, p.1 ≠ b
theorem Inv.fpOk {X : Cx} {pins : List (Addr × Obj)} {σ : St} {H H' : Hp} {s : Shared} {b : Addr} (I : Inv X pins σ H s) (hb : s.heap.objs.size ≤ b) (hn : H' b = none) : FpOk X pins H' b := by
  refine ⟨hn, Nat.ne_of_gt (Nat.lt_of_lt_of_le I.lt hb), I.nofs hb, .inr (Nat.le_trans I.sz hb), fun x c e z => ?_, fun p hp z => ?_⟩
  · obtain ⟨v, q⟩ := I.cell x c e
    exact absurd (Nat.lt_of_lt_of_le q.lt (by rw [z]; exact hb)) (Nat.lt_irrefl _)
  · exact absurd (Nat.lt_of_lt_of_le (Heap.lt_size (I.pin p hp).1) (by rw [z]; exact hb)) (Nat.lt_irrefl _)
structure Turn (P : Program) (w : World) (K : Frag) (tg : Expr) (J : It) (fp : List Addr) (it : Addr) (tn : Nat → Heap → Prop) : Prop where
  mem : it ∈ fp
  obj : ∀ i h, tn i h → ∀ b ∈ fp, ∃ o, h.get? b = some o ∧ ∀ v, o.data ≠ .cell v
  keep : ∀ i h h', tn i h → (∀ b ∈ fp, ∀ o, h.get? b = some o → h'.get? b = some o) → tn i h'
  item : ∀ (X : Cx), X.prog = P → X.w = w → X.K = K → X.calm = true → ∀ (i : Nat) (pins : List (Addr × Obj)) (s : Shared) (σ : St) (H : Hp) (E : Value → Shared → Prop), Inv X pins σ H s → (∀ b ∈ fp, FpOk X pins H b) → tn i s.heap → J.go i H →
    wpAny (model P w) X.A (pyNext (.ref it)) (fun r s1 => ∃ u, r = some u ∧
      wpAny (model P w) X.A (letOwnedTupleGo tg (.ref it) u) (fun _ s2 => ∃ x H', Inv X pins σ H' s2 ∧ RelV x u ∧ J.yld i H x H' ∧ tn (i + 1) s2.heap ∧ ∀ b ∈ fp, H' b = none) E s1) E s
  done : ∀ (X : Cx), X.prog = P → X.w = w → X.K = K → X.calm = true → ∀ (i : Nat) (pins : List (Addr × Obj)) (s : Shared) (σ : St) (H : Hp) (E : Value → Shared → Prop), Inv X pins σ H s → (∀ b ∈ fp, FpOk X pins H b) → tn i s.heap → J.stop i H →
    wpAny (model P w) X.A (pyNext (.ref it)) (fun r s1 => r = none ∧ Inv X pins σ H s1) E s
  self : ∀ (A : Around) (i : Nat) (s : Shared) (Q : Value → Shared → Prop) (E : Value → Shared → Prop), tn i s.heap → Q (.ref it) s → wpAny (model P w) A (pyIter (.ref it)) Q E s
noncomputable abbrev TI := St → Hp → (It → Hp → Prop) → Prop
noncomputable def PIE (X : Cx) (pins : List (Addr × Obj)) (σ : St) (tg : Expr) (R : It → Hp → Prop) (itv : Value) (s2 : Shared) : Prop :=
  ∃ (it : Addr) (fp : List Addr) (tn : Nat → Heap → Prop) (J : It) (H' : Hp), itv = .ref it ∧ Inv X pins σ H' s2 ∧ Turn X.prog X.w X.K tg J fp it tn ∧ tn 0 s2.heap ∧ (∀ b ∈ fp, FpOk X pins H' b) ∧ R J H'
noncomputable def PI (X : Cx) (tg iter : Expr) (wi : TI) : Prop :=
  ∀ (pins : List (Addr × Obj)) (s : Shared) (σ : St) (H : Hp) (R : It → Hp → Prop), Inv X pins σ H s → wi σ H R →
    wpAny (model X.prog X.w) X.A (eval iter X.env) (fun v s1 => wpAny (model X.prog X.w) X.A (pyIter v) (PIE X pins σ tg R) X.xe s1) X.xe s

theorem go_of {M : Model} {A : Around} {E : Value → Shared → Prop} {s : Shared} {tg : Expr} {it : Addr} {u : Value} {o : Obj} {n : String} {vs : Array Value} {Q : Unit → Shared → Prop} (ho : s.heap.get? it = some o) (hc : o.cls = .type n) (hd : o.data = .fields vs)
    (hn : ["enumerate", "zip", "dict_itemiterator", "dict_reverseitemiterator", "odict_iterator", "itertools.zip_longest", "itertools.pairwise"].contains n = false) (hQ : Q () s) : wpAny M A (letOwnedTupleGo tg (.ref it) u) Q E s := by
  unfold letOwnedTupleGo
  cases tg <;> first
    | exact wpAny_pure hQ
    | (cases u <;> first
        | exact wpAny_pure hQ
        | (refine wpAny_bind (wpAny_load ho ?_)
           rw [hc, hd]
           show wpAny M A (if (["enumerate", "zip", "dict_itemiterator", "dict_reverseitemiterator", "odict_iterator", "itertools.zip_longest", "itertools.pairwise"].contains n && vs[0]? == some (rawInt _)) = true then _ else _) Q E s
           rw [if_neg (by intro h; rw [hn, Bool.false_and] at h; cases h)]
           exact wpAny_pure hQ))

noncomputable def Itl (K : Frag) (a : Addr) : It :=
  ⟨fun i H => ∃ xs x, SqL K H a xs ∧ xs[i]? = some x, fun i H x H' => H' = H ∧ ∀ xs, SqL K H a xs → xs[i]? = some x, fun i H => ∃ xs, SqL K H a xs ∧ xs.length ≤ i⟩
noncomputable def Itt (K : Frag) (a : Addr) : It :=
  ⟨fun i H => ∃ xs x, SqT K H a xs ∧ xs[i]? = some x, fun i H x H' => H' = H ∧ ∀ xs, SqT K H a xs → xs[i]? = some x, fun i H => ∃ xs, SqT K H a xs ∧ xs.length ≤ i⟩
noncomputable def Itr (lo : Int) (n : Nat) : It := ⟨fun i _ => i < n, fun i H x H' => H' = H ∧ x = .int (lo + i), fun i _ => n ≤ i⟩
theorem turn_list {P : Program} {w : World} {K : Frag} {tg : Expr} (a it : Addr) : Turn P w K tg (Itl K a) [it] it (fun i h => h.IsListIter it a i) where
  mem := by simp
  obj := fun i h st b hb => by
    have e : b = it := by simpa using hb
    subst e
    obtain ⟨o, e, c, d⟩ := st
    exact ⟨o, e, fun v z => by rw [d] at z; cases z⟩
  keep := fun i h h' st k => st.at fun o e => k it (by simp) o e
  item := by
    intro X hP hw hK hc i pins s σ H E I hf st hg
    subst hP hw hK
    obtain ⟨xs, x, hq, hx⟩ := hg
    obtain ⟨its, rv, p, hz⟩ := I.list hq
    obtain ⟨u, hu, ru⟩ := rv.get hx
    obtain ⟨f0, f1, f2, f3, f4, f5⟩ := hf it (by simp)
    refine wpAny_pyNext_list_item st p.isList (x := u) (by simpa using hu) fun h' st' sb => ?_
    have I1 : Inv X pins σ H { s with heap := h' } := I.turned (t' := s.toks) (fun b o hb e => (sb.2 b hb).trans e) f0 f1 f3 f4 f5
    obtain ⟨o, e, c, d⟩ := id st'
    exact ⟨u, rfl, go_of (s := { s with heap := h' }) e c d (by decide) ⟨x, H, I1, ru, ⟨rfl, fun ys hy => by rw [I.list_inj hy hq]; exact hx⟩, st', fun b hb => (hf b hb).1⟩⟩
  done := by
    intro X hP hw hK hc i pins s σ H E I hf st hg
    subst hP hw hK
    obtain ⟨xs, hq, hx⟩ := hg
    obtain ⟨its, rv, p, hz⟩ := I.list hq
    obtain ⟨f0, f1, f2, f3, f4, f5⟩ := hf it (by simp)
    have hl := rv.length
    exact wpAny_pyNext_list_end (I.ok.hd hc) st p.isList (by simp; omega) fun h' eb => ⟨rfl, I.turned (t' := s.toks) (fun b o hb e => eb b o hb e) f0 f1 f3 f4 f5⟩
  self := fun _ _ _ _ _ st h => wpAny_pyIter_listiter st h
theorem turn_tuple {P : Program} {w : World} {K : Frag} {tg : Expr} (a it : Addr) : Turn P w K tg (Itt K a) [it] it (fun i h => h.IsTupleIter it a i) where
  mem := by simp
  obj := fun i h st b hb => by
    have e : b = it := by simpa using hb
    subst e
    obtain ⟨o, e, c, d⟩ := st
    exact ⟨o, e, fun v z => by rw [d] at z; cases z⟩
  keep := fun i h h' st k => st.at fun o e => k it (by simp) o e
  item := by
    intro X hP hw hK hc i pins s σ H E I hf st hg
    subst hP hw hK
    obtain ⟨xs, x, hq, hx⟩ := hg
    obtain ⟨its, rv, p, hz⟩ := I.tuple hq
    obtain ⟨u, hu, ru⟩ := rv.get hx
    obtain ⟨f0, f1, f2, f3, f4, f5⟩ := hf it (by simp)
    refine wpAny_pyNext_tuple_item st (show s.heap.IsTuple a its.toArray from p) (x := u) (by simpa using hu) fun h' st' sb => ?_
    have I1 : Inv X pins σ H { s with heap := h' } := I.turned (t' := s.toks) (fun b o hb e => (sb.2 b hb).trans e) f0 f1 f3 f4 f5
    obtain ⟨o, e, c, d⟩ := id st'
    exact ⟨u, rfl, go_of (s := { s with heap := h' }) e c d (by decide) ⟨x, H, I1, ru, ⟨rfl, fun ys hy => by rw [I.tuple_inj hy hq]; exact hx⟩, st', fun b hb => (hf b hb).1⟩⟩
  done := by
    intro X hP hw hK hc i pins s σ H E I hf st hg
    subst hP hw hK
    obtain ⟨xs, hq, hx⟩ := hg
    obtain ⟨its, rv, p, hz⟩ := I.tuple hq
    obtain ⟨f0, f1, f2, f3, f4, f5⟩ := hf it (by simp)
    have hl := rv.length
    exact wpAny_pyNext_tuple_end (I.ok.hd hc) st (show s.heap.IsTuple a its.toArray from p) (by simp; omega) fun h' eb => ⟨rfl, I.turned (t' := s.toks) (fun b o hb e => eb b o hb e) f0 f1 f3 f4 f5⟩
  self := fun _ _ _ _ _ st h => wpAny_pyIter_tupleiter st h
theorem turn_range {P : Program} {w : World} {K : Frag} {tg : Expr} (it : Addr) (lo : Int) (n : Nat) : Turn P w K tg (Itr lo n) [it] it (fun i h => IsRangeIter h it (lo + (i : Nat) * 1) ((n : Int) - (i : Nat)) 1) where
  mem := by simp
  obj := fun i h st b hb => by
    have e : b = it := by simpa using hb
    subst e
    exact ⟨_, st, fun v z => by
      have z' : Data.fields _ = Data.cell v := z
      cases z'⟩
  keep := fun i h h' st k => k it (by simp) _ st
  item := by
    intro X hP hw hK hc i pins s σ H E I hf st hg
    subst hP hw hK
    obtain ⟨f0, f1, f2, f3, f4, f5⟩ := hf it (by simp)
    have W := Walks.range (prog := X.prog) (w := X.w) (I.ok.hd hc) it lo 1 n
    refine W.item i s _ _ hg st fun v h' tk hv st' kk => ?_
    obtain ⟨t, rfl⟩ := hv
    have I1 : Inv X pins σ H { s with heap := h', toks := tk } := I.turned (fun b o hb e => kk b o (by simpa using hb) e) f0 f1 f3 f4 f5
    refine ⟨_, rfl, go_of (s := { s with heap := h', toks := tk }) (n := "range_iterator") st' rfl rfl (by decide) ⟨.int (lo + i), H, I1, ⟨t, ?_⟩, ⟨rfl, rfl⟩, st', fun b hb => (hf b hb).1⟩⟩
    rw [Int.mul_one]
  done := by
    intro X hP hw hK hc i pins s σ H E I hf st hg
    subst hP hw hK
    obtain ⟨f0, f1, f2, f3, f4, f5⟩ := hf it (by simp)
    exact wpAny_pyNext_range_end (I.ok.hd hc) st (by have : n ≤ i := hg; omega) fun h' eb => ⟨rfl, I.turned (t' := s.toks) (fun b o hb e => eb b o hb e) f0 f1 f3 f4 f5⟩
  self := fun _ _ _ _ _ st h => wpAny_pyIter_rangeiter st h
section
variable {X : Cx} {tg : Expr}
theorem range_it {pins : List (Addr × Obj)} {σ : St} {H : Hp} {s : Shared} {R : It → Hp → Prop} {E : Value → Shared → Prop} {lo hi : Int} {t u v : Tok} {tk : Nat} (I : Inv X pins σ H s) (h1 : -(2 ^ 62) ≤ lo) (h2 : lo < 2 ^ 62) (h3 : -(2 ^ 62) ≤ hi) (h4 : hi < 2 ^ 62)
    (q : R (Itr lo (hi - lo).toNat) H) : wpAny (model X.prog X.w) X.A (pyIter (.ref s.heap.objs.size)) (PIE X pins σ tg R) E { s with heap := s.heap.push { cls := .type "range", data := .fields #[.int lo t, .int hi u, .int 1 v] }, toks := tk } := by
  refine wpAny_pyIter_range (IsRange.new ..) (small_one h1 h2 h3 h4) ?_
  have I1 : Inv X pins σ H { s with heap := s.heap.push { cls := .type "range", data := .fields #[.int lo t, .int hi u, .int 1 v] }, toks := tk } := I.kept fun b o e => Heap.get?_push_of_some _ e
  refine ⟨(s.heap.push { cls := .type "range", data := .fields #[.int lo t, .int hi u, .int 1 v] }).objs.size, [(s.heap.push { cls := .type "range", data := .fields #[.int lo t, .int hi u, .int 1 v] }).objs.size], _, _, H, rfl,
    I1.kept (t' := tk) fun b o e => Heap.get?_push_of_some _ e, turn_range _ lo (hi - lo).toNat, ?_, fun b hb => ?_, q⟩
  · have e1 : lo + ((0 : Nat) : Int) * 1 = lo := by simp
    have e2 : (((hi - lo).toNat : Nat) : Int) - ((0 : Nat) : Int) = Builtin.Range.rangeSize lo hi 1 := by rw [rangeSize_one]; split <;> omega
    show IsRangeIter _ _ (lo + ((0 : Nat) : Int) * 1) ((((hi - lo).toNat : Nat) : Int) - ((0 : Nat) : Int)) 1
    rw [e1, e2]
    exact Heap.get?_push_size _ rfl
  · have e : b = (s.heap.push { cls := .type "range", data := .fields #[.int lo t, .int hi u, .int 1 v] }).objs.size := by simpa using hb
    subst e
    exact I1.fpOk (Nat.le_refl _) (I1.hok.fresh (Nat.le_refl _))
noncomputable def iRng1 (ta : TA) : TI := fun σ H R => ta σ H fun vs H1 => ∃ j : Int, vs = [.int j] ∧ -(2 ^ 62) ≤ j ∧ j < 2 ^ 62 ∧ R (Itr 0 j.toNat) H1
noncomputable def iRng2 (ta : TA) : TI := fun σ H R => ta σ H fun vs H1 => ∃ i j : Int, vs = [.int i, .int j] ∧ (-(2 ^ 62) ≤ i ∧ i < 2 ^ 62 ∧ -(2 ^ 62) ≤ j ∧ j < 2 ^ 62) ∧ R (Itr i (j - i).toNat) H1
theorem pi_range1 {a : Expr} {ta : TA} {p pos : Pos} (hg : Gl X "range") (hm : X.mg "range" = none) (ha : PA X [a] ta) (hs : starEach [a] X.env = [(false, eval a X.env)] := by rfl) : PI X tg (.Call (.Name "range" p) [a] [] pos) (iRng1 ta) := by
  intro pins s σ H R I h
  refine Call_ (ld_blt I hg hm boot_range (PyProof.Rows.callWith_type1 (thn (ha pos pins s σ H _ I h) fun us s1 ⟨vs, H1, I1, r1, q1⟩ => ?_) hs rfl))
  obtain ⟨j, e, q1, q2, q⟩ := q1
  subst e
  cases r1 with
  | cons r rr =>
    cases rr
    obtain ⟨t, rfl⟩ := r
    exact call_range_1 (range_it I1 (by omega) (by omega) q1 q2 (by simpa using q))
theorem pi_range2 {a b : Expr} {ta : TA} {p pos : Pos} (hg : Gl X "range") (hm : X.mg "range" = none) (ha : PA X [a, b] ta) (hs : starEach [a, b] X.env = [(false, eval a X.env), (false, eval b X.env)] := by rfl) (hs2 : starEach [b] X.env = [(false, eval b X.env)] := by rfl) :
    PI X tg (.Call (.Name "range" p) [a, b] [] pos) (iRng2 ta) := by
  intro pins s σ H R I h
  refine Call_ (ld_blt I hg hm boot_range (PyProof.Rows.callWith_type1 (thn (ha pos pins s σ H _ I h) fun us s1 ⟨vs, H1, I1, r1, q1⟩ => ?_) (by rw [hs, hs2]) (by rw [hs2]; rfl)))
  obtain ⟨i, j, e, ⟨q1, q2, q3, q4⟩, q⟩ := q1
  subst e
  cases r1 with
  | cons r rr =>
    cases rr with
    | cons r' rr =>
      cases rr
      obtain ⟨t, rfl⟩ := r
      obtain ⟨t', rfl⟩ := r'
      exact call_range_2 (range_it I1 q1 q2 q3 q4 q)

noncomputable def tFor (wi : TI) (g : TG) (tb : TS) : TS := fun D σ H => wi σ H fun J H1 => ∃ W : Nat → Nat → St → Hp → Prop, (∃ m, W 0 m σ H1) ∧ ∀ i m σ H, W i m σ H →
  (J.stop i H ∧ D.nx σ H) ∨ (J.go i H ∧ ∃ N : St → Hp → Prop, (∀ σ' H', N σ' H' → ∃ m', m' < m ∧ W (i + 1) m' σ' H') ∧ ∀ x H', J.yld i H x H' → g x σ H' fun σ2 H2 => tb { D with nx := N, ct := N, bk := D.nx } σ2 H2)
noncomputable def pinsAt (fp : List Addr) (h : Heap) : List (Addr × Obj) := fp.filterMap fun b => (h.get? b).map fun o => (b, o)
theorem mem_pinsAt {fp : List Addr} {h : Heap} {b : Addr} {o : Obj} (hb : b ∈ fp) (e : h.get? b = some o) : (b, o) ∈ pinsAt fp h := List.mem_filterMap.mpr ⟨b, hb, by rw [e]; rfl⟩
theorem of_pinsAt {fp : List Addr} {h : Heap} {p : Addr × Obj} (hp : p ∈ pinsAt fp h) : p.1 ∈ fp ∧ h.get? p.1 = some p.2 := by
  obtain ⟨b, hb, e⟩ := List.mem_filterMap.mp hp
  cases q : h.get? b with
  | none => rw [q] at e; cases e
  | some o =>
    rw [q] at e
    have e' : (b, o) = p := Option.some.inj e
    subst e'
    exact ⟨hb, q⟩
theorem Inv.pinned {pins : List (Addr × Obj)} {σ : St} {H : Hp} {s : Shared} {fp : List Addr} (I : Inv X pins σ H s) (hf : ∀ b ∈ fp, FpOk X pins H b) (ho : ∀ b ∈ fp, ∃ o, s.heap.get? b = some o ∧ ∀ v, o.data ≠ .cell v) : Inv X (pins ++ pinsAt fp s.heap) σ H s :=
  I.pins_of fun p hp => (List.mem_append.mp hp).elim (fun z => I.pin p (List.mem_append_right _ z)) fun z => by
    obtain ⟨hb, e⟩ := of_pinsAt z
    obtain ⟨f0, f1, f2, _⟩ := hf p.1 hb
    obtain ⟨o, e', d⟩ := ho p.1 hb
    rw [e] at e'; cases e'
    exact ⟨e, f0, f1, f2, d⟩
theorem Inv.unpinned {pins pl : List (Addr × Obj)} {σ : St} {H : Hp} {s : Shared} (I : Inv X (pins ++ pl) σ H s) : Inv X pins σ H s := I.pins_of fun p hp => I.pin p (List.mem_append_right _ (List.mem_append_left _ hp))
theorem ps_for {iter : Expr} {body : List Stmt} {wi : TI} {g : TG} {tb : TS} {pos : Pos} (hp : PassesOwn (model X.prog X.w) X.A X.env X.xe) (hc : X.calm = true) (hi : PI X tg iter wi) (hg : PG X tg g) (hb : PSs X body tb)
    (hs : ∀ x, foldedSetIterable iter X.env x = pure x := by intro _; rfl) : PS X (.For tg iter body [] pos) (tFor wi g tb) := by
  intro pins s σ H D I h
  refine wpAny_For (thn (hi pins s σ H _ I h) fun v s1 h1 => thn h1 fun itv s2 h2 => ?_) hs
  obtain ⟨it, fp, tn, J, H2, e, I2, T, st2, f2, W, ⟨m0, w0⟩, turn⟩ := h2
  subst e
  -- what stays true of the iterator's objects through the loop
  have stat : ∀ {H' : Hp}, (∀ b ∈ fp, H' b = none) → ∀ b ∈ fp, FpOk X pins H' b := fun hn b hb => ⟨hn b hb, (f2 b hb).2⟩
  refine codeAny_forLoop_any (fun n s' => ∃ i σ' H', Inv X pins σ' H' s' ∧ tn i s'.heap ∧ (∀ b ∈ fp, H' b = none) ∧ W i n σ' H') ?_ m0 ⟨0, σ, H2, I2, st2, fun b hb => (f2 b hb).1, w0⟩
  rintro n s3 ⟨i, σ3, H3, I3, st3, fr3, w3⟩
  rcases turn i n σ3 H3 w3 with ⟨stop, qn⟩ | ⟨go, N, hN, step⟩
  · refine wpAny_passesOwn hp (thn (T.done X rfl rfl rfl hc i pins s3 σ3 H3 X.xe I3 (stat fr3) st3 stop) fun r s4 ⟨hr, I4⟩ => ?_)
    subst hr
    exact wpAny_execs_nil ⟨σ3, H3, I4, qn⟩
  · refine wpAny_passesOwn hp (thn (T.item X rfl rfl rfl hc i pins s3 σ3 H3 X.xe I3 (stat fr3) st3 go) fun r s4 ⟨u, hr, h4⟩ => ?_)
    subst hr
    refine wpAny_passesOwn hp (thn h4 fun _ s5 ⟨x, H5, I5, r5, y5, st5, fr5⟩ => ?_)
    have I5' := I5.pinned (stat fr5) (T.obj _ _ st5)
    refine wpAny_passesOwn hp (thn (hg _ s5 σ3 H5 x u _ I5' r5 (step x H5 y5)) fun _ s6 ⟨σ6, H6, I6, q6⟩ => ?_)
    refine wpAny_passesOwn hp (thn (hb _ s6 σ6 H6 _ I6 q6) fun f s7 q7 => ?_)
    have again : ∀ {σ7 : St} {H7 : Hp}, Inv X (pins ++ pinsAt fp s5.heap) σ7 H7 s7 → N σ7 H7 → ∃ m, m < n ∧ ∃ i σ' H', Inv X pins σ' H' s7 ∧ tn i s7.heap ∧ (∀ b ∈ fp, H' b = none) ∧ W i m σ' H' := fun {σ7 H7} I7 n7 => by
      obtain ⟨m', hm, w7⟩ := hN σ7 H7 n7
      refine ⟨m', hm, i + 1, σ7, H7, I7.unpinned, T.keep _ _ _ st5 fun b hb o e => (I7.pin (b, o) (List.mem_append_right _ (List.mem_append_right _ (mem_pinsAt hb e)))).1, fun b hb => ?_, w7⟩
      obtain ⟨o, e, d⟩ := T.obj _ _ st5 b hb
      exact (I7.pin (b, o) (List.mem_append_right _ (List.mem_append_right _ (mem_pinsAt hb e)))).2.1
    cases f with
    | next => obtain ⟨σ7, H7, I7, n7⟩ := q7; exact again I7 n7
    | cont => obtain ⟨σ7, H7, I7, n7⟩ := q7; exact again I7 n7
    | brk => obtain ⟨σ7, H7, I7, q7⟩ := q7; exact ⟨σ7, H7, I7.unpinned, q7⟩
    | ret v => obtain ⟨x7, σ7, H7, I7, r7, q7⟩ := q7; exact ⟨x7, σ7, H7, I7.unpinned, r7, q7⟩
end

theorem for_list {K : Frag} {a : Addr} {xs : List V} {g : TG} {tb : TS} {D : Ends} {σ : St} {H : Hp} (Pv : Nat → St → Hp → Prop) (h0 : Pv 0 σ H) (hl : ∀ i σ H, i ≤ xs.length → Pv i σ H → SqL K H a xs)
    (hs : ∀ i x σ H, xs[i]? = some x → Pv i σ H → g x σ H fun σ2 H2 => tb { D with nx := Pv (i + 1), ct := Pv (i + 1), bk := D.nx } σ2 H2) (hd : ∀ σ H, Pv xs.length σ H → D.nx σ H) :
    ∃ W : Nat → Nat → St → Hp → Prop, (∃ m, W 0 m σ H) ∧ ∀ i m σ H, W i m σ H →
      ((Itl K a).stop i H ∧ D.nx σ H) ∨ ((Itl K a).go i H ∧ ∃ N : St → Hp → Prop, (∀ σ' H', N σ' H' → ∃ m', m' < m ∧ W (i + 1) m' σ' H') ∧ ∀ x H', (Itl K a).yld i H x H' → g x σ H' fun σ2 H2 => tb { D with nx := N, ct := N, bk := D.nx } σ2 H2) := by
  refine ⟨fun i m σ H => m = xs.length - i ∧ i ≤ xs.length ∧ Pv i σ H, ⟨xs.length, by simp, Nat.zero_le _, h0⟩, ?_⟩
  rintro i m σ H ⟨rfl, hi, p⟩
  have q := hl i σ H hi p
  by_cases hlt : i < xs.length
  · refine .inr ⟨⟨xs, xs[i], q, by simp [hlt]⟩, Pv (i + 1), fun σ' H' p' => ⟨xs.length - (i + 1), by omega, rfl, hlt, p'⟩, fun x H' y => ?_⟩
    obtain ⟨e, y⟩ := y
    subst e
    exact hs i x σ _ (y xs q) p
  · have e : i = xs.length := by omega
    subst e
    exact .inl ⟨⟨xs, q, Nat.le_refl _⟩, hd σ H p⟩
theorem for_tup {K : Frag} {a : Addr} {xs : List V} {g : TG} {tb : TS} {D : Ends} {σ : St} {H : Hp} (Pv : Nat → St → Hp → Prop) (h0 : Pv 0 σ H) (hl : ∀ i σ H, i ≤ xs.length → Pv i σ H → SqT K H a xs)
    (hs : ∀ i x σ H, xs[i]? = some x → Pv i σ H → g x σ H fun σ2 H2 => tb { D with nx := Pv (i + 1), ct := Pv (i + 1), bk := D.nx } σ2 H2) (hd : ∀ σ H, Pv xs.length σ H → D.nx σ H) :
    ∃ W : Nat → Nat → St → Hp → Prop, (∃ m, W 0 m σ H) ∧ ∀ i m σ H, W i m σ H →
      ((Itt K a).stop i H ∧ D.nx σ H) ∨ ((Itt K a).go i H ∧ ∃ N : St → Hp → Prop, (∀ σ' H', N σ' H' → ∃ m', m' < m ∧ W (i + 1) m' σ' H') ∧ ∀ x H', (Itt K a).yld i H x H' → g x σ H' fun σ2 H2 => tb { D with nx := N, ct := N, bk := D.nx } σ2 H2) := by
  refine ⟨fun i m σ H => m = xs.length - i ∧ i ≤ xs.length ∧ Pv i σ H, ⟨xs.length, by simp, Nat.zero_le _, h0⟩, ?_⟩
  rintro i m σ H ⟨rfl, hi, p⟩
  have q := hl i σ H hi p
  by_cases hlt : i < xs.length
  · refine .inr ⟨⟨xs, xs[i], q, by simp [hlt]⟩, Pv (i + 1), fun σ' H' p' => ⟨xs.length - (i + 1), by omega, rfl, hlt, p'⟩, fun x H' y => ?_⟩
    obtain ⟨e, y⟩ := y
    subst e
    exact hs i x σ _ (y xs q) p
  · have e : i = xs.length := by omega
    subst e
    exact .inl ⟨⟨xs, q, Nat.le_refl _⟩, hd σ H p⟩
theorem for_range {lo : Int} {n : Nat} {g : TG} {tb : TS} {D : Ends} {σ : St} {H : Hp} (Pv : Nat → St → Hp → Prop) (h0 : Pv 0 σ H)
    (hs : ∀ i σ H, i < n → Pv i σ H → g (.int (lo + i)) σ H fun σ2 H2 => tb { D with nx := Pv (i + 1), ct := Pv (i + 1), bk := D.nx } σ2 H2) (hd : ∀ σ H, Pv n σ H → D.nx σ H) :
    ∃ W : Nat → Nat → St → Hp → Prop, (∃ m, W 0 m σ H) ∧ ∀ i m σ H, W i m σ H →
      ((Itr lo n).stop i H ∧ D.nx σ H) ∨ ((Itr lo n).go i H ∧ ∃ N : St → Hp → Prop, (∀ σ' H', N σ' H' → ∃ m', m' < m ∧ W (i + 1) m' σ' H') ∧ ∀ x H', (Itr lo n).yld i H x H' → g x σ H' fun σ2 H2 => tb { D with nx := N, ct := N, bk := D.nx } σ2 H2) := by
  refine ⟨fun i m σ H => m = n - i ∧ i ≤ n ∧ Pv i σ H, ⟨n, by simp, Nat.zero_le _, h0⟩, ?_⟩
  rintro i m σ H ⟨rfl, hi, p⟩
  by_cases hlt : i < n
  · refine .inr ⟨hlt, Pv (i + 1), fun σ' H' p' => ⟨n - (i + 1), by omega, rfl, hlt, p'⟩, fun x H' y => ?_⟩
    obtain ⟨e, y⟩ := y
    subst e y
    exact hs i σ _ hlt p
  · have e : i = n := by omega
    subst e
    exact .inl ⟨Nat.le_refl _, hd σ H p⟩

noncomputable abbrev R2 := V → V → Hp → VK → Prop
noncomputable def OpR (X : Cx) (f : Value → Value → Sem Value) (r : R2) : Prop :=
  ∀ (pins : List (Addr × Obj)) (s : Shared) (σ : St) (H : Hp) (x y : V) (v u : Value) (Q : VK), Inv X pins σ H s → RelV x v → RelV y u → r x y H Q →
    wpAny (model X.prog X.w) X.A (f v u) (EP X pins σ Q) X.xe s
noncomputable def UnR (X : Cx) (f : Value → Sem Value) (r : V → Hp → VK → Prop) : Prop :=
  ∀ (pins : List (Addr × Obj)) (s : Shared) (σ : St) (H : Hp) (x : V) (v : Value) (Q : VK), Inv X pins σ H s → RelV x v → r x H Q →
    wpAny (model X.prog X.w) X.A (f v) (EP X pins σ Q) X.xe s
noncomputable def CallR (X : Cx) (f : Value) (r : List V → Hp → VK → Prop) : Prop :=
  ∀ (pins : List (Addr × Obj)) (s : Shared) (σ : St) (H : Hp) (xs : List V) (us : List Value) (Q : VK), Inv X pins σ H s → Vals xs us → r xs H Q →
    wpAny (model X.prog X.w) X.A (call f us) (EP X pins σ Q) X.xe s
noncomputable def tOp (r : R2) (ta tb : TE) : TE := fun σ H Q => ta σ H fun x H1 => tb σ H1 fun y H2 => r x y H2 Q
noncomputable def tUn (r : V → Hp → VK → Prop) (ta : TE) : TE := fun σ H Q => ta σ H fun x H1 => r x H1 Q
noncomputable def rI (C : Int → Int → Prop) (g : Int → Int → V) : R2 := fun x y H Q => ∃ i j, x = .int i ∧ y = .int j ∧ C i j ∧ Q (g i j) H
noncomputable def rI0 (g : Int → Int → V) : R2 := fun x y H Q => ∃ i j, x = .int i ∧ y = .int j ∧ Q (g i j) H
noncomputable def rU (g : Int → V) : V → Hp → VK → Prop := fun x H Q => ∃ i, x = .int i ∧ Q (g i) H

section
variable {X : Cx} {a b c : Expr} {ta tb tc : TE} {pos : Pos}

theorem binT (ha : PE X a ta) (hb : PE X b tb) {pins : List (Addr × Obj)} {s : Shared} {σ : St} {H : Hp} {R : V → V → Hp → Prop} (I : Inv X pins σ H s)
    (h : ta σ H fun x H1 => tb σ H1 fun y H2 => R x y H2) {Q : Value → Shared → Prop} {f : Value → Value → Sem Value}
    (hf : ∀ v u s2 x y H2, Inv X pins σ H2 s2 → RelV x v → RelV y u → R x y H2 → wpAny (model X.prog X.w) X.A (f v u) Q X.xe s2) :
    wpAny (model X.prog X.w) X.A (eval a X.env) (fun v s₁ => wpAny (model X.prog X.w) X.A (eval b X.env) (fun u s₂ => wpAny (model X.prog X.w) X.A (f v u) Q X.xe s₂) X.xe s₁) X.xe s := by
  refine thn (ha pins s σ H _ I h) fun v s1 ⟨x, H1, I1, r1, q1⟩ => ?_
  refine thn (hb pins s1 σ H1 _ I1 q1) fun u s2 ⟨y, H2, I2, r2, q2⟩ => ?_
  exact hf v u s2 x y H2 I2 r1 r2 q2

theorem pe_op {op : Operator} {r : R2} (ho : OpR X (binaryOp op) r) (ha : PE X a ta) (hb : PE X b tb) : PE X (.BinOp a op b pos) (tOp r ta tb) := by
  intro pins s σ H Q I h
  exact wpAny_BinOp (binT ha hb I h fun v u s2 x y H2 I2 rx ry q => ho pins s2 σ H2 x y v u Q I2 rx ry q)
theorem pe_un {op : UnaryOp} {r : V → Hp → VK → Prop} (ho : UnR X (unaryOp op) r) (ha : PE X a ta) : PE X (.UnaryOp op a pos) (tUn r ta) := by
  intro pins s σ H Q I h
  exact UnaryOp_ (thn (ha pins s σ H _ I h) fun v s1 ⟨x, H1, I1, r1, q1⟩ => ho pins s1 σ H1 x v Q I1 r1 q1)
theorem opI {f : Value → Value → Sem Value} {C : Int → Int → Prop} {g : Int → Int → Int}
    (rule : ∀ (i j : Int) (t u : Tok) (s : Shared) (Q : Value → Shared → Prop) (E : Value → Shared → Prop), C i j → Q (.int (g i j) s.toks) { s with toks := s.toks + 1 } → wpAny (model X.prog X.w) X.A (f (.int i t) (.int j u)) Q E s) :
    OpR X f (rI C fun i j => .int (g i j)) := by
  intro pins s σ H x y v u Q I rx ry h
  obtain ⟨i, j, rfl, rfl, hc, q⟩ := h
  obtain ⟨t, rfl⟩ := rx
  obtain ⟨t', rfl⟩ := ry
  exact rule i j t t' s _ _ hc ⟨.int (g i j), H, I.tok _, ⟨_, rfl⟩, q⟩
theorem opI0 {f : Value → Value → Sem Value} {g : Int → Int → Int}
    (rule : ∀ (i j : Int) (t u : Tok) (s : Shared) (Q : Value → Shared → Prop) (E : Value → Shared → Prop), Q (.int (g i j) s.toks) { s with toks := s.toks + 1 } → wpAny (model X.prog X.w) X.A (f (.int i t) (.int j u)) Q E s) :
    OpR X f (rI0 fun i j => .int (g i j)) := by
  intro pins s σ H x y v u Q I rx ry h
  obtain ⟨i, j, rfl, rfl, q⟩ := h
  obtain ⟨t, rfl⟩ := rx
  obtain ⟨t', rfl⟩ := ry
  exact rule i j t t' s _ _ ⟨.int (g i j), H, I.tok _, ⟨_, rfl⟩, q⟩
theorem opB0 {f : Value → Value → Sem Value} {g : Int → Int → Bool}
    (rule : ∀ (i j : Int) (t u : Tok) (s : Shared) (Q : Value → Shared → Prop) (E : Value → Shared → Prop), Q (.bool (g i j)) s → wpAny (model X.prog X.w) X.A (f (.int i t) (.int j u)) Q E s) :
    OpR X f (rI0 fun i j => .bl (g i j)) := by
  intro pins s σ H x y v u Q I rx ry h
  obtain ⟨i, j, rfl, rfl, q⟩ := h
  obtain ⟨t, rfl⟩ := rx
  obtain ⟨t', rfl⟩ := ry
  exact rule i j t t' s _ _ ⟨.bl (g i j), H, I, rfl, q⟩

noncomputable def CPow (i j : Int) : Prop := 0 ≤ j ∧ j ≤ 1000000 ∧ i.natAbs < 2 ^ 64
noncomputable def CMul (i j : Int) : Prop := (-(2 ^ 64) < i ∧ i < 2 ^ 64) ∨ (-(2 ^ 64) < j ∧ j < 2 ^ 64)
theorem CMul.ok {i j : Int} (h : CMul i j) : IntMulOk i j := by
  rcases h with ⟨h1, h2⟩ | ⟨h1, h2⟩
  · exact .of_left (intBits_le_64 h1 h2)
  · exact .of_right (intBits_le_64 h1 h2)
theorem op_add : OpR X (binaryOp .Add) (rI0 fun i j => .int (i + j)) := opI0 fun _ _ _ _ _ _ _ q => add_int q
theorem op_sub : OpR X (binaryOp .Sub) (rI0 fun i j => .int (i - j)) := opI0 fun _ _ _ _ _ _ _ q => sub_int q
theorem op_modN : OpR X (binaryOp .Mod) (rI (fun _ j => j ≠ 0) fun i j => .int (i.fmod j)) := opI fun _ _ _ _ _ _ _ hc q => mod_int' hc q
theorem op_pow : OpR X (binaryOp .Pow) (rI CPow fun i j => .int (i ^ j.toNat)) := opI fun _ _ _ _ _ _ _ hc q => pow_int_small hc.1 hc.2.1 hc.2.2 q
theorem unI {f : Value → Sem Value} {g : Int → Int}
    (rule : ∀ (i : Int) (t : Tok) (s : Shared) (Q : Value → Shared → Prop) (E : Value → Shared → Prop), Q (.int (g i) s.toks) { s with toks := s.toks + 1 } → wpAny (model X.prog X.w) X.A (f (.int i t)) Q E s) :
    UnR X f (rU fun i => .int (g i)) := by
  intro pins s σ H x v Q I rx h
  obtain ⟨i, rfl, q⟩ := h
  obtain ⟨t, rfl⟩ := rx
  exact rule i t s _ _ ⟨.int (g i), H, I.tok _, ⟨_, rfl⟩, q⟩
theorem un_neg : UnR X (unaryOp .USub) (rU fun i => .int (-i)) := unI fun _ _ _ _ _ q => neg_int q
end

noncomputable def scal : V → V → Bool
  | .non, .non => true | .non, .int _ => true | .int _, .non => true | .non, .bl _ => true | .bl _, .non => true | .non, .str _ => true | .str _, .non => true
  | .int _, .int _ => true | .bl _, .bl _ => true | .str _, .str _ => true | .byt _, .byt _ => true
  | .int _, .str _ => true | .str _, .int _ => true | .bl _, .str _ => true | .str _, .bl _ => true
  | _, _ => false
noncomputable def rEq : R2 := fun x y H Q => scal x y = true ∧ Q (.bl (decide (x = y))) H
theorem dec_int {i j : Int} : decide (V.int i = V.int j) = (i == j) := by
  rw [Bool.eq_iff_iff]
  simp
theorem dec_bl {i j : Bool} : decide (V.bl i = V.bl j) = (i == j) := by
  rw [Bool.eq_iff_iff]
  simp
theorem dec_str {i j : Str} : decide (V.str i = V.str j) = (i == j) := by
  rw [Bool.eq_iff_iff]
  simp
theorem dec_byt {i j : Array UInt8} : decide (V.byt i = V.byt j) = (i.toList == j.toList) := by
  rw [Bool.eq_iff_iff]
  cases i
  cases j
  simp

section
variable {X : Cx} {a b c : Expr} {ta tb tc : TE} {pos : Pos}
theorem fin_bl {pins : List (Addr × Obj)} {σ : St} {H : Hp} {s : Shared} {Q : VK} {k k' : Bool} (I : Inv X pins σ H s) (q : Q (.bl k) H) (e : k = k') : EP X pins σ Q (.bool k') s := by
  subst e
  exact ⟨.bl k, H, I, rfl, q⟩
theorem op_eq : OpR X (compareOp .Eq) rEq := by
  intro pins s σ H x y v u Q I rx ry h
  obtain ⟨hs, q⟩ := h
  cases x with
  | non =>
    cases rx
    cases y with
    | non => cases ry; exact PySem.EqNone.eq_none_none (fin_bl I q (by simp))
    | bl j => cases ry; exact PySem.EqNone.eq_none_bool (fin_bl I q (by simp))
    | int j => obtain ⟨t', rfl⟩ := ry; exact PySem.EqNone.eq_none_int (fin_bl I q (by simp))
    | str j => obtain ⟨t', rfl⟩ := ry; exact PySem.EqNone.eq_none_str (fin_bl I q (by simp))
    | _ => exact absurd (show false = true from hs) Bool.false_ne_true
  | bl i =>
    cases rx
    cases y with
    | non => cases ry; exact PySem.EqNone.eq_bool_none (fin_bl I q (by simp))
    | bl j => cases ry; exact eq_bool (fin_bl I q dec_bl)
    | str j => obtain ⟨t', rfl⟩ := ry; exact PySem.EqMixed.eq_bool_str (fin_bl I q (by simp))
    | _ => exact absurd (show false = true from hs) Bool.false_ne_true
  | int i =>
    obtain ⟨t, rfl⟩ := rx
    cases y with
    | non => cases ry; exact PySem.EqNone.eq_int_none (fin_bl I q (by simp))
    | int j => obtain ⟨t', rfl⟩ := ry; exact eq_int (fin_bl I q dec_int)
    | str j => obtain ⟨t', rfl⟩ := ry; exact PySem.EqMixed.eq_int_str (fin_bl I q (by simp))
    | _ => exact absurd (show false = true from hs) Bool.false_ne_true
  | str i =>
    obtain ⟨t, rfl⟩ := rx
    cases y with
    | non => cases ry; exact PySem.EqNone.eq_str_none (fin_bl I q (by simp))
    | bl j => cases ry; exact PySem.EqMixed.eq_str_bool (fin_bl I q (by simp))
    | int j => obtain ⟨t', rfl⟩ := ry; exact PySem.EqMixed.eq_str_int (fin_bl I q (by simp))
    | str j => obtain ⟨t', rfl⟩ := ry; exact eq_str (fin_bl I q dec_str)
    | _ => exact absurd (show false = true from hs) Bool.false_ne_true
  | byt i =>
    obtain ⟨t, rfl⟩ := rx
    cases y with
    | byt j => obtain ⟨t', rfl⟩ := ry; exact PySem.W.eq_bytes (fin_bl I q dec_byt)
    | _ => exact absurd (show false = true from hs) Bool.false_ne_true
  | _ => cases y <;> exact absurd (show false = true from hs) Bool.false_ne_true
theorem op_lt : OpR X (compareOp .Lt) (rI0 fun i j => .bl (decide (i < j))) := opB0 fun _ _ _ _ _ _ _ q => lt_int q
theorem op_gt : OpR X (compareOp .Gt) (rI0 fun i j => .bl (decide (j < i))) := opB0 fun _ _ _ _ _ _ _ q => gt_int q
theorem op_ge : OpR X (compareOp .GtE) (rI0 fun i j => .bl (decide (j ≤ i))) := opB0 fun _ _ _ _ _ _ _ q => ge_int q
theorem OpR.or {f : Value → Value → Sem Value} {r r' : R2} (h : OpR X f r) (h' : OpR X f r') : OpR X f (fun x y H Q => r x y H Q ∨ r' x y H Q) := by
  intro pins s σ H x y v u Q I rx ry q
  rcases q with q | q
  · exact h pins s σ H x y v u Q I rx ry q
  · exact h' pins s σ H x y v u Q I rx ry q

theorem nomark (b : Expr) {op : CmpOp} (h : op ≠ .In := by decide) (h2 : op ≠ .NotIn := by decide) : behindInMarks op b = false := by
  have e1 : (op == CmpOp.In) = false := by cases op <;> first | rfl | exact absurd rfl h
  have e2 : (op == CmpOp.NotIn) = false := by cases op <;> first | rfl | exact absurd rfl h2
  cases b <;> simp [behindInMarks, e1, e2]
theorem pe_cmpR {op : CmpOp} {r : R2} (ho : OpR X (compareOp op) r) (ha : PE X a ta) (hb : PE X b tb) (hm : behindInMarks op b = false) : PE X (.Compare a [op] [b] pos) (tOp r ta tb) := by
  intro pins s σ H Q I h
  exact wpAny_Compare1 (binT ha hb I h fun v u s2 x y H2 I2 rx ry q => ho pins s2 σ H2 x y v u Q I2 rx ry q) hm
noncomputable def tTest (t : TE) : TT := fun σ H Q => t σ H fun x H' => ∃ k, x = .bl k ∧ Q k H'
theorem pt_cmpR {op : CmpOp} {r : R2} (ho : OpR X (compareOp op) r) (ha : PE X a ta) (hb : PE X b tb) (hm : behindInMarks op b = false) : PT X (.Compare a [op] [b] pos) (tTest (tOp r ta tb)) := by
  intro pins s σ H Q I h
  refine wpAny_isTrue_Compare1 (thn (ha pins s σ H _ I h) fun v s1 ⟨x, H1, I1, r1, q1⟩ => thn (hb pins s1 σ H1 _ I1 q1) fun u s2 ⟨y, H2, I2, r2, q2⟩ =>
    thn (ho pins s2 σ H2 x y v u _ I2 r1 r2 q2) fun c s3 ⟨z, H3, I3, r3, k, e, q3⟩ => ?_) hm
  subst e
  cases r3
  exact wpAny_truthy_bool ⟨H3, I3, q3⟩
theorem line63 : (sizeLine : Nat) < 2 ^ 63 := by rw [sizeLine_eq]; decide
theorem vals1 {x : V} {us : List Value} (r : Vals [x] us) : ∃ u, us = [u] ∧ RelV x u := by
  cases r with
  | cons r1 r2 => cases r2; exact ⟨_, rfl, r1⟩
theorem vals2 {x y : V} {us : List Value} (r : Vals [x, y] us) : ∃ u w', us = [u, w'] ∧ RelV x u ∧ RelV y w' := by
  cases r with
  | cons r1 r2 =>
    cases r2 with
    | cons r3 r4 => cases r4; exact ⟨_, _, rfl, r1, r3⟩
theorem call_abs : CallR X (.builtin "abs") (fun xs H Q => ∃ i, xs = [.int i] ∧ Q (.int (if i < 0 then -i else i)) H) := by
  intro pins s σ H xs us Q I r h
  obtain ⟨i, rfl, q⟩ := h
  obtain ⟨u, rfl, t, rfl⟩ := vals1 r
  exact call_abs_int fun u tk => ⟨.int (if i < 0 then -i else i), H, I.tok _, ⟨_, rfl⟩, q⟩
theorem call_max2 (hc : X.calm = true) : CallR X (.builtin "max") (fun xs H Q => ∃ i j, xs = [.int i, .int j] ∧ Q (.int (if j > i then j else i)) H) := by
  intro pins s σ H xs us Q I r h
  obtain ⟨i, j, rfl, q⟩ := h
  obtain ⟨u, w', rfl, ⟨t, rfl⟩, ⟨t', rfl⟩⟩ := vals2 r
  refine max_two_ints (I.ok.hd hc) fun h' tk k => ⟨_, H, I.kept k, ?_, q⟩
  by_cases hj : j > i
  · rw [if_pos hj, if_pos hj]; exact ⟨_, rfl⟩
  · rw [if_neg hj, if_neg hj]; exact ⟨_, rfl⟩
end

structure ObjM (h : Heap) (x dx C : Addr) (mA : Str → Option Value) : Prop where
  obj : h.get? x = some (PySem.W.instObj C dx)
  ns : h.Ns1 dx mA
  ne : dx ≠ x

theorem lookIn_ns {h : Heap} {dx : Addr} {mA : Str → Option Value} (n : h.Ns1 dx mA) : ∃ od, h.get? dx = some od ∧ ∀ name, PySem.W.lookIn name od = some (mA name) := by
  obtain ⟨o, es, ep, ho, hd, hk, _, hm⟩ := n
  refine ⟨o, ho, fun name => ?_⟩
  have e := hm name
  unfold nsFind findBy at e
  rw [← Array.find?_toList] at e
  unfold PySem.W.lookIn
  rw [hd]
  dsimp only
  split
  · rename_i y q
    rw [q] at e
    exact congrArg some e
  · rename_i q
    rw [q] at e
    have a : es.toList.any (·.refKey) = false := by
      rw [List.any_eq_false]
      intro y hy
      obtain ⟨z, t, hkey⟩ := hk y (Array.mem_toList_iff.mp hy)
      simp [DictEntry.refKey, hkey]
    have a' : ¬ es.toList.any (·.refKey) = true := by rw [a]; exact Bool.false_ne_true
    rw [if_neg a']
    exact congrArg some e

theorem ObjM.look {h : Heap} {x dx C : Addr} {mA : Str → Option Value} (I : ObjM h x dx C mA) : ∃ od, PySem.W.InstAt h x (PySem.W.instObj C dx) C (some od) ∧ ∀ name, PySem.W.lookIn name od = some (mA name) :=
  let ⟨od, ho, hl⟩ := lookIn_ns I.ns
  ⟨od, ⟨I.obj, rfl, rfl, ho⟩, hl⟩

section
variable {prog : Program} {w : World} {A : Around} {E : Value → Shared → Prop} {s : Shared} {K : Frag} {x dx C f : Addr} {mA : Str → Option Value} {name : Str} {v : Value}

theorem get_map {expr : Bool} {Q : Value → Shared → Prop} (X : K.In s.heap) (I : ObjM s.heap x dx C mA) (hg : PySem.W.plainGet K C name = true) (hh : PySem.W.hasDictIn K C = true)
    (ha : PySem.W.findIn K (.ref C) name = some none) (hv : mA name = some v) (hv' : PySem.W.handedIn v = true) (h : Q v { s with toks := s.toks + 1 }) :
    wpAny (model prog w) A (getAttr (.ref x) name expr) Q E s := by
  obtain ⟨od, J, hl⟩ := I.look
  exact PySem.W.get_value X J (PySem.W.plainGet_of hg).1 (PySem.W.findObj_own hh ha rfl (by rw [hl, hv])) hv' h

theorem get_meth {pl : Sem Bool} {Q : Value × List Value → Shared → Prop} (X : K.In s.heap) (I : ObjM s.heap x dx C mA) (hg : PySem.W.plainGet K C name = true)
    (hf : PySem.W.findIn K (.ref C) name = some (some (.ref f))) (ht : PySem.W.isFn K (.ref f) = true) (hv : mA name = none) (h : Q (.ref f, [.ref x]) s) :
    wpAny (model prog w) A (getMethod (.ref x) name pl) Q E s := by
  obtain ⟨od, J, hl⟩ := I.look
  exact PySem.W.method_fn X J (PySem.W.plainGet_of hg).1 (PySem.W.plainGet_of hg).2 hf (beq_iff_eq.mp ht) (by show (PySem.W.lookIn name od).map (·.isSome) = some false; rw [hl, hv]; rfl) h

theorem set_map {ns : List Str} {Q : Unit → Shared → Prop} (X : K.In s.heap) (I : ObjM s.heap x dx C mA)
    (hs : PySem.W.findIn K (.ref C) "__setattr__" = some (some (.builtin "object.__setattr__"))) (hp : PySem.W.plainOver K C = true) (ht : PySem.W.takerIn K C name = some none) (hh : PySem.W.hasDictIn K C = true)
    (hw : PySem.Within mA ns) (hsz : ns.length ≤ sizeLine)
    (h : ∀ h', ObjM h' x dx C (fun y => if y = name then some v else mA y) → Heap.SameBut dx s.heap h' → Q () { s with heap := h', toks := s.toks + 2 }) :
    wpAny (model prog w) A (setAttr (.ref x) name v) Q E s := by
  obtain ⟨od, J, hl⟩ := I.look
  refine PySem.W.set_plain X J hs (PySem.W.osa_open (s := { s with toks := s.toks + 1 }) (r := none) X J hp ht fun b => ?_)
  obtain ⟨cd, hc, hd'⟩ := PySem.W.any_some hh
  have hx : s.heap.get? x = some ⟨.ref C, some dx, .plain, #[]⟩ := I.obj
  refine wpAny_bind (wpAny_pure (wpAny_bind (wpAny_bind (wpAny_loadPart hx (wpAny_bind (PySem.W.Looks.here (s := { s with toks := s.toks + 1 }) (PySem.W.looks_clsIn X hc) ?_))))))
  rw [hd']
  refine wpAny_pure (a := some dx) (wpAny_bind (wpAny_pure (wpAny_bind ?_)))
  refine wpAny_nsSet1 (s := { s with toks := s.toks + 1 }) I.ns fun h' hn2 hs2 => ?_
  obtain ⟨oD, esD, epD, hoD, hdD, hcD⟩ := hn2.count (PySem.Within.cons name v hw)
  refine wpAny_bind (wpAny_lookBehind hoD (by rw [hdD]; exact pastItsLine_dict (Nat.le_trans hcD (by rw [List.length_cons]; omega))) ?_)
  exact wpAny_pure (h _ ⟨(hs2.2 _ (Ne.symm I.ne)).trans I.obj, hn2, I.ne⟩ hs2)

theorem make_map {R : Result → Shared → Prop} {vs : List Value} {kw : List (Str × Value)} (X : K.In s.heap) (hm : PySem.W.makesIn K C = true)
    (hi : PySem.W.findIn K (.ref C) "__init__" = some (some (.ref f))) (hf : PySem.W.typeIn K (.ref f) = some (.type "function"))
    (h : codeAny (model prog w) (A.under (.builtin "type.__call__" ⟨.ref C :: vs, kw⟩)) (.call (.ref f) ⟨.ref (s.heap.objs.size + 1) :: vs, kw⟩) (PySem.W.InitBack (s.heap.objs.size + 1) R)
      { s with heap := (s.heap.push PySem.W.emptyDict).push (PySem.W.instObj C s.heap.objs.size) }) :
    codeAny (model prog w) A (.call (.ref C) ⟨vs, kw⟩) R s := by
  obtain ⟨hh, g, d, t, os⟩ := s
  exact PySem.W.make_core (PySem.W.makes_of X hm) (PySem.W.looks_findIn X hi) (fun self => PySem.W.bind_fn X self hf) (.inl rfl) h
end

noncomputable def putF (f : Str) (v : V) : List (Str × V) → List (Str × V)
  | [] => [(f, v)]
  | (g, x) :: r => if g = f then (g, v) :: r else (g, x) :: putF f v r
theorem lookup_putF (f g : Str) (v : V) : ∀ fs : List (Str × V), (putF f v fs).lookup g = if g = f then some v else fs.lookup g
  | [] => by
    show List.lookup g [(f, v)] = _
    by_cases h : g = f
    · have hb : (g == f) = true := beq_iff_eq.mpr h
      simp only [List.lookup, hb, if_pos h]
    · have hb : (g == f) = false := beq_eq_false_iff_ne.mpr h
      simp only [List.lookup, hb, if_neg h]
  | (k, x) :: r => by
    have ih := lookup_putF f g v r
    rw [show putF f v ((k, x) :: r) = (if k = f then (k, v) :: r else (k, x) :: putF f v r) from rfl]
    by_cases hk : k = f
    · rw [if_pos hk]
      by_cases h : g = k
      · have hb : (g == k) = true := beq_iff_eq.mpr h
        simp only [List.lookup, hb, if_pos (h.trans hk)]
      · have hb : (g == k) = false := beq_eq_false_iff_ne.mpr h
        simp only [List.lookup, hb, if_neg (fun e : g = f => h (e.trans hk.symm))]
    · rw [if_neg hk]
      by_cases h : g = k
      · have hb : (g == k) = true := beq_iff_eq.mpr h
        simp only [List.lookup, hb, if_neg (fun e : g = f => hk (h.symm.trans e))]
      · have hb : (g == k) = false := beq_eq_false_iff_ne.mpr h
        simp only [List.lookup, hb]
        exact ih
theorem keys_putF (f : Str) (v : V) : ∀ fs : List (Str × V), f ∈ (putF f v fs).map (·.1) ∧ ∀ g, g ∈ fs.map (·.1) → g ∈ (putF f v fs).map (·.1)
  | [] => ⟨by simp [putF], fun g h => by simp at h⟩
  | (k, x) :: r => by
    obtain ⟨i1, i2⟩ := keys_putF f v r
    rw [show putF f v ((k, x) :: r) = (if k = f then (k, v) :: r else (k, x) :: putF f v r) from rfl]
    by_cases hk : k = f
    · rw [if_pos hk]
      subst hk
      exact ⟨by simp, fun g h => by simpa using h⟩
    · rw [if_neg hk]
      refine ⟨?_, fun g h => ?_⟩
      · rw [List.map_cons]
        exact List.mem_cons_of_mem _ i1
      · rw [List.map_cons] at h ⊢
        rcases List.mem_cons.mp h with e | e
        · exact List.mem_cons.mpr (.inl e)
        · exact List.mem_cons_of_mem _ (i2 g e)
theorem length_putF (f : Str) (v : V) : ∀ fs : List (Str × V), (putF f v fs).length ≤ fs.length + 1
  | [] => by simp [putF]
  | (k, x) :: r => by
    have ih := length_putF f v r
    rw [show putF f v ((k, x) :: r) = (if k = f then (k, v) :: r else (k, x) :: putF f v r) from rfl]
    by_cases hk : k = f
    · rw [if_pos hk, List.length_cons, List.length_cons]; omega
    · rw [if_neg hk, List.length_cons, List.length_cons]; omega

theorem RelO.some_of {v : V} {o : Option Value} (r : RelO (some v) o) : ∃ u, o = some u ∧ RelV v u := by
  cases o with
  | none => exact (show False from r).elim
  | some u => exact ⟨u, rfl, r⟩
theorem RelO.none_of {o : Option Value} (r : RelO none o) : o = none := by
  cases o with
  | none => rfl
  | some u => exact (show False from r).elim
theorem handed_of {v : V} {u : Value} (r : RelV v u) : PySem.W.handedIn u = true := by
  cases v with
  | non => cases (show u = Value.none from r); rfl
  | bl b => cases (show u = Value.bool b from r); rfl
  | int i => obtain ⟨t, e⟩ := (show ∃ t, u = Value.int i t from r); cases e; rfl
  | str x => obtain ⟨t, e⟩ := (show ∃ t, u = Value.str x t from r); cases e; rfl
  | byt b => obtain ⟨t, e⟩ := (show ∃ t, u = Value.bytes b t from r); cases e; rfl
  | flt b => obtain ⟨t, e⟩ := (show ∃ t, u = Value.float b t from r); cases e; rfl
  | ref a => cases (show u = Value.ref a from r); rfl
  | ty n => cases (show u = Value.type n from r); rfl

section
variable {P : Program} {w : World} {H H' : Hp} {h h' : Heap} {a C dx : Addr} {fs fs' : List (Str × V)}
theorem ins_get (hok : HOk P w H h) (e : H a = some (.ins C dx fs)) : ∃ mA, ObjM h a dx C mA ∧ (∀ f, RelO (fs.lookup f) (mA f)) ∧ PySem.Within mA (fs.map (·.1)) ∧ fs.length ≤ 1000 ∧ H dx = some (.own a) := by
  obtain ⟨d, z, ne, ob, mA, n, r, q⟩ := (show ObjOk P w H h a (.ins C dx fs) from hok a _ e)
  exact ⟨mA, ⟨ob, n, ne⟩, r, q, z, d⟩
end

structure Cls (K : Frag) (C : Addr) : Prop where
  pg : PySem.W.plainGet K C Str.empty = true
  hd : PySem.W.hasDictIn K C = true
  po : PySem.W.plainOver K C = true
  sa : PySem.W.findIn K (.ref C) "__setattr__" = some (some (.builtin "object.__setattr__"))
theorem Cls.get {K : Frag} {C : Addr} (c : Cls K C) (f : Str) : PySem.W.plainGet K C f = true := c.pg
noncomputable def NoAttr (K : Frag) (C : Addr) (f : Str) : Prop := PySem.W.findIn K (.ref C) f = some none
theorem NoAttr.taker {K : Frag} {C : Addr} {f : Str} (n : NoAttr K C f) : PySem.W.takerIn K C f = some none := by
  unfold PySem.W.takerIn
  rw [show PySem.W.findIn K (.ref C) f = some none from n]
  rfl
structure Meth (K : Frag) (C : Addr) (m : Str) (f : Addr) : Prop where
  at_ : PySem.W.findIn K (.ref C) m = some (some (.ref f))
  fn : PySem.W.isFn K (.ref f) = true
  kp : PySem.W.keepIn K (.ref f) = true

section
variable {X : Cx} {pins : List (Addr × Obj)} {σ : St} {H : Hp} {s : Shared} {a C dx : Addr} {fs : List (Str × V)} {f : Str} {v : V} {A : Around} {E : Value → Shared → Prop}

theorem getattr_ok {b : Bool} {Q : Value → Shared → Prop} (I : Inv X pins σ H s) (e : H a = some (.ins C dx fs)) (c : Cls X.K C) (n : NoAttr X.K C f) (l : fs.lookup f = some v)
    (h : ∀ u s', Inv X pins σ H s' → RelV v u → Q u s') : wpAny (model X.prog X.w) A (getAttr (.ref a) f b) Q E s := by
  obtain ⟨mA, O, r, _, _, _⟩ := ins_get I.hok e
  obtain ⟨u, hu, ru⟩ := RelO.some_of (v := v) (o := mA f) (by rw [← l]; exact r f)
  exact get_map I.kIn O (c.get f) c.hd n hu (handed_of ru) (h u _ (I.tok _) ru)

theorem getmeth_ok {m : Str} {g : Addr} {pl : Sem Bool} {Q : Value × List Value → Shared → Prop} (I : Inv X pins σ H s) (e : H a = some (.ins C dx fs)) (c : Cls X.K C) (k : Meth X.K C m g) (l : fs.lookup m = none)
    (h : Q (.ref g, [.ref a]) s) : wpAny (model X.prog X.w) A (getMethod (.ref a) m pl) Q E s := by
  obtain ⟨mA, O, r, _, _, _⟩ := ins_get I.hok e
  have hn : mA m = none := RelO.none_of (by rw [← l]; exact r m)
  exact get_meth I.kIn O (c.get m) k.at_ k.fn hn h

theorem setattr_ok {y : V} {u : Value} {Q : Unit → Shared → Prop} (I : Inv X pins σ H s) (e : H a = some (.ins C dx fs)) (c : Cls X.K C) (n : NoAttr X.K C f) (hl : fs.length < 1000) (ry : RelV y u)
    (h : ∀ s', Inv X pins σ (upd H a (.ins C dx (putF f y fs))) s' → Q () s') : wpAny (model X.prog X.w) A (setAttr (.ref a) f u) Q E s := by
  obtain ⟨mA, O, r, wi, _, ho⟩ := ins_get I.hok e
  have hz : (fs.map (·.1)).length ≤ sizeLine := by rw [List.length_map, sizeLine_eq]; omega
  refine set_map I.kIn O c.sa c.po n.taker c.hd wi hz fun h' O' sb => h _ ?_
  have hd : ∃ o, h'.get? dx = some o := let ⟨o, _, _, e', _⟩ := O'.ns; ⟨o, e'⟩
  refine I.write (x := a) (e := dx) (by rw [e]; exact True.intro) (.inr ho) (fun b q hb z => (sb.2 b hb).trans z) hd ?_
  refine ⟨by rw [upd_ne O.ne]; exact ho, ?_, O.ne, O'.obj, _, O'.ns, fun g => ?_, fun g hg => ?_⟩
  · have := length_putF f y fs; omega
  · show RelO ((putF f y fs).lookup g) (if g = f then some u else mA g)
    rw [lookup_putF]
    by_cases q : g = f
    · rw [if_pos q, if_pos q]; exact ry
    · rw [if_neg q, if_neg q]; exact r g
  · by_cases q : g = f
    · rw [q]; exact (keys_putF f y fs).1
    · refine (keys_putF f y fs).2 g (wi g fun z => hg ?_)
      show (if g = f then some u else mA g) = none
      rw [if_neg q]; exact z

theorem Inv.made (I : Inv X pins σ H s) : Inv X pins σ (upd (upd H s.heap.objs.size (.own (s.heap.objs.size + 1))) (s.heap.objs.size + 1) (.ins C s.heap.objs.size []))
    { s with heap := (s.heap.push PySem.W.emptyDict).push (PySem.W.instObj C s.heap.objs.size) } := by
  have e1 : (s.heap.push PySem.W.emptyDict).get? s.heap.objs.size = some PySem.W.emptyDict := Heap.get?_push_size s.heap rfl
  have e2 : ((s.heap.push PySem.W.emptyDict).push (PySem.W.instObj C s.heap.objs.size)).get? (s.heap.objs.size + 1) = some (PySem.W.instObj C s.heap.objs.size) := by
    have := Heap.get?_push_size (s.heap.push PySem.W.emptyDict) (o := PySem.W.instObj C s.heap.objs.size) rfl
    rwa [Heap.size_push] at this
  have e3 : (s.heap.push PySem.W.emptyDict).Ns s.heap.objs.size (fun _ => none) := ⟨PySem.W.emptyDict, #[], _, e1, rfl, (fun e he => absurd he (by simp)), fun _ => rfl⟩
  have I1 := I.laid (a := s.heap.objs.size) (o := .own (s.heap.objs.size + 1)) (h' := s.heap.push PySem.W.emptyDict) (t' := s.toks) (fun b u q => Heap.get?_push_of_some _ q) (Nat.le_refl _) ⟨_, e1⟩
  refine I1.laid (a := s.heap.objs.size + 1) (o := .ins C s.heap.objs.size []) (t' := s.toks) (fun b u q => Heap.get?_push_of_some _ q) (Nat.le_of_eq (Heap.size_push _ _)) ?_
  have ne : s.heap.objs.size ≠ s.heap.objs.size + 1 := Nat.ne_of_lt (Nat.lt_succ_self _)
  refine ⟨by rw [upd_ne ne, upd_same], Nat.zero_le _, ne, e2, fun _ => none, (Heap.Ns1.of_empty e3).at fun o q => Heap.get?_push_of_some _ q, fun _ => True.intro, fun y hy => absurd rfl hy⟩

theorem attr_of {prog : Program} {w : World} {env : Env} {e : Expr} {f : Str} {pos : Pos} {s : Shared} {Q : Value → Shared → Prop} (hb : attributeBase e f env (eval e env) = eval e env)
    (h : wpAny (model prog w) A (eval e env) (fun o s₁ => wpAny (model prog w) A (getAttr o f true) Q E s₁) E s) : wpAny (model prog w) A (eval (.Attribute e f pos) env) Q E s :=
  Attribute_any_ h (by rw [arm_eval_Attribute, hb])
end

noncomputable def tFld (K : Frag) (ta : TE) (f : Str) : TE := fun σ H Q => ta σ H fun x H1 => ∃ a C dx fs v, x = .ref a ∧ H1 a = some (.ins C dx fs) ∧ Cls K C ∧ NoAttr K C f ∧ fs.lookup f = some v ∧ Q v H1
noncomputable def sFld (K : Frag) (ta tv : TE) (f : Str) : TS := fun D σ H => tv σ H fun y H1 => ta σ H1 fun x H2 => ∃ a C dx fs, x = .ref a ∧ H2 a = some (.ins C dx fs) ∧ Cls K C ∧ NoAttr K C f ∧ fs.length < 1000 ∧
  D.nx σ (upd H2 a (.ins C dx (putF f y fs)))
section
variable {X : Cx} {o e value : Expr} {f : Str} {pos pos' tpos : Pos} {ta tv : TE}
theorem pe_fld (he : PE X e ta) (hb : attributeBase e f X.env (eval e X.env) = eval e X.env) : PE X (.Attribute e f pos) (tFld X.K ta f) := by
  intro pins s σ H Q I h
  refine attr_of hb (thn (he pins s σ H _ I h) fun u s1 ⟨x, H1, I1, rx, a, C, dx, fs, v, ex, ea, c, n, l, q⟩ => ?_)
  subst ex
  obtain rfl : u = Value.ref a := rx
  exact getattr_ok I1 ea c n l fun u' s2 I2 ru => ⟨v, H1, I2, ru, q⟩
theorem ps_fld (ha : PE X o ta) (hv : PE X value tv) (hs : swapsWith value (some (.Attribute o f pos')) pos.line X.env = pure false) : PS X (.Assign [.Attribute o f pos'] value pos) (sFld X.K ta tv f) := by
  intro pins s σ H D I h
  refine plainObj_wpAny_Assign_Attribute (thn (hv pins s σ H _ I h) fun u s1 ⟨y, H1, I1, ry, q⟩ => thn (ha pins s1 σ H1 _ I1 q) fun ov s2 ⟨x, H2, I2, rx, a, C, dx, fs, ex, ea, c, n, l, q2⟩ => ?_) hs
  subst ex
  obtain rfl : ov = Value.ref a := rx
  exact setattr_ok I2 ea c n l ry fun s3 I3 => ⟨σ, _, I3, q2⟩
end

section
variable {X : Cx} {pins : List (Addr × Obj)} {σ : St} {H : Hp} {s : Shared} {A : Around} {E : Value → Shared → Prop} {Q : Value → Shared → Prop} {c : Value} {b : Bool}
inductive TyOf (K : Frag) (H : Hp) : V → Value → Prop where
  | non : TyOf K H .non (.type "NoneType")
  | bl (x : Bool) : TyOf K H (.bl x) (.type "bool")
  | int (i : Int) : TyOf K H (.int i) (.type "int")
  | str (x : Str) : TyOf K H (.str x) (.type "str")
  | flt (x : UInt64) : TyOf K H (.flt x) (.type "float")
  | lst {a : Addr} {xs : List V} (e : H a = some (.lst xs)) : TyOf K H (.ref a) (.type "list")
  | frz {a : Addr} {o : Obj} {xs : List V} (e : H a = some (.frz o (.lst xs))) : TyOf K H (.ref a) (.type "list")
  | tup {a : Addr} {xs : List V} (e : H a = some (.tup xs)) : TyOf K H (.ref a) (.type "tuple")
  | dK {a : Addr} {kvs : List (Key × V)} (e : H a = some (.dK kvs)) : TyOf K H (.ref a) (.type "dict")
  | dT {a : Addr} {kvs : List (List Key × V)} (e : H a = some (.dT kvs)) : TyOf K H (.ref a) (.type "dict")
  | ins {a C dx : Addr} {fs : List (Str × V)} (e : H a = some (.ins C dx fs)) (cl : Cls K C) (ha : PySem.W.findIn K (.ref C) "__class__" = some (some (.builtin "object.__class__")))
      (hn : PySem.W.specialIn K (.builtin "object.__class__") "__get__" = some (some (.builtin "getset_descriptor.__get__"))) (htk : PySem.W.takesIn K (.builtin "object.__class__") = some true)
      (hm : PySem.W.mroIn K C (.type "object") = some true) : TyOf K H (.ref a) (.ref C)
theorem isinst_ok {x : V} {u t : Value} (I : Inv X pins σ H s) (rx : RelV x u) (ty : TyOf X.K H x t) (e : PySem.W.kitOne X.K t c = some b) (h : ∀ tk, Q (.bool b) { s with toks := tk }) :
    wpAny (model X.prog X.w) A (call (.builtin "isinstance") [u, c]) Q E s := by
  cases ty with
  | non => cases (show u = Value.none from rx); exact PySem.W.kia_one PySem.W.kitx_none I.kIn True.intro e (fun z => nomatch z) h
  | bl y => cases (show u = Value.bool y from rx); exact PySem.W.kia_one PySem.W.kitx_bool I.kIn True.intro e (fun z => nomatch z) h
  | int i => obtain ⟨t, q⟩ := (show ∃ t, u = Value.int i t from rx); cases q; exact PySem.W.kia_one PySem.W.kitx_int I.kIn True.intro e (fun z => nomatch z) h
  | str y => obtain ⟨t, q⟩ := (show ∃ t, u = Value.str y t from rx); cases q; exact PySem.W.kia_one PySem.W.kitx_str I.kIn True.intro e (fun z => nomatch z) h
  | flt y => obtain ⟨t, q⟩ := (show ∃ t, u = Value.float y t from rx); cases q; exact PySem.W.kia_one PySem.W.kitx_float I.kIn True.intro e (fun z => nomatch z) h
  | @lst a xs ea =>
    cases (show u = Value.ref a from rx)
    obtain ⟨_, _, n, _, h1⟩ := (show ObjOk X.prog X.w H s.heap a (.lst xs) from I.hok a _ ea)
    exact PySem.W.kia_one PySem.W.kitx_list I.kIn ⟨_, h1, rfl⟩ e (fun z => nomatch z) h
  | @frz a ob xs ea =>
    cases (show u = Value.ref a from rx)
    obtain ⟨_, _, _, n, _, h1⟩ := (show ObjOk X.prog X.w H s.heap a (.frz ob (.lst xs)) from I.hok a _ ea)
    exact PySem.W.kia_one PySem.W.kitx_list I.kIn ⟨_, h1, rfl⟩ e (fun z => nomatch z) h
  | @tup a xs ea =>
    cases (show u = Value.ref a from rx)
    obtain ⟨_, _, _, p⟩ := (show ObjOk X.prog X.w H s.heap a (.tup xs) from I.hok a _ ea)
    obtain ⟨o, h1, h2, _⟩ := p
    exact PySem.W.kia_one PySem.W.kitx_tuple I.kIn ⟨o, h1, h2⟩ e (fun z => nomatch z) h
  | @dK a kvs ea =>
    cases (show u = Value.ref a from rx)
    obtain ⟨_, _, vs, _, p⟩ := (show ObjOk X.prog X.w H s.heap a (.dK kvs) from I.hok a _ ea)
    obtain ⟨o, es, ep, h1, h2, _⟩ := p
    exact PySem.W.kia_one PySem.W.kitx_dict I.kIn ⟨o, h1, h2.1⟩ e (fun z => nomatch z) h
  | @dT a kvs ea =>
    cases (show u = Value.ref a from rx)
    obtain ⟨_, _, xs, _, o, es, ep, h1, h2, _⟩ := (show ObjOk X.prog X.w H s.heap a (.dT kvs) from I.hok a _ ea)
    exact PySem.W.kia_one PySem.W.kitx_dict I.kIn ⟨o, h1, h2.1⟩ e (fun z => nomatch z) h
  | @ins a C dx fs ea cl ha hn htk hm =>
    cases (show u = Value.ref a from rx)
    obtain ⟨mA, O, _⟩ := ins_get I.hok ea
    obtain ⟨od, J, _⟩ := O.look
    exact PySem.W.kia_one (PySem.W.kitx_own (cl.get _) cl.hd ha hn htk hm) I.kIn J e (fun z => nomatch z) h
end

structure Room (k : Nat) (A : Around) : Prop where
  hd : A.handled = none
  dp : A.depth + 3 * k + 5 < recursionLimit
  un : A.units + 16 * k + 200 < cLine
theorem Room.mono {j k : Nat} {A : Around} (r : Room k A) (h : j ≤ k) : Room j A := ⟨r.hd, by have := r.dp; omega, by have := r.un; omega⟩
theorem Room.mo {j k : Nat} {A : Around} (r : Room k A) (h : j ≤ k := by first | decide | omega) : Room j A := r.mono h
theorem Room.deeper {k : Nat} {A : Around} (r : Room (k + 1) A) (env : Env) : Room k (A.deeper env) :=
  ⟨r.hd, by have := r.dp; show A.depth + 1 + 3 * k + 5 < _; omega, by have := r.un; show A.units + 3 + 16 * k + 200 < _; omega⟩
theorem Room.in1 {k : Nat} {A : Around} (r : Room (k + 1) A) : Room k A.in1 :=
  ⟨r.hd, by have := r.dp; show A.depth + 3 * k + 5 < _; omega, by have := r.un; show A.units + 1 + 16 * k + 200 < _; omega⟩
theorem make_depth {A : Around} {C : Addr} {us : List Value} {kw : List (Str × Value)} : (A.under (.builtin "type.__call__" ⟨.ref C :: us, kw⟩)).depth = A.depth + 1 := by
  first | rfl | simp [Around.under, Code.weight, Code.isCreation, Code.isGuard, Code.isCaller, Code.frames, Code.isFrame, guardIds]
theorem make_units {A : Around} {C : Addr} {us : List Value} {kw : List (Str × Value)} : (A.under (.builtin "type.__call__" ⟨.ref C :: us, kw⟩)).units = A.units + 1 := by
  first | rfl | simp [Around.under, Code.cUnits, Code.frames, Code.isFrame]
theorem Room.make {k : Nat} {A : Around} (r : Room (k + 1) A) (C : Addr) (us : List Value) (kw : List (Str × Value)) : Room k (A.under (.builtin "type.__call__" ⟨.ref C :: us, kw⟩)) :=
  ⟨r.hd, by have := r.dp; rw [make_depth]; omega, by have := r.un; rw [make_units]; omega⟩
theorem Room.depth {k : Nat} {A : Around} (r : Room k A) : A.depth < recursionLimit := by have := r.dp; omega
theorem Room.units {k : Nat} {A : Around} (r : Room k A) : A.units + 64 < cLine := by have := r.un; omega
noncomputable def tNil : TA := fun _ H Q => Q [] H
noncomputable def tCons (ta : TE) (tr : TA) : TA := fun σ H Q => ta σ H fun x H1 => tr σ H1 fun xs H2 => Q (x :: xs) H2
section
variable {X : Cx} {e : Expr} {es : List Expr} {te : TE} {t : TA} {pos : Pos}
theorem pa_nil : PA X [] tNil := fun _ _ _ _ H Q I h => Calls.spliced_nil ⟨[], H, I, .nil, h⟩
theorem pa_cons (ha : PE X e te) (hr : PA X es t) (hs : starEach (e :: es) X.env = (false, eval e X.env) :: starEach es X.env := by rfl) : PA X (e :: es) (tCons te t) := by
  intro pos pins s σ H Q I h
  rw [hs]
  show wpAny _ _ (spliced ((false, eval e X.env) :: backTo pos (starEach es X.env))) _ _ s
  refine Calls.spliced_cons (thn (ha pins s σ H _ I h) fun u s1 ⟨x, H1, I1, r1, q1⟩ => ?_)
  exact thn (hr pos pins s1 σ H1 _ I1 q1) fun us s2 ⟨xs, H2, I2, r2, q2⟩ => ⟨x :: xs, H2, I2, .cons r1 r2, q2⟩

noncomputable def tTup (t : TA) : TE := fun σ H Q => t σ H fun xs H1 => xs.length ≤ sizeLine ∧ ∀ p, H1 p = none → Q (.ref p) (upd H1 p (.tup xs))
noncomputable def tLst (t : TA) : TE := fun σ H Q => t σ H fun xs H1 => xs.length ≤ sizeLine ∧ ∀ p, H1 p = none → Q (.ref p) (upd H1 p (.lst xs))
theorem pe_tup {x1} (h : PA X es t) : PE X (.Tuple es x1 pos) (tTup t) := by
  intro pins s σ H Q I hq
  refine wpAny_Tuple_spliced (thn (h pos pins s σ H _ I hq) fun us s1 ⟨xs, H1, I1, r, z, q⟩ => ⟨by rw [← r.length]; exact z, ?_⟩)
  have hf : H1 s1.heap.objs.size = none := I1.hok.fresh (Nat.le_refl _)
  refine ⟨.ref s1.heap.objs.size, upd H1 s1.heap.objs.size (.tup xs), I1.laid (t' := s1.toks) (fun b u e => Heap.get?_push_of_some _ e) (Nat.le_refl _) ?_, rfl, q _ hf⟩
  exact ⟨z, us, r, ⟨_, Heap.get?_push_size _ rfl, rfl, _, rfl⟩⟩
theorem pe_lst (h : PA X es t) : PE X (.List es pos) (tLst t) := by
  intro pins s σ H Q I hq
  refine wpAny_List_spliced (thn (h pos pins s σ H _ I hq) fun us s1 ⟨xs, H1, I1, r, z, q⟩ => ⟨by rw [← r.length]; exact z, ?_⟩)
  have hf : H1 s1.heap.objs.size = none := I1.hok.fresh (Nat.le_refl _)
  refine ⟨.ref s1.heap.objs.size, upd H1 s1.heap.objs.size (.lst xs), I1.laid (t' := s1.toks) (fun b u e => Heap.get?_push_of_some _ e) (Nat.le_refl _) ?_, rfl, q _ hf⟩
  exact ⟨z, us, 0, r, Heap.get?_push_size _ rfl⟩
end

noncomputable abbrev Sp := List V → Hp → VK → XK → Prop
noncomputable abbrev CXT := List Env → Hp → Shared → XK → Value → Shared → Prop

structure Env0 (P : Program) (w : World) (K : Frag) (mg : Str → Option Value) (base : Heap) (A : Around) (outer : List Env) (s : Shared) (H : Hp) : Prop where
  frames : A.frames = some outer
  mod : Mod K mg base
  bs : ∀ b o, base.get? b = some o → s.heap.get? b = some o ∧ H b = none
  bsz : base.objs.size ≤ s.heap.objs.size
  funs : s.heap.FunFrames base outer
  frf : ∀ b ∈ frs outer, H b = none
  hok : HOk P w H s.heap
  bare : AllBare s.gens
noncomputable def CE (outer : List Env) (P : Program) (w : World) (H : Hp) (s : Shared) (Q : VK) (u : Value) (s' : Shared) : Prop :=
  ∃ v H', s'.os = s.os ∧ AllBare s'.gens ∧ Un (frs outer) [] H H' s.heap s'.heap ∧ HOk P w H' s'.heap ∧ RelV v u ∧ Q v H'
noncomputable def CR (CX : CXT) (outer : List Env) (P : Program) (w : World) (H : Hp) (s : Shared) (Q : VK) (E : XK) (r : Result) (s' : Shared) : Prop :=
  match r with
  | .ok (.ret u) => CE outer P w H s Q u s'
  | .ok _ => False
  | .error e => CX outer H s E e s'
structure FnOk (P : Program) (w : World) (K : Frag) (mg : Str → Option Value) (base : Heap) (CX : CXT) (k : Nat) (f : Addr) (fd : FuncData) (ps : List Str) (sp : Sp) : Prop where
  len : ∀ vs H Q E, sp vs H Q E → vs.length = ps.length
  run : ∀ (A : Around) (outer : List Env) (s : Shared) (H : Hp) (args : Args) (us : List Value) (vs : List V) (Q : VK) (E : XK), Room k A → Env0 P w K mg base A outer s H → BindsTo s fd args (ps.zip us) → Vals vs us → sp vs H Q E →
    codeAny (model P w) A (.call (.ref f) args) (CR CX outer P w H s Q E) s
theorem FnOk.mono {P : Program} {w : World} {K : Frag} {mg : Str → Option Value} {base : Heap} {CX : CXT} {j k : Nat} {f : Addr} {fd : FuncData} {ps : List Str} {sp : Sp} (F : FnOk P w K mg base CX j f fd ps sp) (h : j ≤ k) :
    FnOk P w K mg base CX k f fd ps sp := ⟨F.len, fun A outer s H args us vs Q E hr => F.run A outer s H args us vs Q E (hr.mono h)⟩
theorem FnOk.imp {P : Program} {w : World} {K : Frag} {mg : Str → Option Value} {base : Heap} {CX : CXT} {k : Nat} {f : Addr} {fd : FuncData} {ps : List Str} {sp sp' : Sp} (F : FnOk P w K mg base CX k f fd ps sp)
    (h : ∀ vs H Q E, sp' vs H Q E → sp vs H Q E) : FnOk P w K mg base CX k f fd ps sp' :=
  ⟨fun vs H Q E q => F.len vs H Q E (h _ _ _ _ q), fun A outer s H args us vs Q E hr he hb hv hs => F.run A outer s H args us vs Q E hr he hb hv (h _ _ _ _ hs)⟩

theorem Env0.make {P : Program} {w : World} {K : Frag} {mg : Str → Option Value} {base : Heap} {A : Around} {outer : List Env} {s : Shared} {H : Hp} (e : Env0 P w K mg base A outer s H) (C : Addr) (us : List Value) (kw : List (Str × Value)) :
    Env0 P w K mg base (A.under (.builtin "type.__call__" ⟨.ref C :: us, kw⟩)) outer s H := ⟨by first | exact e.frames | (simpa [Around.under, Code.envs, Code.isFrame, pushEnvs] using e.frames), e.mod, e.bs, e.bsz, e.funs, e.frf, e.hok, e.bare⟩
theorem Env0.in1 {P : Program} {w : World} {K : Frag} {mg : Str → Option Value} {base : Heap} {A : Around} {outer : List Env} {s : Shared} {H : Hp} (e : Env0 P w K mg base A outer s H) :
    Env0 P w K mg base A.in1 outer s H := ⟨e.frames, e.mod, e.bs, e.bsz, e.funs, e.frf, e.hok, e.bare⟩

section
variable {X : Cx} {pins : List (Addr × Obj)} {σ : St} {H : Hp} {s s' : Shared}
theorem Inv.env0 (I : Inv X pins σ H s) : Env0 X.prog X.w X.K X.mg X.base X.A X.stack s H :=
  ⟨I.ok.frames, I.ok.mod, I.bs, Nat.le_trans I.ok.bsz I.sz, I.stack, I.stkFree, I.hok, I.bare⟩
theorem Inv.after {Q : VK} {u : Value} (I : Inv X pins σ H s) (h : CE X.stack X.prog X.w H s Q u s') : EP X pins σ Q u s' := by
  obtain ⟨v, H', os, bare, un, hok, r, q⟩ := h
  obtain ⟨hh, g, d, t, os'⟩ := s'
  obtain rfl : os' = s.os := os
  exact ⟨v, H', I.call (h' := hh) (g' := g) (d' := d) (t' := t) (ch := []) un hok bare (fun b z => absurd z (by simp)), r, q⟩
end

noncomputable def tCall (sp : Sp) (dvs : List V) (E : XK) (t : TA) : TE := fun σ H Q => t σ H fun vs H1 => sp (vs ++ dvs) H1 Q E
noncomputable def tMeth (C : Addr) (m : Str) (sp : Sp) (dvs : List V) (E : XK) (ta : TE) (t : TA) : TE := fun σ H Q => ta σ H fun x H1 => ∃ a dx fs, x = .ref a ∧ H1 a = some (.ins C dx fs) ∧ fs.lookup m = none ∧
  t σ H1 fun vs H2 => sp (x :: (vs ++ dvs)) H2 Q E
noncomputable def tMake (C : Addr) (sp : Sp) (dvs : List V) (E : XK) (t : TA) : TE := fun σ H Q => t σ H fun vs H1 => ∀ x dx, H1 x = none → H1 dx = none → dx ≠ x →
  sp (.ref x :: (vs ++ dvs)) (upd (upd H1 dx (.own x)) x (.ins C dx [])) (fun v H2 => v = .non ∧ Q (.ref x) H2) E

noncomputable def Binds (K : Frag) (fd : FuncData) (ps : List Str) (ds : List Value) : Prop :=
  ∀ (s : Shared) (us : List Value), K.In s.heap → (us ++ ds).length = ps.length → BindsTo s fd ⟨us, []⟩ (ps.zip (us ++ ds))
theorem Binds.all {K : Frag} {fd : FuncData} {ps : List Str} (h : ∀ us : List Value, us.length = ps.length → bindArgs fd ⟨us, []⟩ = pure (ps.zip us)) : Binds K fd ps [] := fun s us _ hl => by
  rw [List.append_nil] at hl ⊢
  exact .of_eq (h us hl)

noncomputable def Passes (CX : CXT) (X : Cx) (E : XK) : Prop := ∀ (pins : List (Addr × Obj)) (σ : St) (H : Hp) (s : Shared) (e : Value) (s' : Shared), Inv X pins σ H s → CX X.stack H s E e s' → X.xe e s'

section
variable {X : Cx} {CX : CXT} {k : Nat} {f C : Addr} {fd : FuncData} {ps : List Str} {sp : Sp} {dvs : List V} {ds : List Value} {E : XK} {x m : Str} {p pos apos : Pos} {e o : Expr} {es : List Expr} {ta : TE} {t : TA}

theorem run_fn {pins : List (Addr × Obj)} {σ : St} {H : Hp} {s : Shared} {Q : VK} {us : List Value} {vs : List V} (F : FnOk X.prog X.w X.K X.mg X.base CX k f fd ps sp) (hr : Room k X.A) (hb : Binds X.K fd ps ds) (hd : Vals dvs ds) (hx : Passes CX X E)
    (I : Inv X pins σ H s) (r : Vals vs us) (h : sp (vs ++ dvs) H Q E) : wpAny (model X.prog X.w) X.A (call (.ref f) us) (EP X pins σ Q) X.xe s := by
  have r2 : Vals (vs ++ dvs) (us ++ ds) := r.append hd
  have hl : (us ++ ds).length = ps.length := by rw [← r2.length]; exact F.len _ _ _ _ h
  refine wpAny_call (codeAny_mono (F.run X.A X.stack s H ⟨us, []⟩ (us ++ ds) (vs ++ dvs) Q E hr I.env0 (hb s us I.kIn hl) r2 h) fun r s' hq => ?_)
  cases r with
  | error e => exact hx pins σ H s e s' I hq
  | ok fl =>
    cases fl with
    | ret u => exact I.after hq
    | next => exact False.elim hq
    | brk => exact False.elim hq
    | cont => exact False.elim hq

theorem pe_call (F : FnOk X.prog X.w X.K X.mg X.base CX k f fd ps sp) (hr : Room k X.A) (hg : Gl X x) (hm : X.mg x = some (.ref f)) (hk : PySem.W.keepIn X.K (.ref f) = true) (hb : Binds X.K fd ps ds) (hd : Vals dvs ds) (hx : Passes CX X E)
    (ha : PA X (e :: es) t) (hdb : (x == ("__debug__" : Str)) = false := by decide) (he : starEach (e :: es) X.env = (false, eval e X.env) :: starEach es X.env := by rfl) (hpl : (backTo pos (starEach es X.env)).any (·.1) = false := by rfl) :
    PE X (.Call (.Name x p) (e :: es) [] pos) (tCall sp dvs E t) := by
  intro pins s σ H Q I h
  refine wpAny_Call_Name_kw (ld_glob I hg hm ?_ hdb)
  refine PySem.W.callWith_K (h₀ := X.base) I.ok.mod.kin hk (thn (ha pos pins s σ H _ I h) fun us s1 ⟨vs, H1, I1, r, q⟩ => ⟨I1.kIn, ?_⟩) he hpl
  exact run_fn F hr hb hd hx I1 r q
theorem pe_meth {pl : Sem Bool} (he : PE X o ta) (c : Cls X.K C) (hm : Meth X.K C m f) (F : FnOk X.prog X.w X.K X.mg X.base CX k f fd ps sp) (hr : Room k X.A) (hb : Binds X.K fd ps ds) (hd : Vals dvs ds) (hx : Passes CX X E) (ha : PA X (e :: es) t)
    (hst : starEach (e :: es) X.env = (false, eval e X.env) :: starEach es X.env := by rfl) (hpl : (backTo pos (starEach es X.env)).any (·.1) = false := by rfl)
    (ht : eval (.Call (.Attribute o m apos) (e :: es) [] pos) X.env = (do
      let ov ← eval o X.env
      standAt apos.atName
      let (f, first) ← holding [ov] (getMethod ov m pl)
      callWith pos f first (backTo pos (starEach (e :: es) X.env)) (backToKw pos (keywordEach [] X.env))) := by rfl) :
    PE X (.Call (.Attribute o m apos) (e :: es) [] pos) (tMeth C m sp dvs E ta t) := by
  intro pins s σ H Q I h
  refine PySem.W.methodCall_KW (pl := pl) (thn (he pins s σ H _ I h) fun u s1 ⟨x, H1, I1, rx, a, dx, fs, ex, ea, l, q⟩ => ?_) ht
  subst ex
  obtain rfl : u = Value.ref a := rx
  refine getmeth_ok I1 ea c hm l ?_
  refine PySem.W.callWith_K (first := [.ref a]) (h₀ := X.base) I.ok.mod.kin hm.kp (thn (ha pos pins s1 σ H1 _ I1 q) fun us s2 ⟨vs, H2, I2, r, q2⟩ => ⟨I2.kIn, ?_⟩) hst hpl
  exact run_fn (us := .ref a :: us) (vs := .ref a :: vs) F hr hb hd hx I2 (.cons rfl r) q2
structure Mk (K : Frag) (C f : Addr) : Prop where
  makes : PySem.W.makesIn K C = true
  init : PySem.W.findIn K (.ref C) "__init__" = some (some (.ref f))
  fn : PySem.W.isFn K (.ref f) = true
  kp : PySem.W.keepIn K (.ref C) = true

theorem run_make {pins : List (Addr × Obj)} {σ : St} {H : Hp} {s : Shared} {Q : VK} {us : List Value} {vs : List V} (M : Mk X.K C f) (F : FnOk X.prog X.w X.K X.mg X.base CX k f fd ps sp) (hr : Room (k + 1) X.A) (hb : Binds X.K fd ps ds) (hd : Vals dvs ds)
    (hx : Passes CX X E) (I : Inv X pins σ H s) (r : Vals vs us)
    (h : ∀ x dx, H x = none → H dx = none → dx ≠ x → sp (.ref x :: (vs ++ dvs)) (upd (upd H dx (.own x)) x (.ins C dx [])) (fun v H2 => v = .non ∧ Q (.ref x) H2) E) :
    wpAny (model X.prog X.w) X.A (call (.ref C) us) (EP X pins σ Q) X.xe s := by
  have hq := h (s.heap.objs.size + 1) s.heap.objs.size (I.hok.fresh (Nat.le_succ _)) (I.hok.fresh (Nat.le_refl _)) (Nat.ne_of_lt (Nat.lt_succ_self _))
  have I2 := Inv.made (C := C) I
  have r2 : Vals (V.ref (s.heap.objs.size + 1) :: (vs ++ dvs)) (Value.ref (s.heap.objs.size + 1) :: (us ++ ds)) := .cons rfl (r.append hd)
  have hl : (Value.ref (s.heap.objs.size + 1) :: us ++ ds).length = ps.length := by
    have e := r2.length
    rw [F.len _ _ _ _ hq] at e
    exact e.symm
  refine wpAny_call (make_map (f := f) I.kIn M.makes M.init (beq_iff_eq.mp M.fn) (codeAny_mono (F.run _ X.stack _ _ ⟨Value.ref (s.heap.objs.size + 1) :: us, []⟩ (Value.ref (s.heap.objs.size + 1) :: (us ++ ds)) _ _ E (hr.make C us [])
    (I2.env0.make C us []) (hb _ (Value.ref (s.heap.objs.size + 1) :: us) I2.kIn hl) r2 hq) fun r s' hq' => ?_))
  cases r with
  | error e => exact hx pins σ _ _ e s' I2 hq'
  | ok fl =>
    cases fl with
    | ret u =>
      obtain ⟨v, H', I3, rv, ev, q3⟩ := I2.after hq'
      subst ev
      exact ⟨rv, ⟨V.ref (s.heap.objs.size + 1), H', I3, rfl, q3⟩⟩
    | next => exact False.elim hq'
    | brk => exact False.elim hq'
    | cont => exact False.elim hq'
theorem pe_make (M : Mk X.K C f) (F : FnOk X.prog X.w X.K X.mg X.base CX k f fd ps sp) (hr : Room (k + 1) X.A) (hg : Gl X x) (hm : X.mg x = some (.ref C)) (hb : Binds X.K fd ps ds) (hd : Vals dvs ds) (hx : Passes CX X E)
    (ha : PA X (e :: es) t) (hdb : (x == ("__debug__" : Str)) = false := by decide) (he : starEach (e :: es) X.env = (false, eval e X.env) :: starEach es X.env := by rfl) (hpl : (backTo pos (starEach es X.env)).any (·.1) = false := by rfl) :
    PE X (.Call (.Name x p) (e :: es) [] pos) (tMake C sp dvs E t) := by
  intro pins s σ H Q I h
  refine wpAny_Call_Name_kw (ld_glob I hg hm ?_ hdb)
  refine PySem.W.callWith_K (h₀ := X.base) I.ok.mod.kin M.kp (thn (ha pos pins s σ H _ I h) fun us s1 ⟨vs, H1, I1, r, q⟩ => ⟨I1.kIn, ?_⟩) he hpl
  exact run_make M F hr hb hd hx I1 r q
end

noncomputable def PK (X : Cx) (kws : List Keyword) (t : TA) : Prop :=
  ∀ (pos : Pos) (pins : List (Addr × Obj)) (s : Shared) (σ : St) (H : Hp) (Q : List V → Hp → Prop), Inv X pins σ H s → t σ H Q → wpAny (model X.prog X.w) X.A (evalAll ((backToKw pos (keywordEach kws X.env)).map (·.2))) (AP X pins σ Q) X.xe s
section
variable {X : Cx} {CX : CXT} {k : Nat} {f C : Addr} {fd : FuncData} {ps ks : List Str} {sp : Sp} {E : XK} {x m : Str} {p pos apos kpos : Pos} {e o : Expr} {es : List Expr} {kws : List Keyword} {te ta : TE} {t tk : TA} {nm : Option Str}
theorem pk_nil : PK X [] tNil := fun _ _ _ _ H Q I h => wpAny_evalAll_nil ⟨[], H, I, .nil, h⟩
theorem pk_cons (ha : PE X e te) (hr : PK X kws t) : PK X (⟨nm, e, kpos⟩ :: kws) (tCons te t) := by
  intro pos pins s σ H Q I h
  show wpAny _ _ (evalAll ((do let v ← eval e X.env; standAt pos; pure v) :: (backToKw pos (keywordEach kws X.env)).map (·.2))) _ _ s
  refine wpAny_evalAll_cons (wpAny_bind (thn (ha pins s σ H _ I h) fun u s1 ⟨x, H1, I1, r1, q1⟩ => wpAny_bind (wpAny_standAt (wpAny_pure ?_))))
  exact thn (hr pos pins s1 σ H1 _ I1 q1) fun us s2 ⟨xs, H2, I2, r2, q2⟩ => ⟨x :: xs, H2, I2, .cons r1 r2, q2⟩

variable {g : List Value → List Value → List Value} {gV : List V → List V → List V}
end

structure FnScope (N P : List Str) (sc : Scope) : Prop where
  kind : sc.kind = .function
  co : sc.isCoroutine = false
  gen : sc.isGenerator = false
  nd : N.Nodup
  pre : N.take P.length = P
  par : ∀ x ∈ P, sc.names.lookup x = some .local ∨ sc.names.lookup x = some .cell
  nofree : ∀ y ∈ sc.names, y.2 ≠ .free

theorem bindL_out {kindOf : Str → Option NameKind} {x : Str} : ∀ {binds : List (Str × Value)} {m : Str → Option Value}, (∀ v, (x, v) ∉ binds) → bindL kindOf binds m x = m x
  | [], _, _ => rfl
  | (n, v) :: r, m, h => by
    unfold bindL
    rw [bindL_out fun w hw => h w (List.mem_cons_of_mem _ hw)]
    split
    · have : x ≠ n := by rintro rfl; exact h v List.mem_cons_self
      simp [this]
    · rfl
theorem bindC_out {kindOf : Str → Option NameKind} {x : Str} : ∀ {binds : List (Str × Value)} {m : Str → Option Value}, (∀ v, (x, v) ∉ binds) → bindC kindOf binds m x = m x
  | [], _, _ => rfl
  | (n, v) :: r, m, h => by
    unfold bindC
    rw [bindC_out fun w hw => h w (List.mem_cons_of_mem _ hw)]
    split
    · rfl
    · have : x ≠ n := by rintro rfl; exact h v List.mem_cons_self
      simp [this]
theorem bindL_get {kindOf : Str → Option NameKind} {x : Str} {v : Value} : ∀ {P : List Str} {vs : List Value} {i : Nat} {m : Str → Option Value}, P.Nodup → P[i]? = some x → vs[i]? = some v → kindOf x = some .local →
    bindL kindOf (P.zip vs) m x = some v
  | [], _, _, _, _, h, _, _ => by simp at h
  | _ :: _, [], _, _, _, _, h, _ => by simp at h
  | p :: P, w :: vs, 0, m, nd, h1, h2, hk => by
    simp at h1 h2; subst h1; subst h2
    show bindL kindOf ((p, w) :: P.zip vs) m p = _
    unfold bindL
    rw [bindL_out fun v hv => (List.nodup_cons.mp nd).1 (List.of_mem_zip hv).1, if_pos hk]
    simp
  | p :: P, w :: vs, i + 1, m, nd, h1, h2, hk => by
    show bindL kindOf ((p, w) :: P.zip vs) m x = _
    unfold bindL
    exact bindL_get (i := i) (List.nodup_cons.mp nd).2 (by simpa using h1) (by simpa using h2) hk
theorem bindC_get {kindOf : Str → Option NameKind} {x : Str} {v : Value} : ∀ {P : List Str} {vs : List Value} {i : Nat} {m : Str → Option Value}, P.Nodup → P[i]? = some x → vs[i]? = some v → kindOf x ≠ some .local →
    bindC kindOf (P.zip vs) m x = some v
  | [], _, _, _, _, h, _, _ => by simp at h
  | _ :: _, [], _, _, _, _, h, _ => by simp at h
  | p :: P, w :: vs, 0, m, nd, h1, h2, hk => by
    simp at h1 h2; subst h1; subst h2
    show bindC kindOf ((p, w) :: P.zip vs) m p = _
    unfold bindC
    rw [bindC_out fun v hv => (List.nodup_cons.mp nd).1 (List.of_mem_zip hv).1, if_neg hk]
    simp
  | p :: P, w :: vs, i + 1, m, nd, h1, h2, hk => by
    show bindC kindOf ((p, w) :: P.zip vs) m x = _
    unfold bindC
    exact bindC_get (i := i) (List.nodup_cons.mp nd).2 (by simpa using h1) (by simpa using h2) hk

noncomputable def start (N : List Str) (vs : List V) : St := vs.map some ++ List.replicate (N.length - vs.length) none

noncomputable def cxOf (CX : CXT) (P : Program) (w : World) (K : Frag) (mg : Str → Option Value) (base : Heap) (N : List Str) (qual : Str) (scope : Scope) (f : Addr) (cd : Value) (A : Around) (outer : List Env) (s : Shared) (H : Hp) (E : XK) : Cx where
  prog := P
  w := w
  K := K
  mg := mg
  base := base
  A := A.deeper (envOfC qual scope s.heap.objs.size f cd)
  N := N
  s₀ := s
  H₀ := H
  env := envOfC qual scope s.heap.objs.size f cd
  outer := outer
  stack := envOfC qual scope s.heap.objs.size f cd :: outer
  ex := []
  calm := true
  fn := fun _ => true
  pn := []
  xe := fun e s' => wpAny (model P w) (A.deeper (envOfC qual scope s.heap.objs.size f cd)) (leaving (envOfC qual scope s.heap.objs.size f cd) e) (fun _ s'' => CX outer H s E e s'') (fun e' s'' => CX outer H s E e' s'') s'

theorem cell_has {sc : Scope} {n : Nat} {x : Str} (h : sc.names.lookup x = some .cell) : ∃ c, (cellsFrom n sc.names []).lookup x = some c := by
  have q := PySem.W.cellsFrom_some sc.names n [] (.inl h)
  exact Option.isSome_iff_exists.mp q

theorem inv_start {CX : CXT} {P : Program} {w : World} {K : Frag} {mg : Str → Option Value} {base : Heap} {N ps : List Str} {qual : Str} {scope : Scope} {f : Addr} {cd : Value} {A : Around} {outer : List Env} {s s1 : Shared} {H : Hp} {E : XK} {us : List Value} {vs : List V}
    (S : FnScope N ps scope) (hd : A.handled = none) (e0 : Env0 P w K mg base A outer s H) (hl : vs.length = ps.length) (r : Vals vs us)
    (x : InCallC s s.heap.objs.size (bindL (envOfC qual scope s.heap.objs.size f cd).kindOf (ps.zip us) fun _ => none) (cellsFrom (s.heap.objs.size + 1) scope.names []) (bindC (envOfC qual scope s.heap.objs.size f cd).kindOf (ps.zip us) fun _ => none) s1) :
    Inv (cxOf CX P w K mg base N qual scope f cd A outer s H E) [] (start N vs) H s1 := by
  have hpl : ps.length ≤ N.length := by have := congrArg List.length S.pre; rw [List.length_take] at this; omega
  obtain ⟨h1, tk, rfl, hk⟩ := x.done
  have noA : ∀ b : Addr, b ∉ (cxOf CX P w K mg base N qual scope f cd A outer s H E).ex := fun b z => absurd (show b ∈ ([] : List Addr) from z) (by simp)
  refine ⟨⟨e0.mod, S.kind, rfl, rfl, Nat.le_refl _, fun y z c h1 h2 => ?_, fun y hy => ?_, fun y c _ h => ?_, fun _ => hd, Around.frames_deeper e0.frames, .inr ⟨rfl, rfl⟩, fun b z => absurd z (noA b), e0.bs, e0.bsz, fun b _ _ => noA b, fun b z => absurd z (noA b), e0.funs, e0.frf⟩,
    rfl, e0.bare, Un.kept hk, ⟨_, x.toInCall.ns, fun i y v h1 h2 h3 => ?_⟩, fun y c h => ⟨_, x.cell y c h⟩, e0.hok.fresh (Nat.le_refl _), fun y c h => ?_, fun p hp => absurd (show p ∈ ([] : List (Addr × Obj)) from hp) (by simp), e0.hok.kept hk, ?_⟩
  · exact name_of_addr x.apart (PySem.mem_of_lookup h1) (PySem.mem_of_lookup h2)
  · have hy : scope.names.lookup y = some .cell ∨ scope.names.lookup y = some .free := hy
    rcases hy with hy | hy
    · exact cell_has hy
    · exact absurd rfl (S.nofree _ (PySem.mem_of_lookup hy))
  · exact Nat.le_of_lt (x.above y c (PySem.mem_of_lookup h))
  · have hi : i < vs.length := by
      unfold start at h2
      by_cases hi : i < vs.length
      · exact hi
      · rw [List.getElem?_append_right (by simpa using hi)] at h2
        rw [List.getElem?_replicate] at h2
        split at h2 <;> cases h2
    have ha : vs[i]? = some v := by
      unfold start at h2
      rw [List.getElem?_append_left (by simpa using hi), List.getElem?_map] at h2
      cases e : vs[i]? with
      | none => rw [e] at h2; cases h2
      | some a => rw [e] at h2; cases h2; rfl
    obtain ⟨u, hu, rv⟩ := r.get ha
    have hp : ps[i]? = some y := by
      rw [← S.pre, List.getElem?_take_of_lt (by omega)]; exact h1
    have ndP : ps.Nodup := by rw [← S.pre]; exact S.nd.sublist (List.take_sublist _ _)
    refine ⟨u, rv, ?_⟩
    rcases S.par y (List.mem_of_getElem? hp) with k | k
    · exact .inl ⟨k, bindL_get ndP hp hu k⟩
    · obtain ⟨c, e⟩ := cell_has (n := s.heap.objs.size + 1) k
      refine .inr ⟨.inl k, c, e, ?_⟩
      have q := x.cell y c e
      rw [bindC_get ndP hp hu (by show scope.names.lookup y ≠ _; rw [k]; decide)] at q
      exact q
  · exact e0.hok.fresh (Nat.le_of_lt (x.above y c (PySem.mem_of_lookup h)))
  · unfold start
    show _ = N.length
    rw [List.length_append, List.length_map, List.length_replicate]
    omega

theorem fn_of {CX : CXT} {P : Program} {w : World} {K : Frag} {mg : Str → Option Value} {base : Heap} {k : Nat} {f : Addr} {name qual : Str} {params : Arguments} {body : List Stmt} {scope : Scope} {dV kV doc pm cdv ct oc : Value} {an od : Option Addr}
    {osl : Array (Option Value)} {N ps : List Str} {sp : Sp} (lk : K.lookup f = some ⟨oc, od, .func (PySem.W.fnOf name qual params body scope dV kV doc pm an cdv ct), osl⟩) (hcd : PySem.W.codeIn K cdv qual = true) (S : FnScope N ps scope)
    (len : ∀ vs H Q E, sp vs H Q E → vs.length = ps.length)
    (hbody : ∀ (A : Around) (outer : List Env) (s : Shared) (H : Hp) (vs : List V) (Q : VK) (E : XK), Room k (A.deeper (envOfC qual scope s.heap.objs.size f cdv)) → sp vs H Q E →
      ∃ t, PSs (cxOf CX P w K mg base N qual scope f cdv A outer s H E) body t ∧ t { nx := fun _ H' => Q .non H', rt := Q } (start N vs) H) :
    FnOk P w K mg base CX (k + 1) f (PySem.W.fnOf name qual params body scope dV kV doc pm an cdv ct) ps sp := by
  refine ⟨len, fun A outer s H args us vs Q E hr e0 hb r hsp => ?_⟩
  have hl := len _ _ _ _ hsp
  have KX : K.In s.heap := e0.mod.kin.keeps fun b o e => (e0.bs b o e).1
  have lim : s.heap.NoLimit := e0.mod.nolimit.keeps fun b o e => (e0.bs b o e).1
  have hkind : ∀ y ∈ ps.zip us, scope.names.lookup y.1 = some .local ∨ (scope.names.lookup y.1 = some .cell ∧ ((cellsFrom (s.heap.objs.size + 1) scope.names []).lookup y.1).isSome = true) := fun ⟨n, v⟩ hy => by
    rcases S.par n (List.of_mem_zip hy).1 with q | q
    · exact .inl q
    · exact .inr ⟨q, PySem.W.cellsFrom_some _ _ _ (.inl q)⟩
  refine codeAny_call_function hr.depth (KX _ _ lk) rfl S.co S.gen rfl (PySem.W.codeRec_of KX hcd) (hb _ _ _ _ ?_)
  refine wpAny_newFunctionEnv_cells S.kind hkind fun env he s1 x => ?_
  subst he
  refine ⟨lim.keeps x.toInCall.keep, codeAny_func ?_⟩
  obtain ⟨t, ht, hq⟩ := hbody A outer s H vs Q E (hr.deeper _) hsp
  have I : Inv (cxOf CX P w K mg base N qual scope f cdv A outer s H E) [] (start N vs) H s1 := inv_start S hr.hd e0 hl r x
  refine wpAny_mono (ht [] s1 (start N vs) H _ I hq) (fun fl s' hs => ?_) fun e s' hs => hs
  have fin : ∀ {σ' : St} {H' : Hp} {v : V} {u : Value}, Inv (cxOf CX P w K mg base N qual scope f cdv A outer s H E) [] σ' H' s' → RelV v u → Q v H' → CE outer P w H s Q u s' :=
    fun {σ' H' v u} J rv q => ⟨v, H', J.os, J.bare, J.base, J.hok, rv, q⟩
  cases fl with
  | ret u =>
    obtain ⟨v, σ', H', J, rv, q⟩ := hs
    exact fin J rv q
  | next =>
    obtain ⟨σ', H', J, q⟩ := hs
    exact fin (v := V.non) (u := Value.none) J rfl q
  | brk =>
    obtain ⟨_, _, _, q⟩ := hs
    exact False.elim q
  | cont =>
    obtain ⟨_, _, _, q⟩ := hs
    exact False.elim q
section
variable {X : Cx} {x : Str} {p pos : Pos} {e : Expr} {es : List Expr} {t : TA} {id T : String} {r : List V → Hp → VK → Prop}

noncomputable def tCB (r : List V → Hp → VK → Prop) (t : TA) : TE := fun σ H Q => t σ H fun vs H1 => r vs H1 Q
theorem pe_callB (hc : CallR X (.builtin id) r) (hg : Gl X x) (hm : X.mg x = none) (hv : bootBuiltins x = some (.builtin id)) (ha : PA X (e :: es) t) (hn : x ≠ "__name__" := by decide) (hdb : (x == ("__debug__" : Str)) = false := by decide)
    (he : starEach (e :: es) X.env = (false, eval e X.env) :: starEach es X.env := by rfl) (hpl : (backTo pos (starEach es X.env)).any (·.1) = false := by rfl) : PE X (.Call (.Name x p) (e :: es) [] pos) (tCB r t) := by
  intro pins s σ H Q I h
  refine wpAny_Call_Name_kw (ld_blt I hg hm hv ?_ hn hdb)
  exact PyProof.Rows.callWith_builtin1 (thn (ha pos pins s σ H _ I h) fun us s1 ⟨vs, H1, I1, r1, q1⟩ => hc pins s1 σ H1 vs us Q I1 r1 q1) he hpl
theorem pe_callTy (hc : CallR X (.type T) r) (hg : Gl X x) (hm : X.mg x = none) (hv : bootBuiltins x = some (.type T)) (ha : PA X (e :: es) t) (hn : x ≠ "__name__" := by decide) (hdb : (x == ("__debug__" : Str)) = false := by decide)
    (he : starEach (e :: es) X.env = (false, eval e X.env) :: starEach es X.env := by rfl) (hpl : (backTo pos (starEach es X.env)).any (·.1) = false := by rfl) : PE X (.Call (.Name x p) (e :: es) [] pos) (tCB r t) := by
  intro pins s σ H Q I h
  refine wpAny_Call_Name_kw (ld_blt I hg hm hv ?_ hn hdb)
  exact PyProof.Rows.callWith_type1 (thn (ha pos pins s σ H _ I h) fun us s1 ⟨vs, H1, I1, r1, q1⟩ => hc pins s1 σ H1 vs us Q I1 r1 q1) he hpl
end
end L2

namespace HT
open PySem PyProof.Rows

section
open PySem.SeqAt
open PySem.AutoSeq1 (wpAny_loadPart')
open PySem.MeetsSeq PySem.MeetsSeq2 PySem.MeetsSeq3

end

section
variable {prog : Program} {w : World} {A : Around} {E : Value → Shared → Prop} {s : Shared}

noncomputable def sIx (n d : Nat) : Option Int → Nat
  | none => d
  | some v => if v < 0 then (v + (n : Int)).toNat else min v.toNat n
theorem sIx_none (n d : Nat) : sIx n d none = d := rfl
theorem sIx_nat (n d k : Nat) : sIx n d (some (k : Int)) = min k n := by
  show (if (k : Int) < 0 then ((k : Int) + (n : Int)).toNat else min (k : Int).toNat n) = min k n
  rw [if_neg (by omega), Int.toNat_natCast]
theorem sIx_le (n d : Nat) (hd : d ≤ n) (o : Option Int) : sIx n d o ≤ n := by
  cases o with
  | none => exact hd
  | some v =>
    show (if v < 0 then (v + (n : Int)).toNat else min v.toNat n) ≤ n
    by_cases hv : v < 0
    · rw [if_pos hv]; omega
    · rw [if_neg hv]; exact Nat.min_le_right _ _
theorem clip_eq (v : Int) (n d : Nat) : (if v < 0 then max (v + (n : Int)) 0 else min v (n : Int)) = ((sIx n d (some v) : Nat) : Int) := by
  show (if v < 0 then max (v + (n : Int)) 0 else min v (n : Int)) = (((if v < 0 then (v + (n : Int)).toNat else min v.toNat n) : Nat) : Int)
  by_cases hv : v < 0
  · simp only [if_pos hv]; omega
  · simp only [if_neg hv]; omega
theorem adjust_gen (lo hi : Option Int) (n : Nat) : Builtin.Slice.sliceAdjust lo hi 1 (n : Int) = (((sIx n 0 lo : Nat) : Int), ((sIx n n hi : Nat) : Int)) := by
  have h1 : ¬ ((1 : Int) < 0) := by omega
  unfold Builtin.Slice.sliceAdjust
  simp only [h1, if_false]
  refine Prod.ext ?_ ?_
  · cases lo with
    | none => rfl
    | some v => exact clip_eq v n 0
  · cases hi with
    | none => rfl
    | some v => exact clip_eq v n n
theorem places_gen (i j : Nat) : Builtin.Slice.slicePlaces (i : Int) (j : Int) 1 = j - i := by
  unfold Builtin.Slice.slicePlaces
  have h1 : (1 : Int) > 0 := by omega
  simp only [h1, if_true, Int.ediv_one]
  split <;> omega
theorem slicePart_ {v : Value} {o : Option Int} {Q : Option Int → Shared → Prop} (p : IsPart v o) (h : Q o s) : wpAny (model prog w) A (Builtin.Slice.slicePartIndex v) Q E s := by
  cases p with
  | none => exact slicePart_none h
  | int i t => exact slicePart_int h
theorem sliceApplied_gen {sl : Addr} {vl vu : Value} {lo hi : Option Int} {n : Nat} {Q : Int × Int × Nat → Shared → Prop} (hs : s.heap.IsSliceOf sl vl vu .none) (pl : IsPart vl lo) (pu : IsPart vu hi)
    (h : Q (((sIx n 0 lo : Nat) : Int), 1, sIx n n hi - sIx n 0 lo) s) : wpAny (model prog w) A (Builtin.Slice.sliceApplied (.ref sl) (pure (n : Int))) Q E s := by
  obtain ⟨os, hos, hcs, hds⟩ := id hs
  unfold Builtin.Slice.sliceApplied Builtin.Slice.sliceFields
  refine wpAny_bind (wpAny_bind (wpAny_field hos hds (x := vl) rfl (wpAny_bind (wpAny_field hos hds (x := vu) rfl (wpAny_bind (wpAny_field hos hds (x := .none) rfl (wpAny_pure ?_)))))))
  refine wpAny_bind (slicePart_none ?_)
  show wpAny _ _ (if ((1 : Int) == 0) = true then _ else _) _ _ s
  rw [if_neg (by decide)]
  refine wpAny_bind (slicePart_ pl (wpAny_bind (slicePart_ pu (wpAny_bind (wpAny_pure ?_)))))
  show wpAny _ _ (match Builtin.Slice.sliceAdjust lo hi 1 (n : Int) with | (lo, hi) => pure (lo, (1 : Int), Builtin.Slice.slicePlaces lo hi 1)) _ _ s
  rw [adjust_gen lo hi n]
  show wpAny _ _ (pure (((sIx n 0 lo : Nat) : Int), (1 : Int), Builtin.Slice.slicePlaces ((sIx n 0 lo : Nat) : Int) ((sIx n n hi : Nat) : Int) 1)) _ _ s
  rw [places_gen]
  exact wpAny_pure h
theorem pick_gen (xs : Array Value) (i k : Nat) : ((List.range k).filterMap fun (m : Nat) => xs[((i : Int) + (m : Int) * 1).toNat]?).toArray = ((xs.toList.drop i).take k).toArray := by
  have e : (fun (m : Nat) => xs[((i : Int) + (m : Int) * 1).toNat]?) = fun m => xs[i + m]? := by
    funext m
    have : ((i : Int) + (m : Int) * 1).toNat = i + m := by omega
    rw [this]
  rw [e]
  have := pick_run xs i k
  rw [List.filterMap_map] at this
  have e2 : ((fun x => xs[x]?) ∘ fun x => i + x) = fun m => xs[i + m]? := rfl
  rw [e2] at this
  rw [this]

theorem getItem_tuple_cut {t sl : Addr} {items : Array Value} {vl vu : Value} {lo hi : Option Int} {Q : Value → Shared → Prop} (ht : IsTup s.heap t items) (hs : s.heap.IsSliceOf sl vl vu .none) (pl : IsPart vl lo) (pu : IsPart vu hi)
    (hw : ¬ (sIx items.size 0 lo = 0 ∧ sIx items.size items.size hi = items.size))
    (h : Q (.ref s.heap.objs.size) { s with heap := s.heap.push { cls := .type "tuple", data := .seq ((items.toList.drop (sIx items.size 0 lo)).take (sIx items.size items.size hi - sIx items.size 0 lo)).toArray } })
    (hsz : items.size ≤ sizeLine) : wpAny (model prog w) A (getItem (.ref t) (.ref sl)) Q E s := by
  have htake : sizeOk (.seq ((items.toList.drop (sIx items.size 0 lo)).take (sIx items.size items.size hi - sIx items.size 0 lo)).toArray) := by
    show ((items.toList.drop (sIx items.size 0 lo)).take (sIx items.size items.size hi - sIx items.size 0 lo)).toArray.size ≤ sizeLine
    rw [List.size_toArray, List.length_take, List.length_drop, Array.length_toList]
    omega
  have hj : sIx items.size items.size hi ≤ items.size := sIx_le _ _ (Nat.le_refl _) hi
  obtain ⟨os, hos, hcs, hds⟩ := id hs
  have hTs : s.TypeIs (.ref sl) "slice" := ⟨os, hos, hcs⟩
  unfold getItem
  try with_reducible refine wpAny_holding ?_
  first | refine wpAny_bind (wpAny_pure ?_) | skip
  refine wpAny_bind (wpAny_sequenceKey ht.typeIs (by decide) ?_)
  refine wpAny_bind (wpAny_callSpecial?_slot (name := Str.ofString "__getitem__") ht.typeIs PyProof.Rows.slot_tuple_getitem
    (wpAny_call_entry PyProof.Rows.slot_tuple_getitem ht.typeIs entry_tuple_getitem ?_ (args_tuple_getitem _ _)))
  show wpAny _ _ (Builtin.Tuple.tupleItemsOf (.ref t) >>= _) _ _ s
  refine wpAny_bind (tupleItemsOf_ ht ?_)
  refine wpAny_bind (wpAny_typeOf hTs ?_)
  rw [if_pos (by decide)]
  refine wpAny_bind (sliceApplied_gen hs pl pu ?_)
  have hno : ¬ ((((sIx items.size 0 lo : Nat) : Int) == 0 && (1 : Int) == 1 && (sIx items.size items.size hi - sIx items.size 0 lo) == items.size) = true) := by
    intro q
    rw [Bool.and_eq_true, Bool.and_eq_true] at q
    have q1 : ((sIx items.size 0 lo : Nat) : Int) = 0 := eq_of_beq q.1.1
    have q2 : sIx items.size items.size hi - sIx items.size 0 lo = items.size := eq_of_beq q.2
    exact hw ⟨by omega, by omega⟩
  show wpAny _ _ (if (((sIx items.size 0 lo : Nat) : Int) == 0 && (1 : Int) == 1 && (sIx items.size items.size hi - sIx items.size 0 lo) == items.size) = true then _ else _) _ _ s
  rw [if_neg hno, pick_gen]
  first
    | exact wpAny_bind (m := Builtin.Tuple.tupleExact _) (wpAny_newObj_type (wpAny_pure ⟨_, rfl, wpAny_pure h⟩) htake)
    | exact wpAny_bind (m := Builtin.Tuple.tupleExact _) (wpAny_newObj_type (wpAny_bind (wpAny_pure (wpAny_pure ⟨_, rfl, wpAny_pure h⟩))) htake)
    | exact wpAny_bind (wpAny_bind (m := Builtin.Tuple.tupleExact _) (wpAny_newObj_type (wpAny_pure (wpAny_pure ⟨_, rfl, wpAny_pure h⟩)) htake))
    | exact wpAny_bind (wpAny_bind (m := Builtin.Tuple.tupleExact _) (wpAny_newObj_type (wpAny_pure ⟨_, rfl, wpAny_pure h⟩) htake))
end
end HT

namespace L2
open PySem PySem.Spec PyProof.Rows
open PySem.W (Frag)

noncomputable abbrev TO := St → Hp → (Option Int → Hp → Prop) → Prop
noncomputable def PO (X : Cx) (e : Option Expr) (t : TO) : Prop :=
  ∀ (pins : List (Addr × Obj)) (s : Shared) (σ : St) (H : Hp) (Q : Option Int → Hp → Prop), Inv X pins σ H s → t σ H Q →
    wpAny (model X.prog X.w) X.A (evalPart e X.env) (fun u s' => ∃ o H', Inv X pins σ H' s' ∧ IsPart u o ∧ Q o H') X.xe s
noncomputable def tNoPart : TO := fun _ H Q => Q none H
noncomputable def tPart (t : TE) : TO := fun σ H Q => t σ H fun x H1 => ∃ i, x = .int i ∧ Q (some i) H1

theorem intsAre_of {ns : List Int} : ∀ {us : List Value}, Vals (ns.map V.int) us → IntsAre us ns := by
  induction ns with
  | nil => intro us r; rw [List.map_nil] at r; cases r; exact .nil
  | cons n ns ih =>
    intro us r
    rw [List.map_cons] at r
    cases r with
    | cons r1 r2 =>
      obtain ⟨t, e⟩ := r1
      subst e
      exact .cons n t (ih r2)

section
variable {X : Cx} {e : Expr} {te : TE} {lo hi : Option Expr} {tl th : TO} {pos p2 : Pos}

theorem po_none : PO X none tNoPart := by
  intro pins s σ H Q I h
  rw [evalPart_none]
  exact wpAny_pure ⟨none, H, I, .none, h⟩
theorem po_some (h : PE X e te) : PO X (some e) (tPart te) := by
  intro pins s σ H Q I hw
  rw [evalPart_some]
  refine thn (h pins s σ H _ I hw) fun u s1 ⟨x, H1, I1, r1, q1⟩ => ?_
  obtain ⟨i, rfl, q⟩ := q1
  obtain ⟨t, rfl⟩ := r1
  exact ⟨some i, H1, I1, .int i t, q⟩

noncomputable def SlR (X : Cx) (r : V → Option Int → Option Int → Hp → VK → Prop) : Prop :=
  ∀ (pins : List (Addr × Obj)) (s : Shared) (σ : St) (H : Hp) (x : V) (v vl vu : Value) (lo hi : Option Int) (sl : Addr) (Q : VK), Inv X pins σ H s → RelV x v → s.heap.IsSliceOf sl vl vu .none → IsPart vl lo → IsPart vu hi → r x lo hi H Q →
    ∃ T id, typeLookup (.type T) "__getitem__" = pure (some (.builtin id)) ∧ s.TypeIs v T ∧ wpAny (model X.prog X.w) X.A (getItem v (.ref sl)) (EP X pins σ Q) X.xe s
theorem SlR.or {r r' : V → Option Int → Option Int → Hp → VK → Prop} (h : SlR X r) (h' : SlR X r') : SlR X (fun x lo hi H Q => r x lo hi H Q ∨ r' x lo hi H Q) := by
  intro pins s σ H x v vl vu lo hi sl Q I rx hs pl pu q
  rcases q with q | q
  · exact h pins s σ H x v vl vu lo hi sl Q I rx hs pl pu q
  · exact h' pins s σ H x v vl vu lo hi sl Q I rx hs pl pu q
noncomputable def tSl (r : V → Option Int → Option Int → Hp → VK → Prop) (te : TE) (tl th : TO) : TE := fun σ H Q => te σ H fun x H1 => tl σ H1 fun l H2 => th σ H2 fun u H3 => r x l u H3 Q
theorem pe_slice {r : V → Option Int → Option Int → Hp → VK → Prop} (hr : SlR X r) (he : PE X e te) (hl : PO X lo tl) (hu : PO X hi th) : PE X (.Subscript e (.Slice lo hi none p2) pos) (tSl r te tl th) := by
  intro pins s σ H Q I h
  refine Subscript_ (thn (he pins s σ H _ I h) fun v s1 ⟨x, H1, I1, r1, q1⟩ => ?_)
  refine wpAny_Slice (thn (hl pins s1 σ H1 _ I1 q1) fun vl s2 ⟨l, H2, I2, pl, q2⟩ => thn (hu pins s2 σ H2 _ I2 q2) fun vu s3 ⟨u, H3, I3, pu, q3⟩ => ?_)
  rw [evalPart_none]
  refine wpAny_pure ?_
  have I4 : Inv X pins σ H3 { s3 with heap := s3.heap.push { cls := .type "slice", data := .fields #[vl, vu, .none] } } := I3.kept (t' := s3.toks) fun b ob q => Heap.get?_push_of_some _ q
  obtain ⟨T, id, hT, ht, hg⟩ := hr pins { s3 with heap := s3.heap.push { cls := .type "slice", data := .fields #[vl, vu, .none] } } σ H3 x v vl vu l u s3.heap.objs.size Q I4 r1 (Heap.IsSliceOf.new ..) pl pu q3
  show wpAny (model X.prog X.w) X.A (subscriptTail e (.Slice lo hi none p2) v (.ref s3.heap.objs.size)) (EP X pins σ Q) X.xe { s3 with heap := s3.heap.push { cls := .type "slice", data := .fields #[vl, vu, .none] } }
  exact tail_any (ops := [.ref s3.heap.objs.size, v]) ht hT hg (by with_unfolding_all rfl)

noncomputable def cutV (xs : List V) (lo hi : Option Int) : List V := (xs.drop (HT.sIx xs.length 0 lo)).take (HT.sIx xs.length xs.length hi - HT.sIx xs.length 0 lo)
theorem cutV_length (xs : List V) (lo hi : Option Int) : (cutV xs lo hi).length ≤ xs.length := by
  unfold cutV
  rw [List.length_take, List.length_drop]
  omega
noncomputable def rSlT (K : Frag) : V → Option Int → Option Int → Hp → VK → Prop := fun x lo hi H Q => ∃ a xs, x = .ref a ∧ SqT K H a xs ∧
  ¬ (HT.sIx xs.length 0 lo = 0 ∧ HT.sIx xs.length xs.length hi = xs.length) ∧ ∀ p, H p = none → Q (.ref p) (upd H p (.tup (cutV xs lo hi)))
theorem sl_tup : SlR X (rSlT X.K) := by
  intro pins s σ H x v vl vu lo hi sl Q I rx hs pl pu h
  obtain ⟨a, xs, rfl, hx, hw, q⟩ := h
  cases rx
  obtain ⟨its, r, ht, hz⟩ := I.tuple hx
  have hlen : its.toArray.size = xs.length := by rw [List.size_toArray]; exact r.length.symm
  refine ⟨"tuple", _, PyProof.Rows.slot_tuple_getitem.lookup, ht.typeIs, ?_⟩
  refine HT.getItem_tuple_cut ht hs pl pu (by rw [hlen]; exact hw) ?_ (by rw [hlen]; exact hz)
  rw [hlen]
  refine ⟨.ref s.heap.objs.size, _, I.laid (t' := s.toks) (o := .tup (cutV xs lo hi)) (fun b ob q => Heap.get?_push_of_some _ q) (Nat.le_refl _) ?_, rfl, q _ (I.hok.fresh (Nat.le_refl _))⟩
  exact ⟨Nat.le_trans (cutV_length xs lo hi) hz, _, (r.drop (HT.sIx xs.length 0 lo)).take (HT.sIx xs.length xs.length hi - HT.sIx xs.length 0 lo), IsTup.new _ _⟩

end

noncomputable def ixN (n : Nat) (i : Int) : Option Nat := if 0 ≤ i then (if i < n then some i.toNat else none) else if -(n : Int) ≤ i then some (i + n).toNat else none
noncomputable def atI {α : Type} (xs : List α) (i : Int) : Option α := (ixN xs.length i).bind fun j => xs[j]?
theorem ixN_seq {n : Nat} {i : Int} {j : Nat} (h : ixN n i = some j) : seqIndex? i n = some j ∧ j < n ∧ -(n : Int) ≤ i ∧ i < n := by
  unfold ixN at h
  by_cases h0 : 0 ≤ i
  · rw [if_pos h0] at h
    by_cases h1 : i < n
    · rw [if_pos h1] at h
      have e : i.toNat = j := Option.some.inj h
      exact ⟨by rw [seqIndex_of h0 h1, e], by omega, by omega, h1⟩
    · rw [if_neg h1] at h; cases h
  · rw [if_neg h0] at h
    by_cases h1 : -(n : Int) ≤ i
    · rw [if_pos h1] at h
      have e : (i + n).toNat = j := Option.some.inj h
      exact ⟨by rw [seqIndex_neg (by omega) h1, e], by omega, h1, by omega⟩
    · rw [if_neg h1] at h; cases h
theorem atI_get {α : Type} {xs : List α} {i : Int} {v : α} (h : atI xs i = some v) : ∃ j, seqIndex? i xs.length = some j ∧ xs[j]? = some v ∧ j < xs.length ∧ -(xs.length : Int) ≤ i ∧ i < xs.length := by
  unfold atI at h
  cases e : ixN xs.length i with
  | none => rw [e] at h; cases h
  | some j =>
    rw [e] at h
    obtain ⟨h1, h2, h3, h4⟩ := ixN_seq e
    exact ⟨j, h1, h, h2, h3, h4⟩
theorem atI_nat {α : Type} {xs : List α} {j : Nat} {v : α} (h : xs[j]? = some v) : atI xs (j : Int) = some v := by
  have hj : j < xs.length := (List.getElem?_eq_some_iff.mp h).1
  have e : ixN xs.length (j : Int) = some j := by
    unfold ixN
    rw [if_pos (by omega), if_pos (by omega)]; simp
  unfold atI; rw [e]; exact h
noncomputable def PlainIx (b : Expr) : Prop := ∀ o i, subscripted b false o i = operate [o, i] (getItem o i)
noncomputable def IxR (X : Cx) (r : R2) : Prop :=
  ∀ (value slice : Expr) (pins : List (Addr × Obj)) (s : Shared) (σ : St) (H : Hp) (x y : V) (v u : Value) (Q : VK), Inv X pins σ H s → RelV x v → RelV y u → r x y H Q →
    subscripted slice false v u = operate [v, u] (getItem v u) → wpAny (model X.prog X.w) X.A (subscriptTail value slice v u) (EP X pins σ Q) X.xe s
noncomputable def MtR (X : Cx) (id : String) (r : V → List V → Hp → VK → Prop) : Prop :=
  ∀ (pins : List (Addr × Obj)) (s : Shared) (σ : St) (H : Hp) (x : V) (xs : List V) (v : Value) (us : List Value) (Q : VK), Inv X pins σ H s → RelV x v → Vals xs us → r x xs H Q →
    wpAny (model X.prog X.w) X.A (call (.builtin id) (v :: us)) (EP X pins σ Q) X.xe s
section
variable {X : Cx} {a b : Expr} {ta tb : TE} {pos : Pos}
theorem IxR.or {r r' : R2} (h : IxR X r) (h' : IxR X r') : IxR X (fun x y H Q => r x y H Q ∨ r' x y H Q) := by
  intro value slice pins s σ H x y v u Q I rx ry q hs
  rcases q with q | q
  · exact h value slice pins s σ H x y v u Q I rx ry q hs
  · exact h' value slice pins s σ H x y v u Q I rx ry q hs
theorem MtR.or {id : String} {r r' : V → List V → Hp → VK → Prop} (h : MtR X id r) (h' : MtR X id r') : MtR X id (fun x xs H Q => r x xs H Q ∨ r' x xs H Q) := by
  intro pins s σ H x xs v us Q I rx rs q
  rcases q with q | q
  · exact h pins s σ H x xs v us Q I rx rs q
  · exact h' pins s σ H x xs v us Q I rx rs q
theorem pe_ix {r : R2} (hr : IxR X r) (ha : PE X a ta) (hb : PE X b tb) (hs : PlainIx b) : PE X (.Subscript a b pos) (tOp r ta tb) := by
  intro pins s σ H Q I h
  exact Subscript_ (binT ha hb I h fun v u s2 x y H2 I2 rx ry q => hr a b pins s2 σ H2 x y v u Q I2 rx ry q (hs _ _))

noncomputable def rIxL (K : Frag) : R2 := fun x y H Q => ∃ p xs i v, x = .ref p ∧ y = .int i ∧ SqL K H p xs ∧ atI xs i = some v ∧ Q v H
noncomputable def rIxT (K : Frag) : R2 := fun x y H Q => ∃ p xs i v, x = .ref p ∧ y = .int i ∧ SqT K H p xs ∧ atI xs i = some v ∧ Q v H
theorem ix_list : IxR X (rIxL X.K) := by
  intro value slice pins s σ H x y v u Q I rx ry h hs
  obtain ⟨p, xs, i, z, rfl, rfl, hq, he, q⟩ := h
  cases rx
  obtain ⟨t, rfl⟩ := ry
  obtain ⟨its, r, pl, hz⟩ := I.list hq
  obtain ⟨j, h1, h2, h3, h4, h5⟩ := atI_get he
  obtain ⟨w, ew, rw'⟩ := r.get h2
  have hl := r.length
  have hn := line63
  have fin : EP X pins σ Q w s := ⟨z, H, I, rw', q⟩
  by_cases h0 : 0 ≤ i
  · have hj : i.toNat = j := by
      rw [seqIndex_of h0 h5] at h1
      exact Option.some.inj h1
    exact item_listR pl.isList h0 (by omega) (by rw [hj]; simpa using ew) fin hs
  · have hj : (i + (its.toArray.size : Int)).toNat = j := by
      rw [seqIndex_neg (by omega) h4] at h1
      rw [List.size_toArray, ← hl]
      exact Option.some.inj h1
    exact subscriptTail_builtinR (x := w) pl.isList.typeIs slot_list_getitem.lookup
      (wpAny_getItem_list_neg (Q := fun r s' => r = w ∧ EP X pins σ Q r s') pl.isList (by omega) (by rw [List.size_toArray] <;> omega) (by omega) (by rw [hj]; simpa using ew) ⟨rfl, fin⟩) hs
theorem ix_tup : IxR X (rIxT X.K) := by
  intro value slice pins s σ H x y v u Q I rx ry h hs
  obtain ⟨p, xs, i, z, rfl, rfl, hq, he, q⟩ := h
  cases rx
  obtain ⟨t, rfl⟩ := ry
  obtain ⟨its, r, pl, hz⟩ := I.tuple hq
  obtain ⟨j, h1, h2, h3, h4, h5⟩ := atI_get he
  obtain ⟨w, ew, rw'⟩ := r.get h2
  have hl := r.length
  have hn := line63
  have fin : EP X pins σ Q w s := ⟨z, H, I, rw', q⟩
  exact subscriptTail_builtinR (x := w) pl.typeIs slot_tuple_getitem.lookup
    (getItem_tuple (j := j) (Q := fun r s' => r = w ∧ EP X pins σ Q r s') pl (by omega) (by omega) (by rw [List.size_toArray, ← hl]; exact h1) (by simpa using ew) ⟨rfl, fin⟩) hs
theorem mapSeq_set (its : List Value) (n j : Nat) (u : Value) : Obj.mapSeq (·.setIfInBounds j u) { cls := .type "list", data := .seq its.toArray n } = { cls := .type "list", data := .seq (its.set j u).toArray n } := by
  simp [Obj.mapSeq]
theorem Inv.lst {pins : List (Addr × Obj)} {σ : St} {H : Hp} {s : Shared} {p : Addr} {xs : List V} (I : Inv X pins σ H s) (h : H p = some (.lst xs)) :
    ∃ (its : List Value) (n : Nat), Vals xs its ∧ s.heap.get? p = some { cls := .type "list", data := .seq its.toArray n } ∧ xs.length ≤ sizeLine := by
  obtain ⟨z, its, n, r, e⟩ := I.hok p _ h
  exact ⟨its, n, r, e, z⟩
theorem Inv.lstUpd {pins : List (Addr × Obj)} {σ : St} {H : Hp} {s : Shared} {p : Addr} {xs ys : List V} {its its' : List Value} {n n' : Nat} {f : Obj → Obj} (I : Inv X pins σ H s) (h : H p = some (.lst xs))
    (ho : s.heap.get? p = some { cls := .type "list", data := .seq its.toArray n }) (hf : f { cls := .type "list", data := .seq its.toArray n } = { cls := .type "list", data := .seq its'.toArray n' }) (r : Vals ys its') (hz : ys.length ≤ sizeLine) (t : Nat) :
    Inv X pins σ (upd H p (.lst ys)) { s with heap := s.heap.update p f, toks := t } := by
  have e : (s.heap.update p f).get? p = some { cls := .type "list", data := .seq its'.toArray n' } := by
    rw [Heap.get?_update_self f ho (by rw [hf] <;> rfl), hf]
  refine I.write (x := p) (e := p) (by rw [h]; trivial) (.inl rfl) (fun b u hb q => (Heap.get?_update_other _ _ (Ne.symm hb)).trans q) ⟨_, e⟩ ?_
  exact ⟨hz, its', n', r, e⟩
noncomputable def rSetL : V → V → V → Hp → (Hp → Prop) → Prop := fun o i v H Q => ∃ p xs k j, o = .ref p ∧ i = .int k ∧ H p = some (.lst xs) ∧ ixN xs.length k = some j ∧ Q (upd H p (.lst (xs.set j v)))
theorem set_list : PSet X rSetL := by
  intro pins s σ H o i v ov iv u Q I ro ri rv h
  obtain ⟨p, xs, k, j, rfl, rfl, hp, hj, q⟩ := h
  cases ro
  obtain ⟨t, rfl⟩ := ri
  obtain ⟨its, n, r, ho, hz⟩ := I.lst hp
  obtain ⟨h1, h2, h3, h4⟩ := ixN_seq hj
  have hl := r.length
  have hn := line63
  have I' : Inv X pins σ (upd H p (.lst (xs.set j v))) { s with heap := s.heap.update p (Obj.mapSeq (·.setIfInBounds j u)) } :=
    I.lstUpd hp ho (mapSeq_set its n j u) (r.set rv j) (by rw [List.length_set]; exact hz) s.toks
  by_cases h0 : 0 ≤ k
  · have hk : k.toNat = j := by
      rw [seqIndex_of h0 h4] at h1
      exact Option.some.inj h1
    exact PySem.W.ki_setAt ho h0 (by omega) (by rw [List.size_toArray, ← hl]; exact h4) (by rw [hk]; exact ⟨_, I', q⟩)
  · have hk : (k + (its.toArray.size : Int)).toNat = j := by
      rw [seqIndex_neg (by omega) h3] at h1
      rw [List.size_toArray, ← hl]
      exact Option.some.inj h1
    exact PySem.W.ki_setBack ho (by omega) (by rw [List.size_toArray, ← hl]; exact h3) (by omega) (by rw [hk]; exact ⟨_, I', q⟩)

theorem slice_bounds (lo hi : Option Int) (n : Nat) : (sliceBounds lo hi none n).1 = ((HT.sIx n 0 lo : Nat) : Int) ∧ (sliceBounds lo hi none n).2.1 = ((HT.sIx n n hi : Nat) : Int) ∧ (sliceBounds lo hi none n).2.2 = 1 := by
  refine ⟨?_, ?_, rfl⟩
  · cases lo with
    | none => simp [sliceBounds, HT.sIx]
    | some i =>
      simp only [sliceBounds, HT.sIx, Option.getD_none, show (1 : Int) > 0 by decide, if_true]
      by_cases h : i < 0
      · simp only [h, if_true] <;> omega
      · simp only [h, if_false] <;> omega
  · cases hi with
    | none => simp [sliceBounds, HT.sIx]
    | some i =>
      simp only [sliceBounds, HT.sIx, Option.getD_none, show (1 : Int) > 0 by decide, if_true]
      by_cases h : i < 0
      · simp only [h, if_true] <;> omega
      · simp only [h, if_false] <;> omega
theorem slicePick_cut (its : List Value) (lo hi : Option Int) : slicePick its.toArray lo hi none = ((its.drop (HT.sIx its.length 0 lo)).take (HT.sIx its.length its.length hi - HT.sIx its.length 0 lo)).toArray := by
  obtain ⟨h1, h2, h3⟩ := slice_bounds lo hi its.toArray.size
  unfold slicePick
  rw [h1, h2, h3]
  simp only [sliceRange_one, pick_run, List.size_toArray] <;> rfl
noncomputable def rSlL (K : Frag) : V → Option Int → Option Int → Hp → VK → Prop := fun x lo hi H Q => ∃ a xs, x = .ref a ∧ SqL K H a xs ∧ ∀ p, H p = none → Q (.ref p) (upd H p (.lst (cutV xs lo hi)))
theorem sl_list : SlR X (rSlL X.K) := by
  intro pins s σ H x v vl vu lo hi sl Q I rx hs pl pu h
  obtain ⟨a, xs, rfl, hx, q⟩ := h
  cases rx
  obtain ⟨its, r, ht, hz⟩ := I.list hx
  have hlen := r.length
  refine ⟨"list", _, slot_list_getitem.lookup, ht.isList.typeIs, ?_⟩
  refine wpAny_getItem_list_slice ht.isList hs pl pu .none (by simp) ?_ (by rw [List.size_toArray] <;> omega)
  rw [slicePick_cut, ← hlen]
  refine ⟨.ref s.heap.objs.size, _, I.laid (t' := s.toks) (o := .lst (cutV xs lo hi)) (fun b ob q => Heap.get?_push_of_some _ q) (Nat.le_refl _) ?_, rfl, q _ (I.hok.fresh (Nat.le_refl _))⟩
  exact ⟨Nat.le_trans (cutV_length xs lo hi) hz, _, 0, (r.drop (HT.sIx xs.length 0 lo)).take (HT.sIx xs.length xs.length hi - HT.sIx xs.length 0 lo), Heap.get?_push_size _ rfl⟩

theorem call_len_seq : CallR X (.builtin "len") (fun xs H Q => ∃ p ys, xs = [.ref p] ∧ (SqL X.K H p ys ∨ SqT X.K H p ys) ∧ Q (.int ys.length) H) := by
  intro pins s σ H xs us Q I r h
  obtain ⟨p, ys, rfl, hq, q⟩ := h
  obtain ⟨u, rfl, rx⟩ := vals1 r
  cases rx
  have hn := line63
  rcases hq with hq | hq
  · obtain ⟨its, r', pl, hz⟩ := I.list hq
    have hlen := r'.length
    exact Calls.call_len_list pl.isList (by simp only [List.size_toArray] <;> omega) ⟨.int ys.length, H, I.tok _, ⟨s.toks + 1, by rw [List.size_toArray, hlen]⟩, q⟩
  · obtain ⟨its, r', pl, hz⟩ := I.tuple hq
    have hlen := r'.length
    exact len_tuple pl (by simp only [List.size_toArray] <;> omega) ⟨.int ys.length, H, I.tok _, ⟨s.toks + 1, by rw [List.size_toArray, hlen]⟩, q⟩
theorem CallR.or {f : Value} {r r' : List V → Hp → VK → Prop} (h : CallR X f r) (h' : CallR X f r') : CallR X f (fun xs H Q => r xs H Q ∨ r' xs H Q) := by
  intro pins s σ H xs us Q I rs q
  rcases q with q | q
  · exact h pins s σ H xs us Q I rs q
  · exact h' pins s σ H xs us Q I rs q
theorem call_list_of : CallR X (.type "list") (fun xs H Q => ∃ p ys, xs = [.ref p] ∧ (SqL X.K H p ys ∨ SqT X.K H p ys) ∧ ∀ l, H l = none → Q (.ref l) (upd H l (.lst ys))) := by
  intro pins s σ H xs us Q I r h
  obtain ⟨p, ys, rfl, hq, q⟩ := h
  obtain ⟨u, rfl, rx⟩ := vals1 r
  cases rx
  have fin : ∀ (its : List Value), Vals ys its → ys.length ≤ sizeLine → ∀ (h' : Heap) (c' : Nat), (∀ b o', s.heap.get? b = some o' → h'.get? b = some o') →
      h'.get? s.heap.objs.size = some { cls := .type "list", dict := none, data := .seq its.toArray c', slots := #[] } → EP X pins σ Q (.ref s.heap.objs.size) { s with heap := h' } := fun its r' hz h' c' kp e =>
    ⟨.ref s.heap.objs.size, _, I.laid (t' := s.toks) kp (Nat.le_refl _) (show ObjOk X.prog X.w _ h' _ (.lst ys) from ⟨hz, its, c', r', e⟩), rfl, q _ (I.hok.fresh (Nat.le_refl _))⟩
  rcases hq with hq | hq
  · obtain ⟨its, r', pl, hz⟩ := I.list hq
    have hlen := r'.length
    obtain ⟨o, ho, hc, n, hd⟩ := pl.isList
    exact call_list_seq p (.inl rfl) ho hc hd (fun h' c' kp e => fin its r' hz h' c' kp e) (by simp only [List.size_toArray] <;> omega)
  · obtain ⟨its, r', pl, hz⟩ := I.tuple hq
    have hlen := r'.length
    obtain ⟨o, ho, hc, n, hd⟩ := pl
    exact call_list_seq p (.inr rfl) ho hc hd (fun h' c' kp e => fin its r' hz h' c' kp e) (by simp only [List.size_toArray] <;> omega)
theorem call_tuple_of : CallR X (.type "tuple") (fun xs H Q => ∃ p ys, xs = [.ref p] ∧ ((SqL X.K H p ys ∧ ∀ l, H l = none → Q (.ref l) (upd H l (.tup ys))) ∨ (SqT X.K H p ys ∧ Q (.ref p) H))) := by
  intro pins s σ H xs us Q I r h
  obtain ⟨p, ys, rfl, h⟩ := h
  obtain ⟨u, rfl, rx⟩ := vals1 r
  cases rx
  rcases h with ⟨hq, q⟩ | ⟨hq, q⟩
  · obtain ⟨its, r', pl, hz⟩ := I.list hq
    have hlen := r'.length
    refine call_tuple_list pl.isList (fun h' kp => ?_) (by simp only [List.size_toArray] <;> omega)
    have I1 : Inv X pins σ H { s with heap := h' } := I.kept (t' := s.toks) kp
    have I2 : Inv X pins σ (upd H h'.objs.size (.tup ys)) { s with heap := h'.push { cls := .type "tuple", data := .seq its.toArray } } :=
      I1.laid (t' := s.toks) (fun b o e => Heap.get?_push_of_some _ e) (Nat.le_refl _) (show ObjOk X.prog X.w _ _ _ (.tup ys) from ⟨hz, its, r', IsTup.new _ _⟩)
    exact ⟨.ref h'.objs.size, _, I2, rfl, q _ (I1.hok.fresh (Nat.le_refl _))⟩
  · obtain ⟨its, r', pl, hz⟩ := I.tuple hq
    exact call_tuple_same pl ⟨.ref p, H, I, rfl, q⟩

noncomputable def tyV (K : Frag) (T : String) (x : V) (H : Hp) : Prop := match x with
  | .str _ => T = "str"
  | .int _ => T = "int"
  | .ref p => (T = "list" ∧ ∃ xs, SqL K H p xs) ∨ (T = "tuple" ∧ ∃ o, K.lookup p = some o ∧ o.cls = .type "tuple" ∧ o.dict = none) ∨
      (T = "dict" ∧ ((∃ kvs, H p = some (.dK kvs)) ∨ ∃ kvs, H p = some (.dT kvs))) ∨ (T = "set" ∧ ∃ S n, H p = some (.set S n))
  | _ => False
theorem tyV_is {pins : List (Addr × Obj)} {σ : St} {H : Hp} {s : Shared} {T : String} {x : V} {v : Value} (I : Inv X pins σ H s) (r : RelV x v) (ty : tyV X.K T x H) :
    s.TypeIs v T ∧ ∀ a, v = .ref a → ∃ ob, s.heap.get? a = some ob ∧ ob.dict = none := by
  cases x with
  | str z =>
    obtain ⟨t, rfl⟩ := r
    cases (show T = "str" from ty)
    exact ⟨typeIs_str s z t, fun _ e => nomatch e⟩
  | int i =>
    obtain ⟨t, rfl⟩ := r
    cases (show T = "int" from ty)
    exact ⟨typeIs_int s i t, fun _ e => nomatch e⟩
  | ref p =>
    cases r
    rcases ty with ⟨rfl, xs, hq⟩ | ⟨rfl, o, hk, hc, hd⟩ | ⟨rfl, hk⟩ | ⟨rfl, S, n, hk⟩
    · obtain ⟨its, _, pl, _⟩ := I.list hq
      refine ⟨pl.isList.typeIs, fun a e => ?_⟩
      cases e
      obtain ⟨o, n, e, c, hd, _⟩ := pl
      exact ⟨o, e, hd⟩
    · refine ⟨⟨o, I.kIn p o hk, hc⟩, fun a e => ?_⟩
      cases e
      exact ⟨o, I.kIn _ o hk, hd⟩
    · have z : ∃ o, s.heap.get? p = some o ∧ o.ExactDict := by
        rcases hk with ⟨kvs, hk⟩ | ⟨kvs, hk⟩
        · obtain ⟨_, _, _, _, o, _, _, e, ex, _⟩ := I.hok p _ hk
          exact ⟨o, e, ex⟩
        · obtain ⟨_, _, _, _, o, _, _, e, ex, _⟩ := I.hok p _ hk
          exact ⟨o, e, ex⟩
      obtain ⟨o, e, ex⟩ := z
      refine ⟨⟨o, e, ex.1⟩, fun a e2 => ?_⟩
      cases e2
      exact ⟨o, e, ex.2.1⟩
    · obtain ⟨o, _, _, _, e, ex, _⟩ := I.hok p _ hk
      refine ⟨⟨o, e, ex.1⟩, fun a e2 => ?_⟩
      cases e2
      exact ⟨o, e, ex.2.1⟩
  | _ => exact False.elim ty
noncomputable def tBM0 (K : Frag) (T : String) (r : V → List V → Hp → VK → Prop) (to : TE) : TE := fun σ H Q => to σ H fun x H1 => tyV K T x H1 ∧ r x [] H1 Q
noncomputable def tBM (K : Frag) (T : String) (r : V → List V → Hp → VK → Prop) (to : TE) (t : TA) : TE := fun σ H Q => to σ H fun x H1 => tyV K T x H1 ∧ t σ H1 fun xs H2 => r x xs H2 Q
variable {o e : Expr} {es : List Expr} {to : TE} {t : TA} {name : Str} {apos cpos : Pos} {T id : String} {r : V → List V → Hp → VK → Prop}
theorem pe_bm (pa : PlainAttrs T) (slot : Slot T name id) (hty : typeOf (.builtin id) = pure (.type "method_descriptor")) (hm : MtR X id r) (ho : PE X o to) (ha : PA X (e :: es) t)
    (hbase : attributeBase o name X.env (eval o X.env) = eval o X.env := by rfl)
    (hfew : ((backTo cpos (starEach (e :: es) X.env)).all (fun x => !x.1) && (backToKw cpos (keywordEach [] X.env)).all (fun x => x.1.isSome)
      && decide ((e :: es).length + ([] : List Keyword).length + (if ([] : List Keyword).isEmpty then 0 else 1) < 30)) = true := by rfl)
    (hline : (apos.endLine == cpos.line) = true := by rfl) (hs : starEach (e :: es) X.env = (false, eval e X.env) :: starEach es X.env := by rfl) (hplain : (backTo cpos (starEach es X.env)).any (·.1) = false := by rfl) :
    PE X (.Call (.Attribute o name apos) (e :: es) [] cpos) (tBM X.K T r to t) := by
  intro pins s σ H Q I h
  refine wpAny_Call_method_late hbase hfew hline rfl (thn (ho pins s σ H _ I h) fun v s1 ⟨x, H1, I1, r1, ty, q1⟩ => ?_)
  obtain ⟨h1, h2⟩ := tyV_is I1 r1 ty
  refine ⟨T, id, pa, slot, hty, h1, h2, ?_⟩
  have hA := ha cpos pins s1 σ H1 _ I1 q1
  rw [hs] at hA ⊢
  refine Calls.callWith_builtin (by show (false || (backTo cpos (starEach es X.env)).any (·.1)) = false; rw [hplain] <;> rfl) (Calls.evalArgs_plain ?_)
  exact thn hA fun us s2 ⟨vs, H2, I2, r2, q2⟩ => hm pins s2 σ H2 x vs v us Q I2 r1 r2 q2
end

noncomputable def MtM (X : Cx) (id : String) (r : V → List V → Hp → VK → Prop) : Prop :=
  ∀ (pins : List (Addr × Obj)) (s : Shared) (σ : St) (H : Hp) (x : V) (xs : List V) (v : Value) (us : List Value) (Q : VK), Inv X pins σ H s → RelV x v → Vals xs us → r x xs H Q →
    wpAny (model X.prog X.w) X.A (call (.builtin id) (v :: us)) (EP X pins σ Q) X.xe s

theorem Vals.one : ∀ {x : V} {us : List Value}, Vals [x] us → ∃ u, us = [u] ∧ RelV x u
  | _, _, .cons r .nil => ⟨_, rfl, r⟩
theorem Vals.two : ∀ {x y : V} {us : List Value}, Vals [x, y] us → ∃ u v, us = [u, v] ∧ RelV x u ∧ RelV y v
  | _, _, _, .cons r (.cons q .nil) => ⟨_, _, rfl, r, q⟩
theorem Vals.zero : ∀ {us : List Value}, Vals [] us → us = []
  | _, .nil => rfl
theorem Vals.dropLast {xs : List V} {us : List Value} (h : Vals xs us) : Vals xs.dropLast us.dropLast := by
  induction h with
  | nil => exact .nil
  | cons r t ih =>
    cases t with
    | nil => exact .nil
    | cons q t' => exact .cons r ih
theorem Vals.rep {xs : List V} {us : List Value} (h : Vals xs us) : ∀ k : Nat, Vals (List.replicate k xs).flatten (List.replicate k us).flatten
  | 0 => .nil
  | k + 1 => by
    rw [List.replicate_succ, List.replicate_succ, List.flatten_cons, List.flatten_cons]
    exact Vals.append h (Vals.rep h k)
theorem foldl_rep (its : List Value) : ∀ (k : Nat) (acc : List Value),
    List.foldl (fun x1 x2 => x1 ++ x2) acc.toArray (List.replicate k its.toArray) = (acc ++ (List.replicate k its).flatten).toArray
  | 0, acc => by simp
  | k + 1, acc => by
    have e : acc.toArray ++ its.toArray = (acc ++ its).toArray := by simp
    have e2 : (acc ++ its) ++ (List.replicate k its).flatten = acc ++ (List.replicate (k + 1) its).flatten := by
      rw [List.replicate_succ, List.flatten_cons, List.append_assoc]
    rw [← e2, ← foldl_rep its k (acc ++ its), ← e, List.replicate_succ, List.foldl_cons]

section
variable {X : Cx} {pins : List (Addr × Obj)} {σ : St} {H : Hp} {s : Shared} {l b : Addr} {xs ys zs : List V}

theorem Inv.lset {its its' : List Value} {n : Nat} {f : Array Value → Array Value} {t' : Nat} (I : Inv X pins σ H s) (hH : H l = some (.lst xs))
    (e : s.heap.get? l = some { cls := .type "list", data := .seq its.toArray n }) (hf : f its.toArray = its'.toArray) (hv : Vals ys its') (hz : ys.length ≤ sizeLine) :
    Inv X pins σ (upd H l (.lst ys)) { s with heap := s.heap.update l (Obj.mapSeq f), toks := t' } := by
  have q := PySem.IsL.update e f
  rw [hf] at q
  refine I.write (x := l) (e := l) (by rw [hH]; exact trivial) (.inl rfl) (fun b' u hb hu => (Heap.get?_update_other s.heap (Obj.mapSeq f) (Ne.symm hb)).trans hu) ⟨_, q⟩ ?_
  exact ⟨hz, its', _, hv, q⟩
theorem Inv.lnew {its : List Value} {t' : Nat} (I : Inv X pins σ H s) (hv : Vals ys its) (hz : ys.length ≤ sizeLine) :
    Inv X pins σ (upd H s.heap.objs.size (.lst ys)) { s with heap := s.heap.push { cls := .type "list", data := .seq its.toArray }, toks := t' } :=
  I.laid (fun _ _ q => Heap.get?_push_of_some _ q) (Nat.le_refl _) ⟨hz, its, 0, hv, Heap.get?_push_size _ rfl⟩
theorem Inv.fresh (I : Inv X pins σ H s) : H s.heap.objs.size = none := I.hok.fresh (Nat.le_refl _)
theorem Inv.lstM (I : Inv X pins σ H s) (hH : H l = some (.lst xs)) : xs.length ≤ sizeLine ∧ ∃ (its : List Value) (n : Nat), Vals xs its ∧ xs.length = its.length ∧ s.heap.get? l = some { cls := .type "list", data := .seq its.toArray n } := by
  obtain ⟨z, its, n, r, e⟩ := I.hok l _ hH
  exact ⟨z, its, n, r, r.length, e⟩

theorem notLongL {n : Nat} (h : n ≤ sizeLine) : Builtin.List.listTooLong n = false := by
  unfold Builtin.List.listTooLong
  exact decide_eq_false (by omega)
end

section
variable {X : Cx}

noncomputable def rAppend : V → List V → Hp → VK → Prop := fun x vs H Q => ∃ l xs y, x = .ref l ∧ vs = [y] ∧ H l = some (.lst xs) ∧ xs.length < sizeLine ∧ Q .non (upd H l (.lst (xs ++ [y])))
theorem mt_append : MtM X "list.append" rAppend := by
  intro pins s σ H x vs v us Q I rx rv h
  obtain ⟨l, xs, y, rfl, rfl, hH, hz, q⟩ := h
  cases rx
  obtain ⟨u, rfl, ru⟩ := rv.one
  obtain ⟨z, its, n, r, hl, e⟩ := I.lstM hH
  refine call_meets F.slot_list_append ⟨_, e, rfl⟩ F.entry_list_append (F.args_list_append_2 _ _) (PySem.list_append l its.toArray n u (by rw [List.size_toArray]; omega)) ⟨e, ?_⟩
  refine ⟨.non, _, I.lset (its' := its ++ [u]) hH e (by simp) (r.append (.cons ru .nil)) ?_, rfl, q⟩
  rw [List.length_append, List.length_singleton]
  omega

noncomputable def rCat : R2 := fun x y H Q => ∃ l b xs zs, x = .ref l ∧ y = .ref b ∧ H l = some (.lst xs) ∧ H b = some (.lst zs) ∧ xs.length + zs.length ≤ sizeLine ∧ ∀ p, H p = none → Q (.ref p) (upd H p (.lst (xs ++ zs)))
theorem op_cat : OpR X (binaryOp .Add) rCat := by
  intro pins s σ H x y v u Q I rx ry h
  obtain ⟨l, b, xs, zs, rfl, rfl, hH, hB, hz, q⟩ := h
  cases rx
  cases ry
  obtain ⟨z, its, n, r, hl, e⟩ := I.lstM hH
  obtain ⟨z2, its2, n2, r2, hl2, e2⟩ := I.lstM hB
  refine PySem.P.add_list e e2 ?_ (by rw [List.size_toArray, List.size_toArray]; omega)
  have ea : its.toArray ++ its2.toArray = (its ++ its2).toArray := by simp
  rw [ea]
  exact ⟨.ref _, _, I.lnew (t' := s.toks) (r.append r2) (by rw [List.length_append]; omega), rfl, q _ I.fresh⟩
noncomputable def rRep : R2 := fun x y H Q => ∃ l k xs, x = .ref l ∧ y = .int k ∧ H l = some (.lst xs) ∧ -(2 ^ 63) ≤ k ∧ k < 2 ^ 63 ∧ xs.length * k.toNat ≤ sizeLine ∧
  ∀ p, H p = none → Q (.ref p) (upd H p (.lst (List.replicate k.toNat xs).flatten))
theorem len_rep {α : Type} (xs : List α) (k : Nat) : (List.replicate k xs).flatten.length = k * xs.length := by
  induction k with
  | zero => simp
  | succ k ih => rw [List.replicate_succ, List.flatten_cons, List.length_append, ih, Nat.succ_mul, Nat.add_comm]
theorem op_rep : OpR X (binaryOp .Mult) rRep := by
  intro pins s σ H x y v u Q I rx ry h
  obtain ⟨l, k, xs, rfl, rfl, hH, h1, h2, hz, q⟩ := h
  cases rx
  obtain ⟨t, rfl⟩ := ry
  obtain ⟨z, its, n, r, hl, e⟩ := I.lstM hH
  have hlen : its.toArray.size * k.toNat ≤ sizeLine := by rw [List.size_toArray, ← hl]; exact hz
  have hcap : ¬ its.toArray.size * k.toNat > (2 ^ 63 - 1) / 8 := by
    have : (sizeLine : Nat) ≤ (2 ^ 63 - 1) / 8 := by decide
    omega
  have hfit : ¬ (!Builtin.List.listFitsIndex k) = true := by
    rw [fitsIndex_both h1 h2]
    exact Bool.false_ne_true
  have hlong : ¬ Builtin.List.listTooLong (its.toArray.size * k.toNat) = true := by
    rw [notLongL hlen]
    exact Bool.false_ne_true
  have hnew : List.foldl (fun x1 x2 => x1 ++ x2) #[] (List.replicate (if its.toArray.isEmpty = true then 0 else k.toNat) its.toArray) = (List.replicate k.toNat its).flatten.toArray := by
    have f0 : ∀ m : Nat, List.foldl (fun x1 x2 => x1 ++ x2) #[] (List.replicate m its.toArray) = (List.replicate m its).flatten.toArray := fun m => by
      have := foldl_rep its m []
      rw [List.nil_append] at this
      exact this
    rw [f0]
    cases its with
    | nil => simp
    | cons a r' => rw [if_neg (by simp)]
  refine wpAny_binaryOp_repeat_ref (T := "list") (U := "int") (by decide) ⟨_, e, rfl⟩ (fun s' => typeIs_int s' k t) noFill_list_mul F.fills_int_mul F.slot_int_rmul repeat_list F.slot_int_index.lookup
    (call_meets F.slot_int_rmul (typeIs_int s k t) F.entry_int_rmul (F.args_int_rmul_2 _ _) (int___rmul___int_list k t l its.toArray n)
      ⟨e, rfl, ⟨_, e, rfl⟩, call_meets F.slot_list_mul ⟨_, e, rfl⟩ F.entry_list_mul (F.args_list_mul_2 _ _) (AutoListH.list___mul___list_int_3 l its.toArray n k t hfit hcap hlong) ⟨e, ?_⟩⟩)
  rw [hnew]
  exact ⟨.ref _, _, I.lnew (t' := s.toks) (r.rep k.toNat) (by rw [len_rep, Nat.mul_comm]; exact hz), rfl, q _ I.fresh⟩

end

section
variable {prog : Program} {w : World} {A : Around} {E : Value → Shared → Prop} {s : Shared}
set_option maxRecDepth 100000 in
end

end L2

namespace Att
open PySem PySem.W PySem.Calls PyProof.Rows

theorem ints_of_wellAll {P : Params} {h : Heap} : ∀ (ns : List Int) (vs : List Value), WellAll P h vs (ns.map WData.int) → IntsAre vs ns := by
  intro ns
  induction ns with
  | nil =>
    intro vs w
    rw [List.map_nil] at w
    cases w
    exact .nil
  | cons n ns ih =>
    intro vs w
    rw [List.map_cons] at w
    cases w with
    | cons a b =>
      cases a
      exact .cons _ _ (ih _ b)

theorem script_of {l : OpenLaw} {n : Nat} (hn : l.most = some n) {P : Params} {h : Heap} {args : List WData} {vals : List Value}
    (hpre : l.row.toRowW.claim.pre args = true) (hwl : WellAll P h vals args) :
    ∃ a vs ns, vals = [Value.ref a] ∧ args = [WData.list (ns.map WData.int)] ∧ h.get? a = some { cls := .type "list", data := .seq vs.toArray } ∧ IntsAre vs ns ∧ ns.length ≤ n := by
  have hsh : WShape.hasAll [] args [.list .int] = true := (pre_splitW hpre).1
  have hc : l.pre.holds [] { args := args } = true := (pre_splitW hpre).2
  obtain ⟨d, r, rfl, h1, h2⟩ := hasAllW_cons hsh
  obtain rfl := hasAllW_nil h2
  obtain ⟨xs, rfl, h3⟩ := hasW_list h1
  obtain ⟨ns, rfl⟩ := items_int h3
  have hlen : ns.length ≤ n := by
    unfold OpenLaw.pre at hc
    have h4 : (WTm.not (.lt (.lit (.int (n : Int))) (.len (.arg 0)))).holds [] { args := [.list (ns.map .int)] } = true := by
      have h4 := (holds_andW hc).1
      rw [hn] at h4
      exact h4
    have h5 := condW_of h4 (w_not (w_lt w_lit (w_len_list (w_arg rfl))))
    rw [List.length_map] at h5
    refine Nat.le_of_not_lt fun q => ?_
    have q' : (n : Int) < ((ns.length : Nat) : Int) := by omega
    first
      | (rw [decide_eq_true q'] at h5; exact absurd h5 (by decide))
      | (simp at h5; omega)
  cases hwl with
  | cons w1 w2 =>
    cases w2
    cases w1 with
    | list ho hall => exact ⟨_, _, ns, rfl, rfl, ho, ints_of_wellAll ns _ hall, hlen⟩

theorem post_true (l : OpenLaw) (args : List WData) : l.row.toRowW.claim.post args (.bool true) args = true :=
  postW_of (r := l.row.toRowW) (X := (true == true))
    (show WShape.has [] (.bool true) .bool = true by first | rfl | decide | simp [WShape.has, WShape.arms, WShape.armsAll])
    (show (WTm.eq .res (.lit (.bool true))).value [] { args := args, res := some (.bool true), after := args } = some (.bool (true == true)) from w_eq_bool (w_res rfl) w_lit) rfl

theorem attach_call {l : OpenLaw} {n : Nat} {q : Program} {loose : List Str} {XP : (Str → Option Value) → Heap → Prop} {YP : World → Heap → Prop} {d : DefRec}
    (hn : l.most = some n) (hdf : d.params.defaults = [])
    (call : ∀ (w : World) (s₀ s₁ : Shared) (mg mb : Str → Option Value) (fa : Addr) (o : Obj) (pm cd doc : Value) (a : Addr) (vs : List Value) (ns : List Int),
      Ground q loose [] XP w s₀ mg mb s₁.heap → YP w s₁.heap →
      s₁.heap.get? fa = some o → o.data = .func (docDef d.name d.params d.body d.scope pm cd doc) → s₁.heap.CodeRec cd d.name → mg d.name = some (.ref fa) →
      s₁.heap.get? a = some { cls := .type "list", data := .seq vs.toArray } → IntsAre vs ns → ns.length ≤ n → s₁.gens = #[] →
      codeAny (model l.prog w) callerA (.call (.ref fa) ⟨[.ref a], []⟩) (fun r s' => r = .ok (.ret (.bool true)) ∧ OldK s₁.heap s'.heap ∧ s'.os = s₁.os ∧ AllBare s'.gens) s₁) :
    WalkO q loose XP YP l.row.toRowW d [] (fun f vs => PySem.call f vs) := by
  intro w s₀ s₁ mg mb G Y fa o pm cd doc dV kV ho hd hcd hD hmg hg args vals as hpre hlay hrd hwl hlo
  obtain rfl : dV = .none := Dflts.none hD hdf
  obtain rfl : kV = .none := Dflts.noKw hD
  obtain ⟨a, vs, ns, rfl, rfl, hobj, hints, hlen⟩ := script_of hn hpre hwl
  refine enter_call (codeAny_mono (call w s₀ s₁ mg mb fa o pm cd doc a vs ns G Y ho (fd_plain hd) hcd hmg hobj hints hlen hg) fun r s' hq => ?_)
  obtain ⟨rfl, h2, h3, h4⟩ := hq
  exact ⟨.inl ⟨.bool true, .bool true, [], rfl, fun _ => rfl, .bool true, post_true l _, fun _ => ⟨List.Pairwise.nil, fun _ hm => (nomatch hm)⟩⟩, h2, h3, h4⟩

section
variable {prog : Program} {w : World} {A : Around} {E : Value → Shared → Prop} {s : Shared} {K : Frag}

noncomputable def ledger (h : Heap) (L d : Addr) : List (Addr × Obj) := (List.range h.objs.size).filterMap fun a => if a = L ∨ a = d then none else (h.get? a).map fun o => (a, o)
end
end Att

namespace L2
open PySem PySem.Spec PyProof.Rows
open PySem.W (Frag)

theorem vals_ints : ∀ {vs : List Value} {ns : List Int}, IntsAre vs ns → Vals (ns.map V.int) vs
  | _, _, .nil => .nil
  | _, _, .cons n t h => .cons ⟨t, rfl⟩ (vals_ints h)

noncomputable def Only (H : Hp) : Prop := ∀ b, H b = none ∨ ∃ o xs, H b = some (.frz o (.lst xs))

theorem law_call {P : Program} {w : World} {K : Frag} {mg mb : Str → Option Value} {CX : CXT} {k : Nat} {fa a : Addr} {fd : FuncData} {x : Str} {sp : Sp} {s₁ : Shared} {vs : List Value} {ns : List Int}
    (KX : K.In s₁.heap) (hns : s₁.heap.Ns mainGlobals mg) (hb : s₁.heap.Ns builtinsNs mb) (hbb : ∀ x : Str, x ≠ "__name__" → mb x = bootBuiltins x) (hlim : s₁.heap.NoLimit) (hg : s₁.gens = #[])
    (ha : s₁.heap.get? a = some { cls := .type "list", data := .seq vs.toArray }) (hi : IntsAre vs ns) (hl : ns.length ≤ sizeLine) (hr : Room k callerA)
    (F : ∀ base : Heap, K.In base → base.Ns mainGlobals mg → FnOk P w K mg base CX k fa fd [x] sp) (hbind : ∀ (s : Shared) (u : Value), BindsTo s fd ⟨[u], []⟩ [(x, u)])
    (hsp : ∀ H : Hp, Only H → SqL K H a (ns.map V.int) → sp [.ref a] H (fun v _ => v = .bl true) fun _ _ _ => False)
    (hCX : ∀ H e s', CX [] H s₁ (fun _ _ _ => False) e s' → False) :
    codeAny (model P w) callerA (.call (.ref fa) ⟨[.ref a], []⟩) (fun r s' => r = .ok (.ret (.bool true)) ∧ OldK s₁.heap s'.heap ∧ s'.os = s₁.os ∧ AllBare s'.gens) s₁ := by
  have rv := vals_ints hi
  have lenV := hi.length
  -- from an abstract heap in which nothing but the script may be tracked
  have core : ∀ H : Hp, Only H → SqL K H a (ns.map V.int) → HOk P w H s₁.heap → (∀ b, H b ≠ none → b = a) → (H a ≠ none → K.lookup a = none) →
      codeAny (model P w) callerA (.call (.ref fa) ⟨[.ref a], []⟩) (fun r s' => r = .ok (.ret (.bool true)) ∧ OldK s₁.heap s'.heap ∧ s'.os = s₁.os ∧ AllBare s'.gens) s₁ := by
    intro H hO hS hok hA hK
    have base_of : ∀ {b : Addr} {o : Obj}, s₁.heap.get? b = some o → H b = none → (hidT s₁.heap H).get? b = some o := fun e n => hidT_get e n
    have noA : ∀ {b : Addr} {o : Obj} {es : Array DictEntry} {ep : Nat}, s₁.heap.get? b = some o → o.data = .dict es ep → H b = none := fun {b o es ep} e d => by
      cases q : H b with
      | none => rfl
      | some u =>
        have e' : b = a := hA b (by rw [q]; simp)
        subst e'
        rw [ha] at e; cases e
        have d' : Data.seq vs.toArray _ = Data.dict es ep := d
        cases d'
    have nsK : ∀ {b : Addr} {m : Str → Option Value}, s₁.heap.Ns b m → (hidT s₁.heap H).Ns b m := fun {b m} ⟨o, es, ep, e, d, r⟩ => ⟨o, es, ep, base_of e (noA e d), d, r⟩
    have hKb : K.In (hidT s₁.heap H) := fun b o e => base_of (KX b o e) (by
      cases q : H b with
      | none => rfl
      | some u =>
        have e' : b = a := hA b (by rw [q]; simp)
        subst e'
        rw [hK (by rw [q]; simp)] at e; cases e)
    have hM : Mod K mg (hidT s₁.heap H) := ⟨hKb, nsK hns, ⟨mb, nsK hb, hbb⟩, let ⟨mc, h1, h2⟩ := hlim; ⟨mc, nsK h1, h2⟩⟩
    have e0 : Env0 P w K mg (hidT s₁.heap H) callerA [] s₁ H := ⟨rfl, hM, fun b o e => of_hidT e, Nat.le_of_eq (hidT_size _ _), trivial, fun b hb => absurd (show b ∈ ([] : List Addr) from hb) (by simp), hok, .of_eq hg⟩
    refine codeAny_mono ((F _ hKb (nsK hns)).run callerA [] s₁ H ⟨[.ref a], []⟩ [.ref a] [.ref a] _ _ hr e0 (hbind s₁ (.ref a)) (.cons rfl .nil) (hsp H hO hS)) fun r s' h => ?_
    cases r with
    | error e => exact (hCX H e s' h).elim
    | ok fl =>
      cases fl with
      | next => exact False.elim h
      | brk => exact False.elim h
      | cont => exact False.elim h
      | ret u =>
        obtain ⟨v, H', os, bare, un, hok', r', q⟩ := h
        have q' : v = .bl true := q
        subst q'
        obtain rfl : u = Value.bool true := r'
        refine ⟨rfl, OldK.of_keep fun b o e => ?_, os, bare⟩
        cases q : H b with
        | none => exact un.keep b o e q (by intro z; exact absurd (show b ∈ ([] : List Addr) from z) (by simp)) (by simp)
        | some u =>
          rcases hO b with z | ⟨ob, xs, z⟩
          · rw [q] at z; cases z
          · have z2 := un.frzs b ob _ z
            obtain ⟨e1, _⟩ := hok b _ z
            obtain ⟨e2, _⟩ := hok' b _ z2
            rw [e] at e1; cases e1
            exact e2
  cases hk : K.lookup a with
  | some o =>
    -- the script is one of the module's own objects
    have e := KX a o hk
    rw [ha] at e
    cases e
    refine core (fun _ => none) (fun _ => .inl rfl) (.inr ⟨_, vs.toArray, _, hk, rfl, rfl, rfl, by rw [List.size_toArray, lenV]; exact hl, by simpa using rv⟩) (fun b u z => by have z' : (none : Option HO) = some u := z; cases z') (fun b z => absurd rfl z) fun z => absurd rfl z
  | none =>
    refine core (fun b => if b = a then some (.frz { cls := .type "list", data := .seq vs.toArray } (.lst (ns.map V.int))) else none) (fun b => ?_) (.inl (.inr ⟨{ cls := .type "list", data := .seq vs.toArray }, if_pos rfl⟩)) (fun b u z => ?_) (fun b z => ?_) fun _ => hk
    · by_cases hb : b = a
      · exact .inr ⟨_, _, if_pos hb⟩
      · exact .inl (if_neg hb)
    · by_cases hb : b = a
      · have z' := (if_pos hb).symm.trans z
        cases z'
        subst hb
        exact ⟨ha, by rw [List.length_map]; exact hl, vs, _, rv, ha⟩
      · have z' := (if_neg hb).symm.trans z
        cases z'
    · by_cases hb : b = a
      · exact hb
      · exact absurd (if_neg hb) z

noncomputable abbrev KOf {K : Frag} {h : Heap} (_ : K.In h) : Frag := K

theorem walk_of {l : PySem.W.OpenLaw} {n k : Nat} {q : Program} {loose : List Str} {XP : (Str → Option Value) → Heap → Prop} {YP : World → Heap → Prop} {d : DefRec} {K : Params → Frag} {CX : World → CXT} {sp : World → Sp} {x : Str}
    (hn : l.most = some n) (hn2 : n ≤ sizeLine) (hdf : d.params.defaults = []) (hr : Room k callerA)
    (hY : ∀ (w : World) (h : Heap), YP w h → (K w.params).In h)
    (F : ∀ (w : World) (mg : Str → Option Value) (fa : Addr) (h : Heap), (K w.params).In h → h.Ns mainGlobals mg → mg d.name = some (.ref fa) →
      ∃ fd : FuncData, (∀ (s : Shared) (u : Value), BindsTo s fd ⟨[u], []⟩ [(x, u)]) ∧
        ∀ base : Heap, (K w.params).In base → base.Ns mainGlobals mg → FnOk l.prog w (K w.params) mg base (CX w) k fa fd [x] (sp w))
    (hsp : ∀ (w : World) (H : Hp) (a : Addr) (ns : List Int), ns.length ≤ n → Only H → SqL (K w.params) H a (ns.map V.int) → sp w [.ref a] H (fun v _ => v = .bl true) fun _ _ _ => False)
    (hCX : ∀ (w : World) (H : Hp) (s : Shared) (e : Value) (s' : Shared), CX w [] H s (fun _ _ _ => False) e s' → False) :
    PySem.W.WalkO q loose XP YP l.row.toRowW d [] (fun f vs => PySem.call f vs) := by
  refine Att.attach_call hn hdf fun w s₀ s₁ mg mb fa o pm cd doc a vs ns G Y ho hd hcd hmg hobj hints hlen hg => ?_
  have KX := hY w _ Y
  obtain ⟨fd, hb, hF⟩ := F w mg fa _ KX G.T.g hmg
  exact law_call KX G.T.g G.T.b G.T.builtins G.T.nolimit hg hobj hints (Nat.le_trans hlen hn2) hr hF hb (fun H hO hS => hsp w H a ns hlen hO hS) fun H e s' => hCX w H s₁ e s'

noncomputable def inClass (s : Stmt) (j : Nat) : Stmt := match s with
  | .ClassDef _ _ _ body _ _ _ _ _ _ _ => body.getD j (.Pass ⟨0, 0, 0, 0⟩)
  | _ => .Pass ⟨0, 0, 0, 0⟩
noncomputable def defArgs (s : Stmt) : Arguments := match s with
  | .FunctionDef _ a _ _ _ _ _ _ _ _ => a
  | _ => { posonlyargs := [], args := [], vararg := none, kwonlyargs := [], kw_defaults := [], kwarg := none, defaults := [] }
noncomputable def defBody (s : Stmt) : List Stmt := match s with
  | .FunctionDef _ _ b _ _ _ _ _ _ _ => b
  | _ => []
noncomputable def defScope (s : Stmt) : Scope := match s with
  | .FunctionDef _ _ _ _ _ _ sc _ _ _ => sc
  | _ => { kind := .function, names := [], isGenerator := false, isCoroutine := false }

noncomputable abbrev CX0 : CXT := fun _ _ _ _ _ _ => False
noncomputable abbrev E0 : XK := fun _ _ _ => False
theorem pass0 {X : Cx} : Passes CX0 X E0 := fun _ _ _ _ _ _ _ h => h.elim

structure Fun (K : Frag) (x qual : Str) (st : Stmt) (f : Addr) (fd : FuncData) : Prop where
  ex : ∃ (oc : Value) (od : Option Addr) (kV doc pm : Value) (an : Option Addr) (cdv ct : Value) (osl : Array (Option Value)),
    fd = PySem.W.fnOf x qual (defArgs st) (defBody st) (defScope st) .none kV doc pm an cdv ct ∧ K.lookup f = some ⟨oc, od, .func fd, osl⟩ ∧ PySem.W.codeIn K cdv qual = true
  kp : PySem.W.keepIn K (.ref f) = true
section
variable {P : Program} {w : World} {K : Frag} {mg : Str → Option Value} {base : Heap}
theorem Fun.ok {x qual : Str} {st : Stmt} {f : Addr} {fd : FuncData} {N ps : List Str} {k : Nat} {sp : Sp} (F : Fun K x qual st f fd) (S : FnScope N ps (defScope st)) (len : ∀ vs H Q E, sp vs H Q E → vs.length = ps.length)
    (hbody : ∀ (cdv : Value) (A : Around) (outer : List Env) (s : Shared) (H : Hp) (vs : List V) (Q : VK) (E : XK), Room k (A.deeper (envOfC qual (defScope st) s.heap.objs.size f cdv)) → sp vs H Q E →
      ∃ t, PSs (cxOf CX0 P w K mg base N qual (defScope st) f cdv A outer s H E).nox (defBody st) t ∧ t { nx := fun _ H' => Q .non H', rt := Q } (start N vs) H) : FnOk P w K mg base CX0 (k + 1) f fd ps sp := by
  obtain ⟨oc, od, kV, doc, pm, an, cdv, ct, osl, rfl, lk, hcd⟩ := F.ex
  refine fn_of lk hcd S len fun A outer s H vs Q E hr hsp => ?_
  obtain ⟨t, h, q⟩ := hbody cdv A outer s H vs Q E hr hsp
  exact ⟨t, h.nox, q⟩
theorem Fun.binds {x qual : Str} {st : Stmt} {f : Addr} {fd : FuncData} {ps : List Str} (F : Fun K x qual st f fd)
    (h : ∀ (kV doc pm : Value) (an : Option Addr) (cdv ct : Value) (us : List Value), us.length = ps.length → bindArgs (PySem.W.fnOf x qual (defArgs st) (defBody st) (defScope st) .none kV doc pm an cdv ct) ⟨us, []⟩ = pure (ps.zip us)) : Binds K fd ps [] := by
  obtain ⟨oc, od, kV, doc, pm, an, cdv, ct, osl, rfl, lk, hcd⟩ := F.ex
  exact .all (h kV doc pm an cdv ct)
theorem fun_mk {x qual : Str} {st : Stmt} {f : Addr} {oc : Value} {od an : Option Addr} {osl : Array (Option Value)} {kV doc pm cdv ct : Value} (l : K.lookup f = some ⟨oc, od, .func (PySem.W.fnOf x qual (defArgs st) (defBody st) (defScope st) .none kV doc pm an cdv ct), osl⟩)
    (c : PySem.W.codeIn K cdv qual = true) (k : PySem.W.keepIn K (.ref f) = true) : Fun K x qual st f (PySem.W.fnOf x qual (defArgs st) (defBody st) (defScope st) .none kV doc pm an cdv ct) := ⟨⟨oc, od, kV, doc, pm, an, cdv, ct, osl, rfl, l, c⟩, k⟩
end
theorem small1000 {n : Nat} (h : n ≤ 1000) : n < sizeLine := Nat.lt_of_le_of_lt h (by decide)

section
variable {X : Cx}
theorem pv (i : Nat) {x : Str} {pos : Pos} (hN : X.N[i]? = some x := by rfl) (hv : Vis X.env.scope x := by first | exact Or.inl rfl | exact Or.inr (Or.inl rfl) | exact Or.inr (Or.inr rfl)) (hd : (x == ("__debug__" : Str)) = false := by decide)
    (hcd : (x == ("__classdict__" : Str)) = false := by decide) : PE X (.Name x pos) (tVar i) := pe_var hN hv hd hcd
end

theorem iteF {A B : Prop} (h : B) : if false = true then A else B := by
  rw [if_neg Bool.false_ne_true]
  exact h
theorem iteT {A B : Prop} (h : A) : if true = true then A else B := by
  rw [if_pos rfl]
  exact h
theorem ite2 {c A B : Prop} [Decidable c] (h1 : c → A) (h2 : ¬ c → B) : if c then A else B := by
  by_cases h : c
  · rw [if_pos h]
    exact h1 h
  · rw [if_neg h]
    exact h2 h
noncomputable def Same (H H' : Hp) : Prop := ∀ b o, H b = some o → H' b = some o
theorem Same.refl (H : Hp) : Same H H := fun _ _ h => h
theorem Same.trans {H H1 H2 : Hp} (a : Same H H1) (b : Same H1 H2) : Same H H2 := fun c o h => b c o (a c o h)
theorem Same.free {H H' : Hp} (e : Same H H') {l : Addr} (h : H' l = Option.none) : H l = Option.none := by
  cases q : H l with
  | none => rfl
  | some o =>
    rw [e l o q] at h
    cases h
theorem Same.seq {K : Frag} {H H' : Hp} {a : Addr} {xs : List V} (e : Same H H') (h : SqL K H a xs) : SqL K H' a xs := by
  rcases h with (h | ⟨o, h⟩) | h
  · exact .inl (.inl (e _ _ h))
  · exact .inl (.inr ⟨o, e _ _ h⟩)
  · exact .inr h

end L2

set_option maxHeartbeats 4000000
namespace L2
open PySem PySem.Spec PyProof.Rows
open PySem.W (Frag)

noncomputable def clOf (env : Env) : List (Str × NameKind) → List (Str × Addr) → List (Str × Addr)
  | [], cs => cs
  | (n, k) :: r, cs => clOf env r (if k == .free then (n, (env.cells.lookup n).getD 0) :: cs else cs)
theorem clOf_lookup {env : Env} {n : Str} {c : Addr} : ∀ {l : List (Str × NameKind)} {cs : List (Str × Addr)}, (∀ y ∈ l, y.2 = .free → ∃ c, env.cells.lookup y.1 = some c) →
    (clOf env l cs).lookup n = some c → cs.lookup n = some c ∨ env.cells.lookup n = some c
  | [], _, _, h => .inl h
  | (m, k) :: r, cs, hl, h => by
    have hr : ∀ y ∈ r, y.2 = .free → ∃ c, env.cells.lookup y.1 = some c := fun y hy => hl y (List.mem_cons_of_mem _ hy)
    rcases clOf_lookup hr h with q | q
    · by_cases hk : (k == NameKind.free) = true
      · rw [if_pos hk] at q
        obtain ⟨c', e⟩ := hl (m, k) List.mem_cons_self (by simpa using hk)
        rw [List.lookup_cons] at q
        cases hm : n == m with
        | true =>
          rw [hm] at q
          have q' : (env.cells.lookup m).getD 0 = c := Option.some.inj q
          have em : n = m := by simpa using hm
          rw [e] at q'
          have q2 : c' = c := q'
          rw [em, e, q2]
          exact .inr rfl
        | false =>
          rw [hm] at q
          exact .inl q
      · rw [if_neg hk] at q
        exact .inl q
    · exact .inr q
theorem clOf_has {env : Env} {n : Str} : ∀ {l : List (Str × NameKind)} {cs : List (Str × Addr)}, ((n, NameKind.free) ∈ l ∨ ∃ c, cs.lookup n = some c) → ∃ c, (clOf env l cs).lookup n = some c
  | [], _, h => by
    rcases h with h | h
    · simp at h
    · exact h
  | (m, k) :: r, cs, h => by
    refine clOf_has (l := r) ?_
    by_cases hn : (n, NameKind.free) ∈ r
    · exact .inl hn
    · refine .inr ?_
      rcases h with h | ⟨c, h⟩
      · rcases List.mem_cons.mp h with e | e
        · cases e
          rw [if_pos (by decide)]
          exact ⟨(env.cells.lookup n).getD 0, by rw [List.lookup_cons]; simp⟩
        · exact absurd e hn
      · by_cases hk : (k == NameKind.free) = true
        · rw [if_pos hk, List.lookup_cons]
          cases hm : n == m with
          | true => exact ⟨_, rfl⟩
          | false => exact ⟨c, h⟩
        · rw [if_neg hk]
          exact ⟨c, h⟩
theorem closure_is {scope : Scope} {env : Env} (h : ∀ y ∈ scope.names, y.2 = .free → ∃ c, env.cells.lookup y.1 = some c) : closureFor scope env = pure (clOf env scope.names []) := by
  have go : ∀ (l : List (Str × NameKind)) (cs : List (Str × Addr)), (∀ y ∈ l, y.2 = .free → ∃ c, env.cells.lookup y.1 = some c) →
      (forIn l cs (fun (x : Str × NameKind) (r : List (Str × Addr)) => if x.2 == NameKind.free then (do let a ← cellOf env x.1; pure (ForInStep.yield ((x.1, a) :: r))) else (pure (ForInStep.yield r) : Sem _)) : Sem _) = pure (clOf env l cs) := by
    intro l
    induction l with
    | nil => intro cs _; rfl
    | cons y r ih =>
      intro cs hl
      obtain ⟨n, k⟩ := y
      have hr : ∀ y ∈ r, y.2 = .free → ∃ c, env.cells.lookup y.1 = some c := fun y hy => hl y (List.mem_cons_of_mem _ hy)
      rw [List.forIn_cons]
      by_cases hk : (k == NameKind.free) = true
      · obtain ⟨c, e⟩ := hl (n, k) List.mem_cons_self (by simpa using hk)
        have e1 : cellOf env n = pure c := by unfold cellOf; rw [show env.cells.lookup n = some c from e]
        dsimp only
        rw [if_pos hk, e1]
        simp only [pure_bind]
        rw [ih _ hr]
        show _ = pure (clOf env r _)
        rw [if_pos hk, show env.cells.lookup n = some c from e]
        all_goals rfl
      · dsimp only
        rw [if_neg hk]
        simp only [pure_bind]
        rw [ih _ hr]
        show _ = pure (clOf env r _)
        rw [if_neg hk]
  have e : closureFor scope env = (forIn scope.names ([] : List (Str × Addr)) (fun (x : Str × NameKind) (r : List (Str × Addr)) => if x.2 == NameKind.free then (do let a ← cellOf env x.1; pure (ForInStep.yield ((x.1, a) :: r))) else (pure (ForInStep.yield r) : Sem _)) : Sem _) := by
    unfold closureFor
    first
      | rfl
      | (simp only [bind_pure]; rfl)
      | (simp; done)
  rw [e]
  exact go _ _ h

theorem relabel_free {env : Env} : ∀ {names : List (Str × NameKind)} {x : Str}, names.lookup x = some .free →
    (names.map fun (n, k) => if (k == NameKind.free && env.scope.kind == .function && env.kindOf n == some .cell) then (n, NameKind.cell) else (n, k)).lookup x = some .cell ∨
    (names.map fun (n, k) => if (k == NameKind.free && env.scope.kind == .function && env.kindOf n == some .cell) then (n, NameKind.cell) else (n, k)).lookup x = some .free
  | [], _, h => by simp at h
  | (n, k) :: r, x, h => by
    have ih := @relabel_free env r x
    cases hx : x == n with
    | true =>
      simp only [List.lookup_cons, hx] at h
      cases h
      by_cases hc : (NameKind.free == NameKind.free && env.scope.kind == .function && env.kindOf n == some .cell) = true
      · refine .inl ?_
        rw [List.map_cons]
        dsimp only
        rw [if_pos hc, List.lookup_cons, hx]
      · refine .inr ?_
        rw [List.map_cons]
        dsimp only
        rw [if_neg hc, List.lookup_cons, hx]
    | false =>
      simp only [List.lookup_cons, hx] at h
      rw [List.map_cons]
      dsimp only
      by_cases hc : (k == NameKind.free && env.scope.kind == .function && env.kindOf n == some .cell) = true
      · rw [if_pos hc, List.lookup_cons, hx]; exact ih h
      · rw [if_neg hc, List.lookup_cons, hx]; exact ih h
structure CompOk (X : Cx) (scope : Scope) (x : Str) (fr : List (Str × Nat)) : Prop where
  kind : scope.kind = .function
  cell : ∀ y ∈ scope.names, y.2 ≠ .cell
  free : ∀ y ∈ scope.names, y.2 = .free → X.env.kindOf y.1 = some .cell ∨ X.env.kindOf y.1 = some .free
  loc : ∀ y ∈ scope.names, y.2 = .local → scope.names.lookup y.1 = some .local
  name : scope.names.lookup x = some .local
  nd : (x :: fr.map (·.1)).Nodup
  fr : ∀ p ∈ fr, X.N[p.2]? = some p.1 ∧ scope.names.lookup p.1 = some .free

noncomputable def frees (fr : List (Str × Nat)) (σ : St) : St := fr.map fun p => σ.getD p.2 none
section
variable {X : Cx} {scope : Scope} {x : Str} {fr : List (Str × Nat)}
theorem CompOk.cells {pins : List (Addr × Obj)} {σ : St} {H : Hp} {s : Shared} (c : CompOk X scope x fr) (I : Inv X pins σ H s) : ∀ y ∈ scope.names, y.2 = .free → ∃ c, X.env.cells.lookup y.1 = some c :=
  fun y hy hf => I.ok.has y.1 (c.free y hy hf)
theorem CompOk.was {pins : List (Addr × Obj)} {σ : St} {H : Hp} {s : Shared} (c : CompOk X scope x fr) (I : Inv X pins σ H s) {y : Str} {b : Addr} (h : (clOf X.env scope.names []).lookup y = some b) : X.env.cells.lookup y = some b := by
  rcases clOf_lookup (c.cells I) h with q | q
  · simp at q
  · exact q

noncomputable def tSetC (i : Nat) (te : TE) : TS := fun D σ H => te σ H fun v H1 => D.nx (σ.set i (some v)) H1
end


theorem ObjOk.there {P : Program} {w : World} {H : Hp} {h : Heap} {a : Addr} {o : HO} (x : ObjOk P w H h a o) : ∃ ob, h.get? a = some ob := by
  cases o with
  | lst xs => obtain ⟨_, _, _, _, e⟩ := x; exact ⟨_, e⟩
  | tup xs => obtain ⟨_, _, _, ob, e, _⟩ := x; exact ⟨ob, e⟩
  | dK kvs => obtain ⟨_, _, _, _, o, _, _, e, _⟩ := x; exact ⟨_, e⟩
  | dT kvs => obtain ⟨_, _, _, _, o, _, _, e, _⟩ := x; exact ⟨_, e⟩
  | set S n => obtain ⟨o, _, _, _, e, _⟩ := x; exact ⟨_, e⟩
  | ins C dx fs => obtain ⟨_, _, _, e, _⟩ := x; exact ⟨_, e⟩
  | own y => exact x
  | xd fs => obtain ⟨_, ⟨_, _, _, e, _⟩, _⟩ := x; exact ⟨_, e⟩
  | rng lo hi => obtain ⟨_, _, _, e⟩ := x; exact ⟨_, e⟩
  | frz ob u => exact ⟨_, x.1⟩
  | tbl ps => exact ⟨_, x⟩
  | met f y => exact ⟨_, x⟩
  | ext φ => exact x.2.1

noncomputable abbrev Cov (fs : List Addr) (h₀ : Heap) (H : Hp) (h B : Heap) : Prop := ∀ b o, h.get? b = some o → b ∉ fs → ((∃ o', h₀.get? b = some o') ∨ ∃ u, H b = some u) → B.get? b = some o
noncomputable def CX1 (P : Program) (w : World) : CXT := fun outer H s E ev s' => ∃ e C H' B a0, ev = .ref e ∧ s'.os = s.os ∧ AllBare s'.gens ∧ Un (frs outer) [] H H' s.heap s'.heap ∧ HOk P w H' s'.heap ∧
  Heap.FlyingW B outer e C a0 s'.heap ∧ Cov (frs outer) s.heap H' s'.heap B ∧ E C none H'
noncomputable abbrev XE := St → Value → Hp → Prop
noncomputable def LandsN (X : Cx) (EX : XE) : Prop := ∀ (pins : List (Addr × Obj)) (σ : St) (H : Hp) (s : Shared) (h' : Heap) (e : Addr) (C : Value) (vs : List Value), Inv X pins σ H s → Heap.MadeExcOf s.heap h' e C vs → EX σ C H → X.xe (.ref e) { s with heap := h' }

theorem fly_out {X : Cx} {pins : List (Addr × Obj)} {σ : St} {H : Hp} {s : Shared} {h'' B : Heap} (I : Inv X pins σ H s) (hst : X.stack = X.env :: X.outer) (hfr : X.env.frame = some X.env.locals) (hex : X.ex = [])
    (stay : B.StaysIn h'') (sm : s.heap.UpToSlots h'') (cov : Cov (frs X.stack) X.s₀.heap H s.heap B) :
    Un X.fs [] X.H₀ H X.s₀.heap h'' ∧ HOk X.prog X.w H h'' ∧ Cov X.fs X.s₀.heap H h'' B := by
  have u := I.base
  rw [hex] at u
  have hfs : frs X.stack = X.env.locals :: X.fs := by
    rw [hst]
    unfold frs
    rw [List.filterMap_cons, hfr]
    rfl
  have old : ∀ b o, X.s₀.heap.get? b = some o → b ∉ X.fs → b ∉ frs X.stack := fun b o e hb hm => by
    rw [hfs] at hm
    rcases List.mem_cons.mp hm with z | z
    · exact absurd (Nat.lt_of_lt_of_le (Heap.lt_size e) I.ok.above) (by rw [z]; exact Nat.lt_irrefl _)
    · exact hb z
  have trk : ∀ b v, H b = some v → b ∉ frs X.stack := fun b v e hm => by
    have := I.stkFree b hm
    rw [e] at this
    cases this
  have keepO : ∀ b o, s.heap.get? b = some o → b ∉ frs X.stack → ((∃ o', X.s₀.heap.get? b = some o') ∨ ∃ v, H b = some v) → h''.get? b = some o := fun b o e hb hc => stay b o (cov b o e hb hc)
  have frm : ∀ b, b ∈ X.fs → ∀ o, s.heap.get? b = some o → ∃ sl, h''.get? b = some { o with slots := sl } := fun b hb o e => by
    obtain ⟨_, o', e', nf⟩ := I.funs.mem hb
    rw [e] at e'
    cases e'
    exact sm b o e nf
  refine ⟨⟨fun b o e n hb hx => ?_, fun b o e n hb hx => ?_, u.free, fun b o e hx => ?_, u.tups, u.frzs, u.tbls⟩, fun a o ha => ?_, fun b o e hb hc => ?_⟩
  · exact keepO b o (u.keep b o e n hb hx) (old b o e hb) (.inl ⟨o, e⟩)
  · obtain ⟨sl, e1⟩ := u.slot b o e n hb hx
    obtain ⟨sl', e2⟩ := frm b hb _ e1
    exact ⟨sl', e2⟩
  · obtain ⟨o1, e1⟩ := u.there b o e hx
    by_cases hb : b ∈ X.fs
    · obtain ⟨sl, e2⟩ := frm b hb _ e1
      exact ⟨_, e2⟩
    · exact ⟨o1, keepO b o1 e1 (old b o e hb) (.inl ⟨o, e⟩)⟩
  · refine (I.hok a o ha).stay (fun b v hb q => ?_) (fun _ q => q) fun _ _ q => q
    rcases hb with hb | hb
    · subst hb
      exact keepO b v q (trk b o ha) (.inr ⟨o, ha⟩)
    · exact keepO b v q (trk b _ hb) (.inr ⟨_, hb⟩)
  · rcases hc with ⟨o', e'⟩ | ⟨v, e'⟩
    · obtain ⟨o1, e1⟩ := u.there b o' e' (by simp)
      have q := keepO b o1 e1 (old b o' e' hb) (.inl ⟨o', e'⟩)
      rw [e] at q
      cases q
      exact cov b o e1 (old b o' e' hb) (.inl ⟨o', e'⟩)
    · obtain ⟨o1, e1⟩ := (I.hok b v e').there
      have q := keepO b o1 e1 (trk b v e') (.inr ⟨v, e'⟩)
      rw [e] at q
      cases q
      exact cov b o e1 (trk b v e') (.inr ⟨v, e'⟩)

section
variable {P : Program} {w : World} {K : Frag} {mg : Str → Option Value} {base : Heap} {N : List Str} {qual : Str} {scope : Scope} {f : Addr} {cd : Value} {A : Around} {outer : List Env} {s₀ : Shared} {H₀ : Hp} {E : XK}
theorem landsN_def : LandsN (cxOf (CX1 P w) P w K mg base N qual scope f cd A outer s₀ H₀ E) (fun _ C H => E C none H) := by
  intro pins σ H s h' e C vs I M hE
  have hfu := I.stack
  have hid := PySem.W.funFrames_hide (as := frs (cxOf (CX1 P w) P w K mg base N qual scope f cd A outer s₀ H₀ E).stack) hfu (fun env he a ha => List.mem_filterMap.mpr ⟨env, he, ha⟩)
  refine wpAny_leaves_madeW (s := { s with heap := h' }) (h := s.heap) I.ok.frames rfl (fun b o q => PySem.W.of_hideAll _ q) hid M fun h'' t fl'' _ _ sm => ?_
  obtain ⟨un, ok, cv⟩ := fly_out I rfl rfl rfl fl''.1 ((Heap.UpToSlots.of_keeps M.keeps).trans sm) fun b o q hb _ => PySem.W.hideAll_get _ q hb
  exact ⟨e, C, H, _, _, rfl, I.os, I.bare, un, ok, fl'', cv, hE⟩
end

section
variable {X : Cx} {EX : XE} {k : Nat} {f : Addr} {fd : FuncData} {ps : List Str} {sp : Sp} {dvs : List V} {ds : List Value} {x : Str} {p pos : Pos} {e : Expr} {es : List Expr} {t : TA}
noncomputable def tCallX (sp : Sp) (dvs : List V) (EX : XE) (t : TA) : TE := fun σ H Q => t σ H fun vs H1 => sp (vs ++ dvs) H1 Q fun C _ H' => EX σ C H'
theorem passes1 {P : Program} {w : World} {Y : Cx} : Passes (CX1 P w) Y E0 := fun _ _ _ _ _ _ _ h => by
  obtain ⟨_, _, _, _, _, _, _, _, _, _, _, _, q⟩ := h
  exact q.elim
end

theorem excObj {K : Frag} {h : Heap} {C : Addr} {bmB : List Value} {newId : String} (KX : K.In h) (hq : PySem.W.excIn K C bmB newId = true) :
    ∃ bm N nm qn bs hd sn sub ab col dd k0 k1 k2 k3 k5 mN, h.get? C = some (excClassObj nm qn C N bs bm hd sn sub ab col dd k0 k1 k2 k3 k5 newId) ∧ h.Ns N mN ∧ mN "__init__" = none ∧ OwnTail h bmB bm := by
  revert hq
  unfold PySem.W.excIn
  split
  · next dd cd sl lk =>
    split
    · next C1 bm k0 k1 k2 k3 nw k5 em es =>
      intro hq
      simp only [Bool.and_eq_true, beq_iff_eq, Bool.not_eq_true'] at hq
      obtain ⟨⟨⟨⟨⟨e1, e2⟩, e3⟩, e4⟩, e5⟩, e6⟩ := hq
      subst e1 e2
      cases cd with
      | mk nm bs mro ns qn hd sn sub ab col del =>
        have em' : mro = Value.ref C1 :: bm := em
        have e3' : del = false := e3
        subst em' e3'
        have esl : sl = #[k0, k1, k2, k3, some (Value.builtin nw), k5] := by
          cases sl with
          | mk l => exact congrArg Array.mk es
        subst esl
        exact ⟨bm, ns, nm, qn, bs, hd, sn, sub, ab, col, dd, k0, k1, k2, k3, k5, _, KX _ _ lk, Heap.Ns.of_isNs (PySem.W.isNs_of_in KX e5), PySem.W.nsMap_none_of_in KX e5 e6, PySem.W.tail_of_in KX e4⟩
    · intro z; cases z
  · intro z; cases z
theorem OwnTail.up {h h' : Heap} {bmB bm : List Value} (T : OwnTail h bmB bm) (k : ∀ b o, h.get? b = some o → h'.get? b = some o) : OwnTail h' bmB bm := T.keeps k

section
variable {X : Cx} {EX : XE} {C : Addr} {x : Str} {np cpos pos : Pos} {e₀ : Expr} {rest : List Expr} {t : TA} {bmB : List Value} {B newId initId : String}
noncomputable def tRaise (C : Addr) (EX : XE) (t : TA) : TS := fun _ σ H => t σ H fun vs H1 => vs.length ≤ sizeLine ∧ EX σ (.ref C) H1
theorem ps_raise (hc : X.calm = true) (hx : LandsN X EX) (hg : Gl X x) (hm : X.mg x = some (.ref C)) (hC : PySem.W.excIn X.K C bmB newId = true) (FB : ExcBaseFacts B newId initId bmB) (ha : PA X (e₀ :: rest) t)
    (hdb : (x == ("__debug__" : Str)) = false := by decide) (he : starEach (e₀ :: rest) X.env = (false, eval e₀ X.env) :: starEach rest X.env := by rfl) (hpl : (backTo cpos (starEach rest X.env)).any (·.1) = false := by rfl) :
    PS X (.Raise (some (.Call (.Name x np) (e₀ :: rest) [] cpos)) none pos) (tRaise C EX t) := by
  intro pins s σ H D I h
  obtain ⟨bm, N, nm, q, bs, hd, sn, sub, ab, col, dd, k0, k1, k2, k3, k5, mN, hcls, hns, hni, T⟩ := excObj I.mod.kin hC
  have hpl' : (backTo cpos (starEach (e₀ :: rest) X.env)).any (·.1) = false := by
    rw [he]
    show (false || (backTo cpos (starEach rest X.env)).any (·.1)) = false
    rw [hpl]
    rfl
  refine wpAny_Raise_call_subT (C := C) (nm := nm) (q := q) (N := N) (bs := bs) (bm := bm) (hdct := hd) (sn := sn) (sub := sub) (ab := ab) (col := col) (dd := dd) (k0 := k0) (k1 := k1) (k2 := k2) (k3 := k3) (k5 := k5) FB (mN := mN) (T.hasType FB.hasBase) (I.ok.hd hc) hpl' hni
    (ld_glob I hg hm ⟨rfl, ?_⟩ hdb)
  have hw := ha cpos pins s σ H _ I h
  rw [he] at hw ⊢
  refine Calls.evalArgs_plain (thn hw fun us s2 ⟨vs, H2, I2, r, z, q2⟩ => ⟨rfl, ?_, I2.bk _ _ hcls, hns.keeps I2.bk, T.keeps I2.bk, fun h' e M => hx pins σ H2 s2 h' e _ us I2 M q2⟩)
  show us.length ≤ sizeLine
  rw [← r.length]
  exact z
end

section
variable {X : Cx} {pins : List (Addr × Obj)} {σ : St} {H : Hp} {s : Shared}
noncomputable def ExcAt (e : Addr) (C : Value) : HO := .ext fun h => ∃ o, h.get? e = some o ∧ o.cls = C
end

noncomputable abbrev Cx.body (X : Cx) (pn : List (Addr × Obj)) (E : Value → Shared → Prop) : Cx := { X with pn := pn, xe := E }
noncomputable abbrev Cx.suite (X : Cx) (e : Addr) : Cx := { X with A := X.A.mark (some (.ref e)), calm := false, xe := fun _ _ => False }
section
variable {X : Cx}
theorem op_mulB : OpR X (binaryOp .Mult) (rI (fun i j => IntMulOk i j) fun i j => .int (i * j)) := opI fun _ _ _ _ _ _ _ hc q => mul_int q hc
noncomputable def CDivB (_ j : Int) : Prop := j ≠ 0 ∧ j.natAbs.log2 < 9000
theorem op_fdivB : OpR X (binaryOp .FloorDiv) (rI CDivB fun i j => .int (i.fdiv j)) := opI fun _ _ _ _ _ _ _ hc q => floordiv_int hc.1 q (.inl (PyProof.noPylong_of_log2 hc.2))
end

mutual
inductive Dt (K : Frag) (H : Hp) : V → PyData → Prop
  | non : Dt K H .non .none
  | bl (b) : Dt K H (.bl b) (.bool b)
  | int (i) : Dt K H (.int i) (.int i)
  | str (x) : Dt K H (.str x) (.str x)
  | lst {a xs ds} : SqL K H a xs → Dts K H xs ds → Dt K H (.ref a) (.list ds)
  | tup {a xs ds} : SqT K H a xs → Dts K H xs ds → Dt K H (.ref a) (.tuple ds)
inductive Dts (K : Frag) (H : Hp) : List V → List PyData → Prop
  | nil : Dts K H [] []
  | cons {x xs d ds} : Dt K H x d → Dts K H xs ds → Dts K H (x :: xs) (d :: ds)
end
theorem Dts.ints {K : Frag} {H : Hp} : ∀ (ns : List Int), Dts K H (ns.map V.int) (ns.map PyData.int)
  | [] => .nil
  | n :: r => .cons (.int n) (Dts.ints r)
section
variable {X : Cx} {pins : List (Addr × Obj)} {σ : St} {H : Hp} {s : Shared}
mutual
theorem Dt.reads (I : Inv X pins σ H s) : ∀ {x : V} {d : PyData} {u : Value}, Dt X.K H x d → RelV x u → ∃ as, Reads s.heap u d as
  | _, _, _, .non, r => by cases (show _ = Value.none from r); exact ⟨_, .none⟩
  | _, _, _, .bl b, r => by cases (show _ = Value.bool b from r); exact ⟨_, .bool b⟩
  | _, _, _, .int i, r => by obtain ⟨t, e⟩ := (show ∃ t, _ = Value.int i t from r); cases e; exact ⟨_, .int i t⟩
  | _, _, _, .str x, r => by obtain ⟨t, e⟩ := (show ∃ t, _ = Value.str x t from r); cases e; exact ⟨_, .str x t⟩
  | _, _, _, .lst (a := a) h hd, r => by
    cases (show _ = Value.ref a from r)
    obtain ⟨its, rv, ⟨o, n, e, c, _, dd⟩, _⟩ := I.list h
    obtain ⟨as, q⟩ := Dts.reads I hd rv
    exact ⟨_, .list e c dd (by simpa using q)⟩
  | _, _, _, .tup (a := a) h hd, r => by
    cases (show _ = Value.ref a from r)
    obtain ⟨its, rv, ⟨o, e, c, n, dd⟩, _⟩ := I.tuple h
    obtain ⟨as, q⟩ := Dts.reads I hd rv
    exact ⟨_, .tuple e c dd (by simpa using q)⟩
theorem Dts.reads (I : Inv X pins σ H s) : ∀ {xs : List V} {ds : List PyData} {us : List Value}, Dts X.K H xs ds → Vals xs us → ∃ as, ReadsAll s.heap us ds as
  | _, _, _, .nil, r => by cases r; exact ⟨_, .nil⟩
  | _, _, _, .cons h t, r => by
    cases r with
    | cons r1 r2 =>
      obtain ⟨as, q1⟩ := Dt.reads I h r1
      obtain ⟨bs, q2⟩ := Dts.reads I t r2
      exact ⟨_, .cons q1 q2⟩
end
end
section
variable {X : Cx}
noncomputable def rEqD (K : Frag) : R2 := fun x y H Q => ∃ d d', Dt K H x d ∧ Dt K H y d' ∧ SeqAt.shaped d = true ∧ SeqAt.shaped d' = true ∧ SeqAt.noMix d d' = true ∧ Q (.bl (same d d')) H
noncomputable def rNeD (K : Frag) : R2 := fun x y H Q => ∃ d d', Dt K H x d ∧ Dt K H y d' ∧ SeqAt.shaped d = true ∧ SeqAt.shaped d' = true ∧ SeqAt.noMix d d' = true ∧ Q (.bl (!same d d')) H
theorem op_eqD (hu : X.A.units + 64 < cLine) : OpR X (compareOp .Eq) (rEqD X.K) := by
  intro pins s σ H x y v u Q I rx ry h
  obtain ⟨d, d', h1, h2, s1, s2, mx, q⟩ := h
  obtain ⟨as, r1⟩ := h1.reads I rx
  obtain ⟨bs, r2⟩ := h2.reads I ry
  exact eq_dataH_same r1 r2 s1 s2 hu mx ⟨.bl (same d d'), H, I, rfl, q⟩
theorem op_neD (hu : X.A.units + 64 < cLine) : OpR X (compareOp .NotEq) (rNeD X.K) := by
  intro pins s σ H x y v u Q I rx ry h
  obtain ⟨d, d', h1, h2, s1, s2, mx, q⟩ := h
  obtain ⟨as, r1⟩ := h1.reads I rx
  obtain ⟨bs, r2⟩ := h2.reads I ry
  exact ne_dataH_same r1 r2 s1 s2 hu mx ⟨.bl (!same d d'), H, I, rfl, q⟩
end

theorem PI.or {X : Cx} {tg l : Expr} {wi wi' : TI} (h : PI X tg l wi) (h' : PI X tg l wi') : PI X tg l (fun σ H R => wi σ H R ∨ wi' σ H R) := by
  intro pins s σ H R I q
  rcases q with q | q
  · exact h pins s σ H R I q
  · exact h' pins s σ H R I q

structure ExcCls (K : Frag) (C : Addr) : Prop where
  ga : PySem.W.findIn K (.ref C) "__getattribute__" = some (some (.builtin "BaseException.__getattribute__"))
  gt : PySem.W.findIn K (.ref C) "__getattr__" = some none
  ca : PySem.W.findIn K (.ref C) "__class__" = some (some (.builtin "object.__class__"))
  cg : PySem.W.specialIn K (.builtin "object.__class__") "__get__" = some (some (.builtin "getset_descriptor.__get__"))
  tk : PySem.W.takesIn K (.builtin "object.__class__") = some true
  ob : PySem.W.mroIn K C (.type "object") = some true
  bx : PySem.W.mroIn K C (.type "BaseException") = some true
  cl : (PySem.W.clsIn K C).isSome = true
theorem exc_class {prog : Program} {w : World} {A : Around} {E : Value → Shared → Prop} {s : Shared} {K : Frag} {x C : Addr} {Q : Option Value → Shared → Prop} (F : ExcCls K C) (KX : K.In s.heap) (ho : ∃ o, s.heap.get? x = some o ∧ o.cls = .ref C)
    (h : Q (some (.ref C)) { s with toks := s.toks + 1 }) : wpAny (model prog w) A (getAttr? (.ref x) "__class__") Q E s := by
  obtain ⟨hh, g, d, t, os⟩ := s
  obtain ⟨o, ho, hc⟩ := ho
  have L0 : PySem.W.Looks (model prog w) hh (typeOf (.ref x)) (.ref C) := hc ▸ (PySem.W.Looks.ld ho).andThen .now
  have L1 := PySem.W.looks_findIn (M := model prog w) KX F.ga
  have L2 := PySem.W.looks_findIn (M := model prog w) KX F.gt
  have L3 := PySem.W.looks_findIn (M := model prog w) KX F.ca
  have L4 := PySem.W.looks_specialIn (M := model prog w) KX F.cg
  have L5 := PySem.W.looks_takesIn (M := model prog w) KX F.tk
  have L6 := PySem.W.looks_mroIn (M := model prog w) KX F.ob
  have L7 := PySem.W.looks_mroIn (M := model prog w) KX F.bx
  unfold getAttr? getAttrBy? getAttrBy
  refine wpAny_bind (wpAny_mkText (wpAny_bind (wpAny_attempt (wpAny_holding (wpAny_bind (L0.at (wpAny_bind (L1.at ?_))))))))
  show wpAny _ _ (getAttrByItsOwn _ _ _ _ _ _) _ _ _
  unfold getAttrByItsOwn
  refine wpAny_bind (show wpAny _ _ (hookBefore (.ref C)) _ _ _ from L2.at ?_)
  refine wpAny_bind (wpAny_attempt (wpAny_holding ?_))
  show wpAny _ _ (boundAndCalled _ _ _) _ _ _
  unfold boundAndCalled
  rw [PySem.F.attr_ValueError.ga.bind (.ref x)]
  refine wpAny_bind (wpAny_pure (wpAny_call ?_))
  refine codeAny_call_builtin PySem.F.attr_ValueError.ga.plain PySem.F.entry_bexc_ga ?_
  have hk : builtinKind "BaseException.__getattribute__" = some .slot := by decide +kernel
  have hsplit : splitId "BaseException.__getattribute__" = some ("BaseException", "__getattribute__") := by decide +kernel
  have hargs := PySem.F.args_bexc_ga (.ref x) (.str "__class__" t)
  have LI : PySem.W.Looks (model prog w) hh (isInstance (.ref x) (.type "BaseException")) true := L0.andThen L7
  show wpAny _ _ (checkBuiltinCall "BaseException.__getattribute__" ⟨[.ref x, .str "__class__" t], []⟩) _ _ _
  simp only [checkBuiltinCall, hk, hsplit]
  refine wpAny_bind (LI.at ?_)
  repeat wp_step
  rw [hc]
  refine L3.at ?_
  refine wpAny_bind (show wpAny _ _ (Builtin.ObjectAttr.getOf (some (.builtin "object.__class__"))) _ _ _ from L4.at ?_)
  have LD : PySem.W.Looks (model prog w) hh (Builtin.ObjectAttr.dataDescriptor? (some (.builtin "object.__class__")) (some (.builtin "getset_descriptor.__get__"))) (some (.builtin "getset_descriptor.__get__", .builtin "object.__class__")) := L5.andThen .now
  refine wpAny_bind (LD.at ?_)
  repeat wp_step
  have LO : PySem.W.Looks (model prog w) hh (isInstance (.ref x) (.type "object")) true := L0.andThen L6
  refine codeAny_call_builtin PySem.W.KF.slot_gs.plain PySem.W.KF.entry_gs (PySem.W.KF.slot_gs.check _ _ _ _ _ _ _ _ PySem.W.KF.type_class (PySem.W.KF.args_gs _ _ _) ?_)
  (unfold Builtin.«getset_descriptor.__get__» Builtin.Getset_descriptor.descrGet; rw [PySem.W.dga_obj]; refine wpAny_bind (wpAny_pure ?_))
  (unfold Builtin.Getset_descriptor.descrGetter Builtin.Getset_descriptor.descrCheckInstance Builtin.Getset_descriptor.descrNameAndClass; simp only [PySem.W.KF.owner_class])
  refine wpAny_bind (wpAny_bind (wpAny_pure (wpAny_bind (LO.at (wpAny_pure ?_)))))
  repeat wp_step
  refine ⟨Code.quiet_builtin _ (by decide +kernel), codeAny_builtin PySem.W.KF.entry_class ?_⟩
  (unfold Builtin.«object.__class__» shownTypeOf; repeat wp_step)
  rw [hc]
  exact wpAny_pure (wpAny_pure h)
theorem kitx_exc {K : Frag} {x C : Addr} (F : ExcCls K C) : PySem.W.KitX K (.ref x) (.ref C) (fun h => ∃ o, h.get? x = some o ∧ o.cls = .ref C) where
  ty := fun M h _ ⟨o, ho, hc⟩ => hc ▸ (PySem.W.Looks.ld ho).andThen .now
  it := fun M h KX _ => by
    have q := F.cl
    unfold PySem.W.clsIn at q
    split at q
    · next lk =>
      intro A' Q' E' s' k z
      (unfold isType loadHead; exact wpAny_bind (wpAny_loadPart (k _ _ (KX _ _ lk)) (wpAny_pure z)))
    · cases q
  ne := fun h tp dd its n sl KX htp => by
    have q := F.cl
    refine Bool.eq_false_iff.mpr fun z => ?_
    have e : C = tp := Value.ref.inj (beq_iff_eq.mp z)
    subst e
    unfold PySem.W.clsIn at q
    split at q
    · next lk => exact absurd ((KX _ _ lk).symm.trans htp) (by intro z2; cases z2)
    · cases q
  ca := fun KX p k => exc_class F KX p k
inductive TyX (K : Frag) (H : Hp) : V → Value → Prop where
  | ty {x : V} {t : Value} (h : TyOf K H x t) : TyX K H x t
  | exc {e C : Addr} (h : H e = some (ExcAt e (.ref C))) (F : ExcCls K C) : TyX K H (.ref e) (.ref C)
  | tupS {a : Addr} {xs : List V} (h : SqT K H a xs) : TyX K H (.ref a) (.type "tuple")
noncomputable def clsV : V → Value
  | .ty n => .type n
  | .ref a => .ref a
  | _ => .none
noncomputable def isCls : V → Bool
  | .ty _ => true
  | .ref _ => true
  | _ => false
noncomputable def rIsi (K : Frag) : List V → Hp → VK → Prop := fun vs H Q => ∃ x c t b, vs = [x, c] ∧ TyX K H x t ∧ isCls c = true ∧ PySem.W.kitOne K t (clsV c) = some b ∧ Q (.bl b) H
theorem call_isi {X : Cx} : CallR X (.builtin "isinstance") (rIsi X.K) := by
  intro pins s σ H xs us Q I rv h
  obtain ⟨x, c, t, b, rfl, ty, ic, e, q⟩ := h
  obtain ⟨u, w, rfl, r1, r2⟩ := rv.two
  have ew : w = clsV c := by
    cases c <;> first | exact r2 | cases ic
  subst ew
  have fin : ∀ tk, EP X pins σ Q (.bool b) { s with toks := tk } := fun tk => ⟨.bl b, H, I.tok tk, rfl, q⟩
  cases ty with
  | ty h => exact isinst_ok I r1 h e fin
  | exc h F =>
    obtain rfl : u = _ := r1
    obtain ⟨φ, _, _⟩ := (show ObjOk X.prog X.w H s.heap _ (ExcAt _ _) from I.hok _ _ h)
    exact PySem.W.kia_one (kitx_exc F) I.kIn φ e (fun z => nomatch z) fin
  | tupS h =>
    obtain rfl : u = _ := r1
    obtain ⟨its, _, ⟨o, h1, h2, _⟩, _⟩ := I.tuple h
    exact PySem.W.kia_one PySem.W.kitx_tuple I.kIn ⟨o, h1, h2⟩ e (fun z => nomatch z) fin

structure RoomA (k : Nat) (A : Around) : Prop where
  dp : A.depth + 3 * k + 5 < recursionLimit
  un : A.units + 16 * k + 200 < cLine
theorem Room.a {k : Nat} {A : Around} (r : Room k A) : RoomA k A := ⟨r.dp, r.un⟩
theorem RoomA.mono {j k : Nat} {A : Around} (r : RoomA k A) (h : j ≤ k) : RoomA j A := ⟨by have := r.dp; omega, by have := r.un; omega⟩
theorem RoomA.deeper {k : Nat} {A : Around} (r : RoomA (k + 1) A) (env : Env) : RoomA k (A.deeper env) :=
  ⟨by have := r.dp; show A.depth + 1 + 3 * k + 5 < _; omega, by have := r.un; show A.units + 3 + 16 * k + 200 < _; omega⟩
theorem RoomA.mark {k : Nat} {A : Around} (r : RoomA k A) (v : Option Value) : RoomA k (A.mark v) := ⟨r.dp, r.un⟩
theorem RoomA.calm {k : Nat} {A : Around} (r : RoomA k A) : Room k { A with handled := none } := ⟨rfl, r.dp, r.un⟩
structure FnOkA (P : Program) (w : World) (K : Frag) (mg : Str → Option Value) (base : Heap) (k : Nat) (f : Addr) (fd : FuncData) (ps : List Str) (sp : Sp) : Prop where
  len : ∀ vs H Q E, sp vs H Q E → vs.length = ps.length
  run : ∀ (A : Around) (outer : List Env) (s : Shared) (H : Hp) (args : Args) (us : List Value) (vs : List V) (Q : VK) (E : XK), RoomA k A → Env0 P w K mg base A outer s H → BindsTo s fd args (ps.zip us) → Vals vs us → sp vs H Q E →
    codeAny (model P w) A (.call (.ref f) args) (CR CX0 outer P w H s Q E) s
theorem FnOkA.ok {P : Program} {w : World} {K : Frag} {mg : Str → Option Value} {base : Heap} {k : Nat} {f : Addr} {fd : FuncData} {ps : List Str} {sp : Sp} (F : FnOkA P w K mg base k f fd ps sp) : FnOk P w K mg base CX0 k f fd ps sp :=
  ⟨F.len, fun A outer s H args us vs Q E hr => F.run A outer s H args us vs Q E hr.a⟩
section
variable {X : Cx}
theorem op_eqZ : OpR X (compareOp .Eq) (rI0 fun i j => .bl (decide (i = j))) := opB0 fun i j _ _ _ _ _ q => eq_int (by rw [Bool.beq_eq_decide_eq]; exact q)
theorem op_neZ : OpR X (compareOp .NotEq) (rI0 fun i j => .bl (!decide (i = j))) := opB0 fun i j _ _ _ _ _ q => ne_int (by rw [bne, Bool.beq_eq_decide_eq]; exact q)
theorem PS.nox {st : Stmt} {t : TS} (h : PS X.nox st t) : PS X st t := fun pins s σ H D I hw =>
  wpAny_mono (h pins s σ H D (I.wish _) hw) (fun _ _ q => q.unwish) fun _ _ z => z.elim
end
noncomputable def compB (sc : Scope) (N : List Str) (scope : Scope) (x : Str) (fr : List (Str × Nat)) : Bool :=
  decide (scope.kind = .function) && decide (∀ y ∈ scope.names, y.2 ≠ .cell) && decide (∀ y ∈ scope.names, y.2 = .free → sc.names.lookup y.1 = some .cell ∨ sc.names.lookup y.1 = some .free) &&
  decide (∀ y ∈ scope.names, y.2 = .local → scope.names.lookup y.1 = some .local) && decide (scope.names.lookup x = some .local) && decide ((x :: fr.map (·.1)).Nodup) && decide (∀ p ∈ fr, N[p.2]? = some p.1 ∧ scope.names.lookup p.1 = some .free)
theorem comp_ok {X : Cx} {sc scope : Scope} {N : List Str} {x : Str} {fr : List (Str × Nat)} (h1 : X.env.scope = sc) (h2 : X.N = N) (h : compB sc N scope x fr = true) : CompOk X scope x fr := by
  unfold compB at h
  simp only [Bool.and_eq_true, decide_eq_true_eq] at h
  obtain ⟨⟨⟨⟨⟨⟨e1, e2⟩, e3⟩, e4⟩, e5⟩, e6⟩, e7⟩ := h
  subst h1 h2
  exact ⟨e1, e2, e3, e4, e5, e6, e7⟩
section
variable {P : Program} {w : World} {K : Frag} {mg : Str → Option Value} {base : Heap}
theorem Fun.okX {x qual : Str} {st : Stmt} {f : Addr} {fd : FuncData} {N ps : List Str} {k : Nat} {sp : Sp} (F : Fun K x qual st f fd) (S : FnScope N ps (defScope st)) (len : ∀ vs H Q E, sp vs H Q E → vs.length = ps.length)
    (hbody : ∀ (cdv : Value) (A : Around) (outer : List Env) (s : Shared) (H : Hp) (vs : List V) (Q : VK) (E : XK), Room k (A.deeper (envOfC qual (defScope st) s.heap.objs.size f cdv)) → sp vs H Q E →
      ∃ t, PSs (cxOf (CX1 P w) P w K mg base N qual (defScope st) f cdv A outer s H E) (defBody st) t ∧ t { nx := fun _ H' => Q .non H', rt := Q } (start N vs) H) : FnOk P w K mg base (CX1 P w) (k + 1) f fd ps sp := by
  obtain ⟨oc, od, kV, doc, pm, an, cdv, ct, osl, rfl, lk, hcd⟩ := F.ex
  exact fn_of lk hcd S len fun A outer s H vs Q E hr hsp => hbody cdv A outer s H vs Q E hr hsp
end
end L2
namespace Att
open PySem PySem.W PySem.Calls PyProof.Rows
theorem ofPy_ints : ∀ ns : List Int, ofPys (ns.map PyData.int) = ns.map WData.int
  | [] => rfl
  | n :: r => by
    show ofPy (.int n) :: ofPys (r.map PyData.int) = _
    rw [ofPy_ints r]
    rfl
theorem lay_bits {ns : List Int} (h : (WData.list (ns.map WData.int)).layable = true) : ∀ n ∈ ns, Builtin.Int.intBits n ≤ 1048576 := fun n hn => by
  have e : ofPy (.list (ns.map PyData.int)) = WData.list (ns.map WData.int) := by
    show WData.list (ofPys (ns.map PyData.int)) = _
    rw [ofPy_ints]
  have sh : PySem.Spec.Shape.has (.list .int) (.list (ns.map PyData.int)) = true := by
    simp [PySem.Spec.Shape.has]
  exact intBits_le_of_item hn (layable0_of_all (lay0_ofPy (s := .list .int) rfl sh (by rw [e]; exact h)))
theorem attach_callB {l : OpenLaw} {n : Nat} {q : Program} {loose : List Str} {XP : (Str → Option Value) → Heap → Prop} {YP : World → Heap → Prop} {d : DefRec} (hn : l.most = some n) (hdf : d.params.defaults = [])
    (call : ∀ (w : World) (s₀ s₁ : Shared) (mg mb : Str → Option Value) (fa : Addr) (a : Addr) (vs : List Value) (ns : List Int), Ground q loose [] XP w s₀ mg mb s₁.heap → YP w s₁.heap → mg d.name = some (.ref fa) →
      s₁.heap.get? a = some { cls := .type "list", data := .seq vs.toArray } → IntsAre vs ns → ns.length ≤ n → (∀ m ∈ ns, Builtin.Int.intBits m ≤ 1048576) → s₁.gens = #[] →
      codeAny (model l.prog w) callerA (.call (.ref fa) ⟨[.ref a], []⟩) (fun r s' => r = .ok (.ret (.bool true)) ∧ OldK s₁.heap s'.heap ∧ s'.os = s₁.os ∧ AllBare s'.gens) s₁) :
    WalkO q loose XP YP l.row.toRowW d [] (fun f vs => PySem.call f vs) := by
  intro w s₀ s₁ mg mb G Y fa o pm cd doc dV kV ho hd hcd hD hmg hg args vals as hpre hlay hrd hwl hlo
  obtain rfl : dV = .none := Dflts.none hD hdf
  obtain rfl : kV = .none := Dflts.noKw hD
  obtain ⟨a, vs, ns, rfl, rfl, hobj, hints, hlen⟩ := script_of hn hpre hwl
  have hb := lay_bits (layableW_arg hlay _ List.mem_cons_self)
  refine enter_call (codeAny_mono (call w s₀ s₁ mg mb fa a vs ns G Y hmg hobj hints hlen hb hg) fun r s' hq => ?_)
  obtain ⟨rfl, h2, h3, h4⟩ := hq
  exact ⟨.inl ⟨.bool true, .bool true, [], rfl, fun _ => rfl, .bool true, post_true l _, fun _ => ⟨List.Pairwise.nil, fun _ hm => (nomatch hm)⟩⟩, h2, h3, h4⟩
end Att
namespace L2
open PySem PySem.Spec PyProof.Rows
open PySem.W (Frag)
theorem for_st {wi : TI} {g : TG} {tb : TS} {D : Ends} {σ : St} {H : Hp} (h : ∀ B : TS, B = tb → wi σ H fun J H1 => ∃ W : Nat → Nat → St → Hp → Prop, (∃ m, W 0 m σ H1) ∧ ∀ i m σ H, W i m σ H →
    (J.stop i H ∧ D.nx σ H) ∨ (J.go i H ∧ ∃ N : St → Hp → Prop, (∀ σ' H', N σ' H' → ∃ m', m' < m ∧ W (i + 1) m' σ' H') ∧ ∀ x H', J.yld i H x H' → g x σ H' fun σ2 H2 => B { D with nx := N, ct := N, bk := D.nx } σ2 H2)) : tFor wi g tb D σ H := h _ rfl
theorem while_st {c : TT} {tb : TS} {D : Ends} {σ : St} {H : Hp} (h : ∀ B : TS, B = tb → ∃ W : Nat → St → Hp → Prop, (∃ m, W m σ H) ∧ ∀ m σ H, W m σ H →
    c σ H fun b H1 => if b = true then ∃ N : St → Hp → Prop, (∀ σ' H', N σ' H' → ∃ m', m' < m ∧ W m' σ' H') ∧ B { D with nx := N, ct := N, bk := D.nx } σ H1 else D.nx σ H1) : tWhile c tb D σ H := h _ rfl
theorem st {t u : TS} {D : Ends} {σ : St} {H : Hp} (h : ∀ NX : St → Hp → Prop, NX = u D → t { D with nx := NX } σ H) : tSeq t u D σ H := h _ rfl
section
variable {g : Int → Int → V} {C : Int → Int → Prop} {f : Int → V} {i j : Int} {H : Hp} {Q : VK}
theorem rd_rI0 : rI0 g (.int i) (.int j) H Q = Q (g i j) H := propext ⟨fun ⟨_, _, e1, e2, q⟩ => by cases e1; cases e2; exact q, fun q => ⟨_, _, rfl, rfl, q⟩⟩
theorem rd_rI : rI C g (.int i) (.int j) H Q = (C i j ∧ Q (g i j) H) := propext ⟨fun ⟨_, _, e1, e2, q⟩ => by cases e1; cases e2; exact q, fun q => ⟨_, _, rfl, rfl, q⟩⟩
theorem rd_rU : rU f (.int i) H Q = Q (f i) H := propext ⟨fun ⟨_, e1, q⟩ => by cases e1; exact q, fun q => ⟨_, rfl, q⟩⟩
end
theorem Same.new {H : Hp} {a : Addr} {o : HO} (h : H a = none) : Same H (upd H a o) := fun b u e => by rw [upd_ne (ne_of_none e h)]; exact e
theorem Same.over {H H1 : Hp} {a : Addr} {o : HO} (h : H a = none) (s : Same H H1) : Same H (upd H1 a o) := fun b u e => by rw [upd_ne (ne_of_none e h)]; exact s b u e
theorem Same.tup {K : Frag} {H H' : Hp} {a : Addr} {xs : List V} (e : Same H H') (h : SqT K H a xs) : SqT K H' a xs := by
  rcases h with (h | ⟨o, h⟩) | h
  · exact .inl (.inl (e _ _ h))
  · exact .inl (.inr ⟨o, e _ _ h⟩)
  · exact .inr h
section
variable {K : Frag} {a b : Addr} {xs : List V} {te : TE} {fr : List (Str × Nat)} {σ : St} {H : Hp} {Q : VK}
noncomputable def CompP (H : Hp) (a : Addr) (R : Nat → V → Prop) (i : Nat) (H1 : Hp) : Prop := Same H H1 ∧ ∃ ys : List V, H1 a = some (.lst ys) ∧ ys.length = i ∧ ∀ j y, ys[j]? = some y → R j y
theorem CompP.next {R : Nat → V → Prop} {i : Nat} {H1 H2 : Hp} {y : V} (ha : H a = none) (h : CompP H a R i H1) (s : Same H1 H2) (r : R i y) (hz : i < sizeLine) :
    ∃ zs, H2 a = some (.lst zs) ∧ zs.length < sizeLine ∧ CompP H a R (i + 1) (upd H2 a (.lst (zs ++ [y]))) := by
  obtain ⟨s1, ys, e, hl, hr⟩ := h
  refine ⟨ys, s _ _ e, by omega, Same.over ha (s1.trans s), _, upd_same, by simp [hl], fun j z q => ?_⟩
  by_cases hj : j < ys.length
  · rw [List.getElem?_append_left hj] at q
    exact hr j z q
  · rw [List.getElem?_append_right (by omega)] at q
    have : j = i := by
      by_cases h0 : j - ys.length = 0
      · omega
      · rw [List.getElem?_eq_none (by simp; omega)] at q
        cases q
    subst this
    rw [show j - ys.length = 0 by omega] at q
    cases Option.some.inj q
    exact r
end
theorem list_is {α β : Type} {ys : List β} {xs : List α} {f : α → β} (hl : ys.length = xs.length) (h : ∀ (j : Nat) (y : β), ys[j]? = some y → ∃ x, xs[j]? = some x ∧ y = f x) : ys = xs.map f := by
  refine List.ext_getElem (by simpa using hl) fun i h1 h2 => ?_
  obtain ⟨x, e1, e2⟩ := h i ys[i] (by simp [h1])
  obtain ⟨hx, e3⟩ := List.getElem?_eq_some_iff.mp e1
  rw [List.getElem_map, e2, e3]
noncomputable def relab (sc scope : Scope) : Scope := { scope with names := scope.names.map fun (n, k) => if (k == .free && sc.kind == .function && sc.names.lookup n == some .cell) then (n, .cell) else (n, k) }
theorem relab_is {scope sc : Scope} {env : Env} (h : env.scope = sc) : relabel scope env = relab sc scope := by subst h; rfl
theorem own_app : ∀ (names : List (Str × NameKind)) (n : Nat) (acc : List (Str × Addr)), cellsFrom n names acc = cellsFrom n names [] ++ acc
  | [], _, _ => rfl
  | (x, k) :: r, n, acc => by
    unfold cellsFrom
    split
    · rw [own_app r (n + 1) ((x, n) :: acc), own_app r (n + 1) [(x, n)], List.append_assoc]
      rfl
    · exact own_app r n acc
theorem own_mem {y : Str} {b : Addr} : ∀ {names : List (Str × NameKind)} {n : Nat} {acc : List (Str × Addr)}, (y, b) ∈ cellsFrom n names acc → (y, b) ∈ acc ∨ (y, NameKind.cell) ∈ names
  | [], _, _, h => .inl h
  | (x, k) :: r, n, acc, h => by
    unfold cellsFrom at h
    split at h
    · rename_i hk
      rcases own_mem h with q | q
      · rcases List.mem_cons.mp q with e | e
        · have ek : k = .cell := by simpa using hk
          cases e
          exact .inr (by rw [ek]; exact List.mem_cons_self)
        · exact .inl e
      · exact .inr (List.mem_cons_of_mem _ q)
    · rcases own_mem h with q | q
      · exact .inl q
      · exact .inr (List.mem_cons_of_mem _ q)
theorem own_has {y : Str} : ∀ {names : List (Str × NameKind)} {n : Nat} {acc : List (Str × Addr)}, ((y, NameKind.cell) ∈ names ∨ ∃ b, acc.lookup y = some b) → ∃ b, (cellsFrom n names acc).lookup y = some b
  | [], _, _, h => by
    rcases h with h | h
    · simp at h
    · exact h
  | (x, k) :: r, n, acc, h => by
    unfold cellsFrom
    split
    · rename_i hk
      refine own_has ?_
      rcases h with h | ⟨b, h⟩
      · rcases List.mem_cons.mp h with e | e
        · cases e
          exact .inr ⟨n, by rw [List.lookup_cons]; simp⟩
        · exact .inl e
      · rw [List.lookup_cons]
        cases hx : y == x with
        | true => exact .inr ⟨n, rfl⟩
        | false => exact .inr ⟨b, h⟩
    · rename_i hk
      refine own_has ?_
      rcases h with h | h
      · rcases List.mem_cons.mp h with e | e
        · cases e
          simp at hk
        · exact .inl e
      · exact .inr h
theorem relab_was {env : Env} {q : NameKind} : ∀ {names : List (Str × NameKind)} {x : Str},
    (names.map fun (n, k) => if (k == NameKind.free && env.scope.kind == .function && env.kindOf n == some .cell) then (n, NameKind.cell) else (n, k)).lookup x = some q →
    (q = .cell ∨ q = .free) → (x, NameKind.free) ∈ names ∨ (x, NameKind.cell) ∈ names
  | [], _, h, _ => by simp at h
  | (n, k) :: r, x, h, hq => by
    have ih := @relab_was env q r x
    rw [List.map_cons] at h
    dsimp only at h
    by_cases hc : (k == NameKind.free && env.scope.kind == .function && env.kindOf n == some .cell) = true
    · rw [if_pos hc, List.lookup_cons] at h
      cases hx : x == n with
      | true =>
        have ex : x = n := by simpa using hx
        have ek : k = .free := by
          have := (Bool.and_eq_true _ _ ▸ ((Bool.and_eq_true _ _ ▸ hc).1)).1
          simpa using this
        rw [ex, ek]
        exact .inl List.mem_cons_self
      | false =>
        rw [hx] at h
        exact (ih h hq).imp (List.mem_cons_of_mem _) (List.mem_cons_of_mem _)
    · rw [if_neg hc, List.lookup_cons] at h
      cases hx : x == n with
      | true =>
        rw [hx] at h
        have ex : x = n := by simpa using hx
        have ek : k = q := Option.some.inj h
        rcases hq with e | e
        · rw [ex, ek, e]; exact .inr List.mem_cons_self
        · rw [ex, ek, e]; exact .inl List.mem_cons_self
      | false =>
        rw [hx] at h
        exact (ih h hq).imp (List.mem_cons_of_mem _) (List.mem_cons_of_mem _)
theorem key_one {α : Type} {x : Str} {k k' : α} : ∀ {l : List (Str × α)}, (l.map (·.1)).Nodup → (x, k) ∈ l → (x, k') ∈ l → k = k'
  | (n, q) :: r, nd, h, h' => by
    obtain ⟨n1, n2⟩ := List.nodup_cons.mp nd
    rcases List.mem_cons.mp h with e | e <;> rcases List.mem_cons.mp h' with e' | e'
    · cases e; cases e'; rfl
    · cases e; exact absurd (List.mem_map.mpr ⟨_, e', rfl⟩) n1
    · cases e'; exact absurd (List.mem_map.mpr ⟨_, e, rfl⟩) n1
    · exact key_one n2 e e'
theorem newEnv_own {M : Model} {A : Around} {E : Value → Shared → Prop} {s : Shared} {scope : Scope} {globals : Addr} {cl : List (Str × Addr)} {qual : Str} {func : Option Addr} {code : Value} {env : Env} {bl : Addr} {Q : Env → Shared → Prop}
    (h : Q (newEnv scope s.heap.objs.size globals (cellsFrom (s.heap.objs.size + 1) scope.names cl) qual func code (some env) bl) { s with heap := pushCells (s.heap.push { cls := .type "dict", data := .dict #[] }) scope.names }) :
    wpAny M A (newFunctionEnv scope globals cl [] qual func code (some env) bl) Q E s := by
  simp only [newFunctionEnv, Option.isSome_some, if_true]
  refine wpAny_bind (wpAny_alloc ?_)
  refine wpAny_bind (wpAny_layCells _ (fun name kind cells => by cases hkc : kind == NameKind.cell <;> simp [hkc]) _ _ _ _ ?_)
  rw [show ({ s with heap := s.heap.push { cls := .type "dict", data := .dict #[] } } : Shared).heap.objs.size = s.heap.objs.size + 1 from Heap.size_push ..]
  exact wpAny_pure h

noncomputable def cxCompG (X : Cx) (scope : Scope) (N : List Str) (s : Shared) (H : Hp) (fp : List Addr) : Cx :=
  { X with N := N, s₀ := s, H₀ := H, env := compEnvC scope (cellsFrom (s.heap.objs.size + 1) scope.names (clOf X.env scope.names [])) s.heap.objs.size X.env, outer := X.stack, ex := fp, fn := fun y => scope.names.lookup y == some .cell, pn := [], xe := fun _ _ => False }
structure CompOkG (X : Cx) (sc scope : Scope) (xs : List Str) (fr : List (Str × Nat)) : Prop where
  hsc : X.env.scope = sc
  kind : scope.kind = .function
  nn : (scope.names.map (·.1)).Nodup
  free : ∀ y ∈ scope.names, y.2 = .free → sc.names.lookup y.1 = some .cell ∨ sc.names.lookup y.1 = some .free
  loc : ∀ y ∈ scope.names, y.2 = .local → scope.names.lookup y.1 = some .local
  fr : ∀ p ∈ fr, X.N[p.2]? = some p.1 ∧ scope.names.lookup p.1 = some .free
section
variable {X : Cx} {sc scope : Scope} {xs : List Str} {fr : List (Str × Nat)}
theorem CompOkG.free' (c : CompOkG X sc scope xs fr) : ∀ y ∈ scope.names, y.2 = .free → X.env.kindOf y.1 = some .cell ∨ X.env.kindOf y.1 = some .free := fun y hy hf => by
  unfold Env.kindOf
  rw [c.hsc]
  exact c.free y hy hf
theorem CompOkG.cells {pins : List (Addr × Obj)} {σ : St} {H : Hp} {s : Shared} (c : CompOkG X sc scope xs fr) (I : Inv X pins σ H s) : ∀ y ∈ scope.names, y.2 = .free → ∃ c, X.env.cells.lookup y.1 = some c :=
  fun y hy hf => I.ok.has y.1 (c.free' y hy hf)
theorem CompOkG.was {pins : List (Addr × Obj)} {σ : St} {H : Hp} {s : Shared} (c : CompOkG X sc scope xs fr) (I : Inv X pins σ H s) {y : Str} {b : Addr} (h : (clOf X.env scope.names []).lookup y = some b) : X.env.cells.lookup y = some b := by
  rcases clOf_lookup (c.cells I) h with q | q
  · simp at q
  · exact q
theorem cells_cases {names : List (Str × NameKind)} {n : Nat} {cl : List (Str × Addr)} {y : Str} {b : Addr} (h : (cellsFrom n names cl).lookup y = some b) : (cellsFrom n names []).lookup y = some b ∨ ((cellsFrom n names []).lookup y = none ∧ cl.lookup y = some b) := by
  rw [own_app, List.lookup_append] at h
  cases q : (cellsFrom n names []).lookup y with
  | none => rw [q] at h; exact .inr ⟨rfl, h⟩
  | some c => rw [q] at h; exact .inl h
theorem comp_startG {pins : List (Addr × Obj)} {σ : St} {H : Hp} {s : Shared} {fp : List Addr} (c : CompOkG X sc scope xs fr) (I : Inv X pins σ H s)
    (hf : ∀ b ∈ fp, FpOk X pins H b ∧ ∃ o, s.heap.get? b = some o) :
    Inv (cxCompG X scope (xs ++ fr.map (·.1)) s H fp) [] (xs.map (fun _ => none) ++ frees fr σ) H { s with heap := pushCells (s.heap.push { cls := .type "dict", data := .dict #[] }) scope.names } := by
  have k : ∀ b o, s.heap.get? b = some o → (pushCells (s.heap.push { cls := .type "dict", data := .dict #[] }) scope.names).get? b = some o := fun b o e => pushCells_keeps _ _ b o (Heap.get?_push_of_some _ e)
  have hn : (pushCells (s.heap.push { cls := .type "dict", data := .dict #[] }) scope.names).Ns s.heap.objs.size (fun _ => none) := (Heap.Ns.new s.heap (.type "dict")).keeps (pushCells_keeps _ _)
  have ok := cellsFrom_ok scope.names (s.heap.push { cls := .type "dict", data := .dict #[] }) (s.heap.objs.size + 1) [] ⟨fun _ _ hm => (nomatch hm), List.Pairwise.nil⟩ (by rw [Heap.size_push]; exact Nat.le_refl _)
  rw [Heap.size_push] at ok
  have I4 : Inv X pins σ H { s with heap := pushCells (s.heap.push { cls := .type "dict", data := .dict #[] }) scope.names } := I.kept (t' := s.toks) k
  generalize hh : pushCells (s.heap.push { cls := .type "dict", data := .dict #[] }) scope.names = h₁ at k hn ok I4
  have old : ∀ {y : Str} {b : Nat}, (clOf X.env scope.names []).lookup y = some b → b < s.heap.objs.size := fun {y b} e => by
    obtain ⟨v, z⟩ := I.cell y b (c.was I e)
    exact z.lt
  have own : ∀ {y : Str} {b : Nat}, (cellsFrom (s.heap.objs.size + 1) scope.names []).lookup y = some b → h₁.IsCell b none ∧ s.heap.objs.size + 1 ≤ b := fun {y b} e => ok.empty y b (mem_of_lookup e)
  refine ⟨⟨I.ok.mod, c.kind, I.ok.glob, I.ok.blt, Nat.le_refl _, fun y z b h1 h2 => ?_, fun y hy => ?_, fun y b h0 h1 => ?_, I.ok.hd, I.ok.frames, .inl rfl, fun b hb => ?_, fun b o e => ?_, ?_, fun b o e hb => ?_, fun b hb hs => ?_, ?_, fun b hb => ?_⟩,
    rfl, I.bare, Un.kept k, ⟨_, hn, fun i y v h1 h2 h3 => ?_⟩, fun y b h => ?_, ?_, fun y b h => ?_, fun p hp => absurd (show p ∈ ([] : List (Addr × Obj)) from hp) (by simp), I4.hok, ?_⟩
  · rcases cells_cases h1 with e1 | ⟨_, e1⟩ <;> rcases cells_cases h2 with e2 | ⟨_, e2⟩
    · exact name_of_addr ok.apart (mem_of_lookup e1) (mem_of_lookup e2)
    · exact absurd (Nat.lt_of_lt_of_le (old e2) (Nat.le_of_succ_le (own e1).2)) (Nat.lt_irrefl _)
    · exact absurd (Nat.lt_of_lt_of_le (old e1) (Nat.le_of_succ_le (own e2).2)) (Nat.lt_irrefl _)
    · exact I.ok.inj y z b (c.was I e1) (c.was I e2)
  · show ∃ b, (cellsFrom (s.heap.objs.size + 1) scope.names (clOf X.env scope.names [])).lookup y = some b
    have hm : (y, NameKind.free) ∈ scope.names ∨ (y, NameKind.cell) ∈ scope.names := by
      rcases hy with hy | hy
      · exact relab_was hy (.inl rfl)
      · exact relab_was hy (.inr rfl)
    rcases hm with hm | hm
    · exact own_has (.inr (clOf_has (.inl hm)))
    · exact own_has (.inl hm)
  · have hy : scope.names.lookup y = some .cell := by
      have h0' : (scope.names.lookup y == some NameKind.cell) = true := h0
      simpa using h0'
    rcases cells_cases h1 with e1 | ⟨e1, _⟩
    · have := (own e1).2
      show s.heap.objs.size ≤ b
      omega
    · obtain ⟨b', e⟩ := own_has (n := s.heap.objs.size + 1) (acc := []) (.inl (mem_of_lookup hy))
      rw [e1] at e
      cases e
  · obtain ⟨⟨_, _, _, _, f5, _⟩, o, e⟩ := hf b hb
    refine ⟨Nat.ne_of_lt (Heap.lt_size e), fun y b' h => ?_⟩
    rcases cells_cases h with e1 | ⟨_, e1⟩
    · exact fun z => absurd (Nat.lt_of_lt_of_le (Heap.lt_size e) (Nat.le_of_succ_le (z ▸ (own e1).2))) (Nat.lt_irrefl _)
    · exact f5 y b' (c.was I e1)
  · exact I.bs b o e
  · exact Nat.le_trans I.ok.bsz I.sz
  · obtain ⟨⟨_, _, _, f4, _, _⟩, _⟩ := hf b hb
    rcases f4 with z | z
    · exact I.ok.noex b o e z
    · exact absurd (Nat.lt_of_lt_of_le (Heap.lt_size e) (Nat.le_trans I.ok.bsz z)) (Nat.lt_irrefl _)
  · obtain ⟨⟨_, f2, f3, _, _, _⟩, _⟩ := hf b hb
    rcases List.mem_cons.mp (I.stkSub b hs) with z | z
    · exact f2 z
    · exact f3 z
  · exact I.stack
  · exact I.stkFree b hb
  · have h1' : (xs ++ fr.map (·.1))[i]? = some y := h1
    by_cases hi : i < xs.length
    · rw [List.getElem?_append_left (by simpa using hi), List.getElem?_map] at h2
      cases q : xs[i]? with
      | none => rw [q] at h2; cases h2
      | some z => rw [q] at h2; cases Option.some.inj h2
    · rw [List.getElem?_append_right (by omega)] at h1'
      rw [List.getElem?_append_right (by simpa using hi), List.length_map] at h2
      generalize i - xs.length = j at h1' h2
      rw [List.getElem?_map] at h1'
      unfold frees at h2
      rw [List.getElem?_map] at h2
      cases e : fr[j]? with
      | none => rw [e] at h1'; cases h1'
      | some p =>
        rw [e] at h1' h2
        have e1 : p.1 = y := Option.some.inj h1'
        have e2 : σ.getD p.2 none = some v := Option.some.inj h2
        obtain ⟨n1, n2⟩ := c.fr p (List.mem_of_getElem? e)
        have e3 : σ[p.2]? = some (some v) := by
          rw [List.getD_eq_getElem?_getD] at e2
          cases q : σ[p.2]? with
          | none => rw [q] at e2; cases e2
          | some o => rw [q] at e2; have e2' : o = some v := e2; rw [e2']
        subst e1
        have hm : (p.1, NameKind.free) ∈ scope.names := PySem.mem_of_lookup n2
        have kd := c.free' _ hm rfl
        obtain ⟨m', _, hl⟩ := I4.loc
        obtain ⟨u, ru, lk⟩ := hl p.2 p.1 v n1 e3 (.inr kd)
        refine ⟨u, ru, .inr ⟨relabel_free n2, ?_⟩⟩
        rcases lk with ⟨k1, _⟩ | ⟨_, b, q, z⟩
        · rcases kd with kd | kd <;> (rw [kd] at k1; cases k1)
        · obtain ⟨b', q'⟩ := clOf_has (env := X.env) (l := scope.names) (cs := []) (.inl hm)
          have e4 := c.was I q'
          rw [q] at e4
          cases e4
          refine ⟨b, ?_, z⟩
          show (cellsFrom (s.heap.objs.size + 1) scope.names (clOf X.env scope.names [])).lookup p.1 = some b
          rw [own_app, List.lookup_append]
          cases w : (cellsFrom (s.heap.objs.size + 1) scope.names []).lookup p.1 with
          | none => exact q'
          | some b2 =>
            rcases own_mem (mem_of_lookup w) with w | w
            · simp at w
            · cases key_one c.nn hm w
  · rcases cells_cases h with e1 | ⟨_, e1⟩
    · exact ⟨none, (own e1).1⟩
    · exact I4.cell y b (c.was I e1)
  · exact I.hok.fresh (Nat.le_refl _)
  · rcases cells_cases h with e1 | ⟨_, e1⟩
    · exact I.hok.fresh (by have := (own e1).2; omega)
    · exact I4.freeC y b (c.was I e1)
  · show (xs.map (fun _ => none) ++ frees fr σ).length = (xs ++ fr.map (·.1)).length
    simp [frees]
end

noncomputable abbrev TOx := St → Hp → (Option V → Hp → Prop) → Prop
noncomputable def tEl (te : TE)  : TOx := fun σ H Q => te σ H fun y H' => Q (some y) H'
noncomputable def tElIf (tc : TT) (te : TE)  : TOx := fun σ H Q => tc σ H fun b H1 => if b = true then te σ H1 (fun y H' => Q (some y) H') else Q none H1
noncomputable def turnOf (elt : Expr) (ifs : List Expr) (env : Env) (M : Model) (A : Around) (Q : Option Value → Shared → Prop) (E : Value → Shared → Prop) (s : Shared) : Prop :=
  match ifs with
  | [] => wpAny M A (eval elt env) (fun x s1 => Q (some x) s1) E s
  | [c] => wpAny M A (isTrue c env (eval c env)) (fun b s1 => if b = true then wpAny M A (eval elt env) (fun x s2 => Q (some x) s2) E s1 else Q none s1) E s
  | _ => False
noncomputable def POx (X : Cx) (elt : Expr) (ifs : List Expr) (t : TOx) : Prop := ∀ (pins : List (Addr × Obj)) (s : Shared) (σ : St) (H : Hp) (Q : Option V → Hp → Prop), Inv X pins σ H s → t σ H Q →
  turnOf elt ifs X.env (model X.prog X.w) X.A (fun o s' => ∃ v H', Inv X pins σ H' s' ∧ (match o, v with | some u, some y => RelV y u | none, none => True | _, _ => False) ∧ Q v H') X.xe s
theorem po_el {X : Cx} {elt : Expr} {te : TE} (h : PE X elt te) : POx X elt [] (tEl te) := fun pins s σ H Q I hw =>
  thn (h pins s σ H _ I hw) fun u s1 ⟨y, H1, I1, r1, q1⟩ => ⟨some y, H1, I1, r1, q1⟩
theorem po_if {X : Cx} {elt c : Expr} {tc : TT} {te : TE} (hc : PT X c tc) (h : PE X elt te) : POx X elt [c] (tElIf tc te) := fun pins s σ H Q I hw => by
  refine thn (hc pins s σ H _ I hw) fun b s1 ⟨H1, I1, q1⟩ => ?_
  cases b with
  | true =>
    rw [if_pos rfl] at q1 ⊢
    exact thn (h pins s1 σ H1 _ I1 q1) fun u s2 ⟨y, H2, I2, r2, q2⟩ => ⟨some y, H2, I2, r2, q2⟩
  | false =>
    rw [if_neg Bool.false_ne_true] at q1 ⊢
    exact ⟨none, H1, I1, trivial, q1⟩
theorem codeAny_compLoop_gen {prog : Program} {w : World} {A : Around} {R : Result → Shared → Prop} {s : Shared} {elt target iter : Expr} {ifs : List Expr} {scope : Scope} {pos : Pos} {it acc : Value} {env : Env} (I : Nat → Shared → Prop)
    (turn : ∀ n s, I n s → wpAny (model prog w) A (pyNext it) (fun r s₁ => match r with
      | none => R (.ok .next) s₁
      | some v => wpAny (model prog w) A (letOwnedTupleGo target it v) (fun _ s₁' => wpAny (model prog w) A (assign target env v) (fun _ s₂ => turnOf elt ifs env (model prog w) A (fun o s₃ => match o with
          | some x => wpAny (model prog w) A (call (.builtin "list.append") [acc, x]) (fun _ s₄ => ∃ m, m < n ∧ I m s₄) (fun _ _ => False) s₃
          | none => ∃ m, m < n ∧ I m s₃)
          (fun _ _ => False) s₂) (fun _ _ => False) s₁') (fun _ _ => False) s₁) (fun _ _ => False) s)
    (n : Nat) (h : I n s) (hifs : ifs.length ≤ 1) :
    codeAny (model prog w) A (.compLoop (.ListComp elt [⟨target, iter, ifs, 0⟩] scope pos) 0 it acc env) R s := by
  refine codeAny_loop rfl I (fun n s hI => ?_) n h
  show wpAny _ _ ((compTurn (.ListComp elt [⟨target, iter, ifs, 0⟩] scope pos) 0 it acc env).onRaise (fun x => do noteFrame x env; theTreesLotGoes x)) _ _ s
  refine wpAny_noted ?_
  have T := turn n s hI
  match ifs, hifs, T with
  | [], _, T =>
    rw [compTurn_list1]
    refine wpAny_bind (wpAny_standAt (wpAny_bind (wpAny_mono T (fun r s₁ h₁ => ?_) fun _ _ h' => h'.elim)))
    cases r with
    | none => exact wpAny_pure h₁
    | some v =>
      refine wpAny_bind (wpAny_mono h₁ (fun _ s₁' h₁' => ?_) fun _ _ h' => h'.elim)
      exact wpAny_bind (wpAny_mono h₁' (fun _ s₂ h₂ => wpAny_bind (wpAny_bind (wpAny_mono (show wpAny _ _ _ _ _ _ from h₂) (fun x s₃ h₃ => wpAny_bind (wpAny_mono h₃
        (fun _ s₄ h₄ => wpAny_pure (wpAny_pure ⟨rfl, h₄⟩)) fun _ _ h' => h'.elim)) fun _ _ h' => h'.elim))) fun _ _ h' => h'.elim)
  | [c], _, T =>
    have e1 : compTurn (.ListComp elt [⟨target, iter, [c], 0⟩] scope pos) 0 it acc env = (standAt iter.pos >>= fun _ => pyNext it >>= fun r => match r with
      | none => pure (.done .next)
      | some v => letOwnedTupleGo target it v >>= fun _ => assign target env v >>= fun _ => isTrue c env (eval c env) >>= fun ok =>
        (if ok = true then (eval elt env >>= fun x => call (.builtin "list.append") [acc, x] >>= fun _ => pure ()) >>= fun _ => again (.compLoop (.ListComp elt [⟨target, iter, [c], 0⟩] scope pos) 0 it acc env)
          else again (.compLoop (.ListComp elt [⟨target, iter, [c], 0⟩] scope pos) 0 it acc env))) := by
      unfold compTurn
      simp only [List.forIn_cons, List.forIn_nil, if_true, bind_assoc, pure_bind, List.getElem?_cons_zero]
      rfl
    rw [e1]
    refine wpAny_bind (wpAny_standAt (wpAny_bind (wpAny_mono T (fun r s₁ h₁ => ?_) fun _ _ h' => h'.elim)))
    cases r with
    | none => exact wpAny_pure h₁
    | some v =>
      refine wpAny_bind (wpAny_mono h₁ (fun _ s₁' h₁' => ?_) fun _ _ h' => h'.elim)
      refine wpAny_bind (wpAny_mono h₁' (fun _ s₂ h₂ => wpAny_bind (wpAny_mono (show wpAny _ _ _ _ _ _ from h₂) (fun b s₃ h₃ => ?_) fun _ _ h' => h'.elim)) fun _ _ h' => h'.elim)
      cases b with
      | true =>
        rw [if_pos rfl] at h₃ ⊢
        exact wpAny_bind (wpAny_bind (wpAny_mono h₃ (fun x s₄ h₄ => wpAny_bind (wpAny_mono h₄ (fun _ s₅ h₅ => wpAny_pure (wpAny_pure ⟨rfl, h₅⟩)) fun _ _ h' => h'.elim)) fun _ _ h' => h'.elim))
      | false =>
        rw [if_neg Bool.false_ne_true] at h₃ ⊢
        exact wpAny_pure ⟨rfl, h₃⟩
  | _ :: _ :: _, hifs, T =>
    exact absurd hifs (by simp)
noncomputable def outTo (a : Addr) (N : Hp → Prop) : Option V → Hp → Prop
  | some y, H => ∃ zs, H a = some (.lst zs) ∧ zs.length < sizeLine ∧ N (upd H a (.lst (zs ++ [y])))
  | none, H => N H
noncomputable abbrev CompWG (J : It) (g : TG) (tt : TOx) (n : Nat) (fr : List (Str × Nat)) (σ : St) (a : Addr) (H : Hp) (Q : VK) : Prop :=
  ∃ W : Nat → Nat → Hp → Prop, (∃ m, W 0 m (upd H a (.lst []))) ∧ ∀ i m H2, W i m H2 → (J.stop i H2 ∧ Q (.ref a) H2) ∨
    (J.go i H2 ∧ ∃ N : Hp → Prop, (∀ H', N H' → ∃ m', m' < m ∧ W (i + 1) m' H') ∧ ∀ (ys : St) x H3, ys.length = n → J.yld i H2 x H3 →
      g x (ys ++ frees fr σ) H3 fun σ4 H4 => (∃ ys' : St, ys'.length = n ∧ σ4 = ys' ++ frees fr σ) ∧ tt σ4 H4 (outTo a N))
noncomputable def tCompG (wi : TI) (g : TG) (tt : TOx) (n : Nat) (fr : List (Str × Nat)) : TE := fun σ H Q => wi σ H fun J H1 => ∀ a, H1 a = none → CompWG J g tt n fr σ a H1 Q
section
variable {X : Cx} {sc scope : Scope} {xs : List Str} {fr : List (Str × Nat)} {elt tg iter : Expr} {ifs : List Expr} {g : TG} {tt : TOx}
theorem comp_coreG {pins : List (Addr × Obj)} {σ : St} {H : Hp} {s : Shared} {pos : Pos} {J : It} {fp : List Addr} {it : Addr} {tn : Nat → Heap → Prop} {Q : VK} {RR : Value → Addr → Result → Shared → Prop} {E : Value → Shared → Prop}
    (c : CompOkG X sc scope xs fr) (hc : X.calm = true) (hifs : ifs.length ≤ 1) (I : Inv X pins σ H s) (T : Turn X.prog X.w X.K tg J fp it tn) (t0 : tn 0 s.heap) (hf : ∀ b ∈ fp, FpOk X pins H b)
    (hg : ∀ (s₃ : Shared) (H₃ : Hp) (fp : List Addr), (cxCompG X scope (xs ++ fr.map (·.1)) s₃ H₃ fp).env.scope = relab sc scope → PG (cxCompG X scope (xs ++ fr.map (·.1)) s₃ H₃ fp) tg g)
    (he : ∀ (s₃ : Shared) (H₃ : Hp) (fp : List Addr), (cxCompG X scope (xs ++ fr.map (·.1)) s₃ H₃ fp).env.scope = relab sc scope → POx (cxCompG X scope (xs ++ fr.map (·.1)) s₃ H₃ fp) elt ifs tt)
    (hw : ∀ a, H a = none → CompWG J g tt xs.length fr σ a H Q)
    (hRR : ∀ a C H' s' m, s'.heap.Ns C m → Inv X pins σ H' s' → FpOk X pins H' C → Q (.ref a) H' → RR (.ref a) C (.ok .next) s') :
    wpAny (model X.prog X.w) X.A (newList []) (fun acc s₃ => wpAny (model X.prog X.w) X.A (newFunctionEnv scope X.env.globals (clOf X.env scope.names []) [] X.env.qual none .none (some X.env)) (fun cenv s₄ =>
      codeAny (model X.prog X.w) X.A (.compStart (.ListComp elt [⟨tg, iter, ifs, 0⟩] scope pos) 0 (.ref it) acc { cenv with scope := relabel scope X.env }) (RR acc cenv.locals) s₄) E s₃) E s := by
  obtain ⟨W, ⟨m0, w0⟩, turn⟩ := hw s.heap.objs.size I.fresh
  refine wpAny_newObj_type (newEnv_own ?_)
  have I3 : Inv X pins σ (upd H s.heap.objs.size (.lst [])) { s with heap := s.heap.push { cls := .type "list", dict := none, data := .seq ([] : List Value).toArray } } := I.lnew (ys := []) (its := []) (t' := s.toks) .nil (Nat.zero_le _)
  have kp : ∀ b o, s.heap.get? b = some o → (s.heap.push { cls := .type "list", dict := none, data := .seq ([] : List Value).toArray }).get? b = some o := fun b o e => Heap.get?_push_of_some _ e
  have un0 : Un (frs X.stack) fp H (upd H s.heap.objs.size (.lst [])) s.heap (s.heap.push { cls := .type "list", dict := none, data := .seq ([] : List Value).toArray }) := Un.laid kp (Nat.le_refl _) I.fresh
  dsimp only
  generalize hH2 : s.heap.push { cls := .type "list", dict := none, data := .seq ([] : List Value).toArray } = hp2 at I3 kp un0 ⊢
  have hsz : s.heap.objs.size ≤ hp2.objs.size := by rw [← hH2, Heap.size_push]; exact Nat.le_succ _
  have ft : ∀ b ∈ fp, ∃ o, s.heap.get? b = some o := fun b hb => let ⟨o, e, _⟩ := T.obj _ _ t0 b hb; ⟨o, e⟩
  have nea : ∀ b ∈ fp, b ≠ s.heap.objs.size := fun b hb => let ⟨_, e⟩ := ft b hb; Nat.ne_of_lt (Heap.lt_size e)
  have f3 : ∀ b ∈ fp, FpOk X pins (upd H s.heap.objs.size (.lst [])) b ∧ ∃ o, hp2.get? b = some o := fun b hb => by
    obtain ⟨o, e⟩ := ft b hb
    exact ⟨⟨by rw [upd_ne (nea b hb)]; exact (hf b hb).1, (hf b hb).2⟩, o, kp b o e⟩
  have J0 := comp_startG c I3 f3
  have k4 : ∀ b o, hp2.get? b = some o → (pushCells (hp2.push { cls := .type "dict", data := .dict #[] }) scope.names).get? b = some o := fun b o e => pushCells_keeps _ _ b o (Heap.get?_push_of_some _ e)
  have t4 : tn 0 (pushCells (hp2.push { cls := .type "dict", data := .dict #[] }) scope.names) := T.keep 0 _ _ t0 fun b hb o e => k4 b o (kp b o e)
  have esc : ∀ (s₃ : Shared) (H₃ : Hp) (fp : List Addr), (cxCompG X scope (xs ++ fr.map (·.1)) s₃ H₃ fp).env.scope = relab sc scope := fun _ _ _ => relab_is c.hsc
  have stat : ∀ {H' : Hp}, (∀ b ∈ fp, H' b = none) → ∀ b ∈ fp, FpOk (cxCompG X scope (xs ++ fr.map (·.1)) { s with heap := hp2 } (upd H s.heap.objs.size (.lst [])) fp) [] H' b := fun hn b hb => by
    obtain ⟨e1, e2⟩ := J0.ok.exf b hb
    exact ⟨hn b hb, e1, J0.ok.exfs b hb, .inl hb, e2, fun p hp => absurd (show p ∈ ([] : List (Addr × Obj)) from hp) (by simp)⟩
  have loop : codeAny (model X.prog X.w) X.A (.compLoop (.ListComp elt [⟨tg, iter, ifs, 0⟩] scope pos) 0 (.ref it) (.ref s.heap.objs.size) (compEnvC scope (cellsFrom (hp2.objs.size + 1) scope.names (clOf X.env scope.names [])) hp2.objs.size X.env))
      (RR (.ref s.heap.objs.size) hp2.objs.size) { s with heap := pushCells (hp2.push { cls := .type "dict", data := .dict #[] }) scope.names } := by
    refine codeAny_compLoop_gen (fun n s' => ∃ i, ∃ ys : St, ∃ H', ys.length = xs.length ∧ Inv (cxCompG X scope (xs ++ fr.map (·.1)) { s with heap := hp2 } (upd H s.heap.objs.size (.lst [])) fp) [] (ys ++ frees fr σ) H' s' ∧ tn i s'.heap ∧ (∀ b ∈ fp, H' b = none) ∧ W i n H')
      ?_ m0 ⟨0, xs.map fun _ => none, _, by simp, J0, t4, fun b hb => (f3 b hb).1.1, w0⟩ hifs
    rintro n s3 ⟨i, ys, H3, hys, K3, st3, fr3, w3⟩
    rcases turn i n H3 w3 with ⟨stop, qn⟩ | ⟨go, N, hN, step⟩
    · refine thn (T.done (cxCompG X scope (xs ++ fr.map (·.1)) { s with heap := hp2 } (upd H s.heap.objs.size (.lst [])) fp) rfl rfl rfl hc i [] s3 _ H3 (fun _ _ => False) K3 (stat fr3) st3 stop) fun r s4 ⟨hr, K4⟩ => ?_
      subst hr
      obtain ⟨m4, hn4, _⟩ := K4.loc
      have K5 : Inv X pins σ H3 s4 := I.call' K4.os (un0.trans K4.base) K4.hok K4.bare fun b hb => let f := hf b hb; ⟨f.2.2.2.1, f.2.1, f.2.2.2.2.1, f.2.2.2.2.2⟩
      exact hRR _ _ H3 s4 m4 hn4 K5 (I.fpOk hsz K4.free) qn
    · refine thn (T.item (cxCompG X scope (xs ++ fr.map (·.1)) { s with heap := hp2 } (upd H s.heap.objs.size (.lst [])) fp) rfl rfl rfl hc i [] s3 _ H3 (fun _ _ => False) K3 (stat fr3) st3 go) fun r s4 ⟨u, hr, h4⟩ => ?_
      subst hr
      refine thn h4 fun _ s5 ⟨y, H5, K5, r5, y5, st5, fr5⟩ => ?_
      have K5' := K5.pinned (stat fr5) (T.obj _ _ st5)
      refine thn (hg _ _ _ (esc _ _ _) _ s5 _ H5 y u _ K5' r5 (step ys y H5 hys y5)) fun _ s6 ⟨σ6, H6, K6, ⟨ys6, hl6, e6⟩, q6⟩ => ?_
      subst e6
      have fin : ∀ (s8 : Shared) (H8 : Hp), Inv (cxCompG X scope (xs ++ fr.map (·.1)) { s with heap := hp2 } (upd H s.heap.objs.size (.lst [])) fp) ([] ++ pinsAt fp s5.heap) (ys6 ++ frees fr σ) H8 s8 → N H8 →
          ∃ m, m < n ∧ ∃ i, ∃ ys : St, ∃ H', ys.length = xs.length ∧ Inv (cxCompG X scope (xs ++ fr.map (·.1)) { s with heap := hp2 } (upd H s.heap.objs.size (.lst [])) fp) [] (ys ++ frees fr σ) H' s8 ∧ tn i s8.heap ∧ (∀ b ∈ fp, H' b = none) ∧ W i m H' := by
        intro s8 H8 K8 n8
        obtain ⟨m', hm, w8⟩ := hN H8 n8
        refine ⟨m', hm, i + 1, ys6, H8, hl6, K8.unpinned, T.keep _ _ _ st5 fun b hb o e => (K8.pin (b, o) (List.mem_append_right _ (List.mem_append_right _ (mem_pinsAt hb e)))).1, fun b hb => ?_, w8⟩
        obtain ⟨o, e, d⟩ := T.obj _ _ st5 b hb
        exact (K8.pin (b, o) (List.mem_append_right _ (List.mem_append_right _ (mem_pinsAt hb e)))).2.1
      have h7 := he _ _ _ (esc _ _ _) _ s6 _ H6 _ K6 q6
      have mono : ∀ {Q Q' : Option Value → Shared → Prop} {E : Value → Shared → Prop} {s' : Shared} {env : Env}, (∀ o s1, Q o s1 → Q' o s1) → turnOf elt ifs env (model X.prog X.w) X.A Q E s' → turnOf elt ifs env (model X.prog X.w) X.A Q' E s' := by
        intro Q Q' E s' env hq ht
        unfold turnOf at ht ⊢
        match ifs, hifs, ht with
        | [], _, ht => exact wpAny_mono ht (fun x s1 q => hq _ _ q) fun _ _ e => e
        | [c], _, ht =>
          refine wpAny_mono ht (fun b s1 q => ?_) fun _ _ e => e
          split at q
          · rename_i hb; rw [if_pos hb]; exact wpAny_mono q (fun x s2 q => hq _ _ q) fun _ _ e => e
          · rename_i hb; rw [if_neg hb]; exact hq _ _ q
        | _ :: _ :: _, hifs, _ => exact absurd hifs (by simp)
      refine mono (fun o s7 ⟨z7, H7, K7, r7, q7⟩ => ?_) h7
      cases o with
      | none =>
        cases z7 with
        | none => exact fin s7 H7 K7 q7
        | some z => exact r7.elim
      | some v7 =>
        cases z7 with
        | none => exact r7.elim
        | some z7 =>
          obtain ⟨zs, hz, hl, w7⟩ := q7
          exact thn (mt_append _ s7 _ H7 (.ref s.heap.objs.size) [z7] (.ref s.heap.objs.size) [v7] (fun _ H8 => N H8) K7 rfl (.cons r7 .nil) ⟨_, zs, z7, rfl, rfl, hz, hl, w7⟩) fun _ s8 ⟨_, H8, K8, _, n8⟩ => fin s8 H8 K8 n8
  exact codeAny_compStart_list loop (T.self _ 0 _ _ _ t4 loop)
variable {wi : TI}
theorem pe_compG {pos : Pos} (c : CompOkG X sc scope xs fr) (hc : X.calm = true) (hi : PI X tg iter wi)
    (hg : ∀ (s₃ : Shared) (H₃ : Hp) (fp : List Addr), (cxCompG X scope (xs ++ fr.map (·.1)) s₃ H₃ fp).env.scope = relab sc scope → PG (cxCompG X scope (xs ++ fr.map (·.1)) s₃ H₃ fp) tg g)
    (he : ∀ (s₃ : Shared) (H₃ : Hp) (fp : List Addr), (cxCompG X scope (xs ++ fr.map (·.1)) s₃ H₃ fp).env.scope = relab sc scope → POx (cxCompG X scope (xs ++ fr.map (·.1)) s₃ H₃ fp) elt ifs tt)
    (hifs : ifs.length ≤ 1 := by exact Nat.le_of_ble_eq_true rfl) (hs : ∀ x, foldedSetIterable iter X.env x = pure x := by intro _; rfl) : PE X (.ListComp elt [⟨tg, iter, ifs, 0⟩] scope pos) (tCompG wi g tt xs.length fr) := by
  intro pins s σ H Q I h
  rw [eval_ListComp]
  refine wpAny_comprehension_free (use := none) rfl hs (closure_is (c.cells I)) c.kind c.loc (thn (hi pins s σ H _ I h) fun v s1 h1 => thn h1 fun itv s2 h2 => ?_)
  obtain ⟨it, fp, tn, J, H2, e, I2, T, t2, f2, hw⟩ := h2
  subst e
  refine comp_coreG (RR := fun acc C => compPost (model X.prog X.w) X.A X.xe none (EP X pins σ Q) acc C) c hc hifs I2 T t2 f2 hg he hw ?_
  intro a C H' s' m hn K f q
  exact ⟨m, hn, fun h' hs' => ⟨.ref a, H', K.turned (t' := s'.toks) (fun b o hb e => (hs'.2 b hb).trans e) f.1 f.2.1 f.2.2.2.1 f.2.2.2.2.1 f.2.2.2.2.2, rfl, q⟩⟩
theorem ps_setCG {pos spos py : Pos} {y : Str} {i : Nat} (c : CompOkG X sc scope xs fr) (hc : X.calm = true) (hN : X.N.Nodup) (hy : X.N[i]? = some y) (hl : X.env.scope.names.lookup y = some .local) (hi : PI X tg iter wi)
    (hg : ∀ (s₃ : Shared) (H₃ : Hp) (fp : List Addr), (cxCompG X scope (xs ++ fr.map (·.1)) s₃ H₃ fp).env.scope = relab sc scope → PG (cxCompG X scope (xs ++ fr.map (·.1)) s₃ H₃ fp) tg g)
    (he : ∀ (s₃ : Shared) (H₃ : Hp) (fp : List Addr), (cxCompG X scope (xs ++ fr.map (·.1)) s₃ H₃ fp).env.scope = relab sc scope → POx (cxCompG X scope (xs ++ fr.map (·.1)) s₃ H₃ fp) elt ifs tt)
    (hsw : swapsWith (.ListComp elt [⟨tg, iter, ifs, 0⟩] scope pos) (some (.Name y py)) spos.line X.env = pure true := by rfl)
    (hifs : ifs.length ≤ 1 := by exact Nat.le_of_ble_eq_true rfl) (hs : ∀ x, foldedSetIterable iter X.env x = pure x := by intro _; rfl) : PS X (.Assign [.Name y py] (.ListComp elt [⟨tg, iter, ifs, 0⟩] scope pos) spos) (tSetC i (tCompG wi g tt xs.length fr)) := by
  intro pins s σ H D I h
  rw [exec_Assign_Name_used _ _ _ _ hsw]
  refine wpAny_bind (wpAny_standAt (wpAny_bind ?_))
  show wpAny _ _ (do let _ ← comprehension (.ListComp elt [⟨tg, iter, ifs, 0⟩] scope pos) scope X.env _ (newList []) false (eval iter X.env) (some (assign (.Name y py) X.env))) _ _ s
  refine wpAny_bind (wpAny_mono (wpAny_comprehension_free (use := some (assign (.Name y py) X.env)) (Q := fun _ s' => SP X pins D .next s') rfl hs (closure_is (c.cells I)) c.kind c.loc
    (thn (hi pins s σ H _ I h) fun v s1 h1 => thn h1 fun itv s2 h2 => ?_)) (fun _ s' hq => wpAny_pure (wpAny_pure hq)) fun _ _ e => e)
  obtain ⟨it, fp, tn, J, H2, e, I2, T, t2, f2, hw⟩ := h2
  subst e
  refine comp_coreG (RR := fun acc C => compPost (model X.prog X.w) X.A X.xe (some (assign (.Name y py) X.env)) (fun _ s' => SP X pins D .next s') acc C) (Q := fun v H1 => D.nx (σ.set i (some v)) H1) c hc hifs I2 T t2 f2 hg he hw ?_
  intro a C H' s' m hn K f q
  show wpAny _ _ (assign (.Name y py) X.env (.ref a)) _ _ _
  refine wpAny_assign_Name (store_ok2 K hN hy (.inl hl) (show RelV (.ref a) (.ref a) from rfl) (fun s'' K2 ⟨b, sb, hb⟩ => ?_) (.inr hl))
  have hCb : C ≠ b := by
    rcases hb with e | e
    · rw [e]; exact f.2.1
    · exact Ne.symm (f.2.2.2.2.1 y b e)
  refine ⟨m, hn.sameBut sb hCb, fun h' hs' => ?_⟩
  exact ⟨_, H', K2.turned (t' := s''.toks) (fun b o hb e => (hs'.2 b hb).trans e) f.1 f.2.1 f.2.2.2.1 f.2.2.2.2.1 f.2.2.2.2.2, q⟩
end
noncomputable def compGB (sc : Scope) (N : List Str) (scope : Scope) (fr : List (Str × Nat)) : Bool :=
  decide (scope.kind = .function) && decide ((scope.names.map (·.1)).Nodup) && decide (∀ y ∈ scope.names, y.2 = .free → sc.names.lookup y.1 = some .cell ∨ sc.names.lookup y.1 = some .free) &&
  decide (∀ y ∈ scope.names, y.2 = .local → scope.names.lookup y.1 = some .local) && decide (∀ p ∈ fr, N[p.2]? = some p.1 ∧ scope.names.lookup p.1 = some .free)
theorem compG_ok {X : Cx} {sc scope : Scope} {N xs : List Str} {fr : List (Str × Nat)} (h1 : X.env.scope = sc) (h2 : X.N = N) (h : compGB sc N scope fr = true) : CompOkG X sc scope xs fr := by
  unfold compGB at h
  simp only [Bool.and_eq_true, decide_eq_true_eq] at h
  obtain ⟨⟨⟨⟨e1, e2⟩, e3⟩, e4⟩, e5⟩ := h
  subst h2
  exact ⟨h1, e1, e2, e3, e4, e5⟩
noncomputable def nameB (sc : Scope) (N : List Str) (i : Nat) (x : Str) : Bool := decide (N.Nodup) && decide (N[i]? = some x) && (decide (sc.names.lookup x = some .local))
theorem pg_own {X : Cx} {sc : Scope} {N : List Str} {i : Nat} {x : Str} {pos : Pos} (h1 : X.env.scope = sc) (h2 : X.N = N) (h : nameB sc N i x = true) : PG X (.Name x pos) (gName i) := by
  unfold nameB at h
  simp only [Bool.and_eq_true, decide_eq_true_eq] at h
  subst h1 h2
  exact pg_name h.1.1 h.1.2 (.inl h.2) (.inr h.2)
theorem pg_ownC {X : Cx} {sc : Scope} {N : List Str} {i : Nat} {x : Str} {pos : Pos} (h1 : X.env.scope = sc) (h2 : X.N = N) (h : (decide (N.Nodup) && decide (N[i]? = some x) && (decide (sc.names.lookup x = some .cell))) = true) (hf : X.fn x = true) : PG X (.Name x pos) (gName i) := by
  simp only [Bool.and_eq_true, decide_eq_true_eq] at h
  subst h1 h2
  exact pg_name h.1.1 h.1.2 (.inr h.2) (.inl hf)
noncomputable def SqB (b : Bool) (K : Frag) (H : Hp) (a : Addr) (xs : List V) : Prop := match b with | false => SqL K H a xs | true => SqT K H a xs
noncomputable def ItB (b : Bool) (h : Heap) (it a : Addr) (i : Nat) : Prop := match b with | false => h.IsListIter it a i | true => h.IsTupleIter it a i
noncomputable def seqB (b : Bool) (h : Heap) (a : Addr) (its : Array Value) : Prop := match b with | false => h.IsList a its | true => h.IsTuple a its
noncomputable def nmB (b : Bool) : String := match b with | false => "list_iterator" | true => "tuple_iterator"
theorem ItB.at {b : Bool} {h h' : Heap} {it a : Addr} {i : Nat} (x : ItB b h it a i) (e : ∀ o, h.get? it = some o → h'.get? it = some o) : ItB b h' it a i := by
  cases b
  · exact Heap.IsListIter.at x e
  · exact Heap.IsTupleIter.at x e
theorem seqB.at {b : Bool} {h h' : Heap} {a : Addr} {its : Array Value} (x : seqB b h a its) (e : ∀ o, h.get? a = some o → h'.get? a = some o) : seqB b h' a its := by
  cases b
  · exact Heap.IsList.at x e
  · obtain ⟨o, ho, r⟩ := x
    exact ⟨o, e o ho, r⟩
theorem ItB.lt {b : Bool} {h : Heap} {it a : Addr} {i : Nat} (x : ItB b h it a i) : ∃ o, h.get? it = some o ∧ ∀ v, o.data ≠ .cell v := by
  cases b
  · obtain ⟨o, e, c, d⟩ := x
    exact ⟨o, e, fun v z => by rw [d] at z; cases z⟩
  · obtain ⟨o, e, c, d⟩ := x
    exact ⟨o, e, fun v z => by rw [d] at z; cases z⟩
section
variable {prog : Program} {w : World} {A : Around} {E : Value → Shared → Prop} {s : Shared}
theorem nextT_item {it t : Addr} {i : Nat} {items} {x : Value} {Q : Value → Shared → Prop} (hit : s.heap.IsTupleIter it t i) (ht : s.heap.IsTuple t items) (hx : items[i]? = some x)
    (hQ : ∀ h', h'.IsTupleIter it t (i + 1) → Heap.SameBut it s.heap h' → Q x { s with heap := h' }) : wpAny (model prog w) A (Builtin.SmallTypes.nextOf (.ref it)) Q E s := by
  obtain ⟨o, ho, hc, hd⟩ := id hit
  obtain ⟨ol, hol, _, nl, hdl⟩ := ht
  unfold Builtin.SmallTypes.nextOf
  refine wpAny_bind (wpAny_callSpecial?_slot (name := Str.ofString "__next__") hit.typeIs F.slot_tuple_iterator_next
    (wpAny_call_entry F.slot_tuple_iterator_next hit.typeIs F.entry_tuple_iterator_next ?_ (F.args_tuple_iterator_next_1 _)))
  show wpAny _ _ (field (.ref it) 0 >>= _) _ _ s
  refine wpAny_bind (wpAny_field ho hd (x := .ref t) rfl ?_)
  show wpAny _ _ (if (Value.ref t == Value.none) = true then _ else _) _ _ s
  rw [if_neg (show ¬ ((Value.ref t == Value.none) = true) from Bool.false_ne_true)]
  show wpAny _ _ (field (.ref it) 1 >>= _) _ _ s
  refine wpAny_bind (wpAny_field ho hd (x := .int i 0) rfl ?_)
  show wpAny _ _ (seqItems? (.ref t) >>= _) _ _ s
  refine wpAny_bind (wpAny_seqItems hol hdl ?_)
  simp only [Int.toNat_natCast, hx]
  refine wpAny_bind (wpAny_setField ho hd (by simp) (wpAny_pure ⟨x, rfl, wpAny_pure (hQ _ ?_ (Heap.SameBut.update ..))⟩))
  exact ⟨_, Heap.get?_update_self _ ho (Obj.isFreed_of_fields (Obj.data_mapFields hd _)), (Obj.cls_mapFields ..).trans hc, by
    rw [Obj.data_mapFields hd]; simp [rawInt]⟩
theorem nextT_end {it t : Addr} {i : Nat} {items} {Q : Value → Shared → Prop} (hh : A.handled = none) (hit : s.heap.IsTupleIter it t i) (ht : s.heap.IsTuple t items) (hx : items[i]? = none)
    (hE : ∀ h' e, Heap.ExtBut it s.heap h' → (∃ o, h'.get? e = some o ∧ o.cls = .type "StopIteration") → E (.ref e) { s with heap := h' }) : wpAny (model prog w) A (Builtin.SmallTypes.nextOf (.ref it)) Q E s := by
  obtain ⟨o, ho, hc, hd⟩ := id hit
  obtain ⟨ol, hol, _, nl, hdl⟩ := ht
  unfold Builtin.SmallTypes.nextOf
  refine wpAny_bind (wpAny_callSpecial?_slot (name := Str.ofString "__next__") hit.typeIs F.slot_tuple_iterator_next
    (wpAny_call_entry F.slot_tuple_iterator_next hit.typeIs F.entry_tuple_iterator_next ?_ (F.args_tuple_iterator_next_1 _)))
  show wpAny _ _ (field (.ref it) 0 >>= _) _ _ s
  refine wpAny_bind (wpAny_field ho hd (x := .ref t) rfl ?_)
  show wpAny _ _ (if (Value.ref t == Value.none) = true then _ else _) _ _ s
  rw [if_neg (show ¬ ((Value.ref t == Value.none) = true) from Bool.false_ne_true)]
  show wpAny _ _ (field (.ref it) 1 >>= _) _ _ s
  refine wpAny_bind (wpAny_field ho hd (x := .int i 0) rfl ?_)
  show wpAny _ _ (seqItems? (.ref t) >>= _) _ _ s
  refine wpAny_bind (wpAny_seqItems hol hdl ?_)
  simp only [Int.toNat_natCast, hx]
  refine wpAny_bind (wpAny_rule (wpAny_bind (wpAny_setField ho hd (by simp) ?_)))
  show wpAny _ _ (newExc (.type "StopIteration") [] >>= _) _ _ _
  refine wpAny_bind ?_
  simp only [newExc, newTuple]
  refine wpAny_bind (wpAny_newObj_type ?_ (by size_fits))
  refine wpAny_bind (m := firstArgMember _ _) (wpAny_of_eq (a := Value.none) (by first | rfl | (simp only [firstArgMember]; rfl)) ?_)
  refine wpAny_newObj_type ?_ (by size_fits)
  simp only [raiseNew]
  refine wpAny_bind (wpAny_handled ?_)
  first | rw [show A.in1.handled = none from hh] | rw [hh]
  refine wpAny_bind (wpAny_pure (wpAny_throw ?_))
  exact hE _ _ (((Heap.SameBut.update ..).extBut.push _).push _) ⟨_, Heap.get?_push_size _ rfl, rfl⟩
theorem nextB_item {b : Bool} {it l : Addr} {i : Nat} {items : Array Value} {x : Value} {Q : Value → Shared → Prop} (hit : ItB b s.heap it l i) (hl : seqB b s.heap l items) (hx : items[i]? = some x)
    (hQ : ∀ h', ItB b h' it l (i + 1) → Heap.SameBut it s.heap h' → Q x { s with heap := h' }) : wpAny (model prog w) A (Builtin.SmallTypes.nextOf (.ref it)) Q E s := by
  cases b
  · exact wpAny_nextOf_list_item hit hl hx hQ
  · exact nextT_item hit hl hx hQ
theorem nextB_end {b : Bool} {it l : Addr} {i : Nat} {items : Array Value} {Q : Value → Shared → Prop} (hh : A.handled = none) (hit : ItB b s.heap it l i) (hl : seqB b s.heap l items) (hx : items[i]? = none)
    (hE : ∀ h' e, Heap.ExtBut it s.heap h' → (∃ o, h'.get? e = some o ∧ o.cls = .type "StopIteration") → E (.ref e) { s with heap := h' }) : wpAny (model prog w) A (Builtin.SmallTypes.nextOf (.ref it)) Q E s := by
  cases b
  · exact wpAny_nextOf_list_end hh hit hl hx hE
  · exact nextT_end hh hit hl hx hE
theorem iterB {b : Bool} {l : Addr} {items : Array Value} {Q : Value → Shared → Prop} (hl : seqB b s.heap l items)
    (hQ : Q (.ref s.heap.objs.size) { s with heap := s.heap.push { cls := .type (nmB b), data := .fields #[.ref l, .int 0 0] } }) : wpAny (model prog w) A (pyIter (.ref l)) Q E s := by
  cases b
  · exact wpAny_pyIter_list hl hQ
  · exact wpAny_pyIter_tuple hl hQ
theorem iterB_new {b : Bool} {h : Heap} {l : Addr} : ItB b (h.push { cls := .type (nmB b), data := .fields #[.ref l, .int 0 0] }) h.objs.size l 0 := by
  cases b
  · exact ⟨_, Heap.get?_push_size _ rfl, rfl, rfl⟩
  · exact ⟨_, Heap.get?_push_size _ rfl, rfl, rfl⟩
theorem drawsB (b : Bool) (hh : A.handled = none) (it l : Addr) (hne : l ≠ it) (items : Array Value) :
    Draws prog w A it [it, l] items.size (fun i v => items[i]? = some v) (fun i h => ItB b h it l i ∧ seqB b h l items) where
  live := fun _ _ st => let ⟨o, ho, _⟩ := st.1.lt; ⟨o, ho⟩
  frame := fun _ _ _ st hk => ⟨st.1.at fun o e => hk it (by simp) o e, st.2.at fun o e => hk l (by simp) o e⟩
  item := fun i s Q E hi st hQ => by
    refine nextB_item st.1 st.2 (x := items[i]) (by simp [hi]) fun h' hit' hs' => ?_
    exact hQ _ h' s.toks (by simp [hi]) ⟨hit', st.2.at fun o e => (hs'.2 l hne).trans e⟩ hs'
  done := fun s Q E st hE => nextB_end hh st.1 st.2 (by simp) hE

theorem zipB_item {b1 b2 : Bool} {z TI TO i1 i2 l1 l2 : Addr} {k1 k2 : Nat} {xs ys : Array Value} {x y a b : Value} {Q : Option Value → Shared → Prop} (D : ZipApart z TI TO i1 i2 l1 l2)
    (hz : IsZip s.heap z TI TO .none) (hTI : IsPair s.heap TI (.ref i1) (.ref i2)) (hTO : IsPair s.heap TO a b)
    (h1 : ItB b1 s.heap i1 l1 k1) (h2 : ItB b2 s.heap i2 l2 k2) (hl1 : seqB b1 s.heap l1 xs) (hl2 : seqB b2 s.heap l2 ys) (hx : xs[k1]? = some x) (hy : ys[k2]? = some y)
    (hQ : ∀ h', IsZip h' z TI TO (rawInt s.heap.objs.size) → IsPair h' TO x y → ItB b1 h' i1 l1 (k1 + 1) → ItB b2 h' i2 l2 (k2 + 1) → IsPair h' s.heap.objs.size x y → h'.objs.size = s.heap.objs.size + 1 →
      (∀ c o, c ≠ z → c ≠ TO → c ≠ i1 → c ≠ i2 → s.heap.get? c = some o → h'.get? c = some o) → Q (some (.ref s.heap.objs.size)) { s with heap := h' }) :
    wpAny (model prog w) A (pyNext (.ref z)) Q E s := by
  have hT : s.TypeIs (.ref z) "zip" := ⟨_, hz, rfl⟩
  unfold pyNext
  refine wpAny_bind (wpAny_attempt (wpAny_callSpecial?_slot (name := Str.ofString "__next__") hT F.slot_zip_next (wpAny_call_entry F.slot_zip_next hT F.entry_zip_next ?_ (F.args_zip_next_1 _))))
  show wpAny _ _ (field (.ref z) 2 >>= _) _ _ _
  refine wpAny_bind (wpAny_field hz rfl (x := .bool false) rfl ?_)
  show wpAny _ _ (field (.ref z) 3 >>= _) _ _ _
  refine wpAny_bind (wpAny_field hz rfl (x := .ref TI) rfl ?_)
  refine wpAny_bind (wpAny_seqItems hTI rfl ?_)
  show wpAny _ _ (Builtin.SmallTypes.ownedTupleIsFree (.ref z) >>= _) _ _ _
  refine wpAny_bind ?_
  unfold Builtin.SmallTypes.ownedTupleIsFree
  refine wpAny_bind (wpAny_field hz rfl (x := .none) rfl (wpAny_pure ?_))
  simp only [if_true]
  refine wpAny_bind (wpAny_rule ?_)
  refine wpAny_bind (wpAny_field hz rfl (x := .ref TO) rfl ?_)
  refine wpAny_bind (wpAny_setField_rec hz (by simp) fun h₁ hz₁ hs₁ => ?_)
  replace hz₁ : IsZip h₁ z TI TO .ellipsis := hz₁
  refine wpAny_bind ?_
  simp only [List.zipIdx_cons, List.zipIdx_nil, List.forIn_cons, List.forIn_nil]
  refine wpAny_bind (wpAny_bind (wpAny_onRaise ?_))
  show wpAny _ _ (Builtin.SmallTypes.nextOf (.ref i1) >>= _) _ _ _
  refine wpAny_bind (nextB_item (h1.at fun o e => hs₁.extBut _ _ D.i1z e) (hl1.at fun o e => hs₁.extBut _ _ D.l1z e) hx fun h₂ h1₂ hs₂ => wpAny_pure ?_)
  have hTO₂ : IsPair h₂ TO a b := hs₂.extBut _ _ D.TOi1 (hs₁.extBut _ _ D.TOz hTO)
  refine wpAny_bind (wpAny_seqItems hTO₂ rfl ?_)
  refine wpAny_bind (wpAny_updateSeq_pair hTO₂ fun h₃ hTO₃ hs₃ => ?_)
  replace hTO₃ : IsPair h₃ TO x b := hTO₃
  refine wpAny_bind (wpAny_letGo (wpAny_pure ?_))
  refine wpAny_bind (wpAny_bind (wpAny_onRaise ?_))
  show wpAny _ _ (Builtin.SmallTypes.nextOf (.ref i2) >>= _) _ _ _
  refine wpAny_bind (nextB_item (h2.at fun o e => hs₃.extBut _ _ D.TOi2.symm (hs₂.extBut _ _ D.i12.symm (hs₁.extBut _ _ D.i2z e)))
    (hl2.at fun o e => hs₃.extBut _ _ D.l2TO (hs₂.extBut _ _ D.l2i1 (hs₁.extBut _ _ D.l2z e))) hy fun h₄ h2₄ hs₄ => wpAny_pure ?_)
  have hTO₄ : IsPair h₄ TO x b := hs₄.extBut _ _ D.TOi2 hTO₃
  refine wpAny_bind (wpAny_seqItems hTO₄ rfl ?_)
  refine wpAny_bind (wpAny_updateSeq_pair hTO₄ fun h₅ hTO₅ hs₅ => ?_)
  replace hTO₅ : IsPair h₅ TO x y := hTO₅
  refine wpAny_bind (wpAny_letGo (wpAny_pure (wpAny_pure ?_)))
  refine wpAny_bind (wpAny_seqItems hTO₅ rfl ?_)
  refine wpAny_bind (wpAny_newTuple ?_)
  have hsz : h₅.objs.size = s.heap.objs.size := by rw [hs₅.1, hs₄.1, hs₃.1, hs₂.1, hs₁.1]
  have hz₅ : IsZip h₅ z TI TO .ellipsis := hs₅.extBut _ _ D.TOz.symm (hs₄.extBut _ _ D.i2z.symm (hs₃.extBut _ _ D.TOz.symm (hs₂.extBut _ _ D.i1z.symm hz₁)))
  have hk₅ : ∀ c o, c ≠ z → c ≠ TO → c ≠ i1 → c ≠ i2 → s.heap.get? c = some o → h₅.get? c = some o := fun c o c1 c2 c3 c4 e =>
    hs₅.extBut _ _ c2 (hs₄.extBut _ _ c4 (hs₃.extBut _ _ c2 (hs₂.extBut _ _ c3 (hs₁.extBut _ _ c1 e))))
  have h1₅ : ItB b1 h₅ i1 l1 (k1 + 1) := h1₂.at fun o e => hs₅.extBut _ _ D.TOi1.symm (hs₄.extBut _ _ D.i12 (hs₃.extBut _ _ D.TOi1.symm e))
  have h2₅ : ItB b2 h₅ i2 l2 (k2 + 1) := h2₄.at fun o e => hs₅.extBut _ _ D.TOi2.symm e
  have hzlt : z < h₅.objs.size := Heap.lt_size hz₅
  show wpAny _ _ (Builtin.SmallTypes.ownedTupleHandOut (.ref z) (.ref h₅.objs.size) >>= _) _ _ _
  refine wpAny_bind ?_
  unfold Builtin.SmallTypes.ownedTupleHandOut
  have hz₆ : IsZip (h₅.push { cls := .type "tuple", data := .seq #[x, y] }) z TI TO .ellipsis := Heap.get?_push_of_some _ hz₅
  refine wpAny_bind (wpAny_setField_rec hz₆ (by simp) fun h₇ hz₇ hs₇ => ?_)
  replace hz₇ : IsZip h₇ z TI TO (rawInt h₅.objs.size) := hz₇
  refine wpAny_setField_rec hz₇ (by simp) fun h₈ hz₈ hs₈ => ?_
  replace hz₈ : IsZip h₈ z TI TO (rawInt h₅.objs.size) := hz₈
  have up : ∀ c o, c ≠ z → h₅.get? c = some o → h₈.get? c = some o := fun c o c1 e => hs₈.extBut _ _ c1 (hs₇.extBut _ _ c1 (Heap.get?_push_of_some _ e))
  have hT₈ : IsPair h₈ h₅.objs.size x y := hs₈.extBut _ _ (Nat.ne_of_gt hzlt) (hs₇.extBut _ _ (Nat.ne_of_gt hzlt) (Heap.get?_push_size _ rfl))
  have hz8 : h₈.objs.size = h₅.objs.size + 1 := by rw [hs₈.1, hs₇.1, Heap.size_push]
  rw [hsz] at hz₈ hT₈ hz8
  refine wpAny_pure ⟨_, rfl, wpAny_pure ?_⟩
  show Q (some (.ref h₅.objs.size)) _
  rw [hsz]
  exact hQ h₈ hz₈ (up _ _ D.TOz hTO₅) (h1₅.at fun o e => up _ o D.i1z e) (h2₅.at fun o e => up _ o D.i2z e) hT₈ hz8 fun c o c1 c2 c3 c4 e => up c o c1 (hk₅ c o c1 c2 c3 c4 e)
theorem zipB_end {b1 b2 : Bool} {z TI TO i1 i2 l1 l2 : Addr} {k1 k2 : Nat} {xs ys : Array Value} {a b : Value} {Q : Option Value → Shared → Prop} (hh : A.handled = none) (D : ZipApart z TI TO i1 i2 l1 l2)
    (hz : IsZip s.heap z TI TO .none) (hTI : IsPair s.heap TI (.ref i1) (.ref i2)) (hTO : IsPair s.heap TO a b)
    (h1 : ItB b1 s.heap i1 l1 k1) (h2 : ItB b2 s.heap i2 l2 k2) (hl1 : seqB b1 s.heap l1 xs) (hl2 : seqB b2 s.heap l2 ys) (hend : xs[k1]? = none ∨ ys[k2]? = none)
    (hQ : ∀ h', (∀ c o, c ≠ z → c ≠ TO → c ≠ i1 → c ≠ i2 → s.heap.get? c = some o → h'.get? c = some o) → Q none { s with heap := h' }) : wpAny (model prog w) A (pyNext (.ref z)) Q E s := by
  have hT : s.TypeIs (.ref z) "zip" := ⟨_, hz, rfl⟩
  unfold pyNext
  refine wpAny_bind (wpAny_attempt (wpAny_callSpecial?_slot (name := Str.ofString "__next__") hT F.slot_zip_next (wpAny_call_entry F.slot_zip_next hT F.entry_zip_next (Q := _) ?_ (F.args_zip_next_1 _))))
  show wpAny _ _ (field (.ref z) 2 >>= _) _ _ _
  refine wpAny_bind (wpAny_field hz rfl (x := .bool false) rfl ?_)
  show wpAny _ _ (field (.ref z) 3 >>= _) _ _ _
  refine wpAny_bind (wpAny_field hz rfl (x := .ref TI) rfl ?_)
  refine wpAny_bind (wpAny_seqItems hTI rfl ?_)
  show wpAny _ _ (Builtin.SmallTypes.ownedTupleIsFree (.ref z) >>= _) _ _ _
  refine wpAny_bind ?_
  unfold Builtin.SmallTypes.ownedTupleIsFree
  refine wpAny_bind (wpAny_field hz rfl (x := .none) rfl (wpAny_pure ?_))
  simp only [if_true]
  refine wpAny_bind (wpAny_rule ?_)
  refine wpAny_bind (wpAny_field hz rfl (x := .ref TO) rfl ?_)
  refine wpAny_bind (wpAny_setField_rec hz (by simp) fun h₁ hz₁ hs₁ => ?_)
  replace hz₁ : IsZip h₁ z TI TO .ellipsis := hz₁
  refine wpAny_bind ?_
  simp only [List.zipIdx_cons, List.zipIdx_nil, List.forIn_cons, List.forIn_nil]
  refine wpAny_bind (wpAny_bind (wpAny_onRaise ?_))
  show wpAny _ _ (Builtin.SmallTypes.nextOf (.ref i1) >>= _) _ _ _
  cases hx : xs[k1]? with
  | none =>
    refine wpAny_bind (nextB_end hh (h1.at fun o e => hs₁.extBut _ _ D.i1z e) (hl1.at fun o e => hs₁.extBut _ _ D.l1z e) hx fun h₂ e hs₂ he => ?_)
    obtain ⟨oe, hoe, hce⟩ := he
    have hz₂ : IsZip h₂ z TI TO .ellipsis := hs₂ _ _ D.i1z.symm hz₁
    have hez : e ≠ z := fun x => by subst x; rw [hz₂] at hoe; cases hoe; simp at hce
    refine wpAny_setField_rec hz₂ (by simp) fun h₃ _ hs₃ => ?_
    refine wpAny_bind (wpAny_isInstance (T := "StopIteration") (b := true) ⟨oe, hs₃.extBut _ _ hez hoe, hce⟩ isSubtype_stop ?_)
    exact wpAny_pure (hQ h₃ fun c o c1 _ c3 _ x => hs₃.extBut _ _ c1 (hs₂ _ _ c3 (hs₁.extBut _ _ c1 x)))
  | some x =>
    have hy : ys[k2]? = none := by rcases hend with h | h; rw [hx] at h; cases h; exact h
    refine wpAny_bind (nextB_item (h1.at fun o e => hs₁.extBut _ _ D.i1z e) (hl1.at fun o e => hs₁.extBut _ _ D.l1z e) hx fun h₂ h1₂ hs₂ => wpAny_pure ?_)
    have hTO₂ : IsPair h₂ TO a b := hs₂.extBut _ _ D.TOi1 (hs₁.extBut _ _ D.TOz hTO)
    refine wpAny_bind (wpAny_seqItems hTO₂ rfl ?_)
    refine wpAny_bind (wpAny_updateSeq_pair hTO₂ fun h₃ hTO₃ hs₃ => ?_)
    refine wpAny_bind (wpAny_letGo (wpAny_pure ?_))
    refine wpAny_bind (wpAny_bind (wpAny_onRaise ?_))
    show wpAny _ _ (Builtin.SmallTypes.nextOf (.ref i2) >>= _) _ _ _
    refine wpAny_bind (nextB_end hh (h2.at fun o e => hs₃.extBut _ _ D.TOi2.symm (hs₂.extBut _ _ D.i12.symm (hs₁.extBut _ _ D.i2z e)))
      (hl2.at fun o e => hs₃.extBut _ _ D.l2TO (hs₂.extBut _ _ D.l2i1 (hs₁.extBut _ _ D.l2z e))) hy fun h₄ e hs₄ he => ?_)
    obtain ⟨oe, hoe, hce⟩ := he
    have hz₄ : IsZip h₄ z TI TO .ellipsis := hs₄ _ _ D.i2z.symm (hs₃.extBut _ _ D.TOz.symm (hs₂.extBut _ _ D.i1z.symm hz₁))
    have hez : e ≠ z := fun x => by subst x; rw [hz₄] at hoe; cases hoe; simp at hce
    refine wpAny_setField_rec hz₄ (by simp) fun h₅ _ hs₅ => ?_
    refine wpAny_bind (wpAny_isInstance (T := "StopIteration") (b := true) ⟨oe, hs₅.extBut _ _ hez hoe, hce⟩ isSubtype_stop ?_)
    exact wpAny_pure (hQ h₅ fun c o c1 c2 c3 c4 x => hs₅.extBut _ _ c1 (hs₄ _ _ c4 (hs₃.extBut _ _ c2 (hs₂.extBut _ _ c3 (hs₁.extBut _ _ c1 x)))))
end
noncomputable abbrev zB1 (b1 : Bool) (h : Heap) (l1 : Addr) : Heap := h.push { cls := .type (nmB b1), data := .fields #[.ref l1, .int 0 0] }
noncomputable abbrev zB2 (b1 b2 : Bool) (h : Heap) (l1 l2 : Addr) : Heap := (zB1 b1 h l1).push { cls := .type (nmB b2), data := .fields #[.ref l2, .int 0 0] }
noncomputable abbrev zB3 (b1 b2 : Bool) (h : Heap) (l1 l2 : Addr) : Heap := (zB2 b1 b2 h l1 l2).push { cls := .type "tuple", data := .seq #[.ref h.objs.size, .ref (zB1 b1 h l1).objs.size] }
noncomputable abbrev zB4 (b1 b2 : Bool) (h : Heap) (l1 l2 : Addr) : Heap := (zB3 b1 b2 h l1 l2).push { cls := .type "tuple", data := .seq #[.none, .none] }
noncomputable abbrev zB5 (b1 b2 : Bool) (h : Heap) (l1 l2 : Addr) : Heap := (zB4 b1 b2 h l1 l2).push { cls := .type "zip", data := .fields #[.none, .bool false, .bool false, .ref (zB2 b1 b2 h l1 l2).objs.size, .ref (zB3 b1 b2 h l1 l2).objs.size] }
theorem meets_zipB (b1 b2 : Bool) (l1 l2 : Addr) (xs ys : Array Value) :
    Meets (Builtin.«zip.__new__» ⟨[.type "zip", .ref l1, .ref l2], []⟩) (fun _ R s => seqB b1 s.heap l1 xs ∧ seqB b2 s.heap l2 ys ∧
      R (.ok (.ret (.ref (zB4 b1 b2 s.heap l1 l2).objs.size))) { s with heap := zB5 b1 b2 s.heap l1 l2 }) :=
  .of_wp fun prog w A R s h => by
    obtain ⟨hp, g, d, tk, os⟩ := s; obtain ⟨hl1, hl2, h⟩ := h
    have hsub := sub_zip
    have hL1 : seqB b1 (Shared.heap ⟨hp, g, d, tk, os⟩) l1 xs := hl1
    have hL2 : seqB b2 (Shared.heap ⟨hp.push { cls := .type (nmB b1), data := .fields #[.ref l1, .int 0 0] }, g, d, tk, os⟩) l2 ys := hl2.at fun o e => Heap.get?_push_of_some _ e
    wp_walk using iterB hL1, iterB hL2
    exact ⟨_, rfl, h⟩
theorem call_zipB {prog : Program} {w : World} {A : Around} {E : Value → Shared → Prop} {s : Shared} {b1 b2 : Bool} {l1 l2 : Addr} {xs ys : Array Value} {Q : Value → Shared → Prop} (hl1 : seqB b1 s.heap l1 xs) (hl2 : seqB b2 s.heap l2 ys)
    (h : ∀ h', IsZip h' (s.heap.objs.size + 4) (s.heap.objs.size + 2) (s.heap.objs.size + 3) .none → IsPair h' (s.heap.objs.size + 2) (.ref s.heap.objs.size) (.ref (s.heap.objs.size + 1)) →
      IsPair h' (s.heap.objs.size + 3) .none .none → ItB b1 h' s.heap.objs.size l1 0 → ItB b2 h' (s.heap.objs.size + 1) l2 0 →
      (∀ c o, s.heap.get? c = some o → h'.get? c = some o) → Q (.ref (s.heap.objs.size + 4)) { s with heap := h' }) :
    wpAny (model prog w) A (call (.type "zip") [.ref l1, .ref l2]) Q E s := by
  refine callType_new F.called_zip (by decide) (F.typeCall_zip_2 _ _) (F.newCall_zip_2 _ _) (fun obj => F.args_object_init_3 obj _ _) F.entry_zip_new
    (meets_zipB b1 b2 l1 l2 xs ys) ⟨hl1, hl2, ?_⟩
  have z1 : (zB1 b1 s.heap l1).objs.size = s.heap.objs.size + 1 := Heap.size_push ..
  have z2 : (zB2 b1 b2 s.heap l1 l2).objs.size = s.heap.objs.size + 2 := by rw [Heap.size_push, z1]
  have z3 : (zB3 b1 b2 s.heap l1 l2).objs.size = s.heap.objs.size + 3 := by rw [Heap.size_push, z2]
  have z4 : (zB4 b1 b2 s.heap l1 l2).objs.size = s.heap.objs.size + 4 := by rw [Heap.size_push, z3]
  have g5 : (zB5 b1 b2 s.heap l1 l2).get? (zB4 b1 b2 s.heap l1 l2).objs.size = some _ := Heap.get?_push_size _ rfl
  have g4 : (zB5 b1 b2 s.heap l1 l2).get? (zB3 b1 b2 s.heap l1 l2).objs.size = some _ := Heap.get?_push_of_some _ (Heap.get?_push_size _ rfl)
  have g3 : (zB5 b1 b2 s.heap l1 l2).get? (zB2 b1 b2 s.heap l1 l2).objs.size = some _ := Heap.get?_push_of_some _ (Heap.get?_push_of_some _ (Heap.get?_push_size _ rfl))
  have u2 : ∀ c o, (zB2 b1 b2 s.heap l1 l2).get? c = some o → (zB5 b1 b2 s.heap l1 l2).get? c = some o := fun c o e => Heap.get?_push_of_some _ (Heap.get?_push_of_some _ (Heap.get?_push_of_some _ e))
  have g2 : ItB b2 (zB5 b1 b2 s.heap l1 l2) (zB1 b1 s.heap l1).objs.size l2 0 := iterB_new.at fun o e => u2 _ o e
  have g1 : ItB b1 (zB5 b1 b2 s.heap l1 l2) s.heap.objs.size l1 0 := iterB_new.at fun o e => u2 _ o (Heap.get?_push_of_some _ e)
  show _ ∧ _
  rw [z2, z3, z4] at g5
  rw [z1, z2] at g3
  rw [z3] at g4
  rw [z1] at g2
  rw [z4]
  exact ⟨⟨_, g5, rfl⟩, h _ g5 g3 g4 g1 g2 fun c o x => u2 c o (Heap.get?_push_of_some _ (Heap.get?_push_of_some _ x))⟩
section
variable {X : Cx} {pins : List (Addr × Obj)} {σ : St} {H : Hp} {s : Shared} {h' : Heap}
theorem Inv.seqB {b : Bool} {a : Addr} {xs : List V} (I : Inv X pins σ H s) (h : SqB b X.K H a xs) : ∃ its : List Value, Vals xs its ∧ L2.seqB b s.heap a its.toArray := by
  cases b
  · obtain ⟨its, rv, p, _⟩ := I.list h
    exact ⟨its, rv, p.isList⟩
  · obtain ⟨its, rv, p, _⟩ := I.tuple h
    exact ⟨its, rv, p⟩
theorem Inv.seqB_inj {b : Bool} {a : Addr} {xs ys : List V} (I : Inv X pins σ H s) (h : SqB b X.K H a xs) (h2 : SqB b X.K H a ys) : xs = ys := by
  cases b
  · exact I.list_inj h h2
  · exact I.tuple_inj h h2
theorem Inv.seq_ne {b : Bool} {a f : Addr} {xs : List V} (I : Inv X pins σ H s) (h : SqB b X.K H a xs) (hf : FpOk X pins H f) : a ≠ f := by
  have rd : ∀ u, Rd H a u → a ≠ f := fun u r z => by
    subst z
    rcases r with r | ⟨o, r⟩ <;> (rw [hf.1] at r; cases r)
  have kk : ∀ o, X.K.lookup a = some o → a ≠ f := fun o e z => by
    subst z
    have q := I.mod.kin a o e
    rcases hf.2.2.2.1 with w | w
    · exact I.ok.noex _ _ q w
    · exact absurd (Nat.lt_of_lt_of_le (Heap.lt_size q) (Nat.le_trans I.ok.bsz w)) (Nat.lt_irrefl _)
  cases b
  · rcases h with h | ⟨o, its, n, hk, _⟩
    · exact rd _ h
    · exact kk _ hk
  · rcases h with h | ⟨o, its, n, hk, _⟩
    · exact rd _ h
    · exact kk _ hk
theorem Inv.turnedNew {fp : List Addr} {n : Addr} {u : HO} {t' : Nat} (I : Inv X pins σ H s) (hf : ∀ b ∈ fp, FpOk X pins H b) (k : ∀ b o, b ∉ fp → s.heap.get? b = some o → h'.get? b = some o) (hn : s.heap.objs.size ≤ n)
    (new : ObjOk X.prog X.w (upd H n u) h' n u) : Inv X pins σ (upd H n u) { s with heap := h', toks := t' } := by
  have fn := I.hok.fresh hn
  have nfp : ∀ b v, H b = some v → b ∉ fp := fun b v e z => by rw [(hf b z).1] at e; cases e
  have nl : X.env.locals ∉ fp := fun z => (hf _ z).2.1 rfl
  refine I.step (g' := s.gens) (d' := s.drawn) (ch := fp) (fun b hb => ?_) (fun b o _ _ hc e _ => k b o hc e) (fun b o _ _ hc e _ => ⟨o.slots, k b o hc e⟩) (fun b o _ e z => ?_)
    (fun b o hc e => ⟨o, k b o hc e⟩) (fun b xs e => ?_) (fun b o v e => ?_) (fun b ps e => ⟨#[], ?_⟩) (fun m hm => ?_) (fun b v e => ?_) I.bare
  · obtain ⟨f0, f1, f2, f3, f4, f5⟩ := hf b hb
    exact ⟨f3, f1, f4, f5⟩
  · rw [upd_ne (Nat.ne_of_lt (Nat.lt_of_lt_of_le (Heap.lt_size e) hn))]
    exact z
  · rw [upd_ne (ne_of_none e fn)]; exact e
  · rw [upd_ne (ne_of_none e fn)]; exact e
  · rw [upd_ne (ne_of_none e fn), e]; simp
  · obtain ⟨o, es, ep, ho, r⟩ := hm
    exact ⟨o, es, ep, k _ o nl ho, r⟩
  · by_cases hb : b = n
    · subst hb
      rw [upd_same] at e
      cases e
      exact new
    · rw [upd_ne hb] at e
      refine (I.hok b v e).stay (fun c x hc q => k c x ?_ q) (fun c q => by rw [upd_ne (ne_of_none q fn)]; exact q) fun c xs q => by rw [upd_ne (ne_of_none q fn)]; exact q
      rcases hc with z | z
      · rw [z]; exact nfp b v e
      · exact nfp c _ z
theorem Inv.turnedL {fp : List Addr} {t' : Nat} (I : Inv X pins σ H s) (hf : ∀ b ∈ fp, FpOk X pins H b) (k : ∀ b o, b ∉ fp → s.heap.get? b = some o → h'.get? b = some o) : Inv X pins σ H { s with heap := h', toks := t' } := by
  have nfp : ∀ b v, H b = some v → b ∉ fp := fun b v e z => by rw [(hf b z).1] at e; cases e
  have nl : X.env.locals ∉ fp := fun z => (hf _ z).2.1 rfl
  refine I.step (g' := s.gens) (d' := s.drawn) (ch := fp) (fun b hb => ?_) (fun b o _ _ hc e _ => k b o hc e) (fun b o _ _ hc e _ => ⟨o.slots, k b o hc e⟩) (fun b o _ e z => z)
    (fun b o hc e => ⟨o, k b o hc e⟩) (fun b xs e => e) (fun b o v e => e) (fun b ps e => ⟨#[], by rw [e]; simp⟩) (fun m hm => ?_) (fun b v e => ?_) I.bare
  · obtain ⟨f0, f1, f2, f3, f4, f5⟩ := hf b hb
    exact ⟨f3, f1, f4, f5⟩
  · obtain ⟨o, es, ep, ho, r⟩ := hm
    exact ⟨o, es, ep, k _ o nl ho, r⟩
  · refine (I.hok b v e).stay (fun c x hc q => k c x ?_ q) (fun c q => q) fun c xs q => q
    rcases hc with z | z
    · rw [z]; exact nfp b v e
    · exact nfp c _ z
end
noncomputable def Itz (K : Frag) (b1 : Bool) (l1 : Addr) (b2 : Bool) (l2 : Addr) : It :=
  ⟨fun i H => ∃ xs ys x y, SqB b1 K H l1 xs ∧ SqB b2 K H l2 ys ∧ xs[i]? = some x ∧ ys[i]? = some y,
   fun i H v H' => ∃ p x y, v = .ref p ∧ H p = none ∧ H' = upd H p (.tup [x, y]) ∧ (∀ xs, SqB b1 K H l1 xs → xs[i]? = some x) ∧ ∀ ys, SqB b2 K H l2 ys → ys[i]? = some y,
   fun i H => ∃ xs ys, SqB b1 K H l1 xs ∧ SqB b2 K H l2 ys ∧ (xs[i]? = none ∨ ys[i]? = none)⟩
theorem vals_at {xs : List V} {its : List Value} {i : Nat} (r : Vals xs its) : xs[i]? = none → its.toArray[i]? = none := fun h => by
  have := r.none_of h
  simpa using this
theorem turn_zip {P : Program} {w : World} {K : Frag} {es : List Expr} {k : Nat} {pos : Pos} {b1 b2 : Bool} {z TI TO i1 i2 l1 l2 : Addr} (hd : [z, TI, TO, i1, i2].Nodup) :
    Turn P w K (.Tuple es k pos) (Itz K b1 l1 b2 l2) [z, TI, TO, i1, i2] z (fun i h => IsZip h z TI TO .none ∧ IsPair h TI (.ref i1) (.ref i2) ∧ (∃ a b, IsPair h TO a b) ∧ ItB b1 h i1 l1 i ∧ ItB b2 h i2 l2 i) where
  mem := by simp
  obj := fun i h ⟨hz, hTI, ⟨a, b, hTO⟩, h1, h2⟩ c hc => by
    simp only [List.mem_cons, List.not_mem_nil, or_false] at hc
    rcases hc with e | e | e | e | e <;> subst e
    · exact ⟨_, hz, fun v q => by have q' : Data.fields _ = Data.cell v := q; cases q'⟩
    · exact ⟨_, hTI, fun v q => by have q' : Data.seq _ _ = Data.cell v := q; cases q'⟩
    · exact ⟨_, hTO, fun v q => by have q' : Data.seq _ _ = Data.cell v := q; cases q'⟩
    · exact h1.lt
    · exact h2.lt
  keep := fun i h h' ⟨hz, hTI, ⟨a, b, hTO⟩, h1, h2⟩ kk => ⟨kk z (by simp) _ hz, kk TI (by simp) _ hTI, ⟨a, b, kk TO (by simp) _ hTO⟩, h1.at fun o e => kk i1 (by simp) o e, h2.at fun o e => kk i2 (by simp) o e⟩
  item := by
    intro X hP hw hK hc i pins s σ H E I hf st hg
    subst hP hw hK
    obtain ⟨hz, hTI, ⟨a, b, hTO⟩, h1, h2⟩ := st
    obtain ⟨xs, ys, x, y, q1, q2, e1, e2⟩ := hg
    obtain ⟨its1, r1, p1⟩ := I.seqB q1
    obtain ⟨its2, r2, p2⟩ := I.seqB q2
    obtain ⟨u1, hu1, ru1⟩ := r1.get e1
    obtain ⟨u2, hu2, ru2⟩ := r2.get e2
    have ne1 : ∀ f ∈ [z, TI, TO, i1, i2], l1 ≠ f := fun f hff => I.seq_ne q1 (hf f hff)
    have ne2 : ∀ f ∈ [z, TI, TO, i1, i2], l2 ≠ f := fun f hff => I.seq_ne q2 (hf f hff)
    simp only [List.nodup_cons, List.mem_cons, List.not_mem_nil, or_false, not_or, List.nodup_nil, and_true, not_false_eq_true] at hd
    obtain ⟨⟨d1, d2, d3, d4⟩, ⟨d5, d6, d7⟩, ⟨d8, d9⟩, d10⟩ := hd
    have D : ZipApart z TI TO i1 i2 l1 l2 := ⟨Ne.symm d1, Ne.symm d2, Ne.symm d3, Ne.symm d4, d5, d6, d7, d8, d9, d10, ne1 z (by simp), ne1 TO (by simp), ne1 i1 (by simp), ne1 i2 (by simp), ne2 z (by simp), ne2 TO (by simp), ne2 i1 (by simp), ne2 i2 (by simp)⟩
    refine zipB_item D hz hTI hTO h1 h2 p1 p2 (x := u1) (y := u2) (by simpa using hu1) (by simpa using hu2) fun h' a1 a2 a3 a4 a5 a6 a7 => ⟨_, rfl, ?_⟩
    refine wpAny_letOwnedTupleGo_zip a1 fun h'' hz' hs' => ?_
    have up : ∀ c o, c ∉ [z, TI, TO, i1, i2] → s.heap.get? c = some o → h''.get? c = some o := fun c o hc' e => by
      simp only [List.mem_cons, List.not_mem_nil, or_false, not_or] at hc'
      obtain ⟨c1, c2, c3, c4, c5⟩ := hc'
      exact hs'.extBut _ _ c1 (a7 c o c1 c3 c4 c5 e)
    have nz : s.heap.objs.size ≠ z := Nat.ne_of_gt (Heap.lt_size hz)
    have new : ObjOk X.prog X.w (upd H s.heap.objs.size (.tup [x, y])) h'' s.heap.objs.size (.tup [x, y]) :=
      ⟨by show 2 ≤ sizeLine; decide, [u1, u2], .cons ru1 (.cons ru2 .nil), ⟨_, hs'.extBut _ _ nz a5, rfl, _, rfl⟩⟩
    have I2 : Inv X pins σ (upd H s.heap.objs.size (.tup [x, y])) { s with heap := h'' } := I.turnedNew (t' := s.toks) hf up (Nat.le_refl _) new
    refine ⟨.ref s.heap.objs.size, _, I2, rfl, ⟨_, x, y, rfl, I.fresh, rfl, fun xs' q => by rw [I.seqB_inj q q1]; exact e1, fun ys' q => by rw [I.seqB_inj q q2]; exact e2⟩, ⟨hz', hs'.extBut _ _ D.TIz (a7 _ _ D.TIz D.TITO D.TIi1 D.TIi2 hTI), ⟨_, _, hs'.extBut _ _ D.TOz a2⟩, a3.at fun o e => hs'.extBut _ _ D.i1z e, a4.at fun o e => hs'.extBut _ _ D.i2z e⟩, fun c hc' => ?_⟩
    have hcf := (hf c hc').1
    rw [upd_ne]
    · exact hcf
    · intro e
      subst e
      simp only [List.mem_cons, List.not_mem_nil, or_false] at hc'
      rcases hc' with e | e | e | e | e
      · exact nz e
      · exact absurd (Heap.lt_size hTI) (by rw [← e]; exact Nat.lt_irrefl _)
      · exact absurd (Heap.lt_size hTO) (by rw [← e]; exact Nat.lt_irrefl _)
      · obtain ⟨o, q, _⟩ := h1.lt; exact absurd (Heap.lt_size q) (by rw [← e]; exact Nat.lt_irrefl _)
      · obtain ⟨o, q, _⟩ := h2.lt; exact absurd (Heap.lt_size q) (by rw [← e]; exact Nat.lt_irrefl _)
  done := by
    intro X hP hw hK hc i pins s σ H E I hf st hg
    subst hP hw hK
    obtain ⟨hz, hTI, ⟨a, b, hTO⟩, h1, h2⟩ := st
    obtain ⟨xs, ys, q1, q2, e1⟩ := hg
    obtain ⟨its1, r1, p1⟩ := I.seqB q1
    obtain ⟨its2, r2, p2⟩ := I.seqB q2
    have ne1 : ∀ f ∈ [z, TI, TO, i1, i2], l1 ≠ f := fun f hff => I.seq_ne q1 (hf f hff)
    have ne2 : ∀ f ∈ [z, TI, TO, i1, i2], l2 ≠ f := fun f hff => I.seq_ne q2 (hf f hff)
    simp only [List.nodup_cons, List.mem_cons, List.not_mem_nil, or_false, not_or, List.nodup_nil, and_true, not_false_eq_true] at hd
    obtain ⟨⟨d1, d2, d3, d4⟩, ⟨d5, d6, d7⟩, ⟨d8, d9⟩, d10⟩ := hd
    have D : ZipApart z TI TO i1 i2 l1 l2 := ⟨Ne.symm d1, Ne.symm d2, Ne.symm d3, Ne.symm d4, d5, d6, d7, d8, d9, d10, ne1 z (by simp), ne1 TO (by simp), ne1 i1 (by simp), ne1 i2 (by simp), ne2 z (by simp), ne2 TO (by simp), ne2 i1 (by simp), ne2 i2 (by simp)⟩
    refine zipB_end (I.ok.hd hc) D hz hTI hTO h1 h2 p1 p2 (e1.imp (vals_at r1) (vals_at r2)) fun h' a7 => ⟨rfl, I.turnedL (t' := s.toks) hf fun c o hc' e => ?_⟩
    simp only [List.mem_cons, List.not_mem_nil, or_false, not_or] at hc'
    obtain ⟨c1, c2, c3, c4, c5⟩ := hc'
    exact a7 c o c1 c3 c4 c5 e
  self := fun _ _ _ _ _ st h => wpAny_pyIter_zip st.1 h
section
variable {X : Cx}
noncomputable def iZip (K : Frag) (ta : TA) : TI := fun σ H R => ta σ H fun vs H1 => ∃ b1 b2 l1 l2, vs = [.ref l1, .ref l2] ∧ (∃ xs, SqB b1 K H1 l1 xs) ∧ (∃ ys, SqB b2 K H1 l2 ys) ∧ R (Itz K b1 l1 b2 l2) H1
theorem pi_zip {a b : Expr} {ta : TA} {es : List Expr} {k : Nat} {tp p pos : Pos} (hg : Gl X "zip") (hm : X.mg "zip" = none) (ha : PA X [a, b] ta) (hv : bootBuiltins "zip" = some (.type "zip") := by decide +kernel)
    (hs : starEach [a, b] X.env = [(false, eval a X.env), (false, eval b X.env)] := by rfl) (hs2 : starEach [b] X.env = [(false, eval b X.env)] := by rfl) :
    PI X (.Tuple es k tp) (.Call (.Name "zip" p) [a, b] [] pos) (iZip X.K ta) := by
  intro pins s σ H R I h
  refine Call_ (ld_blt I hg hm hv (PyProof.Rows.callWith_type1 (thn (ha pos pins s σ H _ I h) fun us s1 ⟨vs, H1, I1, r1, q1⟩ => ?_) (by rw [hs, hs2]) (by rw [hs2]; rfl)))
  obtain ⟨b1, b2, l1, l2, e, ⟨xs, q1⟩, ⟨ys, q2⟩, q⟩ := q1
  subst e
  cases r1 with
  | cons r rr =>
    cases rr with
    | cons r' rr =>
      cases rr
      cases r
      cases r'
      obtain ⟨its1, v1, p1⟩ := I1.seqB q1
      obtain ⟨its2, v2, p2⟩ := I1.seqB q2
      refine call_zipB p1 p2 fun h' a1 a2 a3 a4 a5 kp => ?_
      refine wpAny_pyIter_zip a1 ?_
      have lt : ∀ j, j ≤ 4 → s1.heap.objs.size ≤ s1.heap.objs.size + j := fun j _ => Nat.le_add_right _ _
      refine ⟨s1.heap.objs.size + 4, [s1.heap.objs.size + 4, s1.heap.objs.size + 2, s1.heap.objs.size + 3, s1.heap.objs.size, s1.heap.objs.size + 1], _, _, H1, rfl, I1.kept (t' := s1.toks) kp, turn_zip (b1 := b1) (b2 := b2) (l1 := l1) (l2 := l2) ?_, ⟨a1, a2, ⟨_, _, a3⟩, a4, a5⟩, fun c hc => ?_, q⟩
      · simp
      · have hle : s1.heap.objs.size ≤ c := by
          simp only [List.mem_cons, List.not_mem_nil, or_false] at hc
          rcases hc with e | e | e | e | e <;> subst e <;> first | exact Nat.le_refl _ | exact Nat.le_add_right _ _
        exact I1.fpOk hle (I1.hok.fresh hle)
end
open AutoSeq1 (wpAny_loadPart')
set_option maxRecDepth 100000 in
theorem meets_enumT (l : Addr) (items : Array Value) (n : Nat) (dct : Option Addr) (sl : Array (Option Value)) :
    Meets (Builtin.«enumerate.__new__» ⟨[.type "enumerate", .ref l], []⟩) (fun _ R s => s.heap.get? l = some { cls := .type "tuple", dict := dct, data := .seq items n, slots := sl } ∧
      R (.ok (.ret (.ref (s.heap.push { cls := .type "tuple_iterator", data := .fields #[.ref l, .int 0 0] }).objs.size)))
        { s with heap := (s.heap.push { cls := .type "tuple_iterator", data := .fields #[.ref l, .int 0 0] }).push { cls := .type "enumerate", data := .fields #[.none, .bool false, .ref s.heap.objs.size, rawInt 0, .none, .none] } }) :=
  .of_wp fun prog w A R s h => by
    obtain ⟨hp, g, d, tk, os⟩ := s; obtain ⟨hl, h⟩ := h
    have hsub := sub_enumerate
    have hL : Heap.IsTuple (Shared.heap ⟨hp, g, d, tk, os⟩) l items := ⟨_, hl, rfl, n, rfl⟩
    wp_walk using wpAny_loadPart' hl
    refine wpAny_stack_any fun st => wpAny_pure ?_
    split
    · rename_i c _ _ _ _ _
      cases (c == Value.type "enumerate")
      · wp_walk using wpAny_loadPart' hl, wpAny_pyIter_tuple hL
        exact ⟨_, rfl, h⟩
      · wp_walk using wpAny_loadPart' hl, wpAny_pyIter_tuple hL
        exact ⟨_, rfl, h⟩
    · wp_walk using wpAny_loadPart' hl, wpAny_pyIter_tuple hL
      exact ⟨_, rfl, h⟩
theorem call_enumB {prog : Program} {w : World} {A : Around} {E : Value → Shared → Prop} {s : Shared} {b : Bool} {l : Addr} {items : Array Value} {Q : Value → Shared → Prop} (hL : seqB b s.heap l items)
    (h : ∀ h', IsEnum h' (s.heap.objs.size + 1) s.heap.objs.size 0 .none → ItB b h' s.heap.objs.size l 0 →
      (∀ b o, s.heap.get? b = some o → h'.get? b = some o) → Q (.ref (s.heap.objs.size + 1)) { s with heap := h' }) :
    wpAny (model prog w) A (call (.type "enumerate") [.ref l]) Q E s := by
  cases b
  · exact call_enumerate_list hL fun h' a1 a2 a3 a4 => h h' a1 a2 a4
  · obtain ⟨⟨c, dct, dt, sl⟩, hl, hc, n, hd⟩ := hL
    replace hc : c = .type "tuple" := hc
    replace hd : dt = .seq items n := hd
    subst hc hd
    refine callType_new F.called_enumerate (by decide) (F.typeCall_enumerate_1 _) (F.newCall_enumerate_1 _) (fun obj => F.args_object_init_2 obj _) F.entry_enumerate_new
      (meets_enumT l items n dct sl) ⟨hl, ?_⟩
    have hz : (s.heap.push { cls := .type "tuple_iterator", data := .fields #[.ref l, .int 0 0] }).objs.size = s.heap.objs.size + 1 := Heap.size_push ..
    show _ ∧ _
    rw [hz]
    have he : IsEnum ((s.heap.push { cls := .type "tuple_iterator", data := .fields #[.ref l, .int 0 0] }).push
        { cls := .type "enumerate", data := .fields #[.none, .bool false, .ref s.heap.objs.size, rawInt 0, .none, .none] }) (s.heap.objs.size + 1) s.heap.objs.size 0 .none := by
      have := Heap.get?_push_size (s.heap.push { cls := .type "tuple_iterator", data := .fields #[.ref l, .int 0 0] })
        (o := { cls := .type "enumerate", data := .fields #[.none, .bool false, .ref s.heap.objs.size, rawInt 0, .none, .none] }) rfl
      rw [hz] at this; exact this
    refine ⟨⟨_, he, rfl⟩, h _ he ⟨_, Heap.get?_push_of_some _ (Heap.get?_push_size _ rfl), rfl, rfl⟩ fun b o x => Heap.get?_push_of_some _ (Heap.get?_push_of_some _ x)⟩
noncomputable def Ite (K : Frag) (b : Bool) (l : Addr) : It :=
  ⟨fun i H => ∃ xs x, SqB b K H l xs ∧ xs[i]? = some x,
   fun i H v H' => ∃ p x, v = .ref p ∧ H p = none ∧ H' = upd H p (.tup [.int i, x]) ∧ ∀ xs, SqB b K H l xs → xs[i]? = some x,
   fun i H => ∃ xs, SqB b K H l xs ∧ xs.length = i⟩
theorem turn_enum {P : Program} {w : World} {K : Frag} {es : List Expr} {k : Nat} {pos : Pos} {b : Bool} {e it l : Addr} (hd : e ≠ it) :
    Turn P w K (.Tuple es k pos) (Ite K b l) [e, it] e (fun i h => (∃ old, IsEnum h e it i old) ∧ ItB b h it l i) where
  mem := by simp
  obj := fun i h ⟨⟨old, hz⟩, h1⟩ c hc => by
    simp only [List.mem_cons, List.not_mem_nil, or_false] at hc
    rcases hc with e | e <;> subst e
    · exact ⟨_, hz, fun v q => by have q' : Data.fields _ = Data.cell v := q; cases q'⟩
    · exact h1.lt
  keep := fun i h h' ⟨⟨old, hz⟩, h1⟩ kk => ⟨⟨old, kk e (by simp) _ hz⟩, h1.at fun o q => kk it (by simp) o q⟩
  item := by
    intro X hP hw hK hc i pins s σ H E I hf st hg
    subst hP hw hK
    obtain ⟨⟨old, hz⟩, h1⟩ := st
    obtain ⟨xs, x, q1, e1⟩ := hg
    obtain ⟨its1, r1, p1⟩ := I.seqB q1
    obtain ⟨u1, hu1, ru1⟩ := r1.get e1
    have ne1 : ∀ f ∈ [e, it], l ≠ f := fun f hff => I.seq_ne q1 (hf f hff)
    have hlt : i < its1.toArray.size := by
      have := (List.getElem?_eq_some_iff.mp hu1).1
      simpa using this
    refine wpAny_pyNext_enum_itemD (drawsB b (show X.A.in1.handled = none from I.ok.hd hc) it l (ne1 it (by simp)) its1.toArray) hz ⟨h1, p1⟩ hlt hd (fun q => ?_) fun u h' tk hP a1 a2 a3 a4 a5 => ⟨_, rfl, ?_⟩
    · simp only [List.mem_cons, List.not_mem_nil, or_false] at q
      rcases q with q | q
      · exact hd q
      · exact ne1 e (by simp) q.symm
    have eu : u = u1 := by
      have : its1.toArray[i]? = some u1 := by simpa using hu1
      rw [this] at hP
      exact (Option.some.inj hP).symm
    subst eu
    refine wpAny_letOwnedTupleGo_enum a1 fun h'' hz' hs' => ?_
    have ne : s.heap.objs.size ≠ e := Nat.ne_of_gt (Heap.lt_size hz)
    have up : ∀ c o, c ∉ [e, it] → s.heap.get? c = some o → h''.get? c = some o := fun c o hc' q => by
      simp only [List.mem_cons, List.not_mem_nil, or_false, not_or] at hc'
      exact hs'.extBut _ _ hc'.1 (a5 c o hc'.1 hc'.2 q)
    have new : ObjOk X.prog X.w (upd H s.heap.objs.size (.tup [.int i, x])) h'' s.heap.objs.size (.tup [.int i, x]) :=
      ⟨by show 2 ≤ sizeLine; decide, [.int i tk, u], .cons ⟨tk, rfl⟩ (.cons ru1 .nil), ⟨_, hs'.extBut _ _ ne a3, rfl, _, rfl⟩⟩
    have I2 : Inv X pins σ (upd H s.heap.objs.size (.tup [.int i, x])) { s with heap := h'', toks := tk + 1 } := I.turnedNew (t' := tk + 1) hf up (Nat.le_refl _) new
    refine ⟨.ref s.heap.objs.size, _, I2, rfl, ⟨_, x, rfl, I.fresh, rfl, fun xs' q => by rw [I.seqB_inj q q1]; exact e1⟩, ⟨⟨u, by simpa using hz'⟩, a2.1.at fun o q => hs'.extBut _ _ (Ne.symm hd) q⟩, fun c hc' => ?_⟩
    have hcf := (hf c hc').1
    rw [upd_ne]
    · exact hcf
    · intro z
      subst z
      simp only [List.mem_cons, List.not_mem_nil, or_false] at hc'
      rcases hc' with z | z
      · exact ne z
      · obtain ⟨o, q, _⟩ := h1.lt; exact absurd (Heap.lt_size q) (by rw [← z]; exact Nat.lt_irrefl _)
  done := by
    intro X hP hw hK hc i pins s σ H E I hf st hg
    subst hP hw hK
    obtain ⟨⟨old, hz⟩, h1⟩ := st
    obtain ⟨xs, q1, e1⟩ := hg
    obtain ⟨its1, r1, p1⟩ := I.seqB q1
    have ne1 : ∀ f ∈ [e, it], l ≠ f := fun f hff => I.seq_ne q1 (hf f hff)
    have el : its1.toArray.size = i := by rw [List.size_toArray, ← r1.length, e1]
    refine wpAny_pyNext_enum_endD (drawsB b (show X.A.in1.handled = none from I.ok.hd hc) it l (ne1 it (by simp)) its1.toArray) hz ⟨by rw [el]; exact h1, p1⟩ fun h' hx => ⟨rfl, I.turnedL (t' := s.toks) hf fun c o hc' q => ?_⟩
    simp only [List.mem_cons, List.not_mem_nil, or_false, not_or] at hc'
    exact hx c o hc'.2 q
  self := fun _ _ _ _ _ st h => let ⟨⟨_, q⟩, _⟩ := st; wpAny_pyIter_enum q h
section
variable {X : Cx}
noncomputable def iEnum (K : Frag) (ta : TA) : TI := fun σ H R => ta σ H fun vs H1 => ∃ b l, vs = [.ref l] ∧ (∃ xs, SqB b K H1 l xs) ∧ R (Ite K b l) H1
theorem pi_enum {a : Expr} {ta : TA} {es : List Expr} {k : Nat} {tp p pos : Pos} (hg : Gl X "enumerate") (hm : X.mg "enumerate" = none) (ha : PA X [a] ta) (hv : bootBuiltins "enumerate" = some (.type "enumerate") := by decide +kernel)
    (hs : starEach [a] X.env = [(false, eval a X.env)] := by rfl) :
    PI X (.Tuple es k tp) (.Call (.Name "enumerate" p) [a] [] pos) (iEnum X.K ta) := by
  intro pins s σ H R I h
  refine Call_ (ld_blt I hg hm hv (PyProof.Rows.callWith_type1 (thn (ha pos pins s σ H _ I h) fun us s1 ⟨vs, H1, I1, r1, q1⟩ => ?_) hs rfl))
  obtain ⟨b, l, e, ⟨xs, q1⟩, q⟩ := q1
  subst e
  cases r1 with
  | cons r rr =>
    cases rr
    cases r
    obtain ⟨its1, v1, p1⟩ := I1.seqB q1
    refine call_enumB p1 fun h' a1 a2 kp => ?_
    refine wpAny_pyIter_enum a1 ?_
    refine ⟨s1.heap.objs.size + 1, [s1.heap.objs.size + 1, s1.heap.objs.size], _, _, H1, rfl, I1.kept (t' := s1.toks) kp, turn_enum (b := b) (l := l) (by simp), ⟨⟨_, a1⟩, a2⟩, fun c hc => ?_, q⟩
    have hle : s1.heap.objs.size ≤ c := by
      simp only [List.mem_cons, List.not_mem_nil, or_false] at hc
      rcases hc with e | e <;> subst e <;> first | exact Nat.le_refl _ | exact Nat.le_add_right _ _
    exact I1.fpOk hle (I1.hok.fresh hle)
theorem ints_items : ∀ {ns : List Int} {its : List Value}, Vals (ns.map V.int) its → ∃ xs : List (Int × Tok), its = xs.map (fun p => Value.int p.1 p.2) ∧ xs.map (·.1) = ns
  | [], _, .nil => ⟨[], rfl, rfl⟩
  | n :: r, _, .cons ⟨t, h⟩ q => by
    obtain ⟨xs, e1, e2⟩ := ints_items (ns := r) q
    exact ⟨(n, t) :: xs, by rw [h, e1]; rfl, by rw [List.map_cons, e2]⟩
theorem call_sum (hc : X.calm = true) : CallR X (.builtin "sum") (fun xs H Q => ∃ (p : Addr) (ns : List Int), xs = [.ref p] ∧ SqL X.K H p (ns.map V.int) ∧ Q (.int ns.sum) H) := by
  intro pins s σ H xs us Q I r h
  obtain ⟨p, ns, rfl, hq, q⟩ := h
  obtain ⟨u, rfl, rx⟩ := vals1 r
  cases rx
  obtain ⟨its, rv, pl, hz⟩ := I.list hq
  obtain ⟨ps, e1, e2⟩ := ints_items rv
  have hl : s.heap.IsList p (intItems ps.toArray) := by
    have := pl.isList
    rw [e1] at this
    simpa [intItems] using this
  refine sum_intListG (I.ok.hd hc) hl fun h' tk t' hk => ⟨.int ns.sum, H, I.kept (t' := tk) hk, ⟨t', ?_⟩, q⟩
  rw [preSum_eq, List.take_of_length_le (by simp)]
  simp [e2]
end
theorem SqB.or {b : Bool} {K : Frag} {H : Hp} {a : Addr} {xs : List V} (h : SqB b K H a xs) : SqL K H a xs ∨ SqT K H a xs := by
  cases b
  · exact .inl h
  · exact .inr h
theorem SqB.up {b : Bool} {K : Frag} {H H' : Hp} {a : Addr} {xs : List V} (h : SqB b K H a xs) (s : Same H H') : SqB b K H' a xs := by
  cases b
  · exact s.seq h
  · exact s.tup h
theorem SqB.lst {K : Frag} {H : Hp} {a : Addr} {xs : List V} (h : H a = some (.lst xs)) : SqB false K H a xs := SqL.of h
theorem SqB.tup {K : Frag} {H : Hp} {a : Addr} {xs : List V} (h : H a = some (.tup xs)) : SqB true K H a xs := SqT.of h
noncomputable def Its (K : Frag) (b : Bool) (a : Addr) : It := match b with | false => Itl K a | true => Itt K a
theorem Its.go {K : Frag} {b : Bool} {a : Addr} {xs : List V} {x : V} {i : Nat} {H : Hp} (h : SqB b K H a xs) (e : xs[i]? = some x) : (Its K b a).go i H := by
  cases b
  · exact ⟨xs, x, h, e⟩
  · exact ⟨xs, x, h, e⟩
theorem Its.stop {K : Frag} {b : Bool} {a : Addr} {xs : List V} {i : Nat} {H : Hp} (h : SqB b K H a xs) (e : xs.length ≤ i) : (Its K b a).stop i H := by
  cases b
  · exact ⟨xs, h, e⟩
  · exact ⟨xs, h, e⟩
theorem Its.yld {K : Frag} {b : Bool} {a : Addr} {xs : List V} {i : Nat} {H H' : Hp} {x : V} (h : SqB b K H a xs) (y : (Its K b a).yld i H x H') : H' = H ∧ xs[i]? = some x := by
  cases b
  · exact ⟨y.1, y.2 xs h⟩
  · exact ⟨y.1, y.2 xs h⟩
section
variable {X : Cx}
noncomputable def iSeq (K : Frag) (tl : TE) : TI := fun σ H R => tl σ H fun x H1 => ∃ b a, x = .ref a ∧ (∃ xs, SqB b K H1 a xs) ∧ R (Its K b a) H1
theorem pi_seq {tg l : Expr} {tl : TE} (hl : PE X l tl) : PI X tg l (iSeq X.K tl) := by
  intro pins s σ H R I h
  refine thn (hl pins s σ H _ I h) fun v s1 ⟨x, H1, I1, r1, q1⟩ => ?_
  obtain ⟨b, a, e, ⟨xs, hq⟩, q⟩ := q1
  subst e
  cases r1
  cases b
  · obtain ⟨its, rv, p, hz⟩ := I1.list hq
    refine wpAny_pyIter_list p.isList ?_
    refine ⟨s1.heap.objs.size, [s1.heap.objs.size], _, _, H1, rfl, I1.kept (t' := s1.toks) fun b o e => Heap.get?_push_of_some _ e, turn_list a _, ⟨_, Heap.get?_push_size _ rfl, rfl, rfl⟩, fun b hb => ?_, q⟩
    have e : b = s1.heap.objs.size := by simpa using hb
    subst e
    exact I1.fpOk (Nat.le_refl _) (I1.hok.fresh (Nat.le_refl _))
  · obtain ⟨its, rv, p, hz⟩ := I1.tuple hq
    refine wpAny_pyIter_tuple (show s1.heap.IsTuple a its.toArray from p) ?_
    refine ⟨s1.heap.objs.size, [s1.heap.objs.size], _, _, H1, rfl, I1.kept (t' := s1.toks) fun b o e => Heap.get?_push_of_some _ e, turn_tuple a _, ⟨_, Heap.get?_push_size _ rfl, rfl, rfl⟩, fun b hb => ?_, q⟩
    have e : b = s1.heap.objs.size := by simpa using hb
    subst e
    exact I1.fpOk (Nat.le_refl _) (I1.hok.fresh (Nat.le_refl _))
noncomputable def rIxB (K : Frag) : R2 := fun x y H Q => ∃ b p xs i v, x = .ref p ∧ y = .int i ∧ SqB b K H p xs ∧ atI xs i = some v ∧ Q v H
theorem ix_B : IxR X (rIxB X.K) := by
  intro value slice pins s σ H x y v u Q I rx ry h
  obtain ⟨b, p, xs, i, v', e1, e2, hq, ha, q⟩ := h
  cases b
  · exact ix_list value slice pins s σ H x y v u Q I rx ry ⟨p, xs, i, v', e1, e2, hq, ha, q⟩
  · exact ix_tup value slice pins s σ H x y v u Q I rx ry ⟨p, xs, i, v', e1, e2, hq, ha, q⟩
noncomputable def rLenB (K : Frag) : List V → Hp → VK → Prop := fun xs H Q => ∃ b p ys, xs = [.ref p] ∧ SqB b K H p ys ∧ Q (.int ys.length) H
theorem call_lenB : CallR X (.builtin "len") (rLenB X.K) := by
  intro pins s σ H xs us Q I r h
  obtain ⟨b, p, ys, e, hq, q⟩ := h
  exact call_len_seq pins s σ H xs us Q I r ⟨p, ys, e, hq.or, q⟩
noncomputable def rListB (K : Frag) : List V → Hp → VK → Prop := fun xs H Q => ∃ b p ys, xs = [.ref p] ∧ SqB b K H p ys ∧ ∀ l, H l = none → Q (.ref l) (upd H l (.lst ys))
theorem call_listB : CallR X (.type "list") (rListB X.K) := by
  intro pins s σ H xs us Q I r h
  obtain ⟨b, p, ys, e, hq, q⟩ := h
  exact call_list_of pins s σ H xs us Q I r ⟨p, ys, e, hq.or, q⟩
noncomputable def rTupB (K : Frag) : List V → Hp → VK → Prop := fun xs H Q => ∃ p ys, xs = [.ref p] ∧ ((SqL K H p ys ∧ ∀ l, H l = none → Q (.ref l) (upd H l (.tup ys))) ∨ (SqT K H p ys ∧ Q (.ref p) H))
theorem call_tupB : CallR X (.type "tuple") (rTupB X.K) := call_tuple_of
end
theorem for_seq {K : Frag} {b : Bool} {a : Addr} {xs : List V} {g : TG} {tb : TS} {D : Ends} {σ : St} {H : Hp} (Pv : Nat → St → Hp → Prop) (h0 : Pv 0 σ H) (hl : ∀ i σ H, i ≤ xs.length → Pv i σ H → SqB b K H a xs)
    (hs : ∀ i x σ H, xs[i]? = some x → Pv i σ H → g x σ H fun σ2 H2 => tb { D with nx := Pv (i + 1), ct := Pv (i + 1), bk := D.nx } σ2 H2) (hd : ∀ σ H, Pv xs.length σ H → D.nx σ H) :
    ∃ W : Nat → Nat → St → Hp → Prop, (∃ m, W 0 m σ H) ∧ ∀ i m σ H, W i m σ H →
      ((Its K b a).stop i H ∧ D.nx σ H) ∨ ((Its K b a).go i H ∧ ∃ N : St → Hp → Prop, (∀ σ' H', N σ' H' → ∃ m', m' < m ∧ W (i + 1) m' σ' H') ∧ ∀ x H', (Its K b a).yld i H x H' → g x σ H' fun σ2 H2 => tb { D with nx := N, ct := N, bk := D.nx } σ2 H2) := by
  cases b
  · exact for_list Pv h0 hl hs hd
  · exact for_tup Pv h0 hl hs hd
theorem for_enum {K : Frag} {b : Bool} {a : Addr} {xs : List V} {g : TG} {tb : TS} {D : Ends} {σ : St} {H : Hp} (Pv : Nat → St → Hp → Prop) (h0 : Pv 0 σ H) (hl : ∀ i σ H, i ≤ xs.length → Pv i σ H → SqB b K H a xs)
    (hs : ∀ i x p σ H, xs[i]? = some x → Pv i σ H → H p = none → g (.ref p) σ (upd H p (.tup [.int i, x])) fun σ2 H2 => tb { D with nx := Pv (i + 1), ct := Pv (i + 1), bk := D.nx } σ2 H2) (hd : ∀ σ H, Pv xs.length σ H → D.nx σ H) :
    ∃ W : Nat → Nat → St → Hp → Prop, (∃ m, W 0 m σ H) ∧ ∀ i m σ H, W i m σ H →
      ((Ite K b a).stop i H ∧ D.nx σ H) ∨ ((Ite K b a).go i H ∧ ∃ N : St → Hp → Prop, (∀ σ' H', N σ' H' → ∃ m', m' < m ∧ W (i + 1) m' σ' H') ∧ ∀ x H', (Ite K b a).yld i H x H' → g x σ H' fun σ2 H2 => tb { D with nx := N, ct := N, bk := D.nx } σ2 H2) := by
  refine ⟨fun i m σ H => m = xs.length - i ∧ i ≤ xs.length ∧ Pv i σ H, ⟨xs.length, by simp, Nat.zero_le _, h0⟩, ?_⟩
  rintro i m σ H ⟨rfl, hi, p⟩
  have q := hl i σ H hi p
  by_cases hlt : i < xs.length
  · refine .inr ⟨⟨xs, xs[i], q, by simp [hlt]⟩, Pv (i + 1), fun σ' H' p' => ⟨xs.length - (i + 1), by omega, rfl, hlt, p'⟩, fun x H' y => ?_⟩
    obtain ⟨r, x, rfl, hr, rfl, hx⟩ := y
    exact hs i x r σ H (hx xs q) p hr
  · have e : i = xs.length := by omega
    subst e
    exact .inl ⟨⟨xs, q, rfl⟩, hd σ H p⟩
theorem for_zip {K : Frag} {b1 b2 : Bool} {a1 a2 : Addr} {xs ys : List V} {g : TG} {tb : TS} {D : Ends} {σ : St} {H : Hp} (Pv : Nat → St → Hp → Prop) (h0 : Pv 0 σ H) (hlen : xs.length = ys.length) (hl : ∀ i σ H, i ≤ xs.length → Pv i σ H → SqB b1 K H a1 xs ∧ SqB b2 K H a2 ys)
    (hs : ∀ i x y p σ H, xs[i]? = some x → ys[i]? = some y → Pv i σ H → H p = none → g (.ref p) σ (upd H p (.tup [x, y])) fun σ2 H2 => tb { D with nx := Pv (i + 1), ct := Pv (i + 1), bk := D.nx } σ2 H2) (hd : ∀ σ H, Pv xs.length σ H → D.nx σ H) :
    ∃ W : Nat → Nat → St → Hp → Prop, (∃ m, W 0 m σ H) ∧ ∀ i m σ H, W i m σ H →
      ((Itz K b1 a1 b2 a2).stop i H ∧ D.nx σ H) ∨ ((Itz K b1 a1 b2 a2).go i H ∧ ∃ N : St → Hp → Prop, (∀ σ' H', N σ' H' → ∃ m', m' < m ∧ W (i + 1) m' σ' H') ∧ ∀ x H', (Itz K b1 a1 b2 a2).yld i H x H' → g x σ H' fun σ2 H2 => tb { D with nx := N, ct := N, bk := D.nx } σ2 H2) := by
  refine ⟨fun i m σ H => m = xs.length - i ∧ i ≤ xs.length ∧ Pv i σ H, ⟨xs.length, by simp, Nat.zero_le _, h0⟩, ?_⟩
  rintro i m σ H ⟨rfl, hi, p⟩
  obtain ⟨q1, q2⟩ := hl i σ H hi p
  by_cases hlt : i < xs.length
  · refine .inr ⟨⟨xs, ys, xs[i], ys[i], q1, q2, by simp [hlt], by simp⟩, Pv (i + 1), fun σ' H' p' => ⟨xs.length - (i + 1), by omega, rfl, hlt, p'⟩, fun x H' y => ?_⟩
    obtain ⟨r, x, z, rfl, hr, rfl, hx, hy⟩ := y
    exact hs i x z r σ H (hx xs q1) (hy ys q2) p hr
  · have e : i = xs.length := by omega
    subst e
    exact .inl ⟨⟨xs, ys, q1, q2, .inl (by simp)⟩, hd σ H p⟩
noncomputable def SameX (a : Addr) (H H' : Hp) : Prop := ∀ b o, b ≠ a → H b = some o → H' b = some o
theorem Same.x {a : Addr} {H H' : Hp} (s : Same H H') : SameX a H H' := fun b o _ e => s b o e
section
variable {J : It} {g : TG} {tt : TOx} {te : TE} {n : Nat} {fr : List (Str × Nat)} {σ : St} {a : Addr} {H : Hp} {Q : VK} {K : Frag}
theorem cg_inv (len : Nat) (P : Nat → List V → Hp → Prop) (ha : H a = none) (hz : len ≤ 1000) (h0 : P 0 [] (upd H a (.lst [])))
    (hl : ∀ i zs H1, P i zs H1 → zs.length ≤ i) (mono : ∀ i zs H1 H2, P i zs H1 → SameX a H1 H2 → P i zs H2)
    (hgo : ∀ i H1, i < len → Same H H1 → J.go i H1) (hstop : ∀ H1, Same H H1 → J.stop len H1)
    (he : ∀ i H1 zs, i < len → Same H H1 → H1 a = some (.lst zs) → P i zs H1 → ∀ (ys : St) x H3, ys.length = n → J.yld i H1 x H3 → ∀ C : Option V → Hp → Prop,
      (∀ y H2, Same H1 H2 → P (i + 1) (zs ++ [y]) H2 → C (some y) H2) → (∀ H2, Same H1 H2 → P (i + 1) zs H2 → C none H2) →
      g x (ys ++ frees fr σ) H3 fun σ4 H4 => (∃ ys' : St, ys'.length = n ∧ σ4 = ys' ++ frees fr σ) ∧ tt σ4 H4 C)
    (hd : ∀ H1 ys, Same H H1 → H1 a = some (.lst ys) → P len ys H1 → Q (.ref a) H1) : CompWG J g tt n fr σ a H Q := by
  refine ⟨fun i m H1 => m = len - i ∧ i ≤ len ∧ Same H H1 ∧ ∃ zs, H1 a = some (.lst zs) ∧ P i zs H1, ⟨len, by simp, Nat.zero_le _, Same.new ha, [], upd_same, h0⟩, ?_⟩
  rintro i m H1 ⟨rfl, hi, s1, zs, ez, p⟩
  by_cases hlt : i < len
  · refine .inr ⟨hgo i H1 hlt s1, fun H' => i + 1 ≤ len ∧ Same H H' ∧ ∃ zs, H' a = some (.lst zs) ∧ P (i + 1) zs H', fun H' q => ⟨len - (i + 1), by omega, rfl, q⟩, fun ys x H3 hys hy => ?_⟩
    refine he i H1 zs hlt s1 ez p ys x H3 hys hy _ (fun y H2 s2 p2 => ?_) fun H2 s2 p2 => ?_
    · refine ⟨zs, s2 _ _ ez, small1000 (by have := hl i zs H1 p; omega), hlt, Same.over ha (s1.trans s2), _, upd_same, mono _ _ _ _ p2 fun b o hb e => ?_⟩
      rw [upd_ne hb]
      exact e
    · exact ⟨hlt, s1.trans s2, zs, s2 _ _ ez, p2⟩
  · have e : i = len := by omega
    subst e
    exact .inl ⟨hstop H1 s1, hd H1 zs s1 ez p⟩
theorem cg_rel (len : Nat) (R : Nat → V → Hp → Prop) (ha : H a = none) (hz : len ≤ 1000) (mono : ∀ i y H1 H2, R i y H1 → SameX a H1 H2 → R i y H2)
    (hgo : ∀ i H1, i < len → Same H H1 → J.go i H1) (hstop : ∀ H1, Same H H1 → J.stop len H1)
    (he : ∀ i H1 zs, i < len → Same H H1 → H1 a = some (.lst zs) → ∀ (ys : St) x H3, ys.length = n → J.yld i H1 x H3 → ∀ Q' : VK, (∀ y H2, Same H1 H2 → R i y H2 → Q' y H2) →
      g x (ys ++ frees fr σ) H3 fun σ4 H4 => (∃ ys' : St, ys'.length = n ∧ σ4 = ys' ++ frees fr σ) ∧ te σ4 H4 Q')
    (hd : ∀ H1 ys, Same H H1 → H1 a = some (.lst ys) → ys.length = len → (∀ j y, ys[j]? = some y → R j y H1) → Q (.ref a) H1) : CompWG J g (tEl te) n fr σ a H Q := by
  refine cg_inv len (fun i zs H1 => zs.length = i ∧ ∀ j y, zs[j]? = some y → R j y H1) ha hz ⟨rfl, fun j y e => by simp at e⟩ (fun i zs H1 p => Nat.le_of_eq p.1) (fun i zs H1 H2 p s => ⟨p.1, fun j y e => mono _ _ _ _ (p.2 j y e) s⟩) hgo hstop ?_ fun H1 ys s e p => hd H1 ys s e p.1 p.2
  intro i H1 zs hi s1 ez p ys x H3 hys hy C hC _
  refine he i H1 zs hi s1 ez ys x H3 hys hy _ fun y H2 s2 r => hC y H2 s2 ⟨by simp [p.1], fun j z e => ?_⟩
  by_cases hj : j < zs.length
  · rw [List.getElem?_append_left hj] at e
    exact mono _ _ _ _ (p.2 j z e) s2.x
  · rw [List.getElem?_append_right (by omega)] at e
    have e0 : j - zs.length = 0 := by
      by_cases h0 : j - zs.length = 0
      · exact h0
      · rw [List.getElem?_eq_none (by simp; omega)] at e; cases e
    rw [e0] at e
    cases Option.some.inj e
    have : j = i := by have := p.1; omega
    rw [this]
    exact r
theorem cg_seq {b : Bool} {l : Addr} {xs : List V} (R : Nat → V → Hp → Prop) (ha : H a = none) (hS : SqB b K H l xs) (hz : xs.length ≤ 1000) (mono : ∀ i y H1 H2, R i y H1 → SameX a H1 H2 → R i y H2)
    (he : ∀ i x H1 zs, xs[i]? = some x → Same H H1 → H1 a = some (.lst zs) → ∀ Q' : VK, (∀ y H2, Same H1 H2 → R i y H2 → Q' y H2) → te (some x :: frees fr σ) H1 Q')
    (hd : ∀ H1 ys, Same H H1 → H1 a = some (.lst ys) → ys.length = xs.length → (∀ j y, ys[j]? = some y → R j y H1) → Q (.ref a) H1) : CompWG (Its K b l) (gName 0) (tEl te) 1 fr σ a H Q := by
  refine cg_rel xs.length R ha hz mono (fun i H1 hi s => Its.go (hS.up s) (x := xs[i]) (by simp [hi])) (fun H1 s => Its.stop (hS.up s) (Nat.le_refl _)) ?_ hd
  intro i H1 zs hi s1 ez ys x H3 hys hy Q' hQ'
  obtain ⟨e1, e2⟩ := Its.yld (hS.up s1) hy
  subst e1
  match ys, hys with
  | [o], _ => exact ⟨⟨[some x], rfl, rfl⟩, he i x H3 zs e2 s1 ez Q' hQ'⟩
theorem cg_range {lo : Int} {len : Nat} (R : Nat → V → Hp → Prop) (ha : H a = none) (hz : len ≤ 1000) (mono : ∀ i y H1 H2, R i y H1 → SameX a H1 H2 → R i y H2)
    (he : ∀ (i : Nat) H1 zs, i < len → Same H H1 → H1 a = some (.lst zs) → ∀ Q' : VK, (∀ y H2, Same H1 H2 → R i y H2 → Q' y H2) → te (some (.int (lo + i)) :: frees fr σ) H1 Q')
    (hd : ∀ H1 ys, Same H H1 → H1 a = some (.lst ys) → ys.length = len → (∀ j y, ys[j]? = some y → R j y H1) → Q (.ref a) H1) : CompWG (Itr lo len) (gName 0) (tEl te) 1 fr σ a H Q := by
  refine cg_rel len R ha hz mono (fun i H1 hi s => hi) (fun H1 s => Nat.le_refl _) ?_ hd
  intro i H1 zs hi s1 ez ys x H3 hys hy Q' hQ'
  obtain ⟨e1, e2⟩ := hy
  subst e1 e2
  match ys, hys with
  | [o], _ => exact ⟨⟨[_], rfl, rfl⟩, he i H3 zs hi s1 ez Q' hQ'⟩
theorem cg_zip {b1 b2 : Bool} {l1 l2 : Addr} {xs ys : List V} (R : Nat → V → Hp → Prop) (ha : H a = none) (hS1 : SqB b1 K H l1 xs) (hS2 : SqB b2 K H l2 ys) (hlen : xs.length = ys.length) (hz : xs.length ≤ 1000) (mono : ∀ i y H1 H2, R i y H1 → SameX a H1 H2 → R i y H2)
    (he : ∀ i x y H1 zs, xs[i]? = some x → ys[i]? = some y → Same H H1 → H1 a = some (.lst zs) → ∀ Q' : VK, (∀ y H2, Same H1 H2 → R i y H2 → Q' y H2) → te (some x :: some y :: frees fr σ) H1 Q')
    (hd : ∀ H1 zs, Same H H1 → H1 a = some (.lst zs) → zs.length = xs.length → (∀ j y, zs[j]? = some y → R j y H1) → Q (.ref a) H1) :
    CompWG (Itz K b1 l1 b2 l2) (gTup K 2 (gCons (gName 0) (gCons (gName 1) gNil))) (tEl te) 2 fr σ a H Q := by
  refine cg_rel xs.length R ha hz mono (fun i H1 hi s => ⟨xs, ys, xs[i], ys[i], hS1.up s, hS2.up s, by simp [hi], by simp⟩) (fun H1 s => ⟨xs, ys, hS1.up s, hS2.up s, .inl (by simp)⟩) ?_ hd
  intro i H1 zs hi s1 ez os x H3 hos hy Q' hQ'
  obtain ⟨p, x, y, rfl, hp, rfl, hx, hy⟩ := hy
  refine ⟨p, [x, y], rfl, SqT.of upd_same, rfl, x, [y], rfl, y, [], rfl, rfl, ?_⟩
  match os, hos with
  | [o, o'], _ =>
    refine ⟨⟨[some x, some y], rfl, rfl⟩, he i x y _ zs (hx xs (hS1.up s1)) (hy ys (hS2.up s1)) (s1.trans (Same.new hp)) (Same.new hp _ _ ez) Q' fun y H2 s2 r => hQ' y H2 ((Same.new hp).trans s2) r⟩
end
noncomputable def MatB (b1 b2 : Bool) (K : Frag) (H : Hp) (a : Addr) (rows : List (List Int)) : Prop := ∃ ps : List Addr, SqB b1 K H a (ps.map V.ref) ∧ ps.length = rows.length ∧ ∀ (i : Nat) (p : Addr) (r : List Int), ps[i]? = some p → rows[i]? = some r → SqB b2 K H p (r.map V.int)
theorem MatB.up {b1 b2 : Bool} {K : Frag} {H H' : Hp} {a : Addr} {rows : List (List Int)} (h : MatB b1 b2 K H a rows) (s : Same H H') : MatB b1 b2 K H' a rows := let ⟨ps, h1, h2, h3⟩ := h; ⟨ps, h1.up s, h2, fun i p r e1 e2 => (h3 i p r e1 e2).up s⟩
noncomputable def RowR (a : Addr) (f : Nat → List Int) (j : Nat) (y : V) (H : Hp) : Prop := ∃ p, y = .ref p ∧ p ≠ a ∧ H p = some (.lst ((f j).map V.int))
theorem RowR.mono {a : Addr} {f : Nat → List Int} (i : Nat) (y : V) (H1 H2 : Hp) (h : RowR a f i y H1) (s : SameX a H1 H2) : RowR a f i y H2 := let ⟨p, e, n, q⟩ := h; ⟨p, e, n, s _ _ n q⟩
theorem MatB.of {K : Frag} {H : Hp} {a : Addr} {f : Nat → List Int} {ys : List V} (h : H a = some (.lst ys)) (hr : ∀ (j : Nat) y, ys[j]? = some y → RowR a f j y H) : MatB false false K H a ((List.range ys.length).map f) := by
  have hp : ∃ ps : List Addr, ys = ps.map V.ref := by
    clear h
    have : ∀ (zs : List V) (k : Nat), (∀ (j : Nat) y, zs[j]? = some y → RowR a f (j + k) y H) → ∃ ps : List Addr, zs = ps.map V.ref := by
      intro zs
      induction zs with
      | nil => intro k _; exact ⟨[], rfl⟩
      | cons z r ih =>
        intro k hz
        obtain ⟨p, e, _⟩ := hz 0 z rfl
        obtain ⟨ps, e2⟩ := ih (k + 1) fun j y q => by
          have := hz (j + 1) y (by simpa using q)
          rwa [Nat.add_assoc, Nat.add_comm 1 k] at this
        exact ⟨p :: ps, by rw [e, e2]; rfl⟩
    exact this ys 0 hr
  obtain ⟨ps, rfl⟩ := hp
  refine ⟨ps, SqB.lst h, by simp, fun i p r e1 e2 => ?_⟩
  obtain ⟨p', e, _, q⟩ := hr i (.ref p) (by simp [e1])
  cases e
  have hi : i < ps.length := (List.getElem?_eq_some_iff.mp e1).1
  have : r = f i := by
    rw [List.getElem?_map, List.length_map, List.getElem?_range hi] at e2
    exact (Option.some.inj e2).symm
  rw [this]
  exact SqB.lst q
noncomputable def iT : Nat → PyData → Bool
  | _, .int _ => true
  | n + 1, .list xs => xs.all (iT n)
  | n + 1, .tuple xs => xs.all (iT n)
  | _, _ => false
theorem iT_lay : ∀ (n : Nat) (d : PyData), iT n d = true → d.canLay0 = true ∧ d.depth ≤ n
  | 0, .int _, _ => by simp [PyData.canLay0, PyData.depth]
  | n + 1, .int _, _ => by simp [PyData.canLay0, PyData.depth]
  | n + 1, .list xs, h => by
    have all : ∀ ys : List PyData, ys.all (iT n) = true → PyData.canLayAll0 ys = true ∧ PyData.depthAll ys ≤ n := by
      intro ys
      induction ys with
      | nil => intro _; simp [PyData.canLayAll0, PyData.depthAll]
      | cons y r ih =>
        intro hy
        rw [List.all_cons, Bool.and_eq_true] at hy
        have h1 := iT_lay n y hy.1
        have h2 := ih hy.2
        simp only [PyData.canLayAll0, PyData.depthAll, Bool.and_eq_true]
        exact ⟨⟨h1.1, h2.1⟩, by omega⟩
    have := all xs (by simpa [iT] using h)
    simp only [PyData.canLay0, PyData.depth]
    exact ⟨this.1, by omega⟩
  | n + 1, .tuple xs, h => by
    have all : ∀ ys : List PyData, ys.all (iT n) = true → PyData.canLayAll0 ys = true ∧ PyData.depthAll ys ≤ n := by
      intro ys
      induction ys with
      | nil => intro _; simp [PyData.canLayAll0, PyData.depthAll]
      | cons y r ih =>
        intro hy
        rw [List.all_cons, Bool.and_eq_true] at hy
        have h1 := iT_lay n y hy.1
        have h2 := ih hy.2
        simp only [PyData.canLayAll0, PyData.depthAll, Bool.and_eq_true]
        exact ⟨⟨h1.1, h2.1⟩, by omega⟩
    have := all xs (by simpa [iT] using h)
    simp only [PyData.canLay0, PyData.depth]
    exact ⟨this.1, by omega⟩
theorem iT_mix : ∀ (n : Nat) (d d' : PyData), iT n d = true → iT n d' = true → SeqAt.noMix d d' = true := by
  intro n
  induction n with
  | zero => intro d d' h h'; cases d <;> simp [iT] at h <;> cases d' <;> simp [iT] at h' <;> simp [SeqAt.noMix]
  | succ n ih =>
    have all : ∀ ys zs : List PyData, ys.all (iT n) = true → zs.all (iT n) = true → SeqAt.noMixAll ys zs = true := by
      intro ys
      induction ys with
      | nil => intro zs _ _; cases zs <;> simp [SeqAt.noMixAll]
      | cons y r ihr =>
        intro zs hy hz
        cases zs with
        | nil => simp [SeqAt.noMixAll]
        | cons z t =>
          rw [List.all_cons, Bool.and_eq_true] at hy hz
          simp only [SeqAt.noMixAll, Bool.and_eq_true]
          exact ⟨ih y z hy.1 hz.1, ihr t hy.2 hz.2⟩
    intro d d' h h'
    cases d <;> simp only [iT, Bool.false_eq_true] at h <;> cases d' <;> simp only [iT, Bool.false_eq_true] at h' <;> simp only [SeqAt.noMix]
    · exact all _ _ h h'
    · exact all _ _ h h'
theorem iT_same : ∀ (n : Nat) (d d' : PyData), iT n d = true → iT n d' = true → (same d d' = true ↔ d = d') := by
  intro n
  induction n with
  | zero => intro d d' h h'; cases d <;> simp [iT] at h <;> cases d' <;> simp [iT] at h' <;> simp [same]
  | succ n ih =>
    have all : ∀ ys zs : List PyData, ys.all (iT n) = true → zs.all (iT n) = true → (sameAll ys zs = true ↔ ys = zs) := by
      intro ys
      induction ys with
      | nil => intro zs _ _; cases zs <;> simp [sameAll]
      | cons y r ihr =>
        intro zs hy hz
        cases zs with
        | nil => simp [sameAll]
        | cons z t =>
          rw [List.all_cons, Bool.and_eq_true] at hy hz
          simp only [sameAll, Bool.and_eq_true, List.cons.injEq]
          rw [ih y z hy.1 hz.1, ihr t hy.2 hz.2]
    intro d d' h h'
    cases d <;> simp only [iT, Bool.false_eq_true] at h <;> cases d' <;> simp only [iT, Bool.false_eq_true] at h' <;> simp only [same, beq_iff_eq, PyData.int.injEq, PyData.list.injEq, PyData.tuple.injEq, reduceCtorEq, Bool.false_eq_true]
    · exact all _ _ h h'
    · exact all _ _ h h'
theorem iT_shaped {n : Nat} {d : PyData} (hn : n ≤ 64) (h : iT n d = true) : SeqAt.shaped d = true := by
  have := iT_lay n d h
  unfold SeqAt.shaped
  rw [Bool.and_eq_true]
  exact ⟨this.1, decide_eq_true (by omega)⟩
section
variable {K : Frag} {H : Hp} {x y : V} {d d' : PyData} {Q : VK}
theorem eqD_of (n : Nat) (hn : n ≤ 64) (h1 : Dt K H x d) (h2 : Dt K H y d') (t1 : iT n d = true) (t2 : iT n d' = true) {b : Bool} (hb : b = true ↔ d = d') (q : Q (.bl b) H) : rEqD K x y H Q := by
  refine ⟨d, d', h1, h2, iT_shaped hn t1, iT_shaped hn t2, iT_mix n d d' t1 t2, ?_⟩
  have := iT_same n d d' t1 t2
  have e : same d d' = b := by
    cases hs : same d d' <;> cases b <;> simp_all
  rw [e]
  exact q
theorem neD_of (n : Nat) (hn : n ≤ 64) (h1 : Dt K H x d) (h2 : Dt K H y d') (t1 : iT n d = true) (t2 : iT n d' = true) {b : Bool} (hb : b = true ↔ d = d') (q : Q (.bl (!b)) H) : rNeD K x y H Q := by
  refine ⟨d, d', h1, h2, iT_shaped hn t1, iT_shaped hn t2, iT_mix n d d' t1 t2, ?_⟩
  have := iT_same n d d' t1 t2
  have e : same d d' = b := by
    cases hs : same d d' <;> cases b <;> simp_all
  rw [e]
  exact q
end
noncomputable def seqD (b : Bool) (ds : List PyData) : PyData := match b with | false => .list ds | true => .tuple ds
noncomputable def intsD (b : Bool) (ns : List Int) : PyData := seqD b (ns.map PyData.int)
noncomputable def matD (b1 b2 : Bool) (rows : List (List Int)) : PyData := seqD b1 (rows.map (intsD b2))
theorem iT_ints (b : Bool) (n : Nat) (ns : List Int) : iT (n + 1) (intsD b ns) = true := by
  have : (ns.map PyData.int).all (iT n) = true := by
    rw [List.all_eq_true]
    intro d hd
    obtain ⟨i, _, rfl⟩ := List.mem_map.mp hd
    cases n <;> rfl
  cases b <;> simpa [intsD, seqD, iT] using this
theorem iT_mat (b1 b2 : Bool) (n : Nat) (rows : List (List Int)) : iT (n + 2) (matD b1 b2 rows) = true := by
  have : (rows.map (intsD b2)).all (iT (n + 1)) = true := by
    rw [List.all_eq_true]
    intro d hd
    obtain ⟨i, _, rfl⟩ := List.mem_map.mp hd
    exact iT_ints b2 n i
  cases b1 <;> simpa [matD, seqD, iT] using this
theorem Dt.seqB {b : Bool} {K : Frag} {H : Hp} {a : Addr} {xs : List V} {ds : List PyData} (h : SqB b K H a xs) (hd : Dts K H xs ds) : Dt K H (.ref a) (seqD b ds) := by
  cases b
  · exact .lst h hd
  · exact .tup h hd
theorem Dt.intsB {b : Bool} {K : Frag} {H : Hp} {a : Addr} {ns : List Int} (h : SqB b K H a (ns.map V.int)) : Dt K H (.ref a) (intsD b ns) := Dt.seqB h (Dts.ints ns)
theorem Dt.matB {b1 b2 : Bool} {K : Frag} {H : Hp} {a : Addr} {rows : List (List Int)} (h : MatB b1 b2 K H a rows) : Dt K H (.ref a) (matD b1 b2 rows) := by
  obtain ⟨ps, h1, h2, h3⟩ := h
  refine Dt.seqB h1 ?_
  clear h1
  induction ps generalizing rows with
  | nil =>
    cases rows with
    | nil => exact .nil
    | cons r t => simp at h2
  | cons p ps ih =>
    cases rows with
    | nil => simp at h2
    | cons r t =>
      refine .cons (Dt.intsB (h3 0 p r rfl rfl)) (ih (by simpa using h2) fun i q z e1 e2 => h3 (i + 1) q z (by simpa using e1) (by simpa using e2))
section
variable {wi : TI} {g : TG} {tt : TOx} {te : TE} {tc : TT} {n : Nat} {fr : List (Str × Nat)} {σ : St} {H : Hp} {Q : VK}
theorem compE_st (h : ∀ B : TE, B = te → wi σ H fun J H1 => ∀ a, H1 a = none → CompWG J g (tEl B) n fr σ a H1 Q) : tCompG wi g (tEl te) n fr σ H Q := h _ rfl
theorem compI_st (h : ∀ (C : TT) (B : TE), C = tc → B = te → wi σ H fun J H1 => ∀ a, H1 a = none → CompWG J g (tElIf C B) n fr σ a H1 Q) : tCompG wi g (tElIf tc te) n fr σ H Q := h _ _ rfl rfl
end
noncomputable def seqO (b : Bool) (xs : List V) : HO := match b with | false => .lst xs | true => .tup xs
noncomputable def rSlB (K : Frag) : V → Option Int → Option Int → Hp → VK → Prop := fun x lo hi H Q => ∃ b a xs, x = .ref a ∧ SqB b K H a xs ∧
  (b = true → ¬ (HT.sIx xs.length 0 lo = 0 ∧ HT.sIx xs.length xs.length hi = xs.length)) ∧ ∀ p, H p = none → Q (.ref p) (upd H p (seqO b (cutV xs lo hi)))
theorem sl_B {X : Cx} : SlR X (rSlB X.K) := by
  intro pins s σ H x v vl vu lo hi sl Q I rx hs pl pu h
  obtain ⟨b, a, xs, e, hq, hw, q⟩ := h
  cases b
  · exact sl_list pins s σ H x v vl vu lo hi sl Q I rx hs pl pu ⟨a, xs, e, hq, q⟩
  · exact sl_tup pins s σ H x v vl vu lo hi sl Q I rx hs pl pu ⟨a, xs, e, hq, hw rfl, q⟩
noncomputable def MatL (H : Hp) (a : Addr) (rows : List (List Int)) : Prop := ∃ ps : List Addr, H a = some (.lst (ps.map V.ref)) ∧ ps.length = rows.length ∧ ∀ (i : Nat) (p : Addr) (r : List Int), ps[i]? = some p → rows[i]? = some r → p ≠ a ∧ H p = some (.lst (r.map V.int))
theorem MatL.b {K : Frag} {H : Hp} {a : Addr} {rows : List (List Int)} (h : MatL H a rows) : MatB false false K H a rows := let ⟨ps, h1, h2, h3⟩ := h; ⟨ps, SqB.lst h1, h2, fun i p r e1 e2 => SqB.lst (h3 i p r e1 e2).2⟩
theorem MatL.up {H H' : Hp} {a : Addr} {rows : List (List Int)} (h : MatL H a rows) (s : Same H H') : MatL H' a rows := let ⟨ps, h1, h2, h3⟩ := h; ⟨ps, s _ _ h1, h2, fun i p r e1 e2 => ⟨(h3 i p r e1 e2).1, s _ _ (h3 i p r e1 e2).2⟩⟩
theorem MatL.of {H : Hp} {a : Addr} {f : Nat → List Int} {ys : List V} (h : H a = some (.lst ys)) (hr : ∀ (j : Nat) y, ys[j]? = some y → RowR a f j y H) : MatL H a ((List.range ys.length).map f) := by
  have hp : ∃ ps : List Addr, ys = ps.map V.ref := by
    clear h
    have : ∀ (zs : List V) (k : Nat), (∀ (j : Nat) y, zs[j]? = some y → RowR a f (j + k) y H) → ∃ ps : List Addr, zs = ps.map V.ref := by
      intro zs
      induction zs with
      | nil => intro k _; exact ⟨[], rfl⟩
      | cons z r ih =>
        intro k hz
        obtain ⟨p, e, _⟩ := hz 0 z rfl
        obtain ⟨ps, e2⟩ := ih (k + 1) fun j y q => by
          have := hz (j + 1) y (by simpa using q)
          rwa [Nat.add_assoc, Nat.add_comm 1 k] at this
        exact ⟨p :: ps, by rw [e, e2]; rfl⟩
    exact this ys 0 hr
  obtain ⟨ps, rfl⟩ := hp
  refine ⟨ps, h, by simp, fun i p r e1 e2 => ?_⟩
  obtain ⟨p', e, n, q⟩ := hr i (.ref p) (by simp [e1])
  cases e
  have hi : i < ps.length := (List.getElem?_eq_some_iff.mp e1).1
  have : r = f i := by
    rw [List.getElem?_map, List.length_map, List.getElem?_range hi] at e2
    exact (Option.some.inj e2).symm
  rw [this]
  exact ⟨n, q⟩
theorem MatL.app {H : Hp} {l p : Addr} {M : List (List Int)} {r : List Int} (h : MatL H l M) (hp : H p = some (.lst (r.map V.int))) (ne : p ≠ l) : ∃ xs, H l = some (.lst xs) ∧ xs.length = M.length ∧ MatL (upd H l (.lst (xs ++ [.ref p]))) l (M ++ [r]) := by
  obtain ⟨ps, h1, h2, h3⟩ := h
  refine ⟨_, h1, by simp [h2], ps ++ [p], by rw [upd_same]; simp, by simp [h2], fun i q z e1 e2 => ?_⟩
  by_cases hi : i < ps.length
  · rw [List.getElem?_append_left hi] at e1
    rw [List.getElem?_append_left (by omega)] at e2
    obtain ⟨n, w⟩ := h3 i q z e1 e2
    exact ⟨n, by rw [upd_ne n]; exact w⟩
  · have e0 : i = ps.length := by
      have := (List.getElem?_eq_some_iff.mp e1).1
      simp at this
      omega
    subst e0
    rw [List.getElem?_append_right (Nat.le_refl _)] at e1
    rw [h2, List.getElem?_append_right (Nat.le_refl _)] at e2
    simp at e1 e2
    subst e1 e2
    exact ⟨ne, by rw [upd_ne ne]; exact hp⟩
theorem MatB.row {b1 b2 : Bool} {K : Frag} {H : Hp} {a : Addr} {rows : List (List Int)} (h : MatB b1 b2 K H a rows) {i : Nat} {r : List Int} (e : rows[i]? = some r) : ∃ ps : List Addr, ∃ p, SqB b1 K H a (ps.map V.ref) ∧ (ps.map V.ref)[i]? = some (.ref p) ∧ (ps.map V.ref).length = rows.length ∧ SqB b2 K H p (r.map V.int) := by
  obtain ⟨ps, h1, h2, h3⟩ := h
  have hi : i < ps.length := by have := (List.getElem?_eq_some_iff.mp e).1; omega
  exact ⟨ps, ps[i], h1, by simp [hi], by simp [h2], h3 i _ r (by simp [hi]) e⟩
theorem MatB.walk {b1 b2 : Bool} {K : Frag} {H : Hp} {a : Addr} {rows : List (List Int)} (h : MatB b1 b2 K H a rows) : ∃ xs : List V, SqB b1 K H a xs ∧ xs.length = rows.length ∧ ∀ (i : Nat) x, xs[i]? = some x → ∃ p r, x = .ref p ∧ rows[i]? = some r ∧ SqB b2 K H p (r.map V.int) := by
  obtain ⟨ps, h1, h2, h3⟩ := h
  refine ⟨_, h1, by simp [h2], fun i x e => ?_⟩
  rw [List.getElem?_map] at e
  cases q : ps[i]? with
  | none => rw [q] at e; cases e
  | some p =>
    rw [q] at e
    have hi : i < rows.length := by have := (List.getElem?_eq_some_iff.mp q).1; omega
    exact ⟨p, rows[i], (Option.some.inj e).symm, by simp [hi], h3 i p _ q (by simp [hi])⟩
theorem atI_at {α : Type} {xs : List α} {k : Nat} {x : α} {i : Int} (h : xs[k]? = some x) (hi : i = k) : atI xs i = some x := by
  subst hi
  exact atI_nat h
theorem ints_at {ns : List Int} {i : Nat} {x : V} (h : (ns.map V.int)[i]? = some x) : ∃ n, ns[i]? = some n ∧ x = .int n := by
  rw [List.getElem?_map] at h
  cases e : ns[i]? with
  | none => rw [e] at h; cases h
  | some n => rw [e] at h; exact ⟨n, rfl, (Option.some.inj h).symm⟩
theorem int_at {ns : List Int} {i : Nat} {n : Int} (h : ns[i]? = some n) : (ns.map V.int)[i]? = some (.int n) := by rw [List.getElem?_map, h]; rfl
theorem getD_at {ns : List Int} {k : Nat} (h : k < ns.length) : ns[k]? = some (ns.getD k 0) := by simp [h]
theorem getD_mem {ns : List Int} {k : Nat} (h : k < ns.length) : ns.getD k 0 ∈ ns := by
  rw [show ns.getD k 0 = ns[k] by simp [h]]
  exact List.getElem_mem h
noncomputable def colI (k : Nat) (rows : List (List Int)) : List Int := rows.map fun r => r.getD k 0
noncomputable def dotI (ms ns : List Int) : Int := (List.zipWith (· * ·) ms ns).sum
noncomputable def turnM (w : Nat) (rows : List (List Int)) : List (List Int) := (List.range w).map fun k => colI k rows
noncomputable def mulM (w : Nat) (A B : List (List Int)) : List (List Int) := A.map fun r => (List.range w).map fun k => dotI r (colI k B)
section
variable {K : Frag} {g : TG} {tb : TS} {σ : St} {H : Hp} {nx : St → Hp → Prop} {rt : VK}
noncomputable abbrev LoopW (J : It) (g : TG) (tb : TS) (nx : St → Hp → Prop) (rt : VK) (σ : St) (H : Hp) : Prop := ∃ W : Nat → Nat → St → Hp → Prop, (∃ m, W 0 m σ H) ∧ ∀ i m σ H, W i m σ H →
  (J.stop i H ∧ nx σ H) ∨ (J.go i H ∧ ∃ N : St → Hp → Prop, (∀ σ' H', N σ' H' → ∃ m', m' < m ∧ W (i + 1) m' σ' H') ∧ ∀ x H', J.yld i H x H' → g x σ H' fun σ2 H2 => tb { nx := N, rt := rt, bk := nx, ct := N } σ2 H2)
theorem fr_range {lo : Int} {n : Nat} (Pv : Nat → St → Hp → Prop) (h0 : Pv 0 σ H)
    (hs : ∀ i σ H, i < n → Pv i σ H → g (.int (lo + i)) σ H fun σ2 H2 => tb { nx := Pv (i + 1), rt := rt, bk := nx, ct := Pv (i + 1) } σ2 H2) (hd : ∀ σ H, Pv n σ H → nx σ H) : LoopW (Itr lo n) g tb nx rt σ H :=
  for_range (D := { nx := nx, rt := rt, bk := nx, ct := nx }) Pv h0 hs hd
theorem fr_seq {b : Bool} {a : Addr} {xs : List V} (Pv : Nat → St → Hp → Prop) (h0 : Pv 0 σ H) (hl : ∀ i σ H, i ≤ xs.length → Pv i σ H → SqB b K H a xs)
    (hs : ∀ i x σ H, xs[i]? = some x → Pv i σ H → g x σ H fun σ2 H2 => tb { nx := Pv (i + 1), rt := rt, bk := nx, ct := Pv (i + 1) } σ2 H2) (hd : ∀ σ H, Pv xs.length σ H → nx σ H) : LoopW (Its K b a) g tb nx rt σ H :=
  for_seq (D := { nx := nx, rt := rt, bk := nx, ct := nx }) Pv h0 hl hs hd
theorem fr_enum {b : Bool} {a : Addr} {xs : List V} (Pv : Nat → St → Hp → Prop) (h0 : Pv 0 σ H) (hl : ∀ i σ H, i ≤ xs.length → Pv i σ H → SqB b K H a xs)
    (hs : ∀ i x p σ H, xs[i]? = some x → Pv i σ H → H p = none → g (.ref p) σ (upd H p (.tup [.int i, x])) fun σ2 H2 => tb { nx := Pv (i + 1), rt := rt, bk := nx, ct := Pv (i + 1) } σ2 H2) (hd : ∀ σ H, Pv xs.length σ H → nx σ H) : LoopW (Ite K b a) g tb nx rt σ H :=
  for_enum (D := { nx := nx, rt := rt, bk := nx, ct := nx }) Pv h0 hl hs hd
end
theorem mat_ix {b1 b2 : Bool} {K : Frag} {H : Hp} {a : Addr} {rows : List (List Int)} {i k : Nat} {r : List Int} {x : Int} {I J : Int} {Q : VK} (h : MatB b1 b2 K H a rows) (e : rows[i]? = some r) (e2 : r[k]? = some x) (hi : I = i) (hk : J = k) (q : Q (.int x) H) :
    rIxB K (.ref a) (.int I) H fun v H1 => rIxB K v (.int J) H1 Q := by
  obtain ⟨ps, p, k1, k2, k3, k4⟩ := h.row e
  exact ⟨b1, a, _, _, _, rfl, rfl, k1, atI_at k2 hi, b2, p, _, _, _, rfl, rfl, k4, atI_at (int_at e2) hk, q⟩
theorem mat_row {b1 b2 : Bool} {K : Frag} {H : Hp} {a : Addr} {rows : List (List Int)} {i : Nat} {r : List Int} {I : Int} {Q : VK} (h : MatB b1 b2 K H a rows) (e : rows[i]? = some r) (hi : I = i) (q : ∀ p, SqB b2 K H p (r.map V.int) → Q (.ref p) H) :
    rIxB K (.ref a) (.int I) H Q := by
  obtain ⟨ps, p, k1, k2, k3, k4⟩ := h.row e
  exact ⟨b1, a, _, _, _, rfl, rfl, k1, atI_at k2 hi, q p k4⟩
theorem mat_len {b1 b2 : Bool} {K : Frag} {H : Hp} {a : Addr} {rows : List (List Int)} {Q : VK} (h : MatB b1 b2 K H a rows) (q : Q (.int rows.length) H) : rLenB K [.ref a] H Q := by
  obtain ⟨ps, h1, h2, h3⟩ := h
  refine ⟨b1, a, _, rfl, h1, ?_⟩
  rw [List.length_map, h2]
  exact q
theorem ints_len {b : Bool} {K : Frag} {H : Hp} {a : Addr} {ns : List Int} {Q : VK} (h : SqB b K H a (ns.map V.int)) (q : Q (.int ns.length) H) : rLenB K [.ref a] H Q := by
  refine ⟨b, a, _, rfl, h, ?_⟩
  rw [List.length_map]
  exact q
noncomputable def RefRows (a : Addr) (H : Hp) (zs : List V) (M : List (List Int)) : Prop := ∃ ps : List Addr, zs = ps.map V.ref ∧ ps.length = M.length ∧ ∀ (j : Nat) (p : Addr) (r : List Int), ps[j]? = some p → M[j]? = some r → p ≠ a ∧ H p = some (.lst (r.map V.int))
theorem RefRows.nil {a : Addr} {H : Hp} : RefRows a H [] [] := ⟨[], rfl, rfl, fun j p r e => by simp at e⟩
theorem RefRows.len {a : Addr} {H : Hp} {zs : List V} {M : List (List Int)} (h : RefRows a H zs M) : zs.length = M.length := let ⟨ps, e, l, _⟩ := h; by rw [e, List.length_map, l]
theorem RefRows.mono {a : Addr} {H H' : Hp} {zs : List V} {M : List (List Int)} (h : RefRows a H zs M) (s : SameX a H H') : RefRows a H' zs M := let ⟨ps, e, l, q⟩ := h; ⟨ps, e, l, fun j p r e1 e2 => ⟨(q j p r e1 e2).1, s _ _ (q j p r e1 e2).1 (q j p r e1 e2).2⟩⟩
theorem cut_ints (ns : List Int) (lo hi : Option Int) : cutV (ns.map V.int) lo hi = ((ns.drop (HT.sIx ns.length 0 lo)).take (HT.sIx ns.length ns.length hi - HT.sIx ns.length 0 lo)).map V.int := by
  unfold cutV
  rw [List.length_map, List.map_take, List.map_drop]
theorem cut_to {ns : List Int} {k : Nat} (h : k ≤ ns.length) : cutV (ns.map V.int) none (some (k : Int)) = (ns.take k).map V.int := by
  rw [cut_ints, HT.sIx_none, HT.sIx_nat, Nat.min_eq_left h]
  simp
theorem cut_from {ns : List Int} {k : Nat} (h : k ≤ ns.length) : cutV (ns.map V.int) (some (k : Int)) none = (ns.drop k).map V.int := by
  rw [cut_ints, HT.sIx_none, HT.sIx_nat, Nat.min_eq_left h, List.take_of_length_le (by simp)]
section
variable {K : Frag} {H : Hp} {a a1 : Addr} {M : List (List Int)} {σ : St} {Q : VK} {b1 b2 : Bool}
theorem copy_list (hM : MatB b1 b2 K H a M) (hl : M.length ≤ 1000) (ha1 : H a1 = none) (hQ : ∀ H1, Same H H1 → MatL H1 a1 M → Q (.ref a1) H1) : CompWG (Its K b1 a) (gName 0) (tEl (tCB (rListB K) (tCons (tVar 0) tNil))) 1 [] σ a1 H Q := by
  obtain ⟨xs, x1, x2, x3⟩ := hM.walk
  refine cg_seq (RowR a1 fun j => M.getD j []) ha1 x1 (by omega) (RowR.mono (a := a1)) ?_ ?_
  · intro i x H1 zs ex s1 ez Q' hQ'
    obtain ⟨p, r, rfl, er, hp⟩ := x3 i x ex
    refine ⟨_, rfl, b2, p, _, rfl, hp.up s1, fun l hl1 => hQ' _ _ (Same.new hl1) ⟨l, rfl, Ne.symm (ne_of_none ez hl1), ?_⟩⟩
    rw [upd_same]; dsimp only; rw [List.getD_eq_getElem?_getD, er]
    rfl
  · intro H1 ys s1 e1 hly hr1
    have := MatL.of e1 hr1
    have e : (List.range ys.length).map (fun j => M.getD j []) = M := by
      rw [hly, x2]
      refine List.ext_getElem (by simp) fun i h1 h2 => ?_
      simp at h1
      simp [h1]
    rw [e] at this
    exact hQ H1 s1 this
noncomputable def MatT (H : Hp) (a : Addr) (rows : List (List Int)) : Prop := ∃ ps : List Addr, H a = some (.lst (ps.map V.ref)) ∧ ps.length = rows.length ∧ ∀ (i : Nat) (p : Addr) (r : List Int), ps[i]? = some p → rows[i]? = some r → H p = some (.tup (r.map V.int))
theorem copy_tup (hM : MatB b1 false K H a M) (hl : M.length ≤ 1000) (ha1 : H a1 = none) (hQ : ∀ H1, Same H H1 → MatT H1 a1 M → Q (.ref a1) H1) : CompWG (Its K b1 a) (gName 0) (tEl (tCB (rTupB K) (tCons (tVar 0) tNil))) 1 [] σ a1 H Q := by
  obtain ⟨xs, x1, x2, x3⟩ := hM.walk
  refine cg_seq (fun j y H1 => ∃ p r, y = .ref p ∧ M[j]? = some r ∧ p ≠ a1 ∧ H1 p = some (.tup (r.map V.int))) ha1 x1 (by omega) (fun i y H1 H2 ⟨p, r, e1, e2, e3, e4⟩ s => ⟨p, r, e1, e2, e3, s _ _ e3 e4⟩) ?_ ?_
  · intro i x H1 zs ex s1 ez Q' hQ'
    obtain ⟨p, r, rfl, er, hp⟩ := x3 i x ex
    exact ⟨_, rfl, p, _, rfl, .inl ⟨hp.up s1, fun l hl1 => hQ' _ _ (Same.new hl1) ⟨l, r, rfl, er, Ne.symm (ne_of_none ez hl1), upd_same⟩⟩⟩
  · intro H1 ys s1 e1 hly hr1
    have hps : ∃ ps : List Addr, ys = ps.map V.ref := by
      clear e1 hly
      have : ∀ (zs : List V), (∀ (j : Nat) y, zs[j]? = some y → ∃ p : Addr, y = .ref p) → ∃ ps : List Addr, zs = ps.map V.ref := by
        intro zs
        induction zs with
        | nil => intro _; exact ⟨[], rfl⟩
        | cons z r ih =>
          intro hz
          obtain ⟨p, e⟩ := hz 0 z rfl
          obtain ⟨ps, e2⟩ := ih fun j y q => hz (j + 1) y (by simpa using q)
          exact ⟨p :: ps, by rw [e, e2]; rfl⟩
      exact this ys fun j y e => let ⟨p, r, e1, _⟩ := hr1 j y e; ⟨p, e1⟩
    obtain ⟨ps, rfl⟩ := hps
    refine hQ H1 s1 ⟨ps, e1, by simp at hly; omega, fun i p r e2 e3 => ?_⟩
    obtain ⟨p', r', e4, e5, _, e6⟩ := hr1 i (.ref p) (by simp [e2])
    cases e4
    rw [e3] at e5
    cases e5
    exact e6
theorem MatT.tuple {l : Addr} (h : MatT H a M) (hl : H l = none) : ∃ zs, H a = some (.lst zs) ∧ MatB true true K (upd H l (.tup zs)) l M := by
  obtain ⟨ps, h1, h2, h3⟩ := h
  exact ⟨_, h1, ps, SqB.tup upd_same, h2, fun i p r e1 e2 => SqB.tup (Same.new hl _ _ (h3 i p r e1 e2))⟩
end
end L2
namespace L2
open PySem PySem.Spec PyProof.Rows
open PySem.W (Frag)
noncomputable def MkI (te : TE) (n : Int) : Prop := ∀ σ H Q, Q (.int n) H → te σ H Q
theorem MkI.pos (n : Int) : MkI (tC (.int n)) n := fun _ _ _ q => q
theorem MkI.neg (n : Int) : MkI (tUn (rU fun i => .int (-i)) (tC (.int n))) (-n) := fun _ _ _ q => ⟨n, rfl, q⟩
noncomputable def MkIs (ta : TA) (ns : List Int) : Prop := ∀ σ H Q, Q (ns.map V.int) H → ta σ H Q
theorem MkIs.nil : MkIs tNil [] := fun _ _ _ q => q
theorem MkIs.cons {te : TE} {ta : TA} {n : Int} {ns : List Int} (h : MkI te n) (h2 : MkIs ta ns) : MkIs (tCons te ta) (n :: ns) := fun σ H Q q => h σ H _ (h2 σ H _ q)
noncomputable def MkR (te : TE) (ns : List Int) : Prop := ∀ σ H Q, (∀ p H', Same H H' → H p = none → H' p = some (.lst (ns.map V.int)) → Q (.ref p) H') → te σ H Q
theorem MkR.of {ta : TA} {ns : List Int} (h : MkIs ta ns) (hz : ns.length ≤ 1000) : MkR (tLst ta) ns := fun σ H Q q => h σ H _ ⟨by rw [List.length_map]; exact Nat.le_of_lt (small1000 hz), fun l hl => q l _ (Same.new hl) hl upd_same⟩
noncomputable def MkRs (ta : TA) (M : List (List Int)) : Prop := ∀ σ H Q, (∀ ps H', Same H H' → RefRowsN H H' ps M → Q (ps.map V.ref) H') → ta σ H Q
where RefRowsN (H H' : Hp) (ps : List Addr) (M : List (List Int)) : Prop := ps.length = M.length ∧ ∀ (j : Nat) (p : Addr) (r : List Int), ps[j]? = some p → M[j]? = some r → H' p = some (.lst (r.map V.int))
theorem MkRs.nil : MkRs tNil [] := fun _ H Q q => q [] H (Same.refl _) ⟨rfl, fun j p r e => by simp at e⟩
theorem MkRs.cons {te : TE} {ta : TA} {ns : List Int} {M : List (List Int)} (h : MkR te ns) (h2 : MkRs ta M) : MkRs (tCons te ta) (ns :: M) := fun σ H Q q => h σ H _ fun p H1 s1 hp e1 => h2 σ H1 _ fun ps H2 s2 r => q (p :: ps) H2 (s1.trans s2) ⟨by simp [r.1], fun j p' r' e e' => by
  cases j with
  | zero => simp at e e'; subst e e'; exact s2 _ _ e1
  | succ j => exact r.2 j p' r' (by simpa using e) (by simpa using e')⟩
noncomputable def MkM (te : TE) (M : List (List Int)) : Prop := ∀ σ H Q, (∀ p H', Same H H' → H p = none → MatL H' p M → Q (.ref p) H') → te σ H Q
theorem MkM.of {ta : TA} {M : List (List Int)} (h : MkRs ta M) (hz : M.length ≤ 1000) : MkM (tLst ta) M := fun σ H Q q => h σ H _ fun ps H1 s1 r => ⟨by rw [List.length_map, r.1]; exact Nat.le_of_lt (small1000 hz), fun l hl => by
  have hn : H l = none := by cases e : H l with | none => rfl | some o => rw [s1 _ _ e] at hl; cases hl
  exact q l _ (s1.trans (Same.new hl)) hn ⟨ps, upd_same, r.1, fun i p z e1 e2 => ⟨ne_of_none (r.2 i p z e1 e2) hl, Same.new hl _ _ (r.2 i p z e1 e2)⟩⟩⟩
noncomputable def Mats (H : Hp) (p : Addr) (Ms : List (List (List Int))) : Prop := ∃ ps : List Addr, H p = some (.lst (ps.map V.ref)) ∧ ps.length = Ms.length ∧ ∀ (i : Nat) (q : Addr) (M : List (List Int)), ps[i]? = some q → Ms[i]? = some M → MatL H q M
theorem Mats.up {H H' : Hp} {p : Addr} {Ms : List (List (List Int))} (h : Mats H p Ms) (s : Same H H') : Mats H' p Ms := let ⟨ps, h1, h2, h3⟩ := h; ⟨ps, s _ _ h1, h2, fun i q M e1 e2 => (h3 i q M e1 e2).up s⟩
noncomputable def MkMs (ta : TA) (Ms : List (List (List Int))) : Prop := ∀ σ H Q, (∀ (ps : List Addr) H', Same H H' → ps.length = Ms.length → (∀ (i : Nat) (q : Addr) (M : List (List Int)), ps[i]? = some q → Ms[i]? = some M → MatL H' q M) → Q (ps.map V.ref) H') → ta σ H Q
theorem MkMs.nil : MkMs tNil [] := fun _ H Q q => q [] H (Same.refl _) rfl fun j p r e => by simp at e
theorem MkMs.cons {te : TE} {ta : TA} {M : List (List Int)} {Ms : List (List (List Int))} (h : MkM te M) (h2 : MkMs ta Ms) : MkMs (tCons te ta) (M :: Ms) := fun σ H Q q => h σ H _ fun p H1 s1 _ e1 => h2 σ H1 _ fun ps H2 s2 l r => q (p :: ps) H2 (s1.trans s2) (by simp [l]) fun j p' r' e e' => by
  cases j with
  | zero => simp at e e'; subst e e'; exact e1.up s2
  | succ j => exact r j p' r' (by simpa using e) (by simpa using e')
theorem MkMs.lst {ta : TA} {Ms : List (List (List Int))} (h : MkMs ta Ms) (hz : Ms.length ≤ 1000) {σ : St} {H : Hp} {Q : VK} (q : ∀ p H', Same H H' → Mats H' p Ms → Q (.ref p) H') : tLst ta σ H Q := h σ H _ fun ps H1 s1 l r => ⟨by rw [List.length_map, l]; exact Nat.le_of_lt (small1000 hz), fun a ha =>
  q a _ (s1.trans (Same.new ha)) ⟨ps, upd_same, l, fun i q M e1 e2 => (r i q M e1 e2).up (Same.new ha)⟩⟩
theorem Mats.at {K : Frag} {H : Hp} {p : Addr} {Ms : List (List (List Int))} {i : Nat} {M : List (List Int)} {I : Int} {Q : VK} (h : Mats H p Ms) (e : Ms[i]? = some M) (hi : I = i) (k : ∀ q, MatL H q M → Q (.ref q) H) : rIxB K (.ref p) (.int I) H Q := by
  obtain ⟨ps, h1, h2, h3⟩ := h
  have hlt : i < ps.length := by have := (List.getElem?_eq_some_iff.mp e).1; omega
  exact ⟨false, p, _, _, _, rfl, rfl, SqB.lst h1, atI_at (show (ps.map V.ref)[i]? = some (.ref ps[i]) by simp [hlt]) hi, k _ (h3 i _ M (by simp [hlt]) e)⟩
noncomputable def MatD (H0 H : Hp) (a : Addr) (rows : List (List Int)) : Prop := ∃ ps : List Addr, H a = some (.lst (ps.map V.ref)) ∧ ps.length = rows.length ∧ ps.Nodup ∧ ∀ (i : Nat) (p : Addr) (r : List Int), ps[i]? = some p → rows[i]? = some r → p ≠ a ∧ H0 p = none ∧ H p = some (.lst (r.map V.int))
theorem MatD.l {H0 H : Hp} {a : Addr} {rows : List (List Int)} (h : MatD H0 H a rows) : MatL H a rows := let ⟨ps, h1, h2, _, h3⟩ := h; ⟨ps, h1, h2, fun i p r e1 e2 => ⟨(h3 i p r e1 e2).1, (h3 i p r e1 e2).2.2⟩⟩
theorem MatD.up {H0 H H' : Hp} {a : Addr} {rows : List (List Int)} (h : MatD H0 H a rows) (s : Same H H') : MatD H0 H' a rows := let ⟨ps, h1, h2, n, h3⟩ := h; ⟨ps, s _ _ h1, h2, n, fun i p r e1 e2 => ⟨(h3 i p r e1 e2).1, (h3 i p r e1 e2).2.1, s _ _ (h3 i p r e1 e2).2.2⟩⟩
theorem MatD.row {H0 H : Hp} {a : Addr} {rows : List (List Int)} {i : Nat} {r : List Int} (h : MatD H0 H a rows) (e : rows[i]? = some r) : ∃ zs p, H a = some (.lst zs) ∧ zs[i]? = some (.ref p) ∧ zs.length = rows.length ∧ p ≠ a ∧ H0 p = none ∧ H p = some (.lst (r.map V.int)) ∧ ∀ r', MatD H0 (upd H p (.lst (r'.map V.int))) a (rows.set i r') := by
  obtain ⟨ps, h1, h2, hn, h3⟩ := h
  have hi : i < ps.length := by have := (List.getElem?_eq_some_iff.mp e).1; omega
  have hp := h3 i ps[i] r (by simp [hi]) e
  refine ⟨_, ps[i], h1, by simp [hi], by simp [h2], hp.1, hp.2.1, hp.2.2, fun r' => ⟨ps, by rw [upd_ne (Ne.symm hp.1)]; exact h1, by simp [h2], hn, fun j q z e1 e2 => ?_⟩⟩
  by_cases hj : j = i
  · subst hj
    have eq : q = ps[j] := by simp [hi] at e1; exact e1.symm
    subst eq
    rw [List.getElem?_set_self (by omega)] at e2
    cases e2
    exact ⟨hp.1, hp.2.1, upd_same⟩
  · rw [List.getElem?_set_ne (Ne.symm hj)] at e2
    obtain ⟨n1, n3, n2⟩ := h3 j q z e1 e2
    have : q ≠ ps[i] := fun w => by
      have hjl := (List.getElem?_eq_some_iff.mp e1)
      obtain ⟨hjl, ej⟩ := hjl
      exact hj ((List.getElem_inj hn).mp (ej.trans w))
    exact ⟨n1, n3, by rw [upd_ne this]; exact n2⟩
noncomputable def isList : Expr → Bool
  | .List _ _ => true
  | _ => false
section
variable {prog : Program} {w : World} {A : Around} {E : Value → Shared → Prop} {s : Shared}
theorem assign_Tuple_list {env : Env} {elts : List Expr} {x1} {pos : Pos} {t : Addr} {items : Array Value} {Q : Unit → Shared → Prop} (hh : A.handled = none) (ht : s.heap.IsList t items)
    (hn : (assignEach elts env).length = items.size) (hstar : (assignEach elts env).findIdx? (·.1) = none)
    (h : ∀ h', Heap.ExtBut s.heap.objs.size s.heap h' → wpAny (model prog w) A (assignInOrder ((assignEach elts env).map (·.2)) items.toList) Q E { s with heap := h' }) :
    wpAny (model prog w) A (assign (.Tuple elts x1 pos) env (.ref t)) Q E s := by
  rw [assign_Tuple]
  refine wpAny_bind (wpAny_standAt ?_)
  unfold unpack
  rw [hn, hstar]
  exact wpAny_bind (wpAny_holding (PySem.W.kun_itemsOf hh ht h))
end
section
variable {X : Cx} {pos : Pos}
noncomputable def gTupB (K : Frag) (n : Nat) (t : TGs) : TG := fun v σ H Q => ∃ b a xs, v = .ref a ∧ SqB b K H a xs ∧ xs.length = n ∧ t xs σ H Q
theorem pg_tupB {es : List Expr} {k : Nat} {t : TGs} {n : Nat} (hc : X.calm = true) (h : PGs X es t)
    (hn : (assignEach es X.env).length = n := by rfl) (hst : (assignEach es X.env).findIdx? (·.1) = none := by rfl) : PG X (.Tuple es k pos) (gTupB X.K n t) := by
  intro pins s σ H v u Q I r hw
  obtain ⟨b, a, xs, e1, hq, hl, hw⟩ := hw
  cases b with
  | true => exact pg_tup hc h hn hst pins s σ H v u Q I r ⟨a, xs, e1, hq, hl, hw⟩
  | false =>
    subst e1
    cases r
    obtain ⟨its, rv, pl, hz⟩ := I.list hq
    refine assign_Tuple_list (I.ok.hd hc) pl.isList (by simp [hn, ← hl, rv.length]) hst fun h' hx => ?_
    have I1 : Inv X pins σ H { s with heap := h' } := I.kept (t' := s.toks) fun b o e => hx b o (Nat.ne_of_lt (Heap.lt_size e)) e
    exact h pins _ σ H xs _ Q I1 (by simpa using rv) hw
end
open Builtin Builtin.Str
noncomputable def tabOf (K : Frag) (f : Addr) : Option (Addr × Addr) := match K.lookup f with
  | some ⟨_, _, .func fd, _⟩ => (match fd.code with
    | .ref c => (match K.lookup c with
      | some ⟨_, _, .fields vs, _⟩ => (match (vs[11]? : Option Value) with
        | some (.ref P) => some (c, P)
        | _ => none)
      | _ => none)
    | _ => none)
  | _ => none
noncomputable def tabC (K : Frag) (f : Addr) : Addr := match tabOf K f with
  | some q => q.1
  | none => 0
noncomputable def tabP (K : Frag) (f : Addr) : Addr := match tabOf K f with
  | some q => q.2
  | none => 0
noncomputable def tabOk (K : Frag) (f : Addr) : Bool := (tabOf K f).isSome && PySem.W.codeHdIn K (tabC K f) (tabP K f) && (K.lookup (tabP K f)).isNone
theorem tab_code {K : Frag} {f : Addr} {oc : Value} {od : Option Addr} {fd : FuncData} {osl : Array (Option Value)} (h : tabOk K f = true) (l : K.lookup f = some ⟨oc, od, .func fd, osl⟩) : fd.code = .ref (tabC K f) := by
  unfold tabOk at h
  simp only [Bool.and_eq_true] at h
  have h1 := h.1.1
  unfold tabC
  unfold tabOf at h1 ⊢
  rw [l] at h1 ⊢
  dsimp only at h1 ⊢
  split at h1
  · rename_i c hc
    rw [hc]
    try dsimp only
    split at h1
    · rename_i vs _ hv
      try rw [hv]
      try dsimp only
      split at h1
      · rename_i P hP
        try rw [hP]
        rfl
      · simp at h1
    · simp at h1
  · simp at h1
theorem tab_hd {K : Frag} {f : Addr} {h : Heap} (e : tabOk K f = true) (X : K.In h) : PySem.W.CodeHd h (tabC K f) (tabP K f) := by
  unfold tabOk at e
  simp only [Bool.and_eq_true] at e
  exact PySem.W.codeHd_of_K X e.1.2
theorem tab_none {K : Frag} {f : Addr} (e : tabOk K f = true) : K.lookup (tabP K f) = none := by
  unfold tabOk at e
  simp only [Bool.and_eq_true] at e
  exact Option.isNone_iff_eq_none.mp e.2
noncomputable def BMain (mg : Str → Option Value) (h : Heap) : Prop := ∃ bm ob, mg "__builtins__" = some (.ref bm) ∧ bm ≠ builtinsNs ∧ h.get? bm = some ob ∧ ob.cls = .type "module" ∧ ob.dict = some builtinsNs ∧ ob.data = .plain
noncomputable def codeO (c : Addr) (qual : Str) : HO := .ext fun h => h.CodeRec (.ref c) qual
noncomputable def lamO (f c : Addr) (qual : Str) (params : Arguments) (body : Expr) (scope : Scope) (cl : List (Str × Addr)) (pm ctv : Value) : HO :=
  .ext fun h => h.get? f = some (PySem.W.kla_obj "<lambda>" qual params body scope cl pm c ctv)
noncomputable def TabAt (H : Hp) (P : Addr) (pos : Pos) (qual : Str) : Prop := H P = some (.tbl #[]) ∨ ∃ c, H P = some (.tbl #[rawInt pos.line, rawInt pos.col, .ref c]) ∧ H c = some (codeO c qual)
noncomputable def SameP (P : Addr) (H H' : Hp) : Prop := ∀ b o, b ≠ P → H b = some o → H' b = some o
section
variable {X : Cx} {scope : Scope} {x : Str} {fr : List (Str × Nat)}
noncomputable def tLam (P : Addr) (pos : Pos) (qual : Str) (params : Arguments) (body : Expr) (scope : Scope) (cl : List (Str × Addr)) : TE := fun _ H Q => TabAt H P pos qual ∧
  ∀ f c pm ctv H', SameP P H H' → H f = none → H' f = some (lamO f c qual params body scope cl pm ctv) → H' c = some (codeO c qual) → H' P = some (.tbl #[rawInt pos.line, rawInt pos.col, .ref c]) → Q (.ref f) H'
theorem codeO_ok {P : Program} {w : World} {H : Hp} {h : Heap} {c : Addr} {q : Str} (r : h.CodeRec (.ref c) q) : ObjOk P w H h c (codeO c q) := by
  refine ⟨r, ?_, fun h1 h2 r1 k => ?_⟩
  · obtain ⟨c', o, _, _, e, ho, _⟩ := r
    cases e
    exact ⟨o, ho⟩
  · obtain ⟨c', o, vs, t, e, ho, r'⟩ := r1
    cases e
    exact ⟨c, o, vs, t, rfl, k o ho, r'⟩
theorem codeO_get {P : Program} {w : World} {H : Hp} {h : Heap} {c : Addr} {q : Str} (r : ObjOk P w H h c (codeO c q)) : h.CodeRec (.ref c) q := r.1
theorem lamO_ok {P : Program} {w : World} {H : Hp} {h : Heap} {f c : Addr} {qual : Str} {params : Arguments} {body : Expr} {scope : Scope} {cl : List (Str × Addr)} {pm ctv : Value} (r : h.get? f = some (PySem.W.kla_obj "<lambda>" qual params body scope cl pm c ctv)) :
    ObjOk P w H h f (lamO f c qual params body scope cl pm ctv) := ⟨r, ⟨_, r⟩, fun _ _ r1 k => k _ r1⟩
theorem pe_lam {params : Arguments} {body : Expr} {pos : Pos} {f0 : Addr} {qual : Str} (k : CompOk X scope x fr) (tb : tabOk X.K f0 = true) (hcode : X.env.code = .ref (tabC X.K f0)) (hB : BMain X.mg X.base)
    (hdef : defaultsOf params X.env = ([], []) := by rfl) (hq : X.env.qual ++ "<lambda>" = qual := by rfl) :
    PE X (.Lambda params body scope pos) (tLam (tabP X.K f0) pos qual params body scope (clOf X.env scope.names [])) := by
  subst hq
  rintro pins s σ H Q I ⟨ht, h⟩
  have hC : PySem.W.CodeHd X.base (tabC X.K f0) (tabP X.K f0) := tab_hd tb I.ok.mod.kin
  generalize tabC X.K f0 = c at *
  generalize tabP X.K f0 = P at *
  refine PySem.W.kla_eval hdef ?_
  have hcl := closure_is (k.cells I)
  have hg : s.heap.Ns mainGlobals X.mg := by
    obtain ⟨o, es, ep, e, r⟩ := I.mod.glob
    exact ⟨o, es, ep, I.bk _ _ e, r⟩
  have hC' := hC.keeps I.bk
  have free_of : ∀ {b : Addr} {o : Obj}, X.base.get? b = some o → H b = none := fun e => (I.bs _ _ e).2
  have tab : ∀ {ps : Array Value}, H P = some (.tbl ps) → s.heap.get? P = some (PySem.W.tabObj ps) := fun e => I.hok P _ e
  have neP : ∀ {ps : Array Value} {b : Addr} {o : Obj}, H P = some (.tbl ps) → X.base.get? b = some o → b ≠ P := fun e eb z => by
    have := free_of eb
    rw [z, e] at this; cases this
  have hbm : ∀ {ps : Array Value}, H P = some (.tbl ps) → s.heap.BuiltinsAt X.mg P := fun e => by
    obtain ⟨bm, ob, b1, b2, b3, b4, b5, b6⟩ := hB
    refine ⟨bm, ob, b1, b2, fun z => ?_, neP e b3, I.bk _ _ b3, b4, b5, b6⟩
    obtain ⟨o, es, ep, e', hd, _⟩ := I.mod.glob
    rw [z, e'] at b3; cases b3; rw [hd] at b6; cases b6
  rcases ht with e | ⟨c', e, ec⟩
  · obtain ⟨om, es, ep, em, _⟩ := I.mod.glob
    refine PySem.W.kla_makeFunction (mg := X.mg) hcl I.ok.glob hg hcode hC' (tab e) trivial rfl (neP e em) (hbm e) fun c' ctv h' tk hx hge hlt hrec htb => ?_
    have htb' : h'.get? P = some (PySem.W.tabObj #[rawInt pos.line, rawInt pos.col, .ref c']) := by simpa using htb
    have hPs : P < s.heap.objs.size := Heap.lt_size (tab e)
    have hle : s.heap.objs.size ≤ h'.objs.size := Nat.le_trans hge (Nat.le_of_lt hlt)
    have ecP : c' ≠ P := Nat.ne_of_gt (Nat.lt_of_lt_of_le hPs hge)
    have efP : h'.objs.size ≠ P := Nat.ne_of_gt (Nat.lt_of_lt_of_le hPs hle)
    have efc : h'.objs.size ≠ c' := Nat.ne_of_gt hlt
    have hfc : H c' = none := I.hok.fresh hge
    have hff : H h'.objs.size = none := I.hok.fresh hle
    generalize hfo : PySem.W.kla_obj "<lambda>" (X.env.qual ++ "<lambda>") params body scope (clOf X.env scope.names []) ((X.mg "__name__").getD .none) c' ctv = fo
    have keep : ∀ b o, b ≠ P → s.heap.get? b = some o → (h'.push fo).get? b = some o := fun b o hb q => Heap.get?_push_of_some _ (hx b o hb q)
    have e1 : (h'.push fo).get? P = some (PySem.W.tabObj #[rawInt pos.line, rawInt pos.col, .ref c']) := Heap.get?_push_of_some _ htb'
    refine ⟨.ref h'.objs.size, upd (upd (upd H P (.tbl #[rawInt pos.line, rawInt pos.col, .ref c'])) c' (codeO c' (X.env.qual ++ "<lambda>"))) h'.objs.size
      (lamO h'.objs.size c' (X.env.qual ++ "<lambda>") params body scope (clOf X.env scope.names []) ((X.mg "__name__").getD .none) ctv), ?_, rfl, h _ c' _ _ _ ?_ hff upd_same ?_ ?_⟩
    · refine I.un (h' := h'.push fo) (t' := tk) ⟨fun b o q n _ _ => keep b o (fun z => by rw [z, e] at n; cases n) q, fun b o q n _ _ => ⟨o.slots, keep b o (fun z => by rw [z, e] at n; cases n) q⟩, fun b o q n _ => ?_, fun b o q _ => ?_, fun b xs q => ?_, fun b o u q => ?_, fun b ps q => ?_⟩ fun b o q => ?_
      · have l := Heap.lt_size q
        rw [upd_ne (Nat.ne_of_lt (Nat.lt_of_lt_of_le l hle)), upd_ne (Nat.ne_of_lt (Nat.lt_of_lt_of_le l hge)), upd_ne (fun z => by rw [z, e] at n; cases n)]
        exact n
      · by_cases hb : b = P
        · rw [hb]; exact ⟨_, e1⟩
        · exact ⟨o, keep b o hb q⟩
      · rw [upd_ne (ne_of_none q hff), upd_ne (ne_of_none q hfc), upd_ne (fun z => by rw [z, e] at q; cases q)]; exact q
      · rw [upd_ne (ne_of_none q hff), upd_ne (ne_of_none q hfc), upd_ne (fun z => by rw [z, e] at q; cases q)]; exact q
      · rw [upd_ne (ne_of_none q hff), upd_ne (ne_of_none q hfc)]
        by_cases hb : b = P
        · rw [hb, upd_same]
          rw [hb, e] at q
          cases q
          exact ⟨#[rawInt pos.line, rawInt pos.col, .ref c'], by simp⟩
        · rw [upd_ne hb, q]; exact ⟨#[], by simp⟩
      · by_cases b1 : b = h'.objs.size
        · subst b1
          rw [upd_same] at q
          cases q
          exact lamO_ok (pm := (X.mg "__name__").getD .none) (ctv := ctv) (by rw [hfo]; exact Heap.get?_push_size _ (by rw [← hfo]; rfl))
        · rw [upd_ne b1] at q
          by_cases b2 : b = c'
          · subst b2
            rw [upd_same] at q
            cases q
            exact codeO_ok (hrec.push _)
          · rw [upd_ne b2] at q
            by_cases b3 : b = P
            · subst b3
              rw [upd_same] at q
              cases q
              exact e1
            · rw [upd_ne b3] at q
              refine (I.hok b o q).stay (fun c2 v hc2 q2 => keep c2 v (fun z => ?_) q2) (fun c2 q2 => ?_) (fun c2 xs q2 => ?_)
              · rcases hc2 with z2 | z2
                · exact b3 (z2.symm.trans z)
                · rw [z, e] at z2; cases z2
              all_goals (rw [upd_ne (ne_of_none q2 hff), upd_ne (ne_of_none q2 hfc), upd_ne (fun z => by rw [z, e] at q2; cases q2)]; exact q2)
    · intro b o hb q
      rw [upd_ne (ne_of_none q hff), upd_ne (ne_of_none q hfc), upd_ne hb]; exact q
    · rw [upd_ne (Ne.symm efc), upd_same]
    · rw [upd_ne (Ne.symm efP), upd_ne (Ne.symm ecP), upd_same]
  · have hrec := codeO_get (I.hok c' _ ec)
    refine PySem.W.kla_makeFunctionHit (mg := X.mg) (cv := .ref c') hcl I.ok.glob hg hcode hC' (tab e) (by unfold rawInt; exact trivial) (by simp [codeAmong, rawInt]) (hbm e) fun ctv h' tk hk hsz => ?_
    have hff : H h'.objs.size = none := I.hok.fresh hsz
    refine ⟨.ref h'.objs.size, upd H h'.objs.size (lamO h'.objs.size c' (X.env.qual ++ "<lambda>") params body scope (clOf X.env scope.names []) ((X.mg "__name__").getD .none) ctv), ?_, rfl, h _ c' _ _ _ (fun b o _ q => ?_) hff upd_same ?_ ?_⟩
    · exact I.laid (fun b o q => Heap.get?_push_of_some _ (hk b o q)) hsz (lamO_ok (Heap.get?_push_size _ rfl))
    · rw [upd_ne (ne_of_none q hff)]; exact q
    · rw [upd_ne (ne_of_none ec hff)]; exact ec
    · rw [upd_ne (ne_of_none e hff)]; exact e
end
noncomputable def cxLam (X : Cx) (A : Around) (qual : Str) (scope : Scope) (N : List Str) (f : Addr) (cd : Value) (s : Shared) (H : Hp) : Cx :=
  { X with
    A := A.deeper (PySem.W.envX qual scope s.heap.objs.size f cd (clOf X.env scope.names []))
    N := N
    s₀ := s
    H₀ := H
    env := PySem.W.envX qual scope s.heap.objs.size f cd (clOf X.env scope.names [])
    outer := X.stack
    stack := PySem.W.envX qual scope s.heap.objs.size f cd (clOf X.env scope.names []) :: X.stack
    ex := []
    fn := fun _ => false
    pn := []
    xe := fun _ _ => False }
section
variable {X : Cx} {scope : Scope} {x : Str} {fr : List (Str × Nat)}
theorem lam_start {pins : List (Addr × Obj)} {σ : St} {H : Hp} {s : Shared} {h₁ : Heap} {tk : Nat} {A : Around} {qual : Str} {f : Addr} {cd : Value} {v : V} {u : Value} (c : CompOk X scope x fr) (I : Inv X pins σ H s)
    (hA : A.handled = X.A.handled) (hF : A.frames = some X.stack) (r : RelV v u)
    (hn : h₁.Ns s.heap.objs.size (fun y => [(x, u)].lookup y)) (k : ∀ b o, s.heap.get? b = some o → h₁.get? b = some o) :
    Inv (cxLam X A qual scope (x :: fr.map (·.1)) f cd s H) [] (some v :: frees fr σ) H { s with heap := h₁, toks := tk } := by
  have I4 : Inv X pins σ H { s with heap := h₁, toks := tk } := I.kept k
  have noA : ∀ b : Addr, b ∉ (cxLam X A qual scope (x :: fr.map (·.1)) f cd s H).ex := fun b z => absurd (show b ∈ ([] : List Addr) from z) (by simp)
  have hmem : ∀ y, (scope.names.lookup y = some NameKind.cell ∨ scope.names.lookup y = some NameKind.free) → (y, NameKind.free) ∈ scope.names := fun y hy => by
    rcases hy with hy | hy
    · exact absurd rfl (c.cell _ (PySem.mem_of_lookup hy))
    · exact PySem.mem_of_lookup hy
  refine ⟨⟨I.ok.mod, c.kind, rfl, rfl, Nat.le_refl _, fun y z b h1 h2 => ?_, fun y hy => ?_, fun y b h0 => (by cases h0), fun hc => ?_, Around.frames_deeper hF, .inr ⟨rfl, rfl⟩, fun b z => absurd z (noA b), fun b o e => ?_, ?_, fun b _ _ => noA b, fun b z => absurd z (noA b), ?_, fun b hb => ?_⟩,
    rfl, I.bare, Un.kept k, ⟨_, hn, fun i y v' h1 h2 h3 => ?_⟩, fun y b h => ?_, ?_, fun y b h => ?_, fun p hp => absurd (show p ∈ ([] : List (Addr × Obj)) from hp) (by simp), I4.hok, ?_⟩
  · exact I.ok.inj y z b (c.was I h1) (c.was I h2)
  · exact clOf_has (.inl (hmem y hy))
  · have := I.ok.hd hc
    rw [← hA] at this
    exact this
  · exact I.bs b o e
  · exact Nat.le_trans I.ok.bsz I.sz
  · exact I.stack
  · exact I.stkFree b hb
  · cases i with
    | zero =>
      have h1' : some x = some y := h1
      cases h1'
      have h2' : some (some v) = some (some v') := h2
      cases h2'
      exact ⟨u, r, .inl ⟨c.name, by show [(x, u)].lookup x = some u; simp⟩⟩
    | succ j =>
      have h1' : (fr.map (·.1))[j]? = some y := h1
      have h2' : (frees fr σ)[j]? = some (some v') := h2
      rw [List.getElem?_map] at h1'
      unfold frees at h2'
      rw [List.getElem?_map] at h2'
      cases e : fr[j]? with
      | none => rw [e] at h1'; cases h1'
      | some p =>
        rw [e] at h1' h2'
        have e1 : p.1 = y := Option.some.inj h1'
        have e2 : σ.getD p.2 none = some v' := Option.some.inj h2'
        obtain ⟨n1, n2⟩ := c.fr p (List.mem_of_getElem? e)
        have e3 : σ[p.2]? = some (some v') := by
          rw [List.getD_eq_getElem?_getD] at e2
          cases q : σ[p.2]? with
          | none => rw [q] at e2; cases e2
          | some o => rw [q] at e2; have e2' : o = some v' := e2; rw [e2']
        subst e1
        have hm : (p.1, NameKind.free) ∈ scope.names := PySem.mem_of_lookup n2
        have kd := c.free _ hm rfl
        obtain ⟨m', _, hl⟩ := I4.loc
        obtain ⟨u', ru, lk⟩ := hl p.2 p.1 v' n1 e3 (.inr kd)
        refine ⟨u', ru, .inr ⟨.inr n2, ?_⟩⟩
        rcases lk with ⟨k1, _⟩ | ⟨_, b, q, z⟩
        · rcases kd with kd | kd <;> (rw [kd] at k1; cases k1)
        · obtain ⟨b', q'⟩ := clOf_has (env := X.env) (l := scope.names) (cs := []) (.inl hm)
          have e4 := c.was I q'
          rw [q] at e4
          cases e4
          exact ⟨b, q', z⟩
  · exact I4.cell y b (c.was I h)
  · exact I.hok.fresh (Nat.le_refl _)
  · exact I4.freeC y b (c.was I h)
  · show (some v :: frees fr σ).length = (x :: fr.map (·.1)).length
    simp [frees]
structure LamTx (params : Arguments) (scope : Scope) (x : Str) : Prop where
  co : scope.isCoroutine = false
  gen : scope.isGenerator = false
  bind : ∀ (name qual : Str) (body : Expr) (cl : List (Str × Addr)) (pm cdv ct u : Value), bindArgs (PySem.W.kla_fn name qual params body scope cl pm cdv ct) ⟨[u], []⟩ = pure [(x, u)]
theorem run_lam {pins : List (Addr × Obj)} {σ : St} {H : Hp} {s : Shared} {A : Around} {qual : Str} {params : Arguments} {body : Expr} {f c' : Addr} {v : V} {u : Value} {te : TE} {Q : VK} {pm ctv : Value} {E : Value → Shared → Prop} (c : CompOk X scope x fr) (L : LamTx params scope x)
    (I : Inv X pins σ H s) (hA : A.handled = X.A.handled) (hF : A.frames = some X.stack) (hd : A.depth < recursionLimit) (r : RelV v u)
    (ef : H f = some (lamO f c' qual params body scope (clOf X.env scope.names []) pm ctv)) (ec : H c' = some (codeO c' qual))
    (he : ∀ (s : Shared) (H : Hp), PE (cxLam X A qual scope (x :: fr.map (·.1)) f (.ref c') s H) body te) (h : te (some v :: frees fr σ) H Q) :
    wpAny (model X.prog X.w) A (call (.ref f) [u]) (EP X pins σ Q) E s := by
  obtain ⟨lf, _⟩ := (show ObjOk X.prog X.w H s.heap f (lamO f c' qual params body scope (clOf X.env scope.names []) pm ctv) from I.hok f _ ef)
  have hrec := codeO_get (I.hok c' _ ec)
  refine wpAny_call ?_
  refine PySem.W.kla_callFunE (fd := PySem.W.kla_fn "<lambda>" qual params body scope (clOf X.env scope.names []) pm (.ref c') ctv) hd lf rfl L.co L.gen rfl hrec ?_
  rw [L.bind]
  refine wpAny_pure (wpAny_newFunctionEnv c.cell (fun y hy => ?_) (fun h₁ hns hsb => ⟨?_, ?_⟩) c.kind)
  · rw [List.mem_singleton.mp hy]; exact c.name
  · exact (I.nolimit).fresh _ hsb
  · have hk₁ : ∀ b o, s.heap.get? b = some o → h₁.get? b = some o := fun b o e => hsb.extBut b o (Nat.ne_of_lt (Heap.lt_size e)) (Heap.get?_push_of_some _ e)
    have J := lam_start (A := A) (qual := qual) (f := f) (cd := .ref c') (tk := s.toks + [(x, u)].length) c I hA hF r hns hk₁
    refine PySem.W.kla_codeExpr (wpAny_mono (he s H [] _ _ _ Q J h) (fun v1 s' hq => ?_) fun e s' z => z.elim)
    obtain ⟨v2, H2, J2, r2, q2⟩ := hq
    exact I.after ⟨v2, H2, J2.os, J2.bare, J2.base, J2.hok, r2, q2⟩
end
theorem sorted_out {g : Int → Int} {vs : List Value} {ns : List Int} (hi : IntsAre vs ns) {out : List Value} (ko : KskOut false (ns.map g) vs out) : ∃ ns' : List Int, IntsAre out ns' ∧ ns'.Perm ns ∧ ns'.Pairwise (fun a b => g a ≤ g b) := by
  have hlen := hi.length
  obtain ⟨ps, hp, ho, hs⟩ := ko
  have hrel : ∀ p, p ∈ (ns.map g).zip vs → p.1 = g (numOf p.2) ∧ p.2 ∈ vs := by
    rw [← hi.nums, List.map_map, List.zip_map_left]
    intro p hp
    obtain ⟨⟨u, v⟩, hq, rfl⟩ := List.mem_map.mp hp
    have h1 : u = v ∧ u ∈ vs := mem_zip_self hq
    refine ⟨?_, ?_⟩
    · show g (numOf u) = g (numOf v)
      rw [h1.1]
    · show v ∈ vs
      rw [← h1.1]
      exact h1.2
  have hI : IntsAre (ps.map Prod.snd) ((ps.map Prod.snd).map numOf) := intsAre_map _ fun v hv => by
    obtain ⟨p, hp', rfl⟩ := List.mem_map.mp hv
    exact hi.all _ (hrel p (hp.mem_iff.mp hp')).2
  have hP : ((ps.map Prod.snd).map numOf).Perm ns := by
    have h1 := (hp.map Prod.snd).map numOf
    rw [List.map_snd_zip (by rw [List.length_map]; omega), hi.nums] at h1
    exact h1
  have hO : ((ps.map Prod.snd).map numOf).Pairwise (fun x y => g x ≤ g y) := by
    rw [List.pairwise_map, List.pairwise_map]
    refine hs.imp_of_mem fun {p q} hp' hq' hr => ?_
    have hr' : p.1 ≤ q.1 := hr
    rw [(hrel p (hp.mem_iff.mp hp')).1, (hrel q (hp.mem_iff.mp hq')).1] at hr'
    exact hr'
  rw [← ho] at hI hP hO
  exact ⟨_, hI, hP, hO⟩
section
variable {X : Cx} {pins : List (Addr × Obj)} {σ : St} {H : Hp} {s : Shared} {a : Addr} {A : Around} {E : Value → Shared → Prop} {vs : List Value} {ns : List Int} {g : Int → Int} {f : Value} {n0 : Nat} {R : Value → Shared → Prop}
theorem sort_tree (I : Inv X pins σ H s) (fa : FpOk X pins H a) (ho : s.heap.get? a = some (seqObj "list" vs.toArray n0)) (hi : IntsAre vs ns) (h64 : ns.length < 64)
    (key : ∀ n ∈ ns, ∀ (t : Tok) (pins' : List (Addr × Obj)) (H2 : Hp) (s2 : Shared), Inv X pins' σ H2 s2 → Same H H2 → wpAny (model X.prog X.w) A (call f [.int n t]) (EP X pins' σ fun v H3 => v = .int (g n) ∧ H3 = H2) (fun _ _ => False) s2)
    (h : ∀ (ns' : List Int) H' s', Inv X pins σ H' s' → Same H H' → H' a = some (.lst (ns'.map V.int)) → ns'.Perm ns → ns'.Pairwise (fun a b => g a ≤ g b) → R .none s') :
    wpAny (model X.prog X.w) A (ksk_tree a f false) (fun fin s' => ∃ v, fin = .done (.ret v) ∧ R v s') E s := by
  have hlen := hi.length
  have hvz : vs.length ≤ sizeLine := by rw [sizeLine_eq]; omega
  obtain ⟨f0, f1, f2, f3, f4, f5⟩ := fa
  unfold ksk_tree
  refine wpAny_bind (listItems_at ho rfl ?_)
  refine wpAny_bind (listUpdate_at ho rfl ?_ (by rw [List.size_toArray]; exact hvz) (Nat.zero_le _))
  have s1 := Heap.SameBut.update s.heap a (Obj.mapSeq fun _ => (#[] : Array Value))
  obtain ⟨e1, ho1⟩ : ∃ e1, (s.heap.update a (Obj.mapSeq fun _ => (#[] : Array Value))).get? a = some (seqObj "list" #[] e1) := ⟨_, get?_update_seq ho fun _ => #[]⟩
  have I1 : Inv X pins σ H { s with heap := s.heap.update a (Obj.mapSeq fun _ => (#[] : Array Value)), toks := s.toks } := I.turned (fun b o hb q => (s1.2 b hb).trans q) f0 f1 f3 f4 f5
  refine wpAny_bind (seqEpoch_at ho1 rfl ?_)
  refine wpAny_bind (wpAny_newTuple ?_ hvz)
  have I2 : Inv X pins σ H { s with heap := (s.heap.update a (Obj.mapSeq fun _ => (#[] : Array Value))).push (seqObj "tuple" vs.toArray 0), toks := s.toks } := I1.kept fun b o q => Heap.get?_push_of_some _ q
  have ho2 : ((s.heap.update a (Obj.mapSeq fun _ => (#[] : Array Value))).push (seqObj "tuple" vs.toArray 0)).get? a = some (seqObj "list" #[] e1) := Heap.get?_push_of_some _ ho1
  refine wpAny_bind (wpAny_newList ?_ (Nat.zero_le _))
  have I3 := I2.lnew (ys := []) (its := []) (t' := s.toks) .nil (Nat.zero_le _)
  have hkn := I2.fresh
  generalize hh2 : (s.heap.update a (Obj.mapSeq fun _ => (#[] : Array Value))).push (seqObj "tuple" vs.toArray 0) = h2 at *
  have ho3 : (h2.push (seqObj "list" #[] 0)).get? a = some (seqObj "list" #[] e1) := Heap.get?_push_of_some _ ho2
  have hak : a ≠ h2.objs.size := Nat.ne_of_lt (Heap.lt_size ho2)
  have I4 : Inv X (pins ++ [(a, seqObj "list" #[] e1)]) σ (upd H h2.objs.size (.lst [])) { s with heap := h2.push (seqObj "list" #[] 0), toks := s.toks } := I3.pins_of fun p hp => by
    rcases List.mem_append.mp hp with hp | hp
    · exact I3.pin p (List.mem_append_right _ hp)
    · rw [List.mem_singleton.mp hp]
      exact ⟨ho3, by rw [upd_ne hak]; exact f0, f1, f2, fun v z => by cases z⟩
  refine wpAny_holding ?_
  unfold ksk_rest
  refine wpAny_bind (wpAny_rule ?_)
  rw [List.forIn_toArray]
  refine wpAny_bind (ksk_fold (fun i s' => ∃ H', Inv X (pins ++ [(a, seqObj "list" #[] e1)]) σ H' s' ∧ Same H H' ∧ H' h2.objs.size = some (.lst (((ns.take i).map g).map V.int))) vs 0 _
    ⟨_, I4, Same.new hkn, by rw [upd_same]; rfl⟩ ?step ?done)
  case step =>
    rintro j x s' hx ⟨H', J, sm, hk⟩
    simp only [Nat.zero_add] at hk ⊢
    have hj : j < vs.length := (List.getElem?_eq_some_iff.mp hx).1
    obtain ⟨n, hn⟩ : ∃ n, ns[j]? = some n := ⟨_, List.getElem?_eq_getElem (by omega)⟩
    obtain ⟨t, ht⟩ := hi.get j n hn
    rw [ht] at hx
    cases hx
    refine wpAny_bind (wpAny_attempt (wpAny_mono (key n (List.mem_of_getElem? hn) t _ H' s' J sm) (fun v s'' he => ?_) fun _ _ hF => hF.elim))
    obtain ⟨v', H3, J3, rv, rfl, rfl⟩ := he
    obtain ⟨t2, rfl⟩ := (show ∃ t2, v = Value.int (g n) t2 from rv)
    try dsimp only
    obtain ⟨z3, its, n3, rv3, l3, e3⟩ := J3.lstM hk
    have hz3 : its.length ≤ j := by rw [← l3, List.length_map, List.length_map, List.length_take]; omega
    refine wpAny_bind (listUpdate_at e3 rfl ?_ (by rw [List.size_toArray, sizeLine_eq]; omega) (by rw [Array.size_push, List.size_toArray, sizeLine_eq]; omega))
    refine wpAny_pure ⟨rfl, _, J3.lset (f := (·.push (.int (g n) t2))) (its' := its ++ [.int (g n) t2]) (ys := ((ns.take j).map g).map V.int ++ [.int (g n)]) hk e3 (by simp) (rv3.append (.cons (show RelV (.int (g n)) (Value.int (g n) t2) from ⟨t2, rfl⟩) .nil)) (by rw [List.length_append, l3, sizeLine_eq]; simp; omega), ?_, ?_⟩
    · intro b u q
      by_cases hb : b = h2.objs.size
      · rw [hb, hkn] at q; cases q
      · rw [upd_ne hb]; exact sm b u q
    · rw [upd_same, List.take_add_one, hn]; simp
  case done =>
    rintro s' ⟨H', J, sm, hk⟩
    have ht : ns.take (0 + vs.length) = ns := List.take_of_length_le (by omega)
    rw [ht] at hk
    obtain ⟨z3, its, n3, rv3, l3, e3⟩ := J.lstM hk
    have hK : IntsAre its (ns.map g) := intsAre_of rv3
    have hitl : its.length = vs.length := by rw [← l3, List.length_map, List.length_map]; omega
    try dsimp only
    refine wpAny_bind (listItems_at e3 rfl ?_)
    have pa : s'.heap.get? a = some (seqObj "list" #[] e1) ∧ H' a = none := by
      have := J.pin (a, seqObj "list" #[] e1) (List.mem_append_right _ (List.mem_append_right _ (.head _)))
      exact ⟨this.1, this.2.1⟩
    have tail : ∀ st : SortSt, (arrOf st).Perm (its.toArray.zip vs.toArray) → SortedTo (arrOf st) (arrOf st).size → failedOf st = none →
        wpAny (model X.prog X.w) A (ksk_tail a false e1 (.ref h2.objs.size) st) (fun fin s' => ∃ v, fin = .done (.ret v) ∧ R v s') E s' := fun st hp hs hf => by
      have ko : KskOut false (ns.map g) vs ((arrOf st).map (·.2)).toList := ksk_out (b := false) hK hp hs
      obtain ⟨ns', i', p', o'⟩ := sorted_out hi ko
      have hsz2 : ((arrOf st).map (·.2)).size = vs.length := by rw [Array.size_map, hp.size_eq, Array.size_zip, List.size_toArray, List.size_toArray, hitl, Nat.min_self]
      unfold ksk_tail
      try dsimp only
      refine wpAny_bind (listUpdate_at e3 rfl ?_ (by rw [List.size_toArray, hitl]; exact hvz) (Nat.zero_le _))
      have J2 := J.lset (f := fun _ => #[]) (its' := []) (ys := []) (t' := s'.toks) hk e3 rfl .nil (Nat.zero_le _)
      have sb := Heap.SameBut.update s'.heap h2.objs.size (Obj.mapSeq fun _ => (#[] : Array Value))
      have pa2 : (s'.heap.update h2.objs.size (Obj.mapSeq fun _ => (#[] : Array Value))).get? a = some (seqObj "list" #[] e1) := (sb.2 a hak).trans pa.1
      generalize s'.heap.update h2.objs.size (Obj.mapSeq fun _ => (#[] : Array Value)) = h5 at *
      have J3 : Inv X pins σ (upd H' h2.objs.size (.lst [])) { s' with heap := h5, toks := s'.toks } := J2.pins_of fun p hp => J2.pin p (List.mem_append_right _ (List.mem_append_left _ hp))
      have hna : upd H' h2.objs.size (.lst []) a = none := by rw [upd_ne hak]; exact pa.2
      have sm2 : Same H (upd H' h2.objs.size (.lst [])) := fun b u q => by
        by_cases hb : b = h2.objs.size
        · rw [hb, hkn] at q; cases q
        · rw [upd_ne hb]; exact sm b u q
      generalize upd H' h2.objs.size (.lst []) = H5 at *
      refine wpAny_bind (wpAny_letGo ?_)
      refine wpAny_bind (seqEpoch_at pa2 rfl ?_)
      refine wpAny_bind (listUpdate_at pa2 rfl ?_ (Nat.zero_le _) (by simp only [Bool.false_eq_true, if_false]; rw [hsz2]; exact Nat.le_succ_of_le hvz))
      rw [hf]
      simp only [bne_self_eq_false, Bool.false_eq_true, if_false]
      have sb2 := Heap.SameBut.update h5 a (Obj.mapSeq fun _ => (arrOf st).map (·.2))
      obtain ⟨c2, hc2⟩ : ∃ c2, (h5.update a (Obj.mapSeq fun _ => (arrOf st).map (·.2))).get? a = some (seqObj "list" ((arrOf st).map (·.2)) c2) := ⟨_, get?_update_seq pa2 fun _ => (arrOf st).map (·.2)⟩
      refine wpAny_pure ⟨_, rfl, h ns' (upd H5 a (.lst (ns'.map V.int))) _ ?_ ?_ upd_same p' o'⟩
      · have nit : ∀ b u, H5 b = some u → b ≠ a := fun b u e z => by rw [z, hna] at e; cases e
        refine Inv.step (s := { s' with heap := h5, toks := s'.toks }) (h' := h5.update a (Obj.mapSeq fun _ => (arrOf st).map (·.2))) (H' := upd H5 a (.lst (ns'.map V.int))) (I := J3) (g' := s'.gens) (d' := s'.drawn) (t' := s'.toks) (ch := [a]) (fun b hb => ?_) (fun b o _ _ hc e _ => (sb2.2 b (fun z => hc (by simp [z]))).trans e) (fun b o _ _ hc e _ => ⟨o.slots, (sb2.2 b (fun z => hc (by simp [z]))).trans e⟩)
          (fun b o hc e q => by rw [upd_ne (fun z => hc (by simp [z]))]; exact q) (fun b o hc e => ⟨o, (sb2.2 b (fun z => hc (by simp [z]))).trans e⟩) (fun b xs e => by rw [upd_ne (nit _ _ e)]; exact e) (fun b o u e => by rw [upd_ne (nit _ _ e)]; exact e)
          (fun b ps e => ⟨#[], by rw [upd_ne (nit _ _ e), e]; simp⟩) (fun m hm => ?_) (fun b u e => ?_) J3.bare
        · have e : b = a := by simpa using hb
          subst e
          exact ⟨f3, f1, f4, f5⟩
        · obtain ⟨o, es, ep, ho, r⟩ := hm
          exact ⟨o, es, ep, (sb2.2 _ (Ne.symm f1)).trans ho, r⟩
        · by_cases hb : b = a
          · subst hb
            rw [upd_same] at e
            cases e
            refine ⟨?_, ((arrOf st).map (·.2)).toList, c2, vals_ints i', by rw [hc2]⟩
            rw [List.length_map, p'.length_eq, sizeLine_eq]; omega
          · rw [upd_ne hb] at e
            refine (J3.hok b u e).stay (fun c v hc q => (sb2.2 c ?_).trans q) (fun c q => by rw [upd_ne (nit _ _ q)]; exact q) fun c xs q => by rw [upd_ne (nit _ _ q)]; exact q
            rcases hc with z | z
            · rw [z]; exact hb
            · exact nit c _ z
      · intro b u q
        rw [upd_ne (fun z => by rw [z, f0] at q; cases q)]
        exact sm2 b u q
    have hzs : (its.toArray.zip vs.toArray).size = vs.length := by rw [Array.size_zip, List.size_toArray, List.size_toArray, hitl, Nat.min_self]
    unfold ksk_end
    simp only [Bool.false_eq_true, if_false]
    by_cases h2' : vs.toArray.size < 2
    · rw [if_pos h2', if_pos h2']
      refine wpAny_bind (wpAny_pure ?_)
      rw [StateT.run_pure]
      refine wpAny_bind (wpAny_pure ?_)
      try dsimp only
      refine tail _ (Array.Perm.refl _) ?_ rfl
      intro i j hij hj
      have hj2 : j < (its.toArray.zip vs.toArray).size := hj
      rw [hzs] at hj2
      rw [List.size_toArray] at h2'
      have : i = j := by omega
      subst this
      exact Int.le_refl _
    · rw [if_neg h2', if_neg h2']
      rw [List.size_toArray] at h2'
      rw [ksk_kind (keys := its.toArray) (by simpa using hK) (by rw [List.size_toArray]; omega)]
      refine wpAny_bind (wpAny_pure ?_)
      refine wpAny_bind (wpAny_mono (wpS_sortRuns (a₀ := its.toArray.zip vs.toArray) (st := SortSt.mk' oneType' (its.toArray.zip vs.toArray) #[] 7 none)
        (Q := fun _ st' => (arrOf st').Perm (its.toArray.zip vs.toArray) ∧ failedOf st' = none ∧ SortedTo (arrOf st') (its.toArray.zip vs.toArray).size)
        (ksk_intKeys (by simpa using hK)) ⟨Array.Perm.refl _, rfl, rfl, rfl⟩ (by rw [hzs]; omega) (by rw [hzs]; omega) fun st' a1 a2 a3 => ⟨a1, a2, a3⟩) ?_ fun _ _ e => e)
      rintro ⟨⟨⟩, st'⟩ s'' ⟨rfl, hp, hf, hs⟩
      try dsimp only
      exact tail st' hp (by rw [hp.size_eq]; exact hs) hf
theorem sort_call {l : Addr} {fv : Addr} {Q : VK} (I : Inv X pins σ H s) (hl : SqL X.K H l (ns.map V.int)) (h64 : ns.length < 64)
    (key : ∀ n ∈ ns, ∀ (t : Tok) (pins' : List (Addr × Obj)) (H2 : Hp) (s2 : Shared), Inv X pins' σ H2 s2 → Same H H2 → wpAny (model X.prog X.w) X.A.in1.in1 (call (.ref fv) [.int n t]) (EP X pins' σ fun v H3 => v = .int (g n) ∧ H3 = H2) (fun _ _ => False) s2)
    (h : ∀ q (ns' : List Int) H', Same H H' → H q = none → H' q = some (.lst (ns'.map V.int)) → ns'.Perm ns → ns'.Pairwise (fun a b => g a ≤ g b) → Q (.ref q) H') :
    wpAny (model X.prog X.w) X.A (call (.builtin "sorted") [.ref l] [(Str.ofString "key", .ref fv)]) (EP X pins σ Q) X.xe s := by
  obtain ⟨its, rv, ⟨o, n0, e, c, _, dd⟩, _⟩ := I.list hl
  have hi := intsAre_of rv
  have hlen := hi.length
  have hL : s.heap.IsList l its.toArray := ⟨o, e, c, n0, dd⟩
  refine call_function_entry_kw kind_sorted plain_sorted entry_sorted (ksk_s1 _ _) ?_
  unfold Builtin.«sorted»
  refine wpAny_bind (m := checkCount "sorted" 1 1 _) (wpAny_pure ?_)
  refine wpAny_bind (collect_list hL ?_ (by rw [sizeLine_eq]; omega))
  refine wpAny_bind (wpAny_newList ?_ (by rw [sizeLine_eq]; omega))
  have hsz : ((s.heap.push (seqObj "list" #[] 0)).update s.heap.objs.size (Obj.mapSeq (· ++ its.toArray))).objs.size = s.heap.objs.size + 1 := by
    rw [Heap.size_update, size_push']
  have hoL : (((s.heap.push (seqObj "list" #[] 0)).update s.heap.objs.size (Obj.mapSeq (· ++ its.toArray))).push (seqObj "list" its.toArray 0)).get? (s.heap.objs.size + 1) = some (seqObj "list" its.toArray 0) := by
    rw [← hsz]; exact Heap.get?_push_size _ rfl
  have keep : ∀ b o, s.heap.get? b = some o → (((s.heap.push (seqObj "list" #[] 0)).update s.heap.objs.size (Obj.mapSeq (· ++ its.toArray))).push (seqObj "list" its.toArray 0)).get? b = some o := fun b o q => by
    have hlt : b < s.heap.objs.size := Heap.lt_size q
    rw [Heap.get?_push_ne _ _ _ (by rw [hsz]; exact Nat.ne_of_lt (Nat.lt_succ_of_lt hlt)), Heap.get?_update_ne _ _ _ _ (Nat.ne_of_lt hlt), Heap.get?_push_ne _ _ _ (Nat.ne_of_lt hlt)]
    exact q
  show wpAny _ _ _ _ _ { s with heap := ((s.heap.push (seqObj "list" #[] 0)).update s.heap.objs.size (Obj.mapSeq (· ++ its.toArray))).push (seqObj "list" its.toArray 0) }
  rw [hsz]
  have I2 : Inv X pins σ H { s with heap := ((s.heap.push (seqObj "list" #[] 0)).update s.heap.objs.size (Obj.mapSeq (· ++ its.toArray))).push (seqObj "list" its.toArray 0), toks := s.toks } := I.kept keep
  have hfa : H (s.heap.objs.size + 1) = none := I.hok.fresh (Nat.le_succ _)
  refine wpAny_bind (wpAny_holding (wpAny_call_entry_kw slot_list_sort ⟨_, hoL, rfl⟩ entry_list_sort ?body (ksk_l1 _ _)))
  show wpAny (model X.prog X.w) X.A.in1.in1 (Builtin.«list.sort» ⟨[.ref (s.heap.objs.size + 1)], [(Str.ofString "key", .ref fv)]⟩) _ _ _
  rw [ksk_t1]
  refine sort_tree I2 (I.fpOk (Nat.le_succ _) hfa) hoL hi h64 key fun ns' H' s' J sm e p o => ?_
  exact wpAny_pure ⟨_, rfl, .ref (s.heap.objs.size + 1), H', J, rfl, h _ ns' H' sm hfa e p o⟩
end
noncomputable def sortR (K : Frag) (P : Addr) (pos : Pos) (qual : Str) (te : TE) (fr : List (Str × Nat)) (σ : St) (Q : VK) (x : V) (H1 : Hp) : Prop := TabAt H1 P pos qual ∧ ∃ (p : Addr) (ns : List Int) (g : Int → Int), x = .ref p ∧ SqL K H1 p (ns.map V.int) ∧ ns.length < 64 ∧
  (∀ n ∈ ns, ∀ H2, SameP P H1 H2 → ∀ Q' : VK, Q' (.int (g n)) H2 → te (some (.int n) :: frees fr σ) H2 Q') ∧
  ∀ q (ns' : List Int) H2, SameP P H1 H2 → TabAt H2 P pos qual → H1 q = none → H2 q = some (.lst (ns'.map V.int)) → ns'.Perm ns → ns'.Pairwise (fun a b => g a ≤ g b) → Q (.ref q) H2
noncomputable def tSortK (K : Frag) (P : Addr) (pos : Pos) (qual : Str) (ta te : TE) (fr : List (Str × Nat)) : TE := fun σ H Q => ta σ H (sortR K P pos qual te fr σ Q)
noncomputable def oneV (R : V → Hp → Prop) (vs : List V) (H : Hp) : Prop := match vs with
  | [v] => R v H
  | _ => False
theorem SameP.seq {K : Frag} {P p : Addr} {H H' : Hp} {ps : Array Value} {xs : List V} (s : SameP P H H') (e : H P = some (.tbl ps)) (h : SqL K H p xs) : SqL K H' p xs := by
  rcases h with (h | ⟨o, h⟩) | h
  · exact .inl (.inl (s _ _ (fun z => by rw [z, e] at h; cases h) h))
  · exact .inl (.inr ⟨o, s _ _ (fun z => by rw [z, e] at h; cases h) h⟩)
  · exact .inr h
theorem TabAt.tbl {H : Hp} {P : Addr} {pos : Pos} {q : Str} (h : TabAt H P pos q) : ∃ ps, H P = some (.tbl ps) := by
  rcases h with h | ⟨c, h, _⟩
  · exact ⟨_, h⟩
  · exact ⟨_, h⟩
section
variable {X : Cx} {scope : Scope} {x : Str} {fr : List (Str × Nat)}
theorem pe_sortK {params : Arguments} {a body : Expr} {lpos kpos pos p : Pos} {f0 : Addr} {qual : Str} {ta te : TE} (k : CompOk X scope x fr) (L : LamTx params scope x) (tb : tabOk X.K f0 = true) (hcode : X.env.code = .ref (tabC X.K f0)) (hB : BMain X.mg X.base)
    (hd : X.A.depth < recursionLimit) (hg : Gl X "sorted") (hm : X.mg "sorted" = none) (ha : PE X a ta)
    (he : ∀ (f c : Addr) (s : Shared) (H : Hp), PE (cxLam X X.A.in1.in1 qual scope (x :: fr.map (·.1)) f (.ref c) s H) body te)
    (hs : starEach [a] X.env = (false, eval a X.env) :: starEach [] X.env := by rfl) (hpl : (backTo pos (starEach [a] X.env)).any (·.1) = false := by rfl)
    (hdef : defaultsOf params X.env = ([], []) := by rfl) (hq : X.env.qual ++ "<lambda>" = qual := by rfl) :
    PE X (.Call (.Name "sorted" p) [a] [⟨some "key", .Lambda params body scope lpos, kpos⟩] pos) (tSortK X.K (tabP X.K f0) lpos qual ta te fr) := by
  intro pins s σ H Q I h
  refine wpAny_Call_Name_kw (ld_blt I hg hm (u := .builtin "sorted") (by decide +kernel) ?_ (by decide) (by decide))
  have hP := pa_cons ha (pa_nil (X := X)) hs
  refine callWith_kw (thn (hP pos pins s σ H (oneV (sortR X.K (tabP X.K f0) lpos qual te fr σ Q)) I h) fun us s1 h1 => ?_) (by rw [hs]; rfl) hpl rfl rfl
  obtain ⟨vs, H1, I1, r1, q1⟩ := h1
  match vs, r1, q1 with
  | [v], r1, q1 =>
    obtain ⟨u, rfl, ru⟩ := vals1 r1
    obtain ⟨ht, l, ns, g, rfl, hl, h64, hkey, hend⟩ := (show sortR X.K (tabP X.K f0) lpos qual te fr σ Q v H1 from q1)
    cases (show u = Value.ref l from ru)
    have hK := pk_cons (nm := some "key") (kpos := kpos) (pe_lam (params := params) (body := body) (pos := lpos) k tb hcode hB hdef hq) (pk_nil (X := X))
    obtain ⟨ps, et⟩ := ht.tbl
    refine thn (hK pos pins s1 σ H1 (oneV fun v H2 => ∃ f c pm ctv, v = .ref f ∧ SameP (tabP X.K f0) H1 H2 ∧ H2 f = some (lamO f c qual params body scope (clOf X.env scope.names []) pm ctv) ∧ H2 c = some (codeO c qual) ∧ TabAt H2 (tabP X.K f0) lpos qual) I1
      ⟨ht, fun f c pm ctv H2 sp _ e1 e2 e3 => ⟨f, c, pm, ctv, rfl, sp, e1, e2, .inr ⟨c, e3, e2⟩⟩⟩) fun ws s2 h2 => ?_
    obtain ⟨zs, H2, I2, r2, q2⟩ := h2
    match zs, r2, q2 with
    | [z], r2, q2 =>
      obtain ⟨u2, rfl, ru2⟩ := vals1 r2
      obtain ⟨f, c, pm, ctv, rfl, sp, e1, e2, ht2⟩ := (show ∃ f c pm ctv, z = .ref f ∧ SameP (tabP X.K f0) H1 H2 ∧ H2 f = some (lamO f c qual params body scope (clOf X.env scope.names []) pm ctv) ∧ H2 c = some (codeO c qual) ∧ TabAt H2 (tabP X.K f0) lpos qual from q2)
      cases (show u2 = Value.ref f from ru2)
      refine sort_call (g := g) I2 (sp.seq et hl) h64 (fun n hn t pins' H3 s3 J sm => ?_) fun q ns' H3 sm hq0 e p o => ?_
      · refine run_lam (A := X.A.in1.in1) k L J rfl J.ok.frames hd (show RelV (.int n) (Value.int n t) from ⟨t, rfl⟩) (sm _ _ e1) (sm _ _ e2) (fun s H => he f c s H) (hkey n hn H3 (fun b o hb q => sm _ _ (sp b o hb q)) _ ⟨rfl, rfl⟩)
      · refine hend q ns' H3 (fun b o hb q => sm _ _ (sp b o hb q)) ?_ ?_ e p o
        · rcases ht2 with z | ⟨c2, z, z2⟩
          · exact .inl (sm _ _ z)
          · exact .inr ⟨c2, sm _ _ z, sm _ _ z2⟩
        · cases w : H1 q with
          | none => rfl
          | some o =>
            by_cases hb : q = tabP X.K f0
            · obtain ⟨ps2, et2⟩ := ht2.tbl
              rw [hb, et2] at hq0; cases hq0
            · rw [sp q o hb w] at hq0; cases hq0
end
section
variable {P : Program} {w : World} {K : Frag} {mg : Str → Option Value} {base : Heap}
theorem Fun.okL {x qual : Str} {st : Stmt} {f : Addr} {fd : FuncData} {N ps : List Str} {k : Nat} {sp : Sp} (F : Fun K x qual st f fd) (tb : tabOk K f = true) (S : FnScope N ps (defScope st)) (len : ∀ vs H Q E, sp vs H Q E → vs.length = ps.length)
    (hbody : ∀ (A : Around) (outer : List Env) (s : Shared) (H : Hp) (vs : List V) (Q : VK) (E : XK), Room k (A.deeper (envOfC qual (defScope st) s.heap.objs.size f (.ref (tabC K f)))) → sp vs H Q E →
      ∃ t, PSs (cxOf CX0 P w K mg base N qual (defScope st) f (.ref (tabC K f)) A outer s H E).nox (defBody st) t ∧ t { nx := fun _ H' => Q .non H', rt := Q } (start N vs) H) : FnOk P w K mg base CX0 (k + 1) f fd ps sp := by
  obtain ⟨oc, od, kV, doc, pm, an, cdv, ct, osl, rfl, lk, hcd⟩ := F.ex
  have hc : cdv = .ref (tabC K f) := tab_code tb lk
  subst hc
  refine fn_of lk hcd S len fun A outer s H vs Q E hr hsp => ?_
  obtain ⟨t, h, q⟩ := hbody A outer s H vs Q E hr hsp
  exact ⟨t, h.nox, q⟩
end
theorem law_callT {P : Program} {w : World} {K : Frag} {mg mb : Str → Option Value} {CX : CXT} {k : Nat} {fa a : Addr} {fd : FuncData} {x : Str} {sp : Sp} {s₁ : Shared} {vs : List Value} {ns : List Int} {fl : List Addr}
    (KX : K.In s₁.heap) (hns : s₁.heap.Ns mainGlobals mg) (hb : s₁.heap.Ns builtinsNs mb) (hbb : ∀ x : Str, x ≠ "__name__" → mb x = bootBuiltins x) (hlim : s₁.heap.NoLimit) (hg : s₁.gens = #[]) (hBM : BMain mg s₁.heap) (hSe : s₁.heap.NoSeer)
    (hT : ∀ f ∈ fl, tabOk K f = true ∧ s₁.heap.get? (tabP K f) = some (PySem.W.tabObj #[]))
    (ha : s₁.heap.get? a = some { cls := .type "list", data := .seq vs.toArray }) (hi : IntsAre vs ns) (hl : ns.length ≤ sizeLine) (hr : Room k callerA)
    (F : ∀ base : Heap, K.In base → base.Ns mainGlobals mg → BMain mg base → base.NoSeer → FnOk P w K mg base CX k fa fd [x] sp) (hbind : ∀ (s : Shared) (u : Value), BindsTo s fd ⟨[u], []⟩ [(x, u)])
    (hsp : ∀ H : Hp, SqL K H a (ns.map V.int) → (∀ f ∈ fl, H (tabP K f) = some (.tbl #[])) → sp [.ref a] H (fun v _ => v = .bl true) fun _ _ _ => False)
    (hCX : ∀ H e s', CX [] H s₁ (fun _ _ _ => False) e s' → False) :
    codeAny (model P w) callerA (.call (.ref fa) ⟨[.ref a], []⟩) (fun r s' => r = .ok (.ret (.bool true)) ∧ OldK s₁.heap s'.heap ∧ s'.os = s₁.os ∧ AllBare s'.gens) s₁ := by
  have rv := vals_ints hi
  have lenV := hi.length
  have tabAt : ∀ b ∈ fl.map (tabP K), s₁.heap.get? b = some (PySem.W.tabObj #[]) ∧ K.lookup b = none ∧ isCodeTable s₁.heap b := fun b hb => by
    obtain ⟨f, hf, rfl⟩ := List.mem_map.mp hb
    obtain ⟨t1, t2⟩ := hT f hf
    exact ⟨t2, tab_none t1, ((tab_hd t1 KX).tab t2).isCodeTable⟩
  have core : ∀ H : Hp, (∀ b, H b = none ∨ (∃ o xs, H b = some (.frz o (.lst xs))) ∨ (b ∈ fl.map (tabP K) ∧ H b = some (.tbl #[]))) → (∀ f ∈ fl, H (tabP K f) = some (.tbl #[])) → SqL K H a (ns.map V.int) → HOk P w H s₁.heap →
      (∀ b, H b ≠ none → b = a ∨ b ∈ fl.map (tabP K)) → (H a ≠ none → K.lookup a = none) →
      codeAny (model P w) callerA (.call (.ref fa) ⟨[.ref a], []⟩) (fun r s' => r = .ok (.ret (.bool true)) ∧ OldK s₁.heap s'.heap ∧ s'.os = s₁.os ∧ AllBare s'.gens) s₁ := by
    intro H hO hTb hS hok hA hK
    have base_of : ∀ {b : Addr} {o : Obj}, s₁.heap.get? b = some o → H b = none → (hidT s₁.heap H).get? b = some o := fun e n => hidT_get e n
    have noA : ∀ {b : Addr} {o : Obj}, s₁.heap.get? b = some o → (∀ xs n, o.data ≠ .seq xs n) → (∀ xs, o.data ≠ .fields xs) → H b = none := fun {b o} e d1 d2 => by
      cases q : H b with
      | none => rfl
      | some u =>
        rcases hA b (by rw [q]; simp) with e' | e'
        · subst e'
          rw [ha] at e; cases e
          exact absurd rfl (d1 _ _)
        · rw [(tabAt b e').1] at e; cases e
          exact absurd rfl (d2 _)
    have nsK : ∀ {b : Addr} {m : Str → Option Value}, s₁.heap.Ns b m → (hidT s₁.heap H).Ns b m := fun {b m} ⟨o, es, ep, e, d, r⟩ => ⟨o, es, ep, base_of e (noA e (fun _ _ z => by rw [d] at z; cases z) fun _ z => by rw [d] at z; cases z), d, r⟩
    have hKb : K.In (hidT s₁.heap H) := fun b o e => base_of (KX b o e) (by
      cases q : H b with
      | none => rfl
      | some u =>
        rcases hA b (by rw [q]; simp) with e' | e'
        · subst e'
          rw [hK (by rw [q]; simp)] at e; cases e
        · rw [(tabAt b e').2.1] at e; cases e)
    have hM : Mod K mg (hidT s₁.heap H) := ⟨hKb, nsK hns, ⟨mb, nsK hb, hbb⟩, let ⟨mc, h1, h2⟩ := hlim; ⟨mc, nsK h1, h2⟩⟩
    have hB' : BMain mg (hidT s₁.heap H) := by
      obtain ⟨bm, ob, b1, b2, b3, b4, b5, b6⟩ := hBM
      exact ⟨bm, ob, b1, b2, base_of b3 (noA b3 (fun _ _ z => by rw [b6] at z; cases z) fun _ z => by rw [b6] at z; cases z), b4, b5, b6⟩
    have hSe' : (hidT s₁.heap H).NoSeer := ⟨let ⟨mc, a, b⟩ := hSe.statics; ⟨mc, nsK a, b⟩, let ⟨mc, a, b⟩ := hSe.mods; ⟨mc, nsK a, b⟩, let ⟨mc, a, b⟩ := hSe.imp; ⟨mc, nsK a, b⟩,
      let ⟨bm, ob, b1, _, b3, b4, b5, _⟩ := hB'; ⟨mg, bm, ob, nsK hns, b1, b3, b4, b5⟩⟩
    have e0 : Env0 P w K mg (hidT s₁.heap H) callerA [] s₁ H := ⟨rfl, hM, fun b o e => of_hidT e, Nat.le_of_eq (hidT_size _ _), trivial, fun b hb => absurd (show b ∈ ([] : List Addr) from hb) (by simp), hok, .of_eq hg⟩
    refine codeAny_mono ((F _ hKb (nsK hns) hB' hSe').run callerA [] s₁ H ⟨[.ref a], []⟩ [.ref a] [.ref a] _ _ hr e0 (hbind s₁ (.ref a)) (.cons rfl .nil) (hsp H hS hTb)) fun r s' h => ?_
    cases r with
    | error e => exact (hCX H e s' h).elim
    | ok fl' =>
      cases fl' with
      | next => exact False.elim h
      | brk => exact False.elim h
      | cont => exact False.elim h
      | ret u =>
        obtain ⟨v, H', os, bare, un, hok', r', q⟩ := h
        have q' : v = .bl true := q
        subst q'
        obtain rfl : u = Value.bool true := r'
        have all : ∀ b o, s₁.heap.get? b = some o → s'.heap.get? b = some o ∨ (isCodeTable s₁.heap b ∧ o = PySem.W.tabObj #[] ∧ ∃ ps, s'.heap.get? b = some (PySem.W.tabObj ps)) := fun b o e => by
          cases q : H b with
          | none => exact .inl (un.keep b o e q (by intro z; exact absurd (show b ∈ ([] : List Addr) from z) (by simp)) (by simp))
          | some u =>
            rcases hO b with z | ⟨ob, xs, z⟩ | ⟨z1, z⟩
            · rw [q] at z; cases z
            · have z2 := un.frzs b ob _ z
              obtain ⟨e1, _⟩ := hok b _ z
              obtain ⟨e2, _⟩ := hok' b _ z2
              rw [e] at e1; cases e1
              exact .inl e2
            · obtain ⟨more, z2⟩ := un.tbls b _ z
              have e1 := (tabAt b z1).1
              rw [e] at e1
              exact .inr ⟨(tabAt b z1).2.2, Option.some.inj e1, _, hok' b _ z2⟩
        refine ⟨rfl, ⟨fun b o e => ?_, fun b o e => ?_⟩, os, bare⟩
        · rcases all b o e with z | ⟨z1, rfl, ps, z3⟩
          · exact .inl z
          · exact .inr (.inl ⟨z1, rfl, #[], ps, rfl, by rw [Array.empty_append]; exact z3⟩)
        · rcases all b o e with z | ⟨_, _, ps, z3⟩
          · exact ⟨o, z⟩
          · exact ⟨_, z3⟩
  have naT : a ∉ fl.map (tabP K) := fun z => by
    have := (tabAt a z).1
    rw [ha] at this; cases this
  cases hk : K.lookup a with
  | some o =>
    have e := KX a o hk
    rw [ha] at e
    cases e
    refine core (fun b => if b ∈ fl.map (tabP K) then some (.tbl #[]) else none) (fun b => ?_) (fun f hf => if_pos (List.mem_map_of_mem hf)) (.inr ⟨_, vs.toArray, _, hk, rfl, rfl, rfl, by rw [List.size_toArray, lenV]; exact hl, by simpa using rv⟩) (fun b u z => ?_) (fun b z => ?_) fun z => absurd (if_neg naT) z
    · by_cases hb : b ∈ fl.map (tabP K)
      · exact .inr (.inr ⟨hb, if_pos hb⟩)
      · exact .inl (if_neg hb)
    · by_cases hb : b ∈ fl.map (tabP K)
      · cases (if_pos hb).symm.trans z
        exact (tabAt b hb).1
      · cases (if_neg hb).symm.trans z
    · by_cases hb : b ∈ fl.map (tabP K)
      · exact .inr hb
      · exact absurd (if_neg hb) z
  | none =>
    refine core (fun b => if b ∈ fl.map (tabP K) then some (.tbl #[]) else if b = a then some (.frz { cls := .type "list", data := .seq vs.toArray } (.lst (ns.map V.int))) else none) (fun b => ?_) (fun f hf => if_pos (List.mem_map_of_mem hf))
      (.inl (.inr ⟨{ cls := .type "list", data := .seq vs.toArray }, by dsimp only; rw [if_neg naT, if_pos rfl]⟩)) (fun b u z => ?_) (fun b z => ?_) fun _ => hk
    · by_cases hb : b ∈ fl.map (tabP K)
      · exact .inr (.inr ⟨hb, if_pos hb⟩)
      · by_cases hb2 : b = a
        · exact .inr (.inl ⟨_, _, by rw [if_neg hb, if_pos hb2]⟩)
        · exact .inl (by rw [if_neg hb, if_neg hb2])
    · by_cases hb : b ∈ fl.map (tabP K)
      · cases (if_pos hb).symm.trans z
        exact (tabAt b hb).1
      · by_cases hb2 : b = a
        · dsimp only at z
          rw [if_neg hb, if_pos hb2] at z
          cases z
          subst hb2
          exact ⟨ha, by rw [List.length_map]; exact hl, vs, _, rv, ha⟩
        · dsimp only at z
          rw [if_neg hb, if_neg hb2] at z; cases z
    · by_cases hb : b ∈ fl.map (tabP K)
      · exact .inr hb
      · by_cases hb2 : b = a
        · exact .inl hb2
        · exact absurd (by rw [if_neg hb, if_neg hb2]) z
noncomputable def spLawT (K : Frag) (fl : List Addr) : Sp := fun vs H Q _ => ∃ (a : Addr) (ns : List Int), vs = [.ref a] ∧ SqL K H a (ns.map V.int) ∧ ns.length ≤ 63 ∧ (∀ m ∈ ns, Builtin.Int.intBits m ≤ 1048576) ∧ (∀ f ∈ fl, H (tabP K f) = some (.tbl #[])) ∧ ∀ H', Q (.bl true) H'
theorem walkT {l : PySem.W.OpenLaw} {k : Nat} {q : Program} {loose : List Str} {XP : (Str → Option Value) → Heap → Prop} {YP : World → Heap → Prop} {d : DefRec} {K : Params → Frag} {x : Str} {ts : List Addr}
    (hn : l.most = some 63) (hdf : d.params.defaults = []) (hi : importsNone q = true) (hr : Room k callerA) (hY : ∀ (w : World) (h : Heap), YP w h → (K w.params).In h ∧ ∀ P ∈ ts, h.get? P = some (PySem.W.tabObj #[]))
    (F : ∀ (w : World) (mg : Str → Option Value) (fa : Addr) (h : Heap), (K w.params).In h → h.Ns mainGlobals mg → mg d.name = some (.ref fa) →
      ∃ (fd : FuncData) (fl : List Addr), (∀ f ∈ fl, tabOk (K w.params) f = true ∧ tabP (K w.params) f ∈ ts) ∧ (∀ (s : Shared) (u : Value), BindsTo s fd ⟨[u], []⟩ [(x, u)]) ∧
        ∀ base : Heap, (K w.params).In base → base.Ns mainGlobals mg → BMain mg base → base.NoSeer → FnOk l.prog w (K w.params) mg base CX0 k fa fd [x] (spLawT (K w.params) fl)) :
    PySem.W.WalkO q loose XP YP l.row.toRowW d [] (fun f vs => PySem.call f vs) := by
  refine Att.attach_callB hn hdf fun w s₀ s₁ mg mb fa a vs ns G Y hmg hobj hints hlen hb hg => ?_
  obtain ⟨KX, hT⟩ := hY w _ Y
  obtain ⟨fd, fl, hfl, hbn, hF⟩ := F w mg fa _ KX G.T.g hmg
  exact law_callT (fl := fl) KX G.T.g G.T.b G.T.builtins G.T.nolimit hg G.T.bmain (G.T.seer hi) (fun f hf => ⟨(hfl f hf).1, hT _ (hfl f hf).2⟩) hobj hints (Nat.le_trans hlen (by decide)) hr hF hbn (fun H hS hH => ⟨a, ns, rfl, hS, hlen, hb, hH, fun _ => rfl⟩) fun H e s' z => z
section
variable {X : Cx}
theorem px {a b : Expr} {ta tb : TE} {pos : Pos} (ha : PE X a ta) (hb : PE X b tb) (hs : PlainIx b := by exact fun _ _ => rfl) : PE X (.Subscript a b pos) (tOp (rIxB X.K) ta tb) := pe_ix ix_B ha hb hs
end
structure Gd (P : Program) (mg : Str → Option Value) (base : Heap) : Prop where
  bm : BMain mg base
  se : base.NoSeer
  tr : P.given.tree = none
section
variable {X : Cx}
theorem room_any {k : Nat} {A : Around} (h : Room k A) (hk : 32 ≤ k) : A.depth + Builtin.pylongFrames < recursionLimit := by
  have := h.dp
  have e : Builtin.pylongFrames = 100 := rfl
  omega
theorem seer_at (g : Gd X.prog X.mg X.base) (hk : X.stack = X.env :: X.outer) (hg : X.env.scope.isGenerator = false) (hc : X.env.scope.isCoroutine = false) {pins : List (Addr × Obj)} {σ : St} {H : Hp} {s : Shared} (I : Inv X pins σ H s) : SeerAt (model X.prog X.w) X.A s.heap :=
  SeerAt.of (g.se.keeps I.bk) g.tr (by rw [I.ok.frames, hk]) hg hc I.ok.blt I.ok.glob
theorem op_fdivP (g : Gd X.prog X.mg X.base) (hd : X.A.depth + Builtin.pylongFrames < recursionLimit) (hk : X.stack = X.env :: X.outer := by rfl) (hg : X.env.scope.isGenerator = false := by rfl) (hc : X.env.scope.isCoroutine = false := by rfl) :
    OpR X (binaryOp .FloorDiv) (rI (fun _ j => j ≠ 0) fun i j => .int (i.fdiv j)) := by
  intro pins s σ H x y v u Q I rx ry h
  obtain ⟨i, j, rfl, rfl, hc', q⟩ := h
  obtain ⟨t, rfl⟩ := rx
  obtain ⟨t', rfl⟩ := ry
  exact floordiv_int hc' ⟨.int (i.fdiv j), H, I.tok _, ⟨_, rfl⟩, q⟩ (.inr (PylongRoom.of I.nolimit hd (seer_at g hk hg hc I)))
theorem op_fdivQ {env : Env} {l : List Env} (g : Gd X.prog X.mg X.base) (hd : X.A.depth + Builtin.pylongFrames < recursionLimit) (hk : X.stack = env :: l) (hg : env.scope.isGenerator = false) (hc : env.scope.isCoroutine = false) (hb : env.builtins = builtinsNs) (hgl : env.globals = mainGlobals) :
    OpR X (binaryOp .FloorDiv) (rI (fun _ j => j ≠ 0) fun i j => .int (i.fdiv j)) := by
  intro pins s σ H x y v u Q I rx ry h
  obtain ⟨i, j, rfl, rfl, hc', q⟩ := h
  obtain ⟨t, rfl⟩ := rx
  obtain ⟨t', rfl⟩ := ry
  exact floordiv_int hc' ⟨.int (i.fdiv j), H, I.tok _, ⟨_, rfl⟩, q⟩ (.inr (PylongRoom.of I.nolimit hd (SeerAt.of (g.se.keeps I.bk) g.tr (by rw [I.ok.frames, hk]) hg hc hb hgl)))
end
noncomputable def Itv (K : Frag) (l : Addr) (n : Nat) : It :=
  ⟨fun i H => ∃ xs, SqL K H l xs ∧ xs.length = n ∧ i < n, fun i H x H' => H' = H ∧ ∀ xs, SqL K H l xs → xs[n - 1 - i]? = some x, fun i _ => n ≤ i⟩
theorem turn_rev {P : Program} {w : World} {K : Frag} {tg : Expr} (a it : Addr) (n : Nat) : Turn P w K tg (Itv K a n) [it] it (fun i h => i ≤ n ∧ h.IsRevIter it a ((n : Int) - 1 - (i : Int))) where
  mem := by simp
  obj := fun i h st b hb => by
    have e : b = it := by simpa using hb
    subst e
    obtain ⟨_, o, e, c, d⟩ := st
    exact ⟨o, e, fun v z => by rw [d] at z; cases z⟩
  keep := fun i h h' st k => ⟨st.1, st.2.at fun o e => k it (by simp) o e⟩
  item := by
    intro X hP hw hK hc i pins s σ H E I hf st hg
    subst hP hw hK
    obtain ⟨xs, hq, hl, hi⟩ := hg
    have hx : xs[n - 1 - i]? = some xs[n - 1 - i] := by rw [List.getElem?_eq_getElem]
    obtain ⟨its, rv, p, hz⟩ := I.list hq
    obtain ⟨u, hu, ru⟩ := rv.get hx
    obtain ⟨f0, f1, f2, f3, f4, f5⟩ := hf it (by simp)
    have e : (n : Int) - 1 - (i : Int) = ((n - 1 - i : Nat) : Int) := by omega
    have st2 := st.2
    rw [e] at st2
    refine wpAny_pyNext_rev_item st2 p.isList (x := u) (by simpa using hu) fun h' st' sb => ?_
    have I1 : Inv X pins σ H { s with heap := h' } := I.turned (t' := s.toks) (fun b o hb e => (sb.2 b hb).trans e) f0 f1 f3 f4 f5
    obtain ⟨o, e1, c, d⟩ := id st'
    have e2 : ((n - 1 - i : Nat) : Int) - 1 = (n : Int) - 1 - ((i + 1 : Nat) : Int) := by omega
    exact ⟨u, rfl, go_of (s := { s with heap := h' }) e1 c d (by decide) ⟨_, H, I1, ru, ⟨rfl, fun ys hy => by rw [I.list_inj hy hq]; exact hx⟩, ⟨hi, e2 ▸ st'⟩, fun b hb => (hf b hb).1⟩⟩
  done := by
    intro X hP hw hK hc i pins s σ H E I hf st hg
    subst hP hw hK
    have hg' : n ≤ i := hg
    obtain ⟨f0, f1, f2, f3, f4, f5⟩ := hf it (by simp)
    have e : (n : Int) - 1 - (i : Int) = -1 := by have := st.1; omega
    have st2 := st.2
    rw [e] at st2
    exact wpAny_pyNext_rev_end (I.ok.hd hc) st2 fun h' eb => ⟨rfl, I.turned (t' := s.toks) (fun b o hb e => eb b o hb e) f0 f1 f3 f4 f5⟩
  self := fun _ _ _ _ _ st h => wpAny_pyIter_revIter st.2 h
section
variable {X : Cx}
noncomputable def iRev (K : Frag) (ta : TA) : TI := fun σ H R => ta σ H fun vs H1 => ∃ l xs, vs = [.ref l] ∧ SqL K H1 l xs ∧ R (Itv K l xs.length) H1
theorem pi_rev {a tg : Expr} {ta : TA} {p pos : Pos} (hg : Gl X "reversed") (hm : X.mg "reversed" = none) (ha : PA X [a] ta) (hv : bootBuiltins "reversed" = some (.type "reversed") := by decide +kernel)
    (hs : starEach [a] X.env = [(false, eval a X.env)] := by rfl) :
    PI X tg (.Call (.Name "reversed" p) [a] [] pos) (iRev X.K ta) := by
  intro pins s σ H R I h
  refine Call_ (ld_blt I hg hm hv (PyProof.Rows.callWith_type1 (thn (ha pos pins s σ H _ I h) fun us s1 ⟨vs, H1, I1, r1, q1⟩ => ?_) (by rw [hs]; rfl) (by rfl)))
  obtain ⟨l, xs, e, hq, q⟩ := q1
  subst e
  obtain ⟨u, rfl, rx⟩ := vals1 r1
  cases rx
  obtain ⟨its, rv, p, hz⟩ := I1.list hq
  have hl := rv.length
  refine call_reversed_list p.isList ?_
  refine wpAny_pyIter_revIter (l := l) (i := (its.toArray.size : Int) - 1) ⟨_, Heap.get?_push_size _ rfl, rfl, rfl⟩ ?_
  refine ⟨s1.heap.objs.size, [s1.heap.objs.size], _, _, H1, rfl, I1.kept (t' := s1.toks) fun b o e => Heap.get?_push_of_some _ e, turn_rev l _ xs.length, ⟨Nat.zero_le _, ⟨_, Heap.get?_push_size _ rfl, rfl, ?_⟩⟩, fun b hb => ?_, q⟩
  · have e : (its.toArray.size : Int) - 1 = (xs.length : Int) - 1 - ((0 : Nat) : Int) := by simp; omega
    rw [← e]
    rfl
  · have e : b = s1.heap.objs.size := by simpa using hb
    subst e
    exact I1.fpOk (Nat.le_refl _) (I1.hok.fresh (Nat.le_refl _))
end
theorem fr_rev {K : Frag} {l : Addr} {n : Nat} {xs : List V} {g : TG} {tb : TS} {nx : St → Hp → Prop} {rt : VK} {σ : St} {H : Hp} (Pv : Nat → St → Hp → Prop) (h0 : Pv 0 σ H) (hn : xs.length = n) (hl : ∀ i σ H, i ≤ n → Pv i σ H → SqL K H l xs)
    (hs : ∀ i x σ H, xs[n - 1 - i]? = some x → i < n → Pv i σ H → g x σ H fun σ2 H2 => tb { nx := Pv (i + 1), rt := rt, bk := nx, ct := Pv (i + 1) } σ2 H2) (hd : ∀ σ H, Pv n σ H → nx σ H) : LoopW (Itv K l n) g tb nx rt σ H := by
  refine ⟨fun i m σ H => m = n - i ∧ i ≤ n ∧ Pv i σ H, ⟨n, by simp, Nat.zero_le _, h0⟩, ?_⟩
  rintro i m σ H ⟨rfl, hi, p⟩
  by_cases hlt : i < n
  · refine .inr ⟨⟨xs, hl i σ H hi p, hn, hlt⟩, Pv (i + 1), fun σ' H' p' => ⟨n - (i + 1), by omega, rfl, hlt, p'⟩, fun x H' y => ?_⟩
    obtain ⟨e, hx⟩ := y
    subst e
    exact hs i x σ _ (hx xs (hl i σ _ hi p)) hlt p
  · have e : i = n := by omega
    subst e
    exact .inl ⟨Nat.le_refl _, hd σ H p⟩
noncomputable def rGetL (K : Frag) : V → V → Hp → VK → Prop := fun o i H Q => ∃ (p : Addr) (xs : List V) (k : Nat) (z : V), o = .ref p ∧ i = .int k ∧ SqL K H p xs ∧ xs[k]? = some z ∧ Q z H
theorem get_listL {X : Cx} : PGet X (rGetL X.K) := by
  intro pins s σ H o i ov iv Q I ro ri h
  obtain ⟨p, xs, k, z, rfl, rfl, hq, he, q⟩ := h
  cases ro
  obtain ⟨t, rfl⟩ := ri
  obtain ⟨its, r, pl, hz⟩ := I.list hq
  obtain ⟨w, ew, rw'⟩ := r.get he
  have hl := r.length
  have hn := line63
  have hk := (List.getElem?_eq_some_iff.mp he).1
  exact wpAny_getItem_list pl.isList (by omega) (by omega) (by simpa using ew) ⟨z, H, I, rw', q⟩
noncomputable def cellO (c : Addr) (ob : Obj) : HO := .frz ob (.own c)
noncomputable def offC (H : Hp) (c : Addr) : Hp := fun b => if b = c then none else H b
theorem offC_same {H : Hp} {c : Addr} : offC H c c = none := by unfold offC; rw [if_pos rfl]
theorem offC_ne {H : Hp} {b c : Addr} (h : b ≠ c) : offC H c b = H b := by unfold offC; rw [if_neg h]
theorem offC_upd {H : Hp} {c : Addr} {o : HO} (h : H c = some o) : upd (offC H c) c o = H := funext fun b => by
  by_cases z : b = c
  · rw [z, upd_same, h]
  · rw [upd_ne z, offC_ne z]
section
variable {P : Program} {w : World} {H H' H2 : Hp} {h h' : Heap} {c : Addr} {ob : Obj} {fs : List Addr}
theorem cellO_ok (e : h.get? c = some ob) : ObjOk P w H h c (cellO c ob) := ⟨e, ⟨_, e⟩⟩
theorem HOk.cellOn (x : HOk P w H h) (n : H c = none) (e : h.get? c = some ob) : HOk P w (upd H c (cellO c ob)) h := fun b u q => by
  by_cases hb : b = c
  · subst hb; rw [upd_same] at q; cases q; exact cellO_ok e
  · rw [upd_ne hb] at q
    exact (x b u q).stay (fun _ _ _ r => r) (fun d r => by rw [upd_ne (ne_of_none r n)]; exact r) fun d xs r => by rw [upd_ne (ne_of_none r n)]; exact r
theorem HOk.cellOff (x : HOk P w H h) (n : H c = some (cellO c ob)) : HOk P w (offC H c) h := fun b u q => by
  have hb : b ≠ c := fun z => by rw [z, offC_same] at q; cases q
  rw [offC_ne hb] at q
  refine (x b u q).stay (fun _ _ _ r => r) (fun d r => ?_) fun d xs r => ?_
  · rw [offC_ne (fun z => by rw [z, n] at r; unfold cellO at r; cases r)]; exact r
  · rw [offC_ne (fun z => by rw [z, n] at r; unfold cellO at r; cases r)]; exact r
theorem Un.cellOff (un : Un fs [] (upd H c (cellO c ob)) H' h h') (h0 : h.get? c = some ob) (h1 : h'.get? c = some ob) (n : H c = none) (nf : c ∉ fs) : Un fs [] H (offC H' c) h h' where
  keep := fun b o g nb hb hx => by
    by_cases z : b = c
    · subst z; rw [h0] at g; cases g; exact h1
    · exact un.keep b o g (by rw [upd_ne z]; exact nb) hb hx
  slot := fun b o g nb hb hx => un.slot b o g (by rw [upd_ne (show b ≠ c from fun z => nf (by rw [← z]; exact hb))]; exact nb) hb hx
  free := fun b o g nb hx => by
    by_cases z : b = c
    · rw [z]; exact offC_same
    · rw [offC_ne z]; exact un.free b o g (by rw [upd_ne z]; exact nb) hx
  there := fun b o g hx => un.there b o g hx
  tups := fun b xs g => by
    have z : b ≠ c := ne_of_none g n
    rw [offC_ne z]; exact un.tups b xs (by rw [upd_ne z]; exact g)
  frzs := fun b o u g => by
    have z : b ≠ c := ne_of_none g n
    rw [offC_ne z]; exact un.frzs b o u (by rw [upd_ne z]; exact g)
  tbls := fun b ps g => by
    have z : b ≠ c := ne_of_none g n
    obtain ⟨more, e⟩ := un.tbls b ps (by rw [upd_ne z]; exact g)
    exact ⟨more, by rw [offC_ne z]; exact e⟩
theorem Un.cellOn (un : Un fs [] (offC H c) H2 h h') (n : H c = some (cellO c ob)) (nf : c ∉ fs) : Un fs [] H (upd H2 c (cellO c ob)) h h' where
  keep := fun b o g nb hb hx => un.keep b o g (by rw [offC_ne (fun z => by rw [z, n] at nb; cases nb)]; exact nb) hb hx
  slot := fun b o g nb hb hx => un.slot b o g (by rw [offC_ne (show b ≠ c from fun z => nf (by rw [← z]; exact hb))]; exact nb) hb hx
  free := fun b o g nb hx => by
    have z : b ≠ c := fun z => by rw [z, n] at nb; cases nb
    rw [upd_ne z]; exact un.free b o g (by rw [offC_ne z]; exact nb) hx
  there := fun b o g hx => un.there b o g hx
  tups := fun b xs g => by
    have z : b ≠ c := fun z => by rw [z, n] at g; unfold cellO at g; cases g
    rw [upd_ne z]; exact un.tups b xs (by rw [offC_ne z]; exact g)
  frzs := fun b o u g => by
    by_cases z : b = c
    · rw [z, upd_same, ← n, ← z]; exact g
    · rw [upd_ne z]; exact un.frzs b o u (by rw [offC_ne z]; exact g)
  tbls := fun b ps g => by
    have z : b ≠ c := fun z => by rw [z, n] at g; unfold cellO at g; cases g
    obtain ⟨more, e⟩ := un.tbls b ps (by rw [offC_ne z]; exact g)
    exact ⟨more, by rw [upd_ne z]; exact e⟩
end
section
variable {X : Cx}
theorem Inv.cellNf {pins : List (Addr × Obj)} {σ : St} {H : Hp} {s : Shared} {y : Str} {c : Addr} (I : Inv X pins σ H s) (hc : X.env.cells.lookup y = some c) (hfn : X.fn y = true) : c ∉ frs X.stack := fun z => by
  rcases List.mem_cons.mp (I.stkSub c z) with e | hb
  · exact I.cne y c hc e
  · obtain ⟨_, o, ho, _⟩ := I.ok.funs.mem hb
    exact absurd (Nat.lt_of_lt_of_le (Heap.lt_size ho) (I.ok.cab y c hfn hc)) (Nat.lt_irrefl _)
theorem Inv.env0C {pins : List (Addr × Obj)} {σ : St} {H : Hp} {s : Shared} {y : Str} {c : Addr} {ob : Obj} (I : Inv X pins σ H s) (hc : X.env.cells.lookup y = some c) (hfn : X.fn y = true) (e : s.heap.get? c = some ob) :
    Env0 X.prog X.w X.K X.mg X.base X.A X.stack s (upd H c (cellO c ob)) :=
  ⟨I.ok.frames, I.ok.mod, fun b o g => ⟨(I.bs b o g).1, by
    rw [upd_ne (fun z => ?_)]
    · exact (I.bs b o g).2
    · have h1 := I.ok.cab y c hfn hc
      have h2 := Heap.lt_size g
      have h3 := I.ok.bsz
      rw [z] at h2
      exact absurd (Nat.lt_of_lt_of_le h2 (Nat.le_trans h3 h1)) (Nat.lt_irrefl _)⟩, Nat.le_trans I.ok.bsz I.sz, I.stack, fun b hb => by
    rw [upd_ne (show b ≠ c from fun z => I.cellNf hc hfn (by rw [← z]; exact hb))]; exact I.stkFree b hb, I.hok.cellOn (I.freeC y c hc) e, I.bare⟩
noncomputable def tCallC (env : Env) (names : List (Str × NameKind)) (i : Nat) (y : Str) (sp : Sp) (E : XK) (t : TA) : TE := fun σ H Q => t σ H fun vs H1 => ∃ p, σ[i]? = some (some (.ref p)) ∧
  ∀ c ob, ob.data = .cell (some (.ref p)) → clOf env names [] = [(y, c)] → H1 c = none → sp vs (upd H1 c (cellO c ob)) (fun v H2 => H2 c = some (cellO c ob) ∧ Q v (offC H2 c)) E
theorem pe_callC {k : Nat} {f : Addr} {fd : FuncData} {ps : List Str} {sp : Sp} {E : XK} {x y : Str} {p pos : Pos} {e : Expr} {es : List Expr} {t : TA} {i : Nat} {names : List (Str × NameKind)}
    (hN : X.N[i]? = some y) (hv : Vis X.env.scope y) (hk0 : X.env.kindOf y = some .cell) (hfn : X.fn y = true) (hnm : clOf X.env names [] = [(y, (X.env.cells.lookup y).getD 0)])
    (F : FnOk X.prog X.w X.K X.mg X.base CX0 k f fd ps sp) (hr : Room k X.A) (hg : Gl X x) (hm : X.mg x = some (.ref f)) (hk : PySem.W.keepIn X.K (.ref f) = true) (hb : Binds X.K fd ps [])
    (ha : PA X (e :: es) t) (hdb : (x == ("__debug__" : Str)) = false := by decide) (he : starEach (e :: es) X.env = (false, eval e X.env) :: starEach es X.env := by rfl) (hpl : (backTo pos (starEach es X.env)).any (·.1) = false := by rfl) :
    PE X (.Call (.Name x p) (e :: es) [] pos) (tCallC X.env names i y sp E t) := by
  intro pins s σ H Q I h
  refine wpAny_Call_Name_kw (ld_glob I hg hm ?_ hdb)
  refine PySem.W.callWith_K (h₀ := X.base) I.ok.mod.kin hk (thn (ha pos pins s σ H _ I h) fun us s1 ⟨vs, H1, I1, r, q⟩ => ⟨I1.kIn, ?_⟩) he hpl
  obtain ⟨p, ep, q⟩ := q
  obtain ⟨m, _, hl⟩ := I1.loc
  obtain ⟨u, ru, lk⟩ := hl i y (.ref p) hN ep hv
  rcases lk with ⟨k1, _⟩ | ⟨_, c, hc, ob, hob, hd⟩
  · rw [hk0] at k1; cases k1
  · cases (show u = Value.ref p from ru)
    have nc := I1.freeC y c hc
    have q2 := q c ob hd (by rw [hnm, hc]; rfl) nc
    have hl2 : (us ++ []).length = ps.length := by rw [List.append_nil, ← r.length]; exact F.len _ _ _ _ q2
    refine wpAny_call (codeAny_mono (F.run X.A X.stack s1 _ ⟨us, []⟩ (us ++ []) vs _ E hr (I1.env0C hc hfn hob) (hb s1 us I1.kIn hl2) (by rw [List.append_nil]; exact r) q2) fun r' s' hq => ?_)
    cases r' with
    | error e => exact hq.elim
    | ok fl =>
      cases fl with
      | ret u =>
        obtain ⟨v, H', os, bare, un, hok, rv, e2, q3⟩ := hq
        exact I1.after ⟨v, offC H' c, os, bare, un.cellOff hob (hok c _ e2).1 nc (I1.cellNf hc hfn), hok.cellOff e2, rv, q3⟩
      | next => exact hq.elim
      | brk => exact hq.elim
      | cont => exact hq.elim
noncomputable def cxLamC (X : Cx) (A : Around) (qual : Str) (scope : Scope) (N : List Str) (f : Addr) (cd : Value) (cl : List (Str × Addr)) (s : Shared) (H : Hp) : Cx :=
  { X with
    A := A.deeper (PySem.W.envX qual scope s.heap.objs.size f cd cl)
    N := N
    s₀ := s
    H₀ := H
    env := PySem.W.envX qual scope s.heap.objs.size f cd cl
    outer := X.stack
    stack := PySem.W.envX qual scope s.heap.objs.size f cd cl :: X.stack
    ex := []
    fn := fun _ => false
    pn := []
    xe := fun _ _ => False }
structure LamC (scope : Scope) (x y : Str) : Prop where
  kind : scope.kind = .function
  nx : scope.names.lookup x = some .local
  ny : scope.names.lookup y = some .free
  all : ∀ z ∈ scope.names, (z.1 = x ∧ z.2 = .local) ∨ (z.1 = y ∧ z.2 = .free)
theorem LamC.only {scope : Scope} {x y z : Str} (L : LamC scope x y) (h : scope.names.lookup z = some .cell ∨ scope.names.lookup z = some .free) : z = y := by
  rcases h with h | h
  · rcases L.all _ (PySem.mem_of_lookup h) with ⟨_, e⟩ | ⟨_, e⟩ <;> cases e
  · rcases L.all _ (PySem.mem_of_lookup h) with ⟨_, e⟩ | ⟨e, _⟩
    · cases e
    · exact e
theorem lamC_start {scope : Scope} {x y : Str} {pins : List (Addr × Obj)} {σ : St} {H : Hp} {s : Shared} {h₁ : Heap} {tk : Nat} {A : Around} {qual : Str} {f cc p : Addr} {ob : Obj} {cd : Value} {v : V} {u : Value} (L : LamC scope x y) (I : Inv X pins σ H s)
    (hA : A.handled = X.A.handled) (hF : A.frames = some X.stack) (r : RelV v u) (ec : H cc = some (cellO cc ob)) (hd : ob.data = .cell (some (.ref p)))
    (hn : h₁.Ns s.heap.objs.size (fun y => [(x, u)].lookup y)) (k : ∀ b o, s.heap.get? b = some o → h₁.get? b = some o) :
    Inv (cxLamC X A qual scope [x, y] f cd [(y, cc)] s (offC H cc)) [] [some v, some (.ref p)] (offC H cc) { s with heap := h₁, toks := tk } := by
  have I4 : Inv X pins σ H { s with heap := h₁, toks := tk } := I.kept k
  have hob : h₁.get? cc = some ob := k _ _ (I.hok cc _ ec).1
  have noA : ∀ b : Addr, b ∉ (cxLamC X A qual scope [x, y] f cd [(y, cc)] s (offC H cc)).ex := fun b z => absurd (show b ∈ ([] : List Addr) from z) (by simp)
  have look : ∀ {z : Str} {b : Addr}, [(y, cc)].lookup z = some b → z = y ∧ b = cc := fun {z b} e => by
    by_cases hz : z = y
    · subst hz; simp at e; exact ⟨rfl, e.symm⟩
    · have : (z == y) = false := by simpa using hz
      simp [List.lookup, this] at e
  refine ⟨⟨I.ok.mod, L.kind, rfl, rfl, Nat.le_refl _, fun y1 z b h1 h2 => (look h1).1.trans (look h2).1.symm, fun z hz => ⟨cc, ?_⟩, fun y b h0 => (by cases h0), fun hc => ?_, Around.frames_deeper hF, .inr ⟨rfl, rfl⟩, fun b z => absurd z (noA b), fun b o e => ⟨(I.bs b o e).1, ?_⟩, Nat.le_trans I.ok.bsz I.sz, fun b _ _ => noA b, fun b z => absurd z (noA b), I.stack, fun b hb => ?_⟩,
    rfl, I.bare, Un.kept k, ⟨_, hn, fun i y' v' h1 h2 h3 => ?_⟩, fun z b h => ?_, ?_, fun z b h => ?_, fun p hp => absurd (show p ∈ ([] : List (Addr × Obj)) from hp) (by simp), I4.hok.cellOff ec, rfl⟩
  · have := L.only hz
    subst this
    show [(z, cc)].lookup z = some cc
    simp
  · have := I.ok.hd hc
    rw [← hA] at this
    exact this
  · show offC H cc b = none
    rw [offC_ne (show b ≠ cc from fun z => by rw [z] at e; have := (I.bs cc o e).2; rw [ec] at this; cases this)]
    exact (I.bs b o e).2
  · show offC H cc b = none
    rw [offC_ne (show b ≠ cc from fun z => by rw [z] at hb; have := I.stkFree cc hb; rw [ec] at this; cases this)]
    exact I.stkFree b hb
  · match i, h1, h2 with
    | 0, h1, h2 =>
      cases (show some x = some y' from h1)
      cases (show some (some v) = some (some v') from h2)
      exact ⟨u, r, .inl ⟨L.nx, by show [(x, u)].lookup x = some u; simp⟩⟩
    | 1, h1, h2 =>
      cases (show some y = some y' from h1)
      cases (show some (some (V.ref p)) = some (some v') from h2)
      exact ⟨.ref p, rfl, .inr ⟨.inr L.ny, cc, by show [(y, cc)].lookup y = some cc; simp, ob, hob, hd⟩⟩
    | i + 2, h1, h2 => cases (show (none : Option Str) = some y' from h1)
  · obtain ⟨rfl, rfl⟩ := look h
    exact ⟨_, ob, hob, hd⟩
  · show offC H cc s.heap.objs.size = none
    have := I.hok.fresh (Nat.le_refl s.heap.objs.size)
    rw [offC_ne (show s.heap.objs.size ≠ cc from fun z => by rw [z, ec] at this; cases this)]
    exact this
  · obtain ⟨rfl, rfl⟩ := look h
    exact offC_same
theorem run_lamC {scope : Scope} {x y : Str} {pins : List (Addr × Obj)} {σ : St} {H : Hp} {s : Shared} {A : Around} {qual : Str} {params : Arguments} {body : Expr} {f c' cc p : Addr} {ob : Obj} {v : V} {u : Value} {te : TE} {Q : VK} {pm ctv : Value} {E : Value → Shared → Prop} (L : LamC scope x y) (T : LamTx params scope x)
    (I : Inv X pins σ H s) (hA : A.handled = X.A.handled) (hF : A.frames = some X.stack) (hd : A.depth < recursionLimit) (r : RelV v u)
    (ef : H f = some (lamO f c' qual params body scope [(y, cc)] pm ctv)) (ec : H c' = some (codeO c' qual)) (eo : H cc = some (cellO cc ob)) (ed : ob.data = .cell (some (.ref p)))
    (he : ∀ (s : Shared) (H : Hp), PE (cxLamC X A qual scope [x, y] f (.ref c') [(y, cc)] s H) body te) (h : te [some v, some (.ref p)] (offC H cc) fun v2 H2 => Q v2 (upd H2 cc (cellO cc ob))) :
    wpAny (model X.prog X.w) A (call (.ref f) [u]) (EP X pins σ Q) E s := by
  obtain ⟨lf, _⟩ := (show ObjOk X.prog X.w H s.heap f (lamO f c' qual params body scope [(y, cc)] pm ctv) from I.hok f _ ef)
  have hrec := codeO_get (I.hok c' _ ec)
  have hob : s.heap.get? cc = some ob := (I.hok cc _ eo).1
  have nf : cc ∉ frs X.stack := fun z => by have := I.stkFree cc z; rw [eo] at this; cases this
  refine wpAny_call ?_
  refine PySem.W.kla_callFunE (fd := PySem.W.kla_fn "<lambda>" qual params body scope [(y, cc)] pm (.ref c') ctv) hd lf rfl T.co T.gen rfl hrec ?_
  rw [T.bind]
  refine wpAny_pure (wpAny_newFunctionEnv (fun z hz => ?_) (fun z hz => ?_) (fun h₁ hns hsb => ⟨?_, ?_⟩) L.kind)
  · rcases L.all z hz with ⟨_, e⟩ | ⟨_, e⟩ <;> (rw [e]; intro q; cases q)
  · rw [List.mem_singleton.mp hz]; exact L.nx
  · exact (I.nolimit).fresh _ hsb
  · have hk₁ : ∀ b o, s.heap.get? b = some o → h₁.get? b = some o := fun b o e => hsb.extBut b o (Nat.ne_of_lt (Heap.lt_size e)) (Heap.get?_push_of_some _ e)
    have J := lamC_start (A := A) (qual := qual) (f := f) (cd := .ref c') (tk := s.toks + [(x, u)].length) L I hA hF r eo ed hns hk₁
    refine PySem.W.kla_codeExpr (wpAny_mono (he s (offC H cc) [] _ _ _ _ J h) (fun v1 s' hq => ?_) fun e s' z => z.elim)
    obtain ⟨v2, H2, J2, r2, q2⟩ := hq
    have un : Un (frs X.stack) [] (offC H cc) H2 s.heap s'.heap := J2.base
    exact I.after ⟨v2, _, J2.os, J2.bare, un.cellOn eo nf, J2.hok.cellOn (un.free cc ob hob offC_same (by simp)) (un.keep cc ob hob offC_same nf (by simp)), r2, q2⟩
noncomputable def tCallLC (qual : Str) (params : Arguments) (body : Expr) (scope : Scope) (y : Str) (i : Nat) (ta te : TE) : TE := fun σ H Q => ∃ f c pm ctv cc ob p, σ[i]? = some (some (.ref f)) ∧ ob.data = .cell (some (.ref p)) ∧
  ta σ H fun v H1 => H1 f = some (lamO f c qual params body scope [(y, cc)] pm ctv) ∧ H1 c = some (codeO c qual) ∧ H1 cc = some (cellO cc ob) ∧ te [some v, some (.ref p)] (offC H1 cc) fun v2 H2 => Q v2 (upd H2 cc (cellO cc ob))
theorem pe_callLC {scope : Scope} {x : Str} {params : Arguments} {a body : Expr} {pos p : Pos} {i : Nat} {y z qual : Str} {ta te : TE} (L : LamC scope x z) (T : LamTx params scope x) (hd : X.A.depth < recursionLimit)
    (hN : X.N[i]? = some y) (hv : Vis X.env.scope y) (ha : PE X a ta)
    (he : ∀ (f c cc : Addr) (s : Shared) (H : Hp), PE (cxLamC X X.A qual scope [x, z] f (.ref c) [(z, cc)] s H) body te)
    (hdb : (y == ("__debug__" : Str)) = false := by decide) (hcd : (y == ("__classdict__" : Str)) = false := by decide)
    (hs : starEach [a] X.env = (false, eval a X.env) :: starEach [] X.env := by rfl) :
    PE X (.Call (.Name y p) [a] [] pos) (tCallLC qual params body scope z i ta te) := by
  rintro pins s σ H Q I ⟨f, c, pm, ctv, cc, ob, pp, ev, ed, h⟩
  have hP := pa_cons ha (pa_nil (X := X)) hs
  have hV : PE X (.Name y p) (tVar i) := pe_var hN hv hdb hcd
  refine wpAny_Call_Name_kw (thn (hV pins s σ H (fun v H1 => v = .ref f ∧ H1 = H) I ⟨_, ev, rfl, rfl⟩) fun u s0 h0 => ?_)
  obtain ⟨v0, H0, I0, r0, rfl, rfl⟩ := h0
  cases (show u = Value.ref f from r0)
  refine callWith_def (o := PySem.W.kla_obj "<lambda>" qual params body scope [(z, cc)] pm c ctv) rfl (thn (hP pos pins s0 σ H0 (oneV fun v H1 => H1 f = some (lamO f c qual params body scope [(z, cc)] pm ctv) ∧ H1 c = some (codeO c qual) ∧ H1 cc = some (cellO cc ob) ∧ te [some v, some (.ref pp)] (offC H1 cc) fun v2 H2 => Q v2 (upd H2 cc (cellO cc ob))) I0 h) fun us s1 h1 => ?_) hs
  obtain ⟨vs, H1, I1, r1, q1⟩ := h1
  match vs, r1, q1 with
  | [v], r1, q1 =>
    obtain ⟨u, rfl, ru⟩ := vals1 r1
    obtain ⟨ef1, ec1, eo1, q⟩ := (show H1 f = some (lamO f c qual params body scope [(z, cc)] pm ctv) ∧ H1 c = some (codeO c qual) ∧ H1 cc = some (cellO cc ob) ∧ te [some v, some (.ref pp)] (offC H1 cc) fun v2 H2 => Q v2 (upd H2 cc (cellO cc ob)) from q1)
    obtain ⟨lf, _⟩ := (show ObjOk X.prog X.w H1 s1.heap f (lamO f c qual params body scope [(z, cc)] pm ctv) from I1.hok f _ ef1)
    exact ⟨lf, run_lamC (A := X.A) L T I1 rfl I1.ok.frames hd ru ef1 ec1 eo1 ed (fun s H => he f c cc s H) q⟩
end
end L2

namespace Cw
open PySem L2
open PySem.W (Frag)
abbrev LM := List (List Int)
noncomputable def top (i : Nat) : Stmt := PySem.Challenge.pw_crystalwords_k26_whole_met.main.body.getD i (.Pass ⟨0, 0, 0, 0⟩)
noncomputable abbrev s_divisor : Stmt := top 4
noncomputable abbrev N_divisor : List Str := ["one", "other", "greater", "lesser", "remainder"]
noncomputable abbrev s_nearest : Stmt := top 5
noncomputable abbrev N_nearest : List Str := ["one", "other"]
noncomputable abbrev s_place : Stmt := top 7
noncomputable abbrev N_place : List Str := ["tops", "under", "common", "top"]
noncomputable abbrev s_rest_place : Stmt := top 8
noncomputable abbrev N_rest_place : List Str := ["one", "under"]
noncomputable abbrev s_still_rows : Stmt := top 10
noncomputable abbrev N_still_rows : List Str := ["size"]
noncomputable abbrev s_dot : Stmt := top 11
noncomputable abbrev N_dot : List Str := ["one", "other"]
noncomputable abbrev s_turned : Stmt := top 12
noncomputable abbrev N_turned : List Str := ["rows"]
noncomputable abbrev s_less : Stmt := top 14
noncomputable abbrev N_less : List Str := ["one", "other", "count"]
noncomputable abbrev s_exchange : Stmt := top 15
noncomputable abbrev N_exchange : List Str := ["table", "i", "j", "held"]
noncomputable abbrev s_turn_signs : Stmt := top 16
noncomputable abbrev N_turn_signs : List Str := ["table", "i"]
noncomputable abbrev s_Steps___init__ : Stmt := inClass (top 17) 0
noncomputable abbrev N_Steps___init__ : List Str := ["self", "rows", "units"]
noncomputable abbrev s_Steps_take : Stmt := inClass (top 17) 1
noncomputable abbrev N_Steps_take : List Str := ["self", "i", "j", "count"]
noncomputable abbrev s_Steps_rising : Stmt := inClass (top 17) 2
noncomputable abbrev N_Steps_rising : List Str := ["self", "top", "k", "lines", "standing"]
noncomputable abbrev s_Steps_gather : Stmt := inClass (top 17) 3
noncomputable abbrev N_Steps_gather : List Str := ["self", "top", "k", "standing", "i", "j"]
noncomputable abbrev s_Steps_set_lead : Stmt := inClass (top 17) 4
noncomputable abbrev N_Steps_set_lead : List Str := ["self", "top", "k", "i"]
noncomputable abbrev s_stairs : Stmt := top 18
noncomputable abbrev N_stairs : List Str := ["rows", "width", "steps", "top", "k", "form", "record"]
noncomputable abbrev s_leads_of : Stmt := top 20
noncomputable abbrev N_leads_of : List Str := ["form", "leads", "i", "row", "standing"]
noncomputable abbrev s_climbed : Stmt := top 21
noncomputable abbrev N_climbed : List Str := ["form", "leads", "tops", "under", "scale", "lead", "numbers", "row", "left"]
noncomputable abbrev s_meeting : Stmt := top 22
noncomputable abbrev N_meeting : List Str := ["rows", "spot", "fits", "steps", "form", "record", "leads", "tops", "i"]
noncomputable abbrev s_whole_met : Stmt := top 23
noncomputable abbrev N_whole_met : List Str := ["rows", "tops", "under", "spot", "told"]
noncomputable abbrev s_law_cell : Stmt := top 25
noncomputable abbrev N_law_cell : List Str := ["_law_script", "_law_k"]
noncomputable abbrev s_law_int : Stmt := top 26
noncomputable abbrev N_law_int : List Str := ["_law_thing"]
noncomputable abbrev s_law_number : Stmt := top 27
noncomputable abbrev N_law_number : List Str := ["_law_cell_here", "_law_way_here", "_law_most", "_law_number_here"]
noncomputable abbrev s_law_told_rows : Stmt := top 28
noncomputable abbrev N_law_told_rows : List Str := ["_law_left", "_law_many", "_law_n", "_law_most", "_law_rows_here", "_law_i", "_law_row", "_law_k"]
noncomputable abbrev s_law_rows : Stmt := top 29
noncomputable abbrev N_law_rows : List Str := ["_law_script", "_law_start", "_law_many", "_law_way_here", "_law_most", "_law_cells", "_law_rows_here", "_law_i", "_law_row", "_law_by"]
noncomputable abbrev s_law_from_end : Stmt := top 30
noncomputable abbrev N_law_from_end : List Str := ["_law_script", "_law_k"]
noncomputable abbrev s_law_some : Stmt := top 31
noncomputable abbrev N_law_some : List Str := ["_law_script", "_law_first", "_law_many", "_law_start", "_law_most"]
noncomputable abbrev s_law_dot : Stmt := top 32
noncomputable abbrev N_law_dot : List Str := ["_law_one", "_law_other"]
noncomputable abbrev s_law_spot : Stmt := top 33
noncomputable abbrev N_law_spot : List Str := ["_law_script", "_law_rows_here", "_law_start", "_law_way_here", "_law_low", "_law_drawn", "_law_more", "_law_tops"]
noncomputable abbrev s_law_divides : Stmt := top 34
noncomputable abbrev N_law_divides : List Str := ["_law_one", "_law_other", "_law_left"]
noncomputable abbrev s_law_is_place : Stmt := top 35
noncomputable abbrev N_law_is_place : List Str := ["_law_found", "_law_m", "_law_by", "_law_top"]
noncomputable abbrev s_law_is_row : Stmt := top 36
noncomputable abbrev N_law_is_row : List Str := ["_law_found", "_law_n"]
noncomputable abbrev s_law_no_way : Stmt := top 37
noncomputable abbrev N_law_no_way : List Str := ["_law_found", "_law_rows_here", "_law_tops", "_law_low", "_law_k"]
noncomputable abbrev s_law_way : Stmt := top 38
noncomputable abbrev N_law_way : List Str := ["_law_found", "_law_rows_here", "_law_tops", "_law_low", "_law_row", "_law_top"]
noncomputable abbrev s_law_handed : Stmt := top 39
noncomputable abbrev N_law_handed : List Str := ["_law_rows_here", "_law_way_here", "_law_found"]
noncomputable abbrev s_law : Stmt := top 40
noncomputable abbrev N_law : List Str := ["_law_script", "_law_rows_here", "_law_tops", "_law_low", "_law_by", "_law_handed_here", "_law_found"]
local macro_rules | `(tactic| walk_at "s") => `(tactic| exact ⟨rfl, rfl, rfl, by decide +kernel, rfl, by decide +kernel, by decide +kernel⟩)
local macro_rules | `(tactic| walk_at "v") => `(tactic| (intro _ _ _ _ h; first | (obtain ⟨_, hh, _⟩ := h; subst hh; rfl) | (obtain ⟨_, _, hh, _⟩ := h; subst hh; rfl) | (obtain ⟨_, _, _, hh, _⟩ := h; subst hh; rfl) | (obtain ⟨_, _, _, _, hh, _⟩ := h; subst hh; rfl) | (obtain ⟨_, _, _, _, _, hh, _⟩ := h; subst hh; rfl) | (obtain ⟨_, _, _, _, _, _, hh, _⟩ := h; subst hh; rfl) | (obtain ⟨_, _, _, _, _, _, _, hh, _⟩ := h; subst hh; rfl) | (obtain ⟨_, _, _, _, _, _, _, _, _, _, hh, _⟩ := h; subst hh; rfl) | (obtain ⟨_, _, _, _, _, _, _, _, _, _, _, hh, _⟩ := h; subst hh; rfl) | (obtain ⟨_, _, _, _, _, _, _, _, _, _, _, _, hh, _⟩ := h; subst hh; rfl) | (obtain ⟨_, _, _, _, _, _, _, _, _, _, _, _, _, hh, _⟩ := h; subst hh; rfl) | (obtain ⟨_, _, _, _, _, _, _, _, _, _, _, _, _, _, _, _, hh, _⟩ := h; subst hh; rfl)))
theorem sc_divisor : FnScope N_divisor ["one", "other"] (defScope s_divisor) := by walk_at "s"
theorem sc_nearest : FnScope N_nearest ["one", "other"] (defScope s_nearest) := by walk_at "s"
theorem sc_place : FnScope N_place ["tops", "under"] (defScope s_place) := by walk_at "s"
theorem sc_rest_place : FnScope N_rest_place ["one"] (defScope s_rest_place) := by walk_at "s"
theorem sc_still_rows : FnScope N_still_rows ["size"] (defScope s_still_rows) := by walk_at "s"
theorem sc_dot : FnScope N_dot ["one", "other"] (defScope s_dot) := by walk_at "s"
theorem sc_turned : FnScope N_turned ["rows"] (defScope s_turned) := by walk_at "s"
theorem sc_less : FnScope N_less ["one", "other", "count"] (defScope s_less) := by walk_at "s"
theorem sc_exchange : FnScope N_exchange ["table", "i", "j"] (defScope s_exchange) := by walk_at "s"
theorem sc_turn_signs : FnScope N_turn_signs ["table", "i"] (defScope s_turn_signs) := by walk_at "s"
theorem sc_Steps___init__ : FnScope N_Steps___init__ ["self", "rows"] (defScope s_Steps___init__) := by walk_at "s"
theorem sc_Steps_take : FnScope N_Steps_take ["self", "i", "j", "count"] (defScope s_Steps_take) := by walk_at "s"
theorem sc_Steps_rising : FnScope N_Steps_rising ["self", "top", "k"] (defScope s_Steps_rising) := by walk_at "s"
theorem sc_Steps_gather : FnScope N_Steps_gather ["self", "top", "k"] (defScope s_Steps_gather) := by walk_at "s"
theorem sc_Steps_set_lead : FnScope N_Steps_set_lead ["self", "top", "k"] (defScope s_Steps_set_lead) := by walk_at "s"
theorem sc_stairs : FnScope N_stairs ["rows"] (defScope s_stairs) := by walk_at "s"
theorem sc_leads_of : FnScope N_leads_of ["form"] (defScope s_leads_of) := by walk_at "s"
theorem sc_climbed : FnScope N_climbed ["form", "leads", "tops", "under"] (defScope s_climbed) := by walk_at "s"
theorem sc_meeting : FnScope N_meeting ["rows", "spot", "fits"] (defScope s_meeting) := by walk_at "s"
theorem sc_whole_met : FnScope N_whole_met ["rows", "tops", "under"] (defScope s_whole_met) := by walk_at "s"
theorem sc_law_cell : FnScope N_law_cell ["_law_script", "_law_k"] (defScope s_law_cell) := by walk_at "s"
theorem sc_law_int : FnScope N_law_int ["_law_thing"] (defScope s_law_int) := by walk_at "s"
theorem sc_law_number : FnScope N_law_number ["_law_cell_here", "_law_way_here"] (defScope s_law_number) := by walk_at "s"
theorem sc_law_told_rows : FnScope N_law_told_rows ["_law_left"] (defScope s_law_told_rows) := by walk_at "s"
theorem sc_law_rows : FnScope N_law_rows ["_law_script"] (defScope s_law_rows) := by walk_at "s"
theorem sc_law_from_end : FnScope N_law_from_end ["_law_script", "_law_k"] (defScope s_law_from_end) := by walk_at "s"
theorem sc_law_some : FnScope N_law_some ["_law_script", "_law_first", "_law_many"] (defScope s_law_some) := by walk_at "s"
theorem sc_law_dot : FnScope N_law_dot ["_law_one", "_law_other"] (defScope s_law_dot) := by walk_at "s"
theorem sc_law_spot : FnScope N_law_spot ["_law_script", "_law_rows_here"] (defScope s_law_spot) := by walk_at "s"
theorem sc_law_divides : FnScope N_law_divides ["_law_one", "_law_other"] (defScope s_law_divides) := by walk_at "s"
theorem sc_law_is_place : FnScope N_law_is_place ["_law_found", "_law_m"] (defScope s_law_is_place) := by walk_at "s"
theorem sc_law_is_row : FnScope N_law_is_row ["_law_found", "_law_n"] (defScope s_law_is_row) := by walk_at "s"
theorem sc_law_no_way : FnScope N_law_no_way ["_law_found", "_law_rows_here", "_law_tops", "_law_low"] (defScope s_law_no_way) := by walk_at "s"
theorem sc_law_way : FnScope N_law_way ["_law_found", "_law_rows_here", "_law_tops", "_law_low"] (defScope s_law_way) := by walk_at "s"
theorem sc_law_handed : FnScope N_law_handed ["_law_rows_here", "_law_way_here"] (defScope s_law_handed) := by walk_at "s"
theorem sc_law : FnScope N_law ["_law_script"] (defScope s_law) := by walk_at "s"
structure Adr where
  a_divisor : Addr
  d_divisor : FuncData
  a_nearest : Addr
  d_nearest : FuncData
  a_place : Addr
  d_place : FuncData
  a_rest_place : Addr
  d_rest_place : FuncData
  a_still_rows : Addr
  d_still_rows : FuncData
  a_dot : Addr
  d_dot : FuncData
  a_turned : Addr
  d_turned : FuncData
  a_less : Addr
  d_less : FuncData
  a_exchange : Addr
  d_exchange : FuncData
  a_turn_signs : Addr
  d_turn_signs : FuncData
  a_Steps___init__ : Addr
  d_Steps___init__ : FuncData
  a_Steps_take : Addr
  d_Steps_take : FuncData
  a_Steps_rising : Addr
  d_Steps_rising : FuncData
  a_Steps_gather : Addr
  d_Steps_gather : FuncData
  a_Steps_set_lead : Addr
  d_Steps_set_lead : FuncData
  a_stairs : Addr
  d_stairs : FuncData
  a_leads_of : Addr
  d_leads_of : FuncData
  a_climbed : Addr
  d_climbed : FuncData
  a_meeting : Addr
  d_meeting : FuncData
  a_whole_met : Addr
  d_whole_met : FuncData
  a_law_cell : Addr
  d_law_cell : FuncData
  a_law_int : Addr
  d_law_int : FuncData
  a_law_number : Addr
  d_law_number : FuncData
  a_law_told_rows : Addr
  d_law_told_rows : FuncData
  a_law_rows : Addr
  d_law_rows : FuncData
  a_law_from_end : Addr
  d_law_from_end : FuncData
  a_law_some : Addr
  d_law_some : FuncData
  a_law_dot : Addr
  d_law_dot : FuncData
  a_law_spot : Addr
  d_law_spot : FuncData
  a_law_divides : Addr
  d_law_divides : FuncData
  a_law_is_place : Addr
  d_law_is_place : FuncData
  a_law_is_row : Addr
  d_law_is_row : FuncData
  a_law_no_way : Addr
  d_law_no_way : FuncData
  a_law_way : Addr
  d_law_way : FuncData
  a_law_handed : Addr
  d_law_handed : FuncData
  a_law : Addr
  d_law : FuncData
  a_CrystalError : Addr
  a_NoPlace : Addr
  a_Steps : Addr
structure Txt (K : Frag) (mg : Str → Option Value) (t : Adr) : Prop where
  F_divisor : Fun K "divisor" "divisor" s_divisor t.a_divisor t.d_divisor
  m_divisor : mg "divisor" = some (.ref t.a_divisor)
  b_divisor : Binds K t.d_divisor ["one", "other"] []
  F_nearest : Fun K "nearest" "nearest" s_nearest t.a_nearest t.d_nearest
  m_nearest : mg "nearest" = some (.ref t.a_nearest)
  b_nearest : Binds K t.d_nearest ["one", "other"] []
  F_place : Fun K "place" "place" s_place t.a_place t.d_place
  m_place : mg "place" = some (.ref t.a_place)
  b_place : Binds K t.d_place ["tops", "under"] []
  F_rest_place : Fun K "rest_place" "rest_place" s_rest_place t.a_rest_place t.d_rest_place
  m_rest_place : mg "rest_place" = some (.ref t.a_rest_place)
  b_rest_place : Binds K t.d_rest_place ["one"] []
  F_still_rows : Fun K "still_rows" "still_rows" s_still_rows t.a_still_rows t.d_still_rows
  m_still_rows : mg "still_rows" = some (.ref t.a_still_rows)
  b_still_rows : Binds K t.d_still_rows ["size"] []
  F_dot : Fun K "dot" "dot" s_dot t.a_dot t.d_dot
  m_dot : mg "dot" = some (.ref t.a_dot)
  b_dot : Binds K t.d_dot ["one", "other"] []
  F_turned : Fun K "turned" "turned" s_turned t.a_turned t.d_turned
  m_turned : mg "turned" = some (.ref t.a_turned)
  b_turned : Binds K t.d_turned ["rows"] []
  F_less : Fun K "less" "less" s_less t.a_less t.d_less
  m_less : mg "less" = some (.ref t.a_less)
  b_less : Binds K t.d_less ["one", "other", "count"] []
  F_exchange : Fun K "exchange" "exchange" s_exchange t.a_exchange t.d_exchange
  m_exchange : mg "exchange" = some (.ref t.a_exchange)
  b_exchange : Binds K t.d_exchange ["table", "i", "j"] []
  F_turn_signs : Fun K "turn_signs" "turn_signs" s_turn_signs t.a_turn_signs t.d_turn_signs
  m_turn_signs : mg "turn_signs" = some (.ref t.a_turn_signs)
  b_turn_signs : Binds K t.d_turn_signs ["table", "i"] []
  F_Steps___init__ : Fun K "__init__" "Steps.__init__" s_Steps___init__ t.a_Steps___init__ t.d_Steps___init__
  b_Steps___init__ : Binds K t.d_Steps___init__ ["self", "rows"] []
  F_Steps_take : Fun K "take" "Steps.take" s_Steps_take t.a_Steps_take t.d_Steps_take
  b_Steps_take : Binds K t.d_Steps_take ["self", "i", "j", "count"] []
  F_Steps_rising : Fun K "rising" "Steps.rising" s_Steps_rising t.a_Steps_rising t.d_Steps_rising
  b_Steps_rising : Binds K t.d_Steps_rising ["self", "top", "k"] []
  F_Steps_gather : Fun K "gather" "Steps.gather" s_Steps_gather t.a_Steps_gather t.d_Steps_gather
  b_Steps_gather : Binds K t.d_Steps_gather ["self", "top", "k"] []
  F_Steps_set_lead : Fun K "set_lead" "Steps.set_lead" s_Steps_set_lead t.a_Steps_set_lead t.d_Steps_set_lead
  b_Steps_set_lead : Binds K t.d_Steps_set_lead ["self", "top", "k"] []
  F_stairs : Fun K "stairs" "stairs" s_stairs t.a_stairs t.d_stairs
  m_stairs : mg "stairs" = some (.ref t.a_stairs)
  b_stairs : Binds K t.d_stairs ["rows"] []
  F_leads_of : Fun K "leads_of" "leads_of" s_leads_of t.a_leads_of t.d_leads_of
  m_leads_of : mg "leads_of" = some (.ref t.a_leads_of)
  b_leads_of : Binds K t.d_leads_of ["form"] []
  F_climbed : Fun K "climbed" "climbed" s_climbed t.a_climbed t.d_climbed
  m_climbed : mg "climbed" = some (.ref t.a_climbed)
  b_climbed : Binds K t.d_climbed ["form", "leads", "tops", "under"] []
  F_meeting : Fun K "meeting" "meeting" s_meeting t.a_meeting t.d_meeting
  m_meeting : mg "meeting" = some (.ref t.a_meeting)
  b_meeting : Binds K t.d_meeting ["rows", "spot", "fits"] []
  F_whole_met : Fun K "whole_met" "whole_met" s_whole_met t.a_whole_met t.d_whole_met
  m_whole_met : mg "whole_met" = some (.ref t.a_whole_met)
  b_whole_met : Binds K t.d_whole_met ["rows", "tops", "under"] []
  F_law_cell : Fun K "_law_cell" "_law_cell" s_law_cell t.a_law_cell t.d_law_cell
  m_law_cell : mg "_law_cell" = some (.ref t.a_law_cell)
  b_law_cell : Binds K t.d_law_cell ["_law_script", "_law_k"] []
  F_law_int : Fun K "_law_int" "_law_int" s_law_int t.a_law_int t.d_law_int
  m_law_int : mg "_law_int" = some (.ref t.a_law_int)
  b_law_int : Binds K t.d_law_int ["_law_thing"] []
  F_law_number : Fun K "_law_number" "_law_number" s_law_number t.a_law_number t.d_law_number
  m_law_number : mg "_law_number" = some (.ref t.a_law_number)
  b_law_number : Binds K t.d_law_number ["_law_cell_here", "_law_way_here"] []
  F_law_told_rows : Fun K "_law_told_rows" "_law_told_rows" s_law_told_rows t.a_law_told_rows t.d_law_told_rows
  m_law_told_rows : mg "_law_told_rows" = some (.ref t.a_law_told_rows)
  b_law_told_rows : Binds K t.d_law_told_rows ["_law_left"] []
  F_law_rows : Fun K "_law_rows" "_law_rows" s_law_rows t.a_law_rows t.d_law_rows
  m_law_rows : mg "_law_rows" = some (.ref t.a_law_rows)
  b_law_rows : Binds K t.d_law_rows ["_law_script"] []
  F_law_from_end : Fun K "_law_from_end" "_law_from_end" s_law_from_end t.a_law_from_end t.d_law_from_end
  m_law_from_end : mg "_law_from_end" = some (.ref t.a_law_from_end)
  b_law_from_end : Binds K t.d_law_from_end ["_law_script", "_law_k"] []
  F_law_some : Fun K "_law_some" "_law_some" s_law_some t.a_law_some t.d_law_some
  m_law_some : mg "_law_some" = some (.ref t.a_law_some)
  b_law_some : Binds K t.d_law_some ["_law_script", "_law_first", "_law_many"] []
  F_law_dot : Fun K "_law_dot" "_law_dot" s_law_dot t.a_law_dot t.d_law_dot
  m_law_dot : mg "_law_dot" = some (.ref t.a_law_dot)
  b_law_dot : Binds K t.d_law_dot ["_law_one", "_law_other"] []
  F_law_spot : Fun K "_law_spot" "_law_spot" s_law_spot t.a_law_spot t.d_law_spot
  m_law_spot : mg "_law_spot" = some (.ref t.a_law_spot)
  b_law_spot : Binds K t.d_law_spot ["_law_script", "_law_rows_here"] []
  F_law_divides : Fun K "_law_divides" "_law_divides" s_law_divides t.a_law_divides t.d_law_divides
  m_law_divides : mg "_law_divides" = some (.ref t.a_law_divides)
  b_law_divides : Binds K t.d_law_divides ["_law_one", "_law_other"] []
  F_law_is_place : Fun K "_law_is_place" "_law_is_place" s_law_is_place t.a_law_is_place t.d_law_is_place
  m_law_is_place : mg "_law_is_place" = some (.ref t.a_law_is_place)
  b_law_is_place : Binds K t.d_law_is_place ["_law_found", "_law_m"] []
  F_law_is_row : Fun K "_law_is_row" "_law_is_row" s_law_is_row t.a_law_is_row t.d_law_is_row
  m_law_is_row : mg "_law_is_row" = some (.ref t.a_law_is_row)
  b_law_is_row : Binds K t.d_law_is_row ["_law_found", "_law_n"] []
  F_law_no_way : Fun K "_law_no_way" "_law_no_way" s_law_no_way t.a_law_no_way t.d_law_no_way
  m_law_no_way : mg "_law_no_way" = some (.ref t.a_law_no_way)
  b_law_no_way : Binds K t.d_law_no_way ["_law_found", "_law_rows_here", "_law_tops", "_law_low"] []
  F_law_way : Fun K "_law_way" "_law_way" s_law_way t.a_law_way t.d_law_way
  m_law_way : mg "_law_way" = some (.ref t.a_law_way)
  b_law_way : Binds K t.d_law_way ["_law_found", "_law_rows_here", "_law_tops", "_law_low"] []
  F_law_handed : Fun K "_law_handed" "_law_handed" s_law_handed t.a_law_handed t.d_law_handed
  m_law_handed : mg "_law_handed" = some (.ref t.a_law_handed)
  b_law_handed : Binds K t.d_law_handed ["_law_rows_here", "_law_way_here"] []
  F_law : Fun K "law" "law" s_law t.a_law t.d_law
  m_law : mg "law" = some (.ref t.a_law)
  b_law : Binds K t.d_law ["_law_script"] []
  z_abs : mg "abs" = none
  z_bool : mg "bool" = none
  z_enumerate : mg "enumerate" = none
  z_int : mg "int" = none
  z_isinstance : mg "isinstance" = none
  z_len : mg "len" = none
  z_list : mg "list" = none
  z_max : mg "max" = none
  z_range : mg "range" = none
  z_reversed : mg "reversed" = none
  z_sorted : mg "sorted" = none
  z_str : mg "str" = none
  z_sum : mg "sum" = none
  z_tuple : mg "tuple" = none
  z_zip : mg "zip" = none
  m_CrystalError : mg "CrystalError" = some (.ref t.a_CrystalError)
  m_NoPlace : mg "NoPlace" = some (.ref t.a_NoPlace)
  m_Steps : mg "Steps" = some (.ref t.a_Steps)
  k_int : PySem.W.kitOne K (.type "int") (.type "int") = some true
  k_ib : PySem.W.kitOne K (.type "int") (.type "bool") = some false
  k_tt : PySem.W.kitOne K (.type "tuple") (.type "tuple") = some true
  k_ll : PySem.W.kitOne K (.type "list") (.type "list") = some true
  cl_Steps : L2.Cls K t.a_Steps
  mk_Steps : L2.Mk K t.a_Steps t.a_Steps___init__
  no_lines : PySem.W.findIn K (.ref t.a_Steps) "lines" = some none
  no_columns : PySem.W.findIn K (.ref t.a_Steps) "columns" = some none
  me_Steps_take : L2.Meth K t.a_Steps "take" t.a_Steps_take
  me_Steps_rising : L2.Meth K t.a_Steps "rising" t.a_Steps_rising
  me_Steps_gather : L2.Meth K t.a_Steps "gather" t.a_Steps_gather
  me_Steps_set_lead : L2.Meth K t.a_Steps "set_lead" t.a_Steps_set_lead
  tb_Steps_rising : L2.tabOk K t.a_Steps_rising = true
  k_ss : PySem.W.kitOne K (.type "str") (.type "str") = some true
  x_NoPlace : PySem.W.excIn K t.a_NoPlace [.type "ValueError", .type "Exception", .type "BaseException", .type "object"] "ValueError.__new__" = true
  tb_whole_met : L2.tabOk K t.a_whole_met = true
  tb_ne : (L2.tabP K t.a_Steps_rising == L2.tabP K t.a_whole_met) = false
  bl : ∀ (s : Shared) (u : Value), BindsTo s t.d_law ⟨[u], []⟩ [("_law_script", u)]
local macro_rules | `(tactic| walk_at "r") => `(tactic| simp only [tSeq, tAsg, gName, tVar, tC, tOp, rd_rI0, rd_rI, rd_rU, tUn, tTest, tB, tIfS, tIf, tAnd, tOr, tNot, tAndV, tOrV, tNotV, tRet, tRetN, tNext, tDrop, tCall, tCallX, tCons, tNil, tCB, tTup, tLst, tPar, tSetC, tBM, tBM0, tSl, tPart, tNoPart, List.getElem?_cons_zero, List.getElem?_cons_succ, Option.some.injEq, exists_eq_left', exists_eq_left, List.set_cons_zero, List.set_cons_succ, List.cons.injEq, V.int.injEq, V.bl.injEq, V.ref.injEq, and_true, true_and, List.append_nil, ne_eq, exists_and_left, and_assoc, ↓reduceIte, Bool.not_true, Bool.not_false, Bool.false_eq_true])
noncomputable def gcdI (a b : Int) : Int := (Int.gcd a b : Int)
noncomputable def absI (u : Int) : Int := if u < 0 then -u else u
noncomputable def gl (u : Int) (ns : List Int) : Int := ns.foldl gcdI (absI u)
theorem absI_nonneg (u : Int) : 0 ≤ absI u := by unfold absI; split <;> omega
theorem absI_dvd {d u : Int} : d ∣ absI u ↔ d ∣ u := by
  unfold absI
  split
  · exact Int.dvd_neg
  · exact Iff.rfl
theorem dvd_foldl {d : Int} : ∀ (ns : List Int) (c : Int), d ∣ ns.foldl gcdI c ↔ d ∣ c ∧ ∀ t ∈ ns, d ∣ t
  | [], c => by simp
  | t :: r, c => by
    rw [List.foldl_cons, dvd_foldl r]
    unfold gcdI
    rw [Int.dvd_coe_gcd_iff]
    constructor
    · rintro ⟨⟨h1, h2⟩, h3⟩
      refine ⟨h1, fun x hx => ?_⟩
      rcases List.mem_cons.mp hx with e | e
      · rw [e]; exact h2
      · exact h3 x e
    · rintro ⟨h1, h2⟩
      exact ⟨⟨h1, h2 t List.mem_cons_self⟩, fun x hx => h2 x (List.mem_cons_of_mem _ hx)⟩
theorem dvd_gl {d u : Int} {ns : List Int} : d ∣ gl u ns ↔ d ∣ u ∧ ∀ t ∈ ns, d ∣ t := by
  unfold gl
  rw [dvd_foldl, absI_dvd]
theorem foldl_nonneg : ∀ (ns : List Int) (c : Int), 0 ≤ c → 0 ≤ ns.foldl gcdI c
  | [], _, h => h
  | t :: r, c, _ => foldl_nonneg r _ (Int.natCast_nonneg _)
theorem gl_nonneg (u : Int) (ns : List Int) : 0 ≤ gl u ns := foldl_nonneg ns _ (absI_nonneg u)
theorem gl_u (u : Int) (ns : List Int) : gl u ns ∣ u := (dvd_gl.mp (Int.dvd_refl _)).1
theorem gl_mem {u t : Int} {ns : List Int} (h : t ∈ ns) : gl u ns ∣ t := (dvd_gl.mp (Int.dvd_refl _)).2 t h
theorem gl_pos {u : Int} (ns : List Int) (h : u ≠ 0) : 0 < gl u ns := by
  have := gl_nonneg u ns
  rcases Int.lt_or_eq_of_le this with q | q
  · exact q
  · obtain ⟨k, e⟩ := gl_u u ns
    rw [← q, Int.zero_mul] at e
    exact absurd e h
theorem gl_eq_of {u v : Int} {ns ms : List Int} (h : ∀ d : Int, (d ∣ u ∧ ∀ t ∈ ns, d ∣ t) ↔ (d ∣ v ∧ ∀ t ∈ ms, d ∣ t)) : gl u ns = gl v ms :=
  Int.dvd_antisymm (gl_nonneg _ _) (gl_nonneg _ _) (dvd_gl.mpr ((h _).mp (dvd_gl.mp (Int.dvd_refl _)))) (dvd_gl.mpr ((h _).mpr (dvd_gl.mp (Int.dvd_refl _))))
theorem gl_snoc (u : Int) (ns : List Int) (t : Int) : gl u (ns ++ [t]) = gcdI (gl u ns) t := by unfold gl; rw [List.foldl_append]; rfl
noncomputable def cs (u : Int) (ns : List Int) : Int := if u < 0 then -(gl u ns) else gl u ns
theorem cs_ne {u : Int} (ns : List Int) (h : u ≠ 0) : cs u ns ≠ 0 := by
  have := gl_pos ns h
  unfold cs
  split <;> omega
theorem cs_dvd {u x : Int} {ns : List Int} (h : gl u ns ∣ x) : cs u ns ∣ x := by
  unfold cs
  split
  · exact Int.neg_dvd.mpr h
  · exact h
theorem fdiv_exact {c x : Int} (hc : c ≠ 0) (h : c ∣ x) : x.fdiv c * c = x := by
  obtain ⟨k, e⟩ := h
  subst e
  rw [Int.mul_comm c k, Int.mul_fdiv_cancel _ hc]
theorem under_pos {u : Int} (ns : List Int) (h : u ≠ 0) : 0 < u.fdiv (cs u ns) := by
  have e := fdiv_exact (cs_ne ns h) (cs_dvd (gl_u u ns))
  have g := gl_pos ns h
  rcases Int.lt_trichotomy (u.fdiv (cs u ns)) 0 with q | q | q
  · exfalso
    unfold cs at e q
    split at e
    · rename_i hu
      rw [if_pos hu] at q
      have := Int.mul_nonneg_of_nonpos_of_nonpos (Int.le_of_lt q) (show -(gl u ns) ≤ 0 by omega)
      omega
    · rename_i hu
      rw [if_neg hu] at q
      have := Int.mul_neg_of_neg_of_pos q g
      omega
  · rw [q, Int.zero_mul] at e
    exact absurd e.symm h
  · exact q
theorem cross {u t : Int} {ns : List Int} (h : u ≠ 0) (ht : t ∈ ns) : t * u.fdiv (cs u ns) = t.fdiv (cs u ns) * u := by
  have e1 := fdiv_exact (cs_ne ns h) (cs_dvd (gl_u u ns))
  have e2 := fdiv_exact (cs_ne ns h) (cs_dvd (gl_mem (u := u) ht))
  generalize u.fdiv (cs u ns) = a at *
  generalize t.fdiv (cs u ns) = b at *
  generalize cs u ns = c at *
  rw [← e2, ← e1, Int.mul_assoc, Int.mul_comm c a]
theorem gl_red {u : Int} {ns : List Int} (h : u ≠ 0) : gl (u.fdiv (cs u ns)) (ns.map fun t => t.fdiv (cs u ns)) = 1 := by
  have hc := cs_ne ns h
  have e1 := fdiv_exact hc (cs_dvd (gl_u u ns))
  have n := gl_nonneg (u.fdiv (cs u ns)) (ns.map fun t => t.fdiv (cs u ns))
  have d := dvd_gl.mp (Int.dvd_refl (gl (u.fdiv (cs u ns)) (ns.map fun t => t.fdiv (cs u ns))))
  generalize gl (u.fdiv (cs u ns)) (ns.map fun t => t.fdiv (cs u ns)) = g at *
  have key : g * cs u ns ∣ gl u ns := by
    refine dvd_gl.mpr ⟨?_, fun t ht => ?_⟩
    · have := Int.mul_dvd_mul d.1 (Int.dvd_refl (cs u ns))
      rw [e1] at this
      exact this
    · have := Int.mul_dvd_mul (d.2 _ (List.mem_map.mpr ⟨t, ht, rfl⟩)) (Int.dvd_refl (cs u ns))
      rw [fdiv_exact hc (cs_dvd (gl_mem (u := u) ht))] at this
      exact this
  have key2 : g * cs u ns ∣ 1 * cs u ns := by
    rw [Int.one_mul]
    unfold cs at key ⊢
    split at key
    · rename_i hu
      rw [if_pos hu]
      exact Int.dvd_neg.mpr key
    · rename_i hu
      rw [if_neg hu]
      exact key
  have : g ∣ 1 := Int.dvd_of_mul_dvd_mul_right hc key2
  have := Int.le_of_dvd (by decide) this
  rcases (show g = 0 ∨ g = 1 by omega) with q | q
  · subst q
    have z := d.1
    rw [Int.zero_dvd] at z
    rw [z, Int.zero_mul] at e1
    exact absurd e1.symm h
  · exact q
theorem fmod_dvd {d u t : Int} (h : d ∣ u) : d ∣ t.fmod u ↔ d ∣ t := by
  rw [Int.fmod_def]
  have q : d ∣ u * t.fdiv u := Int.dvd_mul_of_dvd_left h
  constructor
  · intro z
    have := Int.dvd_add z q
    rwa [Int.sub_add_cancel] at this
  · intro z
    exact Int.dvd_sub z q
theorem gl_rest (u : Int) (ns : List Int) : gl u (ns.map fun t => t.fmod u) = gl u ns := by
  refine gl_eq_of fun d => ?_
  constructor
  · rintro ⟨h1, h2⟩
    exact ⟨h1, fun t ht => (fmod_dvd h1).mp (h2 _ (List.mem_map.mpr ⟨t, ht, rfl⟩))⟩
  · rintro ⟨h1, h2⟩
    refine ⟨h1, fun x hx => ?_⟩
    obtain ⟨t, ht, e⟩ := List.mem_map.mp hx
    subst e
    exact (fmod_dvd h1).mpr (h2 t ht)
theorem gcd_fmodI (g l : Int) : Int.gcd l (Int.fmod g l) = Int.gcd g l := by
  rw [Int.fmod_def, Int.gcd_sub_mul_left_right, Int.gcd_comm]
theorem absI_gcd (a b : Int) : Int.gcd (if a < 0 then -a else a) (if b < 0 then -b else b) = Int.gcd a b := by
  split <;> split <;> simp
theorem absI_nn (a : Int) : 0 ≤ (if a < 0 then -a else a) := by split <;> omega
theorem gcd_end {g l a b : Int} (h : Int.gcd g l = Int.gcd a b) (hg : 0 ≤ g) (z : l = 0) : g = gcdI a b := by
  rw [z, Int.gcd_zero_right] at h
  unfold gcdI
  rw [← h]
  omega
noncomputable def sp_gcd : Sp := fun vs H Q _ => ∃ a b, vs = [.int a, .int b] ∧ Q (.int (gcdI a b)) H
noncomputable abbrev sp_divisor : Sp := sp_gcd
noncomputable def PlaceAt (H : Hp) (p : Addr) (ns : List Int) (u : Int) : Prop := ∃ q, H p = some (.tup [.ref q, .int u]) ∧ H q = some (.tup (ns.map V.int))
theorem PlaceAt.up {H H' : Hp} {p : Addr} {ns : List Int} {u : Int} (h : PlaceAt H p ns u) (s : Same H H') : PlaceAt H' p ns u := let ⟨q, h1, h2⟩ := h; ⟨q, s _ _ h1, s _ _ h2⟩
noncomputable def redT (u : Int) (ns : List Int) : List Int := ns.map fun t => t.fdiv (cs u ns)
noncomputable def redU (u : Int) (ns : List Int) : Int := u.fdiv (cs u ns)
noncomputable def restT (u : Int) (ns : List Int) : List Int := ns.map fun t => t.fmod u
noncomputable def sp_place (K : Frag) (C : Addr) : Sp := fun vs H Q E => ∃ (b : Bool) (a : Addr) (ns : List Int) (u : Int), vs = [.ref a, .int u] ∧ SqB b K H a (ns.map V.int) ∧ ns.length ≤ 100 ∧
  ((u = 0 ∨ ns = []) → E (.ref C) none H) ∧ (u ≠ 0 → ns ≠ [] → ∀ p H', Same H H' → PlaceAt H' p (redT u ns) (redU u ns) → Q (.ref p) H')
noncomputable def sp_rest_place (K : Frag) : Sp := fun vs H Q _ => ∃ (p : Addr) (ns : List Int) (u : Int), vs = [.ref p] ∧ PlaceAt H p ns u ∧ ns.length ≤ 100 ∧ 0 < u ∧ ∀ p' H', Same H H' → PlaceAt H' p' (restT u ns) u → Q (.ref p') H'
theorem take_snoc {α : Type} {ns : List α} {i : Nat} {n : α} (h : ns[i]? = some n) : ns.take (i + 1) = ns.take i ++ [n] := by
  rw [List.take_add_one, h]
  rfl

noncomputable def sp_dot (K : Frag) : Sp := fun vs H Q _ => ∃ (b1 b2 : Bool) (p q : Addr) (ms ns : List Int), vs = [.ref p, .ref q] ∧ SqB b1 K H p (ms.map V.int) ∧ SqB b2 K H q (ns.map V.int) ∧ ms.length = ns.length ∧ ms.length ≤ 1000 ∧
  (∀ (i : Nat) m n, ms[i]? = some m → ns[i]? = some n → IntMulOk m n) ∧ ∀ H', Same H H' → Q (.int (dotI ms ns)) H'
noncomputable def idM (d : Nat) : LM := (List.range d).map fun i => (List.range d).map fun k => if i = k then (1 : Int) else 0
noncomputable def sp_still_rows : Sp := fun vs H Q _ => ∃ n : Nat, vs = [.int n] ∧ n ≤ 1000 ∧ ∀ r H', H r = none → Same H H' → MatL H' r (idM n) → Q (.ref r) H'

section
variable {P : Program} {w : World} {K : Frag} {mg : Str → Option Value} {base : Heap} {t : Adr}
theorem rd_gcd {a b : Int} {H : Hp} {Q : VK} {E : XK} : sp_gcd [.int a, .int b] H Q E = Q (.int (gcdI a b)) H := propext ⟨fun ⟨_, _, e, q⟩ => by cases e; exact q, fun q => ⟨_, _, rfl, q⟩⟩
theorem ok_divisor (T : Txt K mg t) : FnOk P w K mg base CX0 1 t.a_divisor t.d_divisor ["one", "other"] sp_divisor := by
  refine T.F_divisor.ok sc_divisor (by walk_at "v") (fun cdv A outer s H vs Q E hr h => ?_)
  · obtain ⟨a, b, rfl, k⟩ := h
    refine ⟨_, (pss_cons (ps_set (i := 2) sc_divisor.nd rfl (Or.inl rfl) (pe_callB call_abs rfl T.z_abs (by decide +kernel) (pa_cons (pv 0) pa_nil)))
      (pss_cons (ps_set (i := 3) sc_divisor.nd rfl (Or.inl rfl) (pe_callB call_abs rfl T.z_abs (by decide +kernel) (pa_cons (pv 1) pa_nil)))
      (pss_cons (ps_while PassesOwn.never (pt_cmpR op_neZ (pv 3) pe_int (nomark _))
      (pss_cons (ps_set (i := 4) sc_divisor.nd rfl (Or.inl rfl) (pe_op op_modN (pv 2) (pv 3)))
      (pss_cons (ps_set (i := 2) sc_divisor.nd rfl (Or.inl rfl) (pv 3))
      (pss_one (ps_set (i := 3) sc_divisor.nd rfl (Or.inl rfl) (pv 4))))))
      (pss_one (ps_ret (pv 2)))))), ?_⟩
    show tSeq _ _ _ [some (.int a), some (.int b), none, none, none] H
    walk_at "r"
    refine ⟨fun m σ H1 => ∃ g l r, σ = [some (.int a), some (.int b), some (.int g), some (.int l), r] ∧ H1 = H ∧ 0 ≤ g ∧ 0 ≤ l ∧ Int.gcd g l = Int.gcd a b ∧ m = l.toNat,
      ⟨_, _, _, _, rfl, rfl, absI_nn a, absI_nn b, absI_gcd a b, rfl⟩, ?_⟩
    rintro m σ H1 ⟨g, l, r, rfl, rfl, hg, hl, e, rfl⟩
    walk_at "r"
    by_cases z : l = 0
    · rw [decide_eq_true z]
      refine iteF ?_
      rw [gcd_end e hg z]
      exact k
    · rw [decide_eq_false z]
      refine iteT ⟨fun σ' H' => σ' = [some (.int a), some (.int b), some (.int l), some (.int (g.fmod l)), some (.int (g.fmod l))] ∧ H' = H1, ?_, z, rfl, rfl⟩
      rintro σ' H' ⟨rfl, rfl⟩
      have l1 := Int.fmod_lt_of_pos g (show 0 < l by omega)
      have l2 := Int.fmod_nonneg_of_pos g (show 0 < l by omega)
      exact ⟨(g.fmod l).toNat, by omega, _, _, _, rfl, rfl, hl, l2, by rw [gcd_fmodI]; exact e, rfl⟩

theorem ok_still_rows (T : Txt K mg t) : FnOk P w K mg base CX0 1 t.a_still_rows t.d_still_rows ["size"] sp_still_rows := by
  refine T.F_still_rows.ok sc_still_rows (by walk_at "v") (fun cdv A outer s H vs Q E hr h => ?_)
  · obtain ⟨n, rfl, hn, hQ⟩ := h
    refine ⟨_, (pss_one (ps_ret (pe_compG (xs := ["i"]) (fr := [("size", 0)]) (g := (gName 0)) (tt := (tEl (tCompG (iRng1 (tCons (tVar 1) tNil)) (gName 0) (tEl (tIf (tTest (tOp (rI0 fun i j => .bl (decide (i = j))) (tVar 1) (tVar 0))) (tC (.int 1)) (tC (.int 0)))) 1 [("i", 0)]))) (compG_ok (sc := defScope s_still_rows) (N := N_still_rows) rfl rfl (by decide +kernel)) rfl (pi_range1 rfl T.z_range (pa_cons (pv 0) pa_nil)) (fun _ _ _ hE1 => (pg_ownC (N := ["i", "size"]) (i := 0) hE1 rfl (by decide +kernel) rfl)) (fun _ _ _ hE1 => (po_el (pe_compG (xs := ["k"]) (fr := [("i", 0)]) (g := (gName 0)) (tt := (tEl (tIf (tTest (tOp (rI0 fun i j => .bl (decide (i = j))) (tVar 1) (tVar 0))) (tC (.int 1)) (tC (.int 0))))) (compG_ok (N := ["i", "size"]) hE1 rfl (by decide +kernel)) rfl (pi_range1 rfl T.z_range (pa_cons (pv 1) pa_nil)) (fun _ _ _ hE2 => (pg_own (N := ["k", "i"]) (i := 0) hE2 rfl (by decide +kernel))) (fun _ _ _ hE2 => (po_el (pe_ifExp (pt_cmpR op_eqZ (pv 1) (pv 0) (nomark _)) pe_int pe_int))))))))), ?_⟩
    show tRet _ _ [some (.int n)] H
    walk_at "r"
    refine compE_st fun B eB => ?_
    simp only [iRng1]
    walk_at "r"
    refine ⟨by omega, by omega, fun m0 hm0 => ?_⟩
    rw [Int.toNat_natCast]
    refine cg_range (RowR m0 fun i => (List.range n).map fun k => if i = k then (1 : Int) else 0) hm0 hn (RowR.mono (a := m0)) ?_ ?_
    · intro i H2 zs hi s2 ez Q' hQ'
      subst eB
      show tCompG _ _ _ _ _ [some (.int (0 + (i : Int))), some (.int n)] H2 Q'
      refine compE_st fun B eB => ?_
      simp only [iRng1]
      walk_at "r"
      refine ⟨by omega, by omega, fun a2 ha2 => ?_⟩
      rw [Int.toNat_natCast]
      refine cg_range (fun k y _ => k < n ∧ y = .int (if i = k then 1 else 0)) ha2 hn (fun _ _ _ _ r _ => r) ?_ ?_
      · intro k H3 zs3 hk s3 ez3 Q2 hQ2
        subst eB
        show tIf _ _ _ [some (.int (0 + (k : Int))), some (.int (0 + (i : Int)))] H3 Q2
        walk_at "r"
        by_cases z : i = k
        · rw [decide_eq_true (by omega)]
          exact iteT (hQ2 _ _ (Same.refl _) ⟨hk, by rw [if_pos z]⟩)
        · rw [decide_eq_false (by omega)]
          exact iteF (hQ2 _ _ (Same.refl _) ⟨hk, by rw [if_neg z]⟩)
      · intro H3 ys s3 e3 hly hr3
        have ey : ys = ((List.range n).map fun k => if i = k then (1 : Int) else 0).map V.int := by
          refine list_is (by simpa using hly) fun j y e => ?_
          obtain ⟨hj, rfl⟩ := hr3 j y e
          exact ⟨_, by rw [List.getElem?_map, List.getElem?_range hj]; rfl, rfl⟩
        subst ey
        exact hQ' _ _ s3 ⟨a2, rfl, Ne.symm (ne_of_none ez ha2), e3⟩
    · intro H2 ys s2 e2 hly hr2
      have hM0 := MatL.of e2 hr2
      rw [hly] at hM0
      exact hQ m0 H2 hm0 s2 hM0

noncomputable def lessI (x y : List Int) (q : Int) : List Int := List.zipWith (fun a b => a - q * b) x y
theorem lessI_len {x y : List Int} {q : Int} (h : x.length = y.length) : (lessI x y q).length = x.length := by
  unfold lessI
  rw [List.length_zipWith]
  omega
theorem dot_less (q : Int) : ∀ (x y c : List Int), x.length = y.length → dotI (lessI x y q) c = dotI x c - q * dotI y c
  | [], [], c, _ => by simp [lessI, dotI]
  | a :: x, b :: y, [], _ => by simp [lessI, dotI]
  | a :: x, b :: y, e :: c, h => by
    have ih := dot_less q x y c (by simpa using h)
    have e1 : lessI (a :: x) (b :: y) q = (a - q * b) :: lessI x y q := rfl
    rw [e1]
    simp only [dotI] at ih ⊢
    simp only [List.zipWith_cons_cons, List.sum_cons] at ih ⊢
    rw [ih]
    grind
  | [], b :: y, c, h => by simp at h
  | a :: x, [], c, h => by simp at h
noncomputable def rowT (cs : LM) (r : List Int) : List Int := cs.map fun c => dotI r c
theorem rowT_less {cs : LM} {x y : List Int} {q : Int} (h : x.length = y.length) : rowT cs (lessI x y q) = lessI (rowT cs x) (rowT cs y) q := by
  unfold rowT lessI
  rw [List.zipWith_map_left, List.zipWith_map_right]
  refine List.ext_getElem (by simp) fun i h1 h2 => ?_
  simp only [List.getElem_map, List.getElem_zipWith]
  exact dot_less q x y _ h
noncomputable def prodN : List Nat → Nat
  | [] => 1
  | x :: r => x * prodN r
theorem prodN_set : ∀ (xs : List Nat) (i : Nat) (x y c : Nat), xs[i]? = some x → c * y ≤ x → c * prodN (xs.set i y) ≤ prodN xs
  | [], i, x, y, c, h, _ => by simp at h
  | z :: r, 0, x, y, c, h, hc => by
    obtain rfl : z = x := by simpa using h
    show c * (y * prodN r) ≤ z * prodN r
    rw [← Nat.mul_assoc]
    exact Nat.mul_le_mul_right _ hc
  | z :: r, i + 1, x, y, c, h, hc => by
    have ih := prodN_set r i x y c (by simpa using h) hc
    show c * (z * prodN (r.set i y)) ≤ z * prodN r
    rw [Nat.mul_left_comm]
    exact Nat.mul_le_mul_left _ ih
theorem prodN_pos : ∀ (xs : List Nat), (∀ x ∈ xs, 1 ≤ x) → 1 ≤ prodN xs
  | [], _ => Nat.le_refl 1
  | x :: r, h => Nat.mul_pos (h x (List.mem_cons_self ..)) (prodN_pos r fun z hz => h z (List.mem_cons_of_mem _ hz))
theorem prodN_lt_set : ∀ (xs : List Nat) (i : Nat) (x y : Nat), (∀ z ∈ xs, 1 ≤ z) → xs[i]? = some x → y < x → prodN (xs.set i y) < prodN xs
  | [], i, x, y, _, h, _ => by simp at h
  | z :: r, 0, x, y, hp, h, hc => by
    obtain rfl : z = x := by simpa using h
    exact Nat.mul_lt_mul_of_pos_right hc (prodN_pos r fun z hz => hp z (List.mem_cons_of_mem _ hz))
  | z :: r, i + 1, x, y, hp, h, hc => by
    have ih := prodN_lt_set r i x y (fun z hz => hp z (List.mem_cons_of_mem _ hz)) (by simpa using h) hc
    exact Nat.mul_lt_mul_of_pos_left ih (hp z (List.mem_cons_self ..))
noncomputable def BdM (M : Nat) (L : LM) : Prop := ∀ r ∈ L, ∀ x ∈ r, x.natAbs ≤ M
theorem less_bd {M : Nat} {x y : List Int} {q : Int} (hx : ∀ z ∈ x, z.natAbs ≤ M) (hy : ∀ z ∈ y, z.natAbs ≤ M) : ∀ z ∈ lessI x y q, z.natAbs ≤ (1 + q.natAbs) * M := fun z hz => by
  unfold lessI at hz
  obtain ⟨i, hi, rfl⟩ := List.getElem_of_mem hz
  rw [List.getElem_zipWith]
  rw [List.length_zipWith] at hi
  have h1 := hx _ (List.getElem_mem (show i < x.length by omega))
  have h2 := hy _ (List.getElem_mem (show i < y.length by omega))
  have h3 := Int.natAbs_sub_le (x[i]'(by omega)) (q * y[i]'(by omega))
  rw [Int.natAbs_mul] at h3
  have h4 := Nat.mul_le_mul_left q.natAbs h2
  rw [Nat.add_mul, Nat.one_mul]
  omega
theorem step_bd {M i : Nat} {L : LM} {x y : List Int} {q : Int} (h : BdM M L) (hx : x ∈ L) (hy : y ∈ L) : BdM ((1 + q.natAbs) * M) (L.set i (lessI x y q)) := fun r hr z hz => by
  rcases List.mem_or_eq_of_mem_set hr with e | e
  · refine Nat.le_trans (h r e z hz) ?_
    rw [Nat.add_mul, Nat.one_mul]
    omega
  · rw [e] at hz
    exact less_bd (h x hx) (h y hy) z hz
theorem less_at {x y : List Int} {q : Int} {k : Nat} (hx : k < x.length) (hy : k < y.length) : (lessI x y q).getD k 0 = x.getD k 0 - q * y.getD k 0 := by
  unfold lessI
  simp [List.getD_eq_getElem?_getD, List.getElem?_zipWith, hx, hy]
theorem prodN_le {c : Nat} : ∀ (xs : List Nat), (∀ x ∈ xs, x ≤ c) → prodN xs ≤ c ^ xs.length
  | [], _ => by simp [prodN]
  | x :: r, h => by
    show x * prodN r ≤ c ^ (r.length + 1)
    rw [Nat.pow_succ, Nat.mul_comm (c ^ r.length)]
    exact Nat.mul_le_mul (h x (List.mem_cons_self ..)) (prodN_le r fun z hz => h z (List.mem_cons_of_mem _ hz))
theorem near_pos {a b : Int} (hb : 0 < b) : 2 * (a - ((2 * a + b).fdiv (2 * b)) * b).natAbs ≤ b.natAbs := by
  have h1 := Int.mul_fdiv_add_fmod (2 * a + b) (2 * b)
  have h2 := Int.fmod_nonneg_of_pos (2 * a + b) (show 0 < 2 * b by omega)
  have h3 := Int.fmod_lt_of_pos (2 * a + b) (show 0 < 2 * b by omega)
  generalize (2 * a + b).fdiv (2 * b) = q at *
  generalize (2 * a + b).fmod (2 * b) = r at *
  have e : 2 * b * q = 2 * (q * b) := by grind
  rw [e] at h1
  omega
theorem near_ok {a b : Int} (hb : b ≠ 0) : 2 * (a - ((2 * a + b).fdiv (2 * b)) * b).natAbs ≤ b.natAbs := by
  rcases Int.lt_or_gt_of_ne hb with h | h
  · have k := near_pos (a := -a) (b := -b) (by omega)
    have e : (2 * -a + -b).fdiv (2 * -b) = (2 * a + b).fdiv (2 * b) := by
      rw [show 2 * -a + -b = -(2 * a + b) by omega, show 2 * -b = -(2 * b) by omega, Int.neg_fdiv_neg]
    rw [e] at k
    generalize (2 * a + b).fdiv (2 * b) = q at *
    rw [show -a - q * -b = -(a - q * b) by grind, Int.natAbs_neg, Int.natAbs_neg] at k
    exact k
  · exact near_pos h
theorem step_up {a b q : Int} (hb : b ≠ 0) (h : b.natAbs ≤ a.natAbs) (hr : 2 * (a - q * b).natAbs ≤ b.natAbs) : 1 ≤ q.natAbs := by
  have hbp : 1 ≤ b.natAbs := Int.natAbs_pos.mpr hb
  refine Nat.pos_of_ne_zero fun z => ?_
  have : q = 0 := Int.natAbs_eq_zero.mp z
  rw [this, Int.zero_mul, Int.sub_zero] at hr
  omega
noncomputable def wt (v : Int) : Nat := if v = 0 then 1 else 2 * v.natAbs
theorem wt_pos (v : Int) : 1 ≤ wt v := by
  unfold wt
  split <;> omega
theorem pot_one {a b q : Int} (hb : b ≠ 0) (h : b.natAbs ≤ a.natAbs) (hr : 2 * (a - q * b).natAbs ≤ b.natAbs) : (1 + q.natAbs) * wt (a - q * b) ≤ wt a := by
  have hbp : 1 ≤ b.natAbs := Int.natAbs_pos.mpr hb
  have hX : (q * b).natAbs = q.natAbs * b.natAbs := Int.natAbs_mul q b
  have h1 : q.natAbs ≤ q.natAbs * b.natAbs := Nat.le_mul_of_pos_right _ hbp
  have h2 : q.natAbs * (2 * (a - q * b).natAbs) ≤ q.natAbs * b.natAbs := Nat.mul_le_mul_left _ hr
  have h3 : 2 ≤ q.natAbs → 2 * b.natAbs ≤ q.natAbs * b.natAbs := fun h => Nat.mul_le_mul_right _ h
  have h4 : q.natAbs = 1 → q.natAbs * b.natAbs = b.natAbs := fun h => by rw [h, Nat.one_mul]
  have h5 : q.natAbs = 0 → q.natAbs * b.natAbs = 0 := fun h => by rw [h, Nat.zero_mul]
  rw [show q.natAbs * (2 * (a - q * b).natAbs) = 2 * (q.natAbs * (a - q * b).natAbs) by rw [Nat.mul_left_comm]] at h2
  have ha : a ≠ 0 := fun e => by rw [e] at h; simp at h; omega
  unfold wt
  rw [if_neg ha]
  split
  · omega
  · rename_i hz
    rw [show (1 + q.natAbs) * (2 * (a - q * b).natAbs) = 2 * (a - q * b).natAbs + 2 * (q.natAbs * (a - q * b).natAbs) by rw [Nat.add_mul, Nat.one_mul, Nat.mul_left_comm]]
    generalize q.natAbs * (a - q * b).natAbs = QR at *
    generalize q.natAbs * b.natAbs = QB at *
    generalize q * b = x at *
    omega
theorem wt_less {a b q : Int} (hb : b ≠ 0) (h : b.natAbs ≤ a.natAbs) (hr : 2 * (a - q * b).natAbs ≤ b.natAbs) : wt (a - q * b) < wt a := by
  have h1 := pot_one hb h hr
  have h2 := step_up hb h hr
  have h4 := Nat.mul_le_mul_right (wt (a - q * b)) (show 2 ≤ 1 + q.natAbs by omega)
  have h5 := wt_pos (a - q * b)
  omega
theorem wt_le {B : Nat} {v : Int} (h : v.natAbs ≤ 2 ^ B) : wt v ≤ 2 ^ (B + 1) := by
  have hp : 1 ≤ 2 ^ B := Nat.two_pow_pos B
  rw [Nat.pow_succ]
  unfold wt
  split <;> omega
noncomputable def colW (k top : Nat) (L : LM) : List Nat := (L.drop top).map fun r => wt (r.getD k 0)
theorem colW_set {k top i : Nat} {L : LM} {r : List Int} (h : top ≤ i) : colW k top (L.set i r) = (colW k top L).set (i - top) (wt (r.getD k 0)) := by
  unfold colW
  rw [List.drop_set, if_neg (by omega), List.map_set]
theorem colW_pos {k top : Nat} {L : LM} : ∀ z ∈ colW k top L, 1 ≤ z := fun z hz => by
  unfold colW at hz
  obtain ⟨r, _, rfl⟩ := List.mem_map.mp hz
  exact wt_pos _
noncomputable def Pot (n k top b : Nat) (L : LM) (F : Nat) : Prop := F * prodN (colW k top L) ≤ 2 ^ ((n - top) * (b + 1))
theorem Pot.step {n k top b : Nat} {L : LM} {F i : Nat} {x y : List Int} {q : Int} (h : Pot n k top b L F) (hi : top ≤ i) (ex : L[i]? = some x) (kx : k < x.length) (ky : k < y.length)
    (hb : y.getD k 0 ≠ 0) (hab : (y.getD k 0).natAbs ≤ (x.getD k 0).natAbs) (hr : 2 * (x.getD k 0 - q * y.getD k 0).natAbs ≤ (y.getD k 0).natAbs) :
    Pot n k top b (L.set i (lessI x y q)) ((1 + q.natAbs) * F) ∧ prodN (colW k top (L.set i (lessI x y q))) < prodN (colW k top L) := by
  have e : (colW k top L)[i - top]? = some (wt (x.getD k 0)) := by
    unfold colW
    rw [List.getElem?_map, List.getElem?_drop, show top + (i - top) = i by omega, ex]
    rfl
  have p := pot_one hb hab hr
  have w := wt_less hb hab hr
  rw [colW_set hi, less_at kx ky]
  refine ⟨?_, prodN_lt_set _ _ _ _ colW_pos e w⟩
  unfold Pot at h ⊢
  rw [colW_set hi, less_at kx ky, Nat.mul_comm (1 + q.natAbs) F, Nat.mul_assoc]
  exact Nat.le_trans (Nat.mul_le_mul_left F (prodN_set (colW k top L) (i - top) _ _ _ e p)) h
theorem Pot.start {n k top b : Nat} {L : LM} (hL : L.length = n) (hb : ∀ (i : Nat) r, top ≤ i → L[i]? = some r → (r.getD k 0).natAbs ≤ 2 ^ b) : Pot n k top b L 1 := by
  unfold Pot
  rw [Nat.one_mul]
  refine Nat.le_trans (prodN_le (c := 2 ^ (b + 1)) _ fun z hz => ?_) ?_
  · unfold colW at hz
    obtain ⟨r, hr, rfl⟩ := List.mem_map.mp hz
    obtain ⟨m, hm, rfl⟩ := List.getElem_of_mem hr
    rw [List.length_drop] at hm
    exact wt_le (hb (top + m) ((List.drop top L)[m]'(by rw [List.length_drop]; exact hm)) (by omega) (by rw [List.getElem_drop]; exact List.getElem?_eq_getElem (by omega)))
  · unfold colW
    rw [List.length_map, List.length_drop, hL, ← Nat.pow_mul, Nat.mul_comm]
    exact Nat.le_refl _
theorem Pot.end {n k top b : Nat} {L : LM} {F : Nat} (h : Pot n k top b L F) : F ≤ 2 ^ ((n - top) * (b + 1)) := by
  unfold Pot at h
  have := Nat.mul_le_mul_left F (prodN_pos _ (colW_pos (k := k) (top := top) (L := L)))
  omega
theorem dot_lessR (q : Int) : ∀ (c x y : List Int), x.length = y.length → dotI c (lessI x y q) = dotI c x - q * dotI c y
  | c, [], [], _ => by simp [lessI, dotI]
  | [], a :: x, b :: y, _ => by simp [dotI]
  | e :: c, a :: x, b :: y, h => by
    have ih := dot_lessR q c x y (by simpa using h)
    have e1 : lessI (a :: x) (b :: y) q = (a - q * b) :: lessI x y q := rfl
    rw [e1]
    simp only [dotI] at ih ⊢
    simp only [List.zipWith_cons_cons, List.sum_cons] at ih ⊢
    rw [ih]
    grind
  | c, [], b :: y, h => by simp at h
  | c, a :: x, [], h => by simp at h
noncomputable def Inj (d n : Nat) (L : LM) : Prop := ∀ v : List Int, v.length = n → (∀ r ∈ L, dotI (r.drop d) v = 0) → ∀ x ∈ v, x = 0
theorem less_take {x y : List Int} {q : Int} {d : Nat} : (lessI x y q).take d = lessI (x.take d) (y.take d) q := by unfold lessI; rw [List.take_zipWith]
theorem less_drop {x y : List Int} {q : Int} {d : Nat} : (lessI x y q).drop d = lessI (x.drop d) (y.drop d) q := by unfold lessI; rw [List.drop_zipWith]
theorem mem_set' {α : Type} {L : List α} {i : Nat} {r x : α} (h : x ∈ L.set i r) : x = r ∨ x ∈ L := by
  rcases List.mem_or_eq_of_mem_set h with h | h
  · exact .inr h
  · exact .inl h
theorem less_lin {cs : LM} {d : Nat} {x y : List Int} {q : Int} (hl : x.length = y.length) (hx : x.take d = rowT cs (x.drop d)) (hy : y.take d = rowT cs (y.drop d)) : (lessI x y q).take d = rowT cs ((lessI x y q).drop d) := by
  rw [less_take, less_drop, hx, hy, rowT_less (by rw [List.length_drop, List.length_drop, hl])]
theorem inj_set {d n i j : Nat} {L : LM} {x y : List Int} {q : Int} (h : Inj d n L) (hi : L[i]? = some x) (hj : L[j]? = some y) (ne : i ≠ j) (hl : x.length = y.length) : Inj d n (L.set i (lessI x y q)) := fun v hv hz => by
  have ey : dotI (y.drop d) v = 0 := hz y (by
    have : (L.set i (lessI x y q))[j]? = some y := by rw [List.getElem?_set_ne ne]; exact hj
    exact List.mem_of_getElem? this)
  have e1 := hz (lessI x y q) (by
    have hlt := (List.getElem?_eq_some_iff.mp hi).1
    exact List.mem_of_getElem? (show (L.set i (lessI x y q))[i]? = some _ by rw [List.getElem?_set_self hlt]))
  rw [less_drop, dot_less q _ _ _ (by rw [List.length_drop, List.length_drop, hl]), ey, Int.mul_zero, Int.sub_zero] at e1
  refine h v hv fun r hr => ?_
  obtain ⟨m, hm, rfl⟩ := List.getElem_of_mem hr
  by_cases e : m = i
  · subst e
    have : L[m] = x := by have := List.getElem?_eq_getElem hm; rw [hi] at this; exact (Option.some.inj this).symm
    rw [this]; exact e1
  · refine hz _ (List.mem_of_getElem? (i := m) ?_)
    rw [List.getElem?_set_ne (fun z => e z.symm)]
    exact List.getElem?_eq_getElem hm
theorem swap_at {L : LM} {a b : Nat} {x y : List Int} (ha : L[a]? = some x) (hb : L[b]? = some y) (m : Nat) : ((L.set a y).set b x)[m]? = if m = b then some x else if m = a then some y else L[m]? := by
  have al := (List.getElem?_eq_some_iff.mp ha).1
  have bl := (List.getElem?_eq_some_iff.mp hb).1
  by_cases h1 : m = b
  · subst h1
    rw [if_pos rfl, List.getElem?_set_self (by rw [List.length_set]; exact bl)]
  · rw [if_neg h1, List.getElem?_set_ne (fun z => h1 z.symm)]
    by_cases h2 : m = a
    · subst h2
      rw [if_pos rfl, List.getElem?_set_self al]
    · rw [if_neg h2, List.getElem?_set_ne (fun z => h2 z.symm)]
theorem swap_mem {L : LM} {a b : Nat} {x y : List Int} (ha : L[a]? = some x) (hb : L[b]? = some y) (r : List Int) : r ∈ (L.set a y).set b x ↔ r ∈ L := by
  constructor
  · intro h
    rcases mem_set' h with e | e
    · rw [e]; exact List.mem_of_getElem? ha
    · rcases mem_set' e with e | e
      · rw [e]; exact List.mem_of_getElem? hb
      · exact e
  · intro h
    obtain ⟨m, hm, rfl⟩ := List.getElem_of_mem h
    have e := List.getElem?_eq_getElem hm
    by_cases h1 : m = a
    · refine List.mem_of_getElem? (i := b) ?_
      rw [swap_at ha hb, if_pos rfl, ← ha, ← h1, e]
    · by_cases h2 : m = b
      · refine List.mem_of_getElem? (i := a) ?_
        rw [swap_at ha hb, if_neg (fun z => h1 (h2.trans z.symm)), if_pos rfl, ← hb, ← h2, e]
      · refine List.mem_of_getElem? (i := m) ?_
        rw [swap_at ha hb, if_neg h2, if_neg h1, e]
theorem dot_neg : ∀ (x c : List Int), dotI (x.map fun z => -z) c = -dotI x c
  | [], c => by simp [dotI]
  | a :: x, [] => by simp [dotI]
  | a :: x, b :: c => by
    have h := dot_neg x c
    simp only [dotI, List.map_cons, List.zipWith_cons_cons, List.sum_cons] at h ⊢
    rw [h]
    grind
theorem neg_lin {cs : LM} {d : Nat} {x : List Int} (hx : x.take d = rowT cs (x.drop d)) : (x.map fun z => -z).take d = rowT cs ((x.map fun z => -z).drop d) := by
  rw [← List.map_take, ← List.map_drop, hx]
  unfold rowT
  rw [List.map_map]
  refine List.map_congr_left fun c _ => ?_
  show -dotI (x.drop d) c = dotI ((x.drop d).map fun z => -z) c
  rw [dot_neg]
theorem neg_at (x : List Int) (k : Nat) : (x.map fun z => -z).getD k 0 = -(x.getD k 0) := by
  rw [List.getD_eq_getElem?_getD, List.getD_eq_getElem?_getD, List.getElem?_map]
  cases x[k]? with
  | none => rfl
  | some z => rfl
theorem inj_neg {d n i : Nat} {L : LM} {x : List Int} (h : Inj d n L) (hi : L[i]? = some x) : Inj d n (L.set i (x.map fun z => -z)) := fun v hv hz => by
  have il := (List.getElem?_eq_some_iff.mp hi).1
  have e1 := hz (x.map fun z => -z) (List.mem_of_getElem? (i := i) (by rw [List.getElem?_set_self il]))
  rw [← List.map_drop, dot_neg] at e1
  refine h v hv fun r hr => ?_
  obtain ⟨m, hm, rfl⟩ := List.getElem_of_mem hr
  by_cases e : m = i
  · subst e
    have : L[m] = x := by have := List.getElem?_eq_getElem hm; rw [hi] at this; exact (Option.some.inj this).symm
    rw [this]; omega
  · refine hz _ (List.mem_of_getElem? (i := m) ?_)
    rw [List.getElem?_set_ne (fun z => e z.symm)]
    exact List.getElem?_eq_getElem hm
theorem getD_le {r : List Int} {M k : Nat} (h : ∀ z ∈ r, z.natAbs ≤ M) : (r.getD k 0).natAbs ≤ M := by
  by_cases hk : k < r.length
  · exact h _ (L2.getD_mem hk)
  · rw [List.getD_eq_getElem?_getD, List.getElem?_eq_none (by omega)]
    exact Nat.zero_le _
theorem nat_fdiv_le (u b : Int) (hb : 0 < b) : (u.fdiv b).natAbs ≤ u.natAbs := by
  have e : b * u.fdiv b + u.fmod b = u := Int.mul_fdiv_add_fmod u b
  have h1 := Int.fmod_nonneg_of_pos u hb
  have h2 := Int.fmod_lt_of_pos u hb
  generalize u.fdiv b = q at *
  generalize u.fmod b = r at *
  rcases Int.lt_or_le q 0 with hq | hq
  · -- q ≤ -1
    have h3 : b * q ≤ q := by
      have : (b - 1) * q ≤ 0 := Int.mul_nonpos_of_nonneg_of_nonpos (by omega) (by omega)
      rw [Int.sub_mul, Int.one_mul] at this
      omega
    have h4 : b * q ≤ b * (-1) := Int.mul_le_mul_of_nonneg_left (by omega) (by omega)
    by_cases h5 : q = -1
    · subst h5
      omega
    · have h6 : b * (q + 1) ≤ q + 1 := by
        have : (b - 1) * (q + 1) ≤ 0 := Int.mul_nonpos_of_nonneg_of_nonpos (by omega) (by omega)
        rw [Int.sub_mul, Int.one_mul] at this
        omega
      rw [Int.mul_add, Int.mul_one] at h6
      omega
  · have h3 : q ≤ b * q := by
      have : 0 ≤ (b - 1) * q := Int.mul_nonneg (by omega) hq
      rw [Int.sub_mul, Int.one_mul] at this
      omega
    omega
theorem dot_negR : ∀ (c x : List Int), dotI c (x.map fun z => -z) = -dotI c x
  | [], x => by simp [dotI]
  | a :: c, [] => by simp [dotI]
  | a :: c, b :: x => by
    have h := dot_negR c x
    simp only [dotI, List.map_cons, List.zipWith_cons_cons, List.sum_cons] at h ⊢
    rw [h]
    grind
structure Ln (d n : Nat) (cs L C : LM) : Prop where
  len : L.length = n
  wid : ∀ r ∈ L, r.length = d + n
  lin : ∀ r ∈ L, r.take d = rowT cs (r.drop d)
  inj : Inj d n L
  clen : C.length = n
  cwid : ∀ r ∈ C, r.length = n
  dual : ∀ (i j : Nat) r s, L[i]? = some r → C[j]? = some s → dotI (r.drop d) s = if i = j then 1 else 0
theorem Ln.take {d n : Nat} {cs L C : LM} {i j : Nat} {x y ci cj : List Int} {q : Int} (h : Ln d n cs L C) (ne : i ≠ j) (ex : L[i]? = some x) (ey : L[j]? = some y) (ei : C[i]? = some ci) (ej : C[j]? = some cj) :
    Ln d n cs (L.set i (lessI x y q)) (C.set j (lessI cj ci (-q))) := by
  have mx : x ∈ L := List.mem_of_getElem? ex
  have my : y ∈ L := List.mem_of_getElem? ey
  have mi : ci ∈ C := List.mem_of_getElem? ei
  have mj : cj ∈ C := List.mem_of_getElem? ej
  have hl : x.length = y.length := by rw [h.wid x mx, h.wid y my]
  have hc : cj.length = ci.length := by rw [h.cwid cj mj, h.cwid ci mi]
  have il : i < L.length := (List.getElem?_eq_some_iff.mp ex).1
  have jl : j < C.length := (List.getElem?_eq_some_iff.mp ej).1
  refine ⟨by rw [List.length_set]; exact h.len, fun r hr' => ?_, fun r hr' => ?_, inj_set h.inj ex ey ne hl, by rw [List.length_set]; exact h.clen, fun r hr' => ?_, fun m m' r s er es => ?_⟩
  · rcases mem_set' hr' with e | e
    · rw [e, lessI_len hl]; exact h.wid x mx
    · exact h.wid r e
  · rcases mem_set' hr' with e | e
    · rw [e]; exact less_lin hl (h.lin x mx) (h.lin y my)
    · exact h.lin r e
  · rcases mem_set' hr' with e | e
    · rw [e, lessI_len hc]; exact h.cwid cj mj
    · exact h.cwid r e
  · have dx : ∀ {z : List Int}, dotI ((lessI x y q).drop d) z = dotI (x.drop d) z - q * dotI (y.drop d) z := fun {z} => by
      rw [less_drop, dot_less q _ _ _ (by rw [List.length_drop, List.length_drop, hl])]
    by_cases e1 : m = i
    · subst e1
      rw [List.getElem?_set_self il] at er
      cases er
      rw [dx]
      by_cases e2 : m' = j
      · subst e2
        rw [List.getElem?_set_self jl] at es
        cases es
        rw [dot_lessR _ _ _ _ hc, dot_lessR _ _ _ _ hc, h.dual m m' x cj ex ej, h.dual m m x ci ex ei, h.dual m' m' y cj ey ej, h.dual m' m y ci ey ei, if_neg ne, if_pos rfl, if_pos rfl, if_neg (Ne.symm ne)]
        omega
      · rw [List.getElem?_set_ne (fun w => e2 w.symm)] at es
        rw [h.dual m m' x s ex es, h.dual j m' y s ey es, if_neg (show ¬ j = m' from fun w => e2 w.symm), Int.mul_zero, Int.sub_zero]
    · rw [List.getElem?_set_ne (fun w => e1 w.symm)] at er
      by_cases e2 : m' = j
      · subst e2
        rw [List.getElem?_set_self jl] at es
        cases es
        rw [dot_lessR _ _ _ _ hc, h.dual m m' r cj er ej, h.dual m i r ci er ei, if_neg e1, Int.mul_zero, Int.sub_zero]
      · rw [List.getElem?_set_ne (fun w => e2 w.symm)] at es
        exact h.dual m m' r s er es
theorem Ln.neg {d n : Nat} {cs L C : LM} {i : Nat} {x c : List Int} (h : Ln d n cs L C) (ex : L[i]? = some x) (ec : C[i]? = some c) : Ln d n cs (L.set i (x.map fun z => -z)) (C.set i (c.map fun z => -z)) := by
  have mx : x ∈ L := List.mem_of_getElem? ex
  have mi : c ∈ C := List.mem_of_getElem? ec
  have il : i < L.length := (List.getElem?_eq_some_iff.mp ex).1
  have jl : i < C.length := (List.getElem?_eq_some_iff.mp ec).1
  refine ⟨by rw [List.length_set]; exact h.len, fun r hr' => ?_, fun r hr' => ?_, inj_neg h.inj ex, by rw [List.length_set]; exact h.clen, fun r hr' => ?_, fun m m' r s er es => ?_⟩
  · rcases mem_set' hr' with e | e
    · rw [e, List.length_map]; exact h.wid x mx
    · exact h.wid r e
  · rcases mem_set' hr' with e | e
    · rw [e]; exact neg_lin (h.lin x mx)
    · exact h.lin r e
  · rcases mem_set' hr' with e | e
    · rw [e, List.length_map]; exact h.cwid c mi
    · exact h.cwid r e
  · by_cases e1 : m = i
    · subst e1
      rw [List.getElem?_set_self il] at er
      cases er
      rw [← List.map_drop, dot_neg]
      by_cases e2 : m' = m
      · subst e2
        rw [List.getElem?_set_self jl] at es
        cases es
        rw [dot_negR, h.dual m' m' x c ex ec]
        omega
      · rw [List.getElem?_set_ne (fun w => e2 w.symm)] at es
        rw [h.dual m m' x s ex es, if_neg (show ¬ m = m' from fun w => e2 w.symm)]
        rfl
    · rw [List.getElem?_set_ne (fun w => e1 w.symm)] at er
      by_cases e2 : m' = i
      · subst e2
        rw [List.getElem?_set_self jl] at es
        cases es
        rw [dot_negR, h.dual m m' r c er ec, if_neg e1]
        rfl
      · rw [List.getElem?_set_ne (fun w => e2 w.symm)] at es
        exact h.dual m m' r s er es
noncomputable def swp (a b m : Nat) : Nat := if m = b then a else if m = a then b else m
theorem swp_inj {a b m m' : Nat} : swp a b m = swp a b m' ↔ m = m' := by
  unfold swp
  repeat' split
  all_goals omega
theorem swap_is {L : LM} {a b : Nat} {x y : List Int} (ha : L[a]? = some x) (hb : L[b]? = some y) (m : Nat) : ((L.set a y).set b x)[m]? = L[swp a b m]? := by
  rw [swap_at ha hb]
  unfold swp
  repeat' split
  · rw [ha]
  · rw [hb]
  · rfl
theorem Ln.swap {d n : Nat} {cs L C : LM} {a b : Nat} {x y u v : List Int} (h : Ln d n cs L C) (ex : L[a]? = some x) (ey : L[b]? = some y) (eu : C[a]? = some u) (ev : C[b]? = some v) : Ln d n cs ((L.set a y).set b x) ((C.set a v).set b u) := by
  refine ⟨by rw [List.length_set, List.length_set]; exact h.len, fun r hr => h.wid r ((swap_mem ex ey r).mp hr), fun r hr => h.lin r ((swap_mem ex ey r).mp hr), fun z hz hv => h.inj z hz fun r hr => hv r ((swap_mem ex ey r).mpr hr),
    by rw [List.length_set, List.length_set]; exact h.clen, fun r hr => h.cwid r ((swap_mem eu ev r).mp hr), fun m m' r s er es => ?_⟩
  rw [swap_is ex ey] at er
  rw [swap_is eu ev] at es
  rw [h.dual _ _ r s er es]
  by_cases e : m = m'
  · rw [if_pos e, if_pos (swp_inj.mpr e)]
  · rw [if_neg e, if_neg (fun z => e (swp_inj.mp z))]
theorem swap_low {L : LM} {a b : Nat} {x y : List Int} (hab : a ≤ b) (ha : L[a]? = some x) (hb : L[b]? = some y) {m : Nat} {r : List Int} (hm : a ≤ m) (e : ((L.set a y).set b x)[m]? = some r) : ∃ m', a ≤ m' ∧ L[m']? = some r := by
  rw [swap_is ha hb] at e
  refine ⟨_, ?_, e⟩
  unfold swp
  repeat' split
  all_goals omega
structure Phs (k top E : Nat) (L : LM) (V M : Nat) : Prop where
  v : ∀ (i : Nat) r, top ≤ i → L[i]? = some r → (r.getD k 0).natAbs ≤ V
  big : ∀ (i : Nat) r, top ≤ i → L[i]? = some r → V < 2 * (r.getD k 0).natAbs → ∀ z ∈ r, z.natAbs ≤ M * E
  all : ∀ (i : Nat) r, top ≤ i → L[i]? = some r → ∀ z ∈ r, z.natAbs ≤ 3 * (M * E)
theorem Phs.less {k top E : Nat} {L : LM} {V M V1 : Nat} (h : Phs k top E L V M) (hv : ∀ (i : Nat) r, top ≤ i → L[i]? = some r → (r.getD k 0).natAbs ≤ V1) : Phs k top E L V1 (3 * M) :=
  ⟨hv, fun i r hi e _ z hz => by rw [Nat.mul_assoc]; exact h.all i r hi e z hz, fun i r hi e z hz => by
    have := h.all i r hi e z hz
    rw [Nat.mul_assoc]
    omega⟩
theorem cube_two {V1 V M P : Nat} (h : 2 * V1 ≤ V) (hP : M * V ^ 3 ≤ P) : 3 * M * V1 ^ 3 ≤ P := by
  have h1 : (2 * V1) ^ 3 ≤ V ^ 3 := Nat.pow_le_pow_left h 3
  rw [Nat.mul_pow] at h1
  have h2 := Nat.mul_le_mul_left M h1
  have e : M * (2 ^ 3 * V1 ^ 3) = 8 * (M * V1 ^ 3) := by rw [show (2 : Nat) ^ 3 = 8 from rfl, Nat.mul_left_comm]
  rw [e] at h2
  rw [Nat.mul_assoc]
  generalize M * V1 ^ 3 = x at *
  omega
theorem cube_q {q b V : Nat} (h2 : 2 * b ≤ V) (hq : 2 * (q * b) ≤ 2 * V + b) : (1 + 3 * q) * b ^ 3 ≤ V ^ 3 := by
  rcases Nat.lt_or_ge q 3 with h | h
  · have h1 : (2 * b) ^ 3 ≤ V ^ 3 := Nat.pow_le_pow_left h2 3
    rw [Nat.mul_pow] at h1
    refine Nat.le_trans (Nat.mul_le_mul_right _ ?_) h1
    show _ ≤ 8
    omega
  · have h1 : (2 * q - 1) * b ≤ 2 * V := by
      rw [Nat.sub_mul, Nat.one_mul, Nat.mul_assoc]
      omega
    have h3 : ((2 * q - 1) * b) ^ 3 ≤ (2 * V) ^ 3 := Nat.pow_le_pow_left h1 3
    rw [Nat.mul_pow, Nat.mul_pow] at h3
    have h4 : 8 * (1 + 3 * q) ≤ (2 * q - 1) ^ 3 := by
      have e : (2 * q - 1) ^ 3 = (2 * q - 1) * ((2 * q - 1) * (2 * q - 1)) := by rw [Nat.pow_succ, Nat.pow_two, Nat.mul_comm]
      have h5 : 5 * 5 ≤ (2 * q - 1) * (2 * q - 1) := Nat.mul_le_mul (by omega) (by omega)
      have h6 := Nat.mul_le_mul_left (2 * q - 1) h5
      rw [e]
      omega
    have h5 := Nat.mul_le_mul_right (b ^ 3) h4
    have e2 : (2 : Nat) ^ 3 = 8 := rfl
    rw [e2] at h3
    rw [Nat.mul_assoc] at h5
    generalize (1 + 3 * q) * b ^ 3 = x at *
    generalize V ^ 3 = y at *
    omega
theorem less_bd2 {M N : Nat} {x y : List Int} {q : Int} (hx : ∀ z ∈ x, z.natAbs ≤ M) (hy : ∀ z ∈ y, z.natAbs ≤ N) : ∀ z ∈ lessI x y q, z.natAbs ≤ M + q.natAbs * N := fun z hz => by
  unfold lessI at hz
  obtain ⟨i, hi, rfl⟩ := List.getElem_of_mem hz
  rw [List.getElem_zipWith]
  rw [List.length_zipWith] at hi
  have h1 := hx _ (List.getElem_mem (show i < x.length by omega))
  have h2 := hy _ (List.getElem_mem (show i < y.length by omega))
  have h3 := Int.natAbs_sub_le (x[i]'(by omega)) (q * y[i]'(by omega))
  rw [Int.natAbs_mul] at h3
  have h4 := Nat.mul_le_mul_left q.natAbs h2
  omega
theorem quo_le {a b q : Int} (hr : 2 * (a - q * b).natAbs ≤ b.natAbs) : 2 * (q.natAbs * b.natAbs) ≤ 2 * a.natAbs + b.natAbs := by
  rw [← Int.natAbs_mul]
  generalize q * b = x at *
  omega
theorem Phs.step1 {k top E : Nat} {L : LM} {V M P i j : Nat} {x y : List Int} {q : Int} (h : Phs k top E L V M) (hP : M * V ^ 3 ≤ P) (hi : top ≤ i) (hj : top ≤ j) (ne : i ≠ j) (ex : L[i]? = some x) (ey : L[j]? = some y) (kx : k < x.length) (ky : k < y.length)
    (hb : y.getD k 0 ≠ 0) (hab : (y.getD k 0).natAbs ≤ (x.getD k 0).natAbs) (hr : 2 * (x.getD k 0 - q * y.getD k 0).natAbs ≤ (y.getD k 0).natAbs)
    (mx : ∀ (m : Nat) r, top ≤ m → m ≠ i → L[m]? = some r → (r.getD k 0).natAbs ≤ (y.getD k 0).natAbs) (hbig : V < 2 * (x.getD k 0).natAbs) :
    ∃ V' M', 1 ≤ V' ∧ M' * V' ^ 3 ≤ P ∧ Phs k top E (L.set i (lessI x y q)) V' M' := by
  have il : i < L.length := (List.getElem?_eq_some_iff.mp ex).1
  have av := h.v i x hi ex
  have bp : 1 ≤ (y.getD k 0).natAbs := Int.natAbs_pos.mpr hb
  have qb := quo_le hr
  have atk : (lessI x y q).getD k 0 = x.getD k 0 - q * y.getD k 0 := less_at kx ky
  have ne' : ∀ {m : Nat} {r : List Int}, m ≠ i → (L.set i (lessI x y q))[m]? = some r → L[m]? = some r := fun hm e => by rw [List.getElem?_set_ne (Ne.symm hm)] at e; exact e
  have eq' : ∀ {r : List Int}, (L.set i (lessI x y q))[i]? = some r → r = lessI x y q := fun e => by rw [List.getElem?_set_self il] at e; exact (Option.some.inj e).symm
  have bx := h.big i x hi ex hbig
  rcases Nat.lt_or_ge V (2 * (y.getD k 0).natAbs) with hy | hy
  · have bY := h.big j y hj ey hy
    have q2 : q.natAbs ≤ 2 := by
      rcases Nat.lt_or_ge q.natAbs 3 with w | w
      · omega
      · have := Nat.mul_le_mul_right (y.getD k 0).natAbs w
        omega
    refine ⟨V, M, by omega, hP, ⟨fun m r hm e => ?_, fun m r hm e hv => ?_, fun m r hm e => ?_⟩⟩
    · by_cases c : m = i
      · subst c; rw [eq' e, atk]; omega
      · exact h.v m r hm (ne' c e)
    · by_cases c : m = i
      · subst c; rw [eq' e, atk] at hv; omega
      · exact h.big m r hm (ne' c e) hv
    · by_cases c : m = i
      · subst c
        rw [eq' e]
        intro z hz
        have := less_bd2 (q := q) bx bY z hz
        have := Nat.mul_le_mul_right (M * E) q2
        omega
      · exact h.all m r hm (ne' c e)
  · have bY := h.all j y hj ey
    have q1 : 1 ≤ q.natAbs := step_up hb hab hr
    have row : ∀ z ∈ lessI x y q, z.natAbs ≤ M * (1 + 3 * q.natAbs) * E := fun z hz => by
      have h1 := less_bd2 (q := q) bx bY z hz
      have e : M * (1 + 3 * q.natAbs) * E = M * E + q.natAbs * (3 * (M * E)) := by
        rw [Nat.mul_assoc, Nat.mul_comm (1 + 3 * q.natAbs) E, ← Nat.mul_assoc, Nat.mul_add, Nat.mul_one, Nat.mul_comm (M * E) (3 * q.natAbs), Nat.mul_comm 3 q.natAbs, Nat.mul_assoc]
      omega
    have oth : ∀ {z : Int}, z.natAbs ≤ 3 * (M * E) → z.natAbs ≤ M * (1 + 3 * q.natAbs) * E := fun {z} hz => by
      have e : M * (1 + 3 * q.natAbs) * E = (1 + 3 * q.natAbs) * (M * E) := by rw [Nat.mul_comm M, Nat.mul_assoc]
      have := Nat.mul_le_mul_right (M * E) (show 3 ≤ 1 + 3 * q.natAbs by omega)
      omega
    have every : ∀ (m : Nat) r, top ≤ m → (L.set i (lessI x y q))[m]? = some r → ∀ z ∈ r, z.natAbs ≤ M * (1 + 3 * q.natAbs) * E := fun m r hm e => by
      by_cases c : m = i
      · subst c; rw [eq' e]; exact row
      · exact fun z hz => oth (h.all m r hm (ne' c e) z hz)
    refine ⟨(y.getD k 0).natAbs, M * (1 + 3 * q.natAbs), bp, ?_, ⟨fun m r hm e => ?_, fun m r hm e _ => every m r hm e, fun m r hm e z hz => ?_⟩⟩
    · refine Nat.le_trans ?_ hP
      rw [Nat.mul_assoc]
      exact Nat.mul_le_mul_left _ (cube_q hy (by omega))
    · by_cases c : m = i
      · subst c; rw [eq' e, atk]; omega
      · exact mx m r hm c (ne' c e)
    · have := every m r hm e z hz
      omega
theorem Phs.step {k top E : Nat} {L : LM} {V M P i j : Nat} {x y : List Int} {q : Int} (h : Phs k top E L V M) (hP : M * V ^ 3 ≤ P) (hi : top ≤ i) (hj : top ≤ j) (ne : i ≠ j) (ex : L[i]? = some x) (ey : L[j]? = some y) (kx : k < x.length) (ky : k < y.length)
    (hb : y.getD k 0 ≠ 0) (hab : (y.getD k 0).natAbs ≤ (x.getD k 0).natAbs) (hr : 2 * (x.getD k 0 - q * y.getD k 0).natAbs ≤ (y.getD k 0).natAbs)
    (mx : ∀ (m : Nat) r, top ≤ m → m ≠ i → L[m]? = some r → (r.getD k 0).natAbs ≤ (y.getD k 0).natAbs) :
    ∃ V' M', 1 ≤ V' ∧ M' * V' ^ 3 ≤ P ∧ Phs k top E (L.set i (lessI x y q)) V' M' := by
  have bp : 1 ≤ (y.getD k 0).natAbs := Int.natAbs_pos.mpr hb
  rcases Nat.lt_or_ge V (2 * (x.getD k 0).natAbs) with w | w
  · exact h.step1 hP hi hj ne ex ey kx ky hb hab hr mx w
  · refine (h.less (V1 := (x.getD k 0).natAbs) fun m r hm e => ?_).step1 (cube_two w hP) hi hj ne ex ey kx ky hb hab hr mx (by omega)
    by_cases c : m = i
    · subst c
      rw [ex] at e
      cases e
      exact Nat.le_refl _
    · exact Nat.le_trans (mx m r hm c e) hab
theorem Phs.start {k top b : Nat} {L : LM} (h : ∀ (i : Nat) r, top ≤ i → L[i]? = some r → ∀ z ∈ r, z.natAbs ≤ 2 ^ b) : Phs k top (2 ^ b) L (2 ^ b) 1 :=
  ⟨fun i r hi e => getD_le (h i r hi e), fun i r hi e _ z hz => by rw [Nat.one_mul]; exact h i r hi e z hz, fun i r hi e z hz => by have := h i r hi e z hz; omega⟩
theorem Phs.end {k top b : Nat} {L : LM} {V M : Nat} (h : Phs k top (2 ^ b) L V M) (hV : 1 ≤ V) (hP : M * V ^ 3 ≤ 2 ^ (3 * b)) : ∀ (i : Nat) r, top ≤ i → L[i]? = some r → ∀ z ∈ r, z.natAbs ≤ 2 ^ (4 * b + 2) := fun i r hi e z hz => by
  have h1 := h.all i r hi e z hz
  have h2 : M ≤ 2 ^ (3 * b) := Nat.le_trans (Nat.le_mul_of_pos_right _ (Nat.pow_pos hV)) hP
  have h3 := Nat.mul_le_mul_right (2 ^ b) h2
  rw [← Nat.pow_add, show 3 * b + b = 4 * b by omega] at h3
  have e4 : 2 ^ (4 * b + 2) = 4 * 2 ^ (4 * b) := by rw [Nat.pow_add]; omega
  omega
structure Gm (d n k top : Nat) (cs : LM) (b c : Nat) (L0 L C : LM) (F : Nat) : Prop where
  ln : Ln d n cs L C
  f1 : 1 ≤ F
  keep : ∀ i, i < top → L[i]? = L0[i]?
  zero : ∀ (i : Nat) r, top ≤ i → L[i]? = some r → ∀ m, m < k → r.getD m 0 = 0
  ph : ∃ V M, 1 ≤ V ∧ M * V ^ 3 ≤ 2 ^ (3 * b) ∧ Phs k top (2 ^ b) L V M
  bc : BdM (F * 2 ^ c) C
theorem Gm.bs {d n k top : Nat} {cs : LM} {b c : Nat} {L0 L C : LM} {F : Nat} (h : Gm d n k top cs b c L0 L C F) : ∀ (i : Nat) r, top ≤ i → L[i]? = some r → ∀ z ∈ r, z.natAbs ≤ 2 ^ (4 * b + 2) := let ⟨_, _, h1, h2, h3⟩ := h.ph; h3.end h1 h2
theorem Gm.step {d n k top : Nat} {cs : LM} {b c : Nat} {L0 L C : LM} {F i j : Nat} {x y ci cj : List Int} {q : Int} (h : Gm d n k top cs b c L0 L C F) (hk : k < d)
    (hi : top ≤ i) (hj : top ≤ j) (ne : i ≠ j) (ex : L[i]? = some x) (ey : L[j]? = some y) (ei : C[i]? = some ci) (ej : C[j]? = some cj)
    (hb : y.getD k 0 ≠ 0) (hab : (y.getD k 0).natAbs ≤ (x.getD k 0).natAbs) (hr : 2 * (x.getD k 0 - q * y.getD k 0).natAbs ≤ (y.getD k 0).natAbs) (mxk : ∀ (m : Nat) r, top ≤ m → m ≠ i → L[m]? = some r → (r.getD k 0).natAbs ≤ (y.getD k 0).natAbs) :
    Gm d n k top cs b c L0 (L.set i (lessI x y q)) (C.set j (lessI cj ci (-q))) ((1 + q.natAbs) * F) := by
  have mx : x ∈ L := List.mem_of_getElem? ex
  have my : y ∈ L := List.mem_of_getElem? ey
  have mi : ci ∈ C := List.mem_of_getElem? ei
  have mj : cj ∈ C := List.mem_of_getElem? ej
  have wx := h.ln.wid x mx
  have wy := h.ln.wid y my
  have il : i < L.length := (List.getElem?_eq_some_iff.mp ex).1
  have one : 1 * F ≤ (1 + q.natAbs) * F := Nat.mul_le_mul_right _ (by omega)
  rw [Nat.one_mul] at one
  have f1 := h.f1
  refine ⟨h.ln.take ne ex ey ei ej, by omega, fun m hm => ?_, fun m r hm er z hz => ?_, ?_, ?_⟩
  · rw [List.getElem?_set_ne (by omega)]; exact h.keep m hm
  · by_cases e : m = i
    · subst e
      rw [List.getElem?_set_self il] at er
      cases er
      rw [less_at (by omega) (by omega), h.zero m x hm ex z hz, h.zero j y hj ey z hz]
      simp
    · rw [List.getElem?_set_ne (fun w => e w.symm)] at er
      exact h.zero m r hm er z hz
  · obtain ⟨V, M, _, hP, ph⟩ := h.ph
    exact ph.step hP hi hj ne ex ey (by omega) (by omega) hb hab hr mxk
  · have := step_bd (i := j) (q := -q) h.bc mj mi
    rw [Int.natAbs_neg] at this
    rw [Nat.mul_assoc]; exact this
theorem Gm.swap {d n k top : Nat} {cs : LM} {b c : Nat} {L0 L C : LM} {F p : Nat} {x y u v : List Int} (h : Gm d n k top cs b c L0 L C F) (hp : top ≤ p) (ex : L[top]? = some x) (ey : L[p]? = some y) (eu : C[top]? = some u) (ev : C[p]? = some v) :
    Gm d n k top cs b c L0 ((L.set top y).set p x) ((C.set top v).set p u) F := by
  refine ⟨h.ln.swap ex ey eu ev, h.f1, fun m hm => ?_, fun m r hm e => ?_, ?_, fun r hr => h.bc r ((swap_mem eu ev r).mp hr)⟩
  · rw [swap_at ex ey, if_neg (by omega), if_neg (by omega)]; exact h.keep m hm
  · obtain ⟨m', h1, h2⟩ := swap_low hp ex ey hm e
    exact h.zero m' r h1 h2
  · obtain ⟨V, M, h1, h2, h3⟩ := h.ph
    refine ⟨V, M, h1, h2, fun m r hm e => ?_, fun m r hm e => ?_, fun m r hm e => ?_⟩
    · obtain ⟨m', q1, q2⟩ := swap_low hp ex ey hm e
      exact h3.v m' r q1 q2
    · obtain ⟨m', q1, q2⟩ := swap_low hp ex ey hm e
      exact h3.big m' r q1 q2
    · obtain ⟨m', q1, q2⟩ := swap_low hp ex ey hm e
      exact h3.all m' r q1 q2
noncomputable def Gat (b : Bool) (k top : Nat) (L : LM) : Prop :=
  (b = true ∧ (∃ r, L[top]? = some r ∧ r.getD k 0 ≠ 0) ∧ ∀ (i : Nat) r, top < i → L[i]? = some r → r.getD k 0 = 0) ∨ (b = false ∧ ∀ (i : Nat) r, top ≤ i → L[i]? = some r → r.getD k 0 = 0)
structure Ec (d n k : Nat) (cs : LM) (ks : List Nat) (b u c : Nat) (L C : LM) : Prop where
  ln : Ln d n cs L C
  kn : ks.length ≤ n
  ksS : ks.Pairwise (· < ·)
  ksK : ∀ j ∈ ks, j < k
  lead : ∀ (i : Nat) r j, L[i]? = some r → ks[i]? = some j → 0 < r.getD j 0 ∧ ∀ m, m < j → r.getD m 0 = 0
  above : ∀ (i i' : Nat) r r' j, i' < i → L[i]? = some r → L[i']? = some r' → ks[i]? = some j → 0 ≤ r'.getD j 0 ∧ r'.getD j 0 < r.getD j 0
  zero : ∀ (i : Nat) r, ks.length ≤ i → L[i]? = some r → ∀ m, m < k → r.getD m 0 = 0
  bs : ∀ (i : Nat) r, ks.length ≤ i → L[i]? = some r → ∀ z ∈ r, z.natAbs ≤ 2 ^ b
  bl : BdM (2 ^ u) L
  bc : BdM (2 ^ c) C
theorem Ec.gm {d n k : Nat} {cs : LM} {ks : List Nat} {b u c : Nat} {L C : LM} (h : Ec d n k cs ks b u c L C) : Gm d n k ks.length cs b c L L C 1 :=
  ⟨h.ln, Nat.le_refl _, fun _ _ => rfl, h.zero, ⟨2 ^ b, 1, Nat.two_pow_pos b, by rw [Nat.one_mul, ← Nat.pow_mul, Nat.mul_comm]; exact Nat.le_refl _, Phs.start h.bs⟩, by rw [Nat.one_mul]; exact h.bc⟩
theorem Ec.no {d n k : Nat} {cs : LM} {ks : List Nat} {b u c : Nat} {L C : LM} (h : Ec d n k cs ks b u c L C) (g : ∀ (i : Nat) r, ks.length ≤ i → L[i]? = some r → r.getD k 0 = 0) : Ec d n (k + 1) cs ks b u c L C :=
  ⟨h.ln, h.kn, h.ksS, fun j hj => Nat.lt_succ_of_lt (h.ksK j hj), h.lead, h.above, fun i r hi er m hm => by
    rcases Nat.lt_or_ge m k with q | q
    · exact h.zero i r hi er m q
    · rw [show m = k by omega]; exact g i r hi er, h.bs, h.bl, h.bc⟩
structure Sl (d n k : Nat) (cs : LM) (ks : List Nat) (b u c : Nat) (i : Nat) (L C : LM) : Prop where
  ln : Ln d n cs L C
  tn : ks.length < n
  ksS : ks.Pairwise (· < ·)
  ksK : ∀ j ∈ ks, j < k
  lead : ∀ (m : Nat) r j, L[m]? = some r → ks[m]? = some j → 0 < r.getD j 0 ∧ ∀ m', m' < j → r.getD m' 0 = 0
  above : ∀ (m m' : Nat) r r' j, m' < m → L[m]? = some r → L[m']? = some r' → ks[m]? = some j → 0 ≤ r'.getD j 0 ∧ r'.getD j 0 < r.getD j 0
  topl : ∀ r, L[ks.length]? = some r → r.getD k 0 ≠ 0
  done : ∀ (m : Nat) r r', m < i → L[m]? = some r' → L[ks.length]? = some r → 0 ≤ r'.getD k 0 ∧ r'.getD k 0 < r.getD k 0
  low : ∀ (m : Nat) r, ks.length ≤ m → L[m]? = some r → ∀ m', m' < k → r.getD m' 0 = 0
  zero : ∀ (m : Nat) r, ks.length < m → L[m]? = some r → r.getD k 0 = 0
  bs : ∀ (m : Nat) r, ks.length ≤ m → L[m]? = some r → ∀ z ∈ r, z.natAbs ≤ 2 ^ b
  bu : ∀ (m : Nat) r, i ≤ m → m < ks.length → L[m]? = some r → ∀ z ∈ r, z.natAbs ≤ 2 ^ u
  bl : ∀ (m : Nat) r, m < i → L[m]? = some r → ∀ z ∈ r, z.natAbs ≤ 2 ^ (u + b + 1)
  bc : ∀ (m : Nat) s, m ≠ ks.length → C[m]? = some s → ∀ z ∈ s, z.natAbs ≤ 2 ^ c
  bt : ∀ s, C[ks.length]? = some s → ∀ z ∈ s, z.natAbs ≤ 2 ^ c * (1 + i * 2 ^ u)
theorem grow_le {F g b z : Nat} (h : z ≤ F * 2 ^ b) (hF : F ≤ 2 ^ g) : z ≤ 2 ^ (b + g) := by
  rw [Nat.add_comm, Nat.pow_add]
  exact Nat.le_trans h (Nat.mul_le_mul_right _ hF)
theorem Ec.yes {d n k : Nat} {cs : LM} {ks : List Nat} {b u c g : Nat} {L C L' C' : LM} {F : Nat} {x : List Int} (h : Ec d n k cs ks b u c L C) (m : Gm d n k ks.length cs b c L L' C' F) (hF : F ≤ 2 ^ g)
    (ex : L'[ks.length]? = some x) (nz : x.getD k 0 ≠ 0) (ga : ∀ (i : Nat) r, ks.length < i → L'[i]? = some r → r.getD k 0 = 0) : Sl d n k cs ks (4 * b + 2) u (c + g) 0 L' C' := by
  have tl := (List.getElem?_eq_some_iff.mp ex).1
  have ln := m.ln.len
  have up : ∀ {i : Nat} {r : List Int}, i < ks.length → L'[i]? = some r → L[i]? = some r := fun hi e => by rw [← m.keep _ hi]; exact e
  have kl : ∀ {i j : Nat}, ks[i]? = some j → i < ks.length := fun e => (List.getElem?_eq_some_iff.mp e).1
  refine ⟨m.ln, by omega, h.ksS, h.ksK, fun i r j er ej => h.lead i r j (up (kl ej) er) ej, fun i i' r r' j hi er er' ej => h.above i i' r r' j hi (up (kl ej) er) (up (Nat.lt_trans hi (kl ej)) er') ej, fun r er => ?_, fun i r r' hi => by omega, m.zero, ga,
    m.bs, fun i r _ hi er => h.bl r (List.mem_of_getElem? (up hi er)), fun i r hi => by omega, fun i s _ es z hz => grow_le (m.bc s (List.mem_of_getElem? es) z hz) hF, fun s es z hz => ?_⟩
  · rw [ex] at er
    cases er
    exact nz
  · rw [Nat.zero_mul, Nat.add_zero, Nat.mul_one]
    exact grow_le (m.bc s (List.mem_of_getElem? es) z hz) hF
theorem Sl.neg {d n k : Nat} {cs : LM} {ks : List Nat} {b u c : Nat} {L C : LM} {x s : List Int} (h : Sl d n k cs ks b u c 0 L C) (ex : L[ks.length]? = some x) (es : C[ks.length]? = some s) :
    Sl d n k cs ks b u c 0 (L.set ks.length (x.map fun z => -z)) (C.set ks.length (s.map fun z => -z)) := by
  have tl := (List.getElem?_eq_some_iff.mp ex).1
  have cl := (List.getElem?_eq_some_iff.mp es).1
  have kl : ∀ {i j : Nat}, ks[i]? = some j → i < ks.length := fun e => (List.getElem?_eq_some_iff.mp e).1
  have ne : ∀ {i : Nat} {r : List Int}, i ≠ ks.length → (L.set ks.length (x.map fun z => -z))[i]? = some r → L[i]? = some r := fun hi e => by rw [List.getElem?_set_ne (Ne.symm hi)] at e; exact e
  have eq : ∀ {r : List Int}, (L.set ks.length (x.map fun z => -z))[ks.length]? = some r → r = x.map fun z => -z := fun e => by rw [List.getElem?_set_self tl] at e; exact (Option.some.inj e).symm
  have na : ∀ {M : Nat} {y : List Int}, (∀ z ∈ y, z.natAbs ≤ M) → ∀ z ∈ y.map fun z => -z, z.natAbs ≤ M := fun hy z hz => by
    obtain ⟨z', hz', rfl⟩ := List.mem_map.mp hz
    rw [Int.natAbs_neg]
    exact hy z' hz'
  refine ⟨h.ln.neg ex es, h.tn, h.ksS, h.ksK, fun m r j er ej => h.lead m r j (ne (Nat.ne_of_lt (kl ej)) er) ej, fun m m' r r' j hm er er' ej => h.above m m' r r' j hm (ne (Nat.ne_of_lt (kl ej)) er) (ne (Nat.ne_of_lt (Nat.lt_trans hm (kl ej))) er') ej, fun r er => ?_, fun m r r' hm => by omega,
    fun m r hm er m' hm' => ?_, fun m r hm er => h.zero m r hm (ne (by omega) er), fun m r hm er => ?_, fun m r h0 hm er => h.bu m r h0 hm (ne (by omega) er), fun m r hm => by omega, fun m s' hm es' => ?_, fun s' es' => ?_⟩
  · rw [eq er, neg_at]
    have := h.topl x ex
    omega
  · by_cases e : m = ks.length
    · subst e
      rw [eq er, neg_at, h.low _ x hm ex m' hm']
      rfl
    · exact h.low m r hm (ne e er) m' hm'
  · by_cases e : m = ks.length
    · subst e
      rw [eq er]
      exact na (h.bs _ x hm ex)
    · exact h.bs m r hm (ne e er)
  · rw [List.getElem?_set_ne (Ne.symm hm)] at es'
    exact h.bc m s' hm es'
  · rw [List.getElem?_set_self cl] at es'
    cases es'
    exact na (h.bt s es)
theorem fdiv_rest {a b : Int} (hb : 0 < b) : 0 ≤ a - a.fdiv b * b ∧ a - a.fdiv b * b < b := by
  have h1 := Int.mul_fdiv_add_fmod a b
  have h2 := Int.fmod_nonneg_of_pos a hb
  have h3 := Int.fmod_lt_of_pos a hb
  rw [Int.mul_comm] at h1
  omega
theorem Sl.take {d n k : Nat} {cs : LM} {ks : List Nat} {b u c i : Nat} {L C : LM} {x y ci cj : List Int} (h : Sl d n k cs ks b u c i L C) (hi : i < ks.length) (hk : k < d) (ex : L[i]? = some x) (ey : L[ks.length]? = some y) (ei : C[i]? = some ci) (ej : C[ks.length]? = some cj)
    (pos : 0 < y.getD k 0) : Sl d n k cs ks b u c (i + 1) (L.set i (lessI x y ((x.getD k 0).fdiv (y.getD k 0)))) (C.set ks.length (lessI cj ci (-((x.getD k 0).fdiv (y.getD k 0))))) := by
  have il : i < L.length := (List.getElem?_eq_some_iff.mp ex).1
  have cl := (List.getElem?_eq_some_iff.mp ej).1
  have kl : ∀ {i j : Nat}, ks[i]? = some j → i < ks.length := fun e => (List.getElem?_eq_some_iff.mp e).1
  have mx := List.mem_of_getElem? ex
  have my := List.mem_of_getElem? ey
  have wx := h.ln.wid x mx
  have wy := h.ln.wid y my
  have bq : ((x.getD k 0).fdiv (y.getD k 0)).natAbs ≤ 2 ^ u := Nat.le_trans (nat_fdiv_le _ _ pos) (getD_le (h.bu i x (Nat.le_refl _) hi ex))
  have rs := fdiv_rest (a := x.getD k 0) pos
  have ln := h.ln.take (q := (x.getD k 0).fdiv (y.getD k 0)) (Nat.ne_of_lt hi) ex ey ei ej
  have atk : (lessI x y ((x.getD k 0).fdiv (y.getD k 0))).getD k 0 = x.getD k 0 - (x.getD k 0).fdiv (y.getD k 0) * y.getD k 0 := less_at (by omega) (by omega)
  generalize (x.getD k 0).fdiv (y.getD k 0) = q at *
  have ne : ∀ {m : Nat} {r : List Int}, m ≠ i → (L.set i (lessI x y q))[m]? = some r → L[m]? = some r := fun hm e => by rw [List.getElem?_set_ne (Ne.symm hm)] at e; exact e
  have eq : ∀ {r : List Int}, (L.set i (lessI x y q))[i]? = some r → r = lessI x y q := fun e => by rw [List.getElem?_set_self il] at e; exact (Option.some.inj e).symm
  have same : ∀ m', m' < k → (lessI x y q).getD m' 0 = x.getD m' 0 := fun m' hm' => by
    rw [less_at (by omega) (by omega), h.low _ y (Nat.le_refl _) ey m' hm', Int.mul_zero, Int.sub_zero]
  have tb : ∀ {m : Nat} {r : List Int}, (L.set i (lessI x y q))[m]? = some r → ∃ r0, L[m]? = some r0 ∧ ∀ m', m' < k → r.getD m' 0 = r0.getD m' 0 := fun {m r} e => by
    by_cases hm : m = i
    · subst hm
      exact ⟨x, ex, fun m' hm' => by rw [eq e, same m' hm']⟩
    · exact ⟨r, ne hm e, fun _ _ => rfl⟩
  refine ⟨ln, h.tn, h.ksS, h.ksK, fun m r j er ej' => ?_, fun m m' r r' j hm er er' ej' => ?_, fun r er => h.topl r (ne (by omega) er), fun m r r' hm er' er => ?_, fun m r hm er => h.low m r hm (ne (by omega) er), fun m r hm er => h.zero m r hm (ne (by omega) er),
    fun m r hm er => h.bs m r hm (ne (by omega) er), fun m r h0 hm er => h.bu m r (by omega) hm (ne (by omega) er), fun m r hm er => ?_, fun m s hm es => ?_, fun s es => ?_⟩
  · have jk := h.ksK j (List.mem_of_getElem? ej')
    obtain ⟨r0, e0, sm⟩ := tb er
    obtain ⟨l1, l2⟩ := h.lead m r0 j e0 ej'
    exact ⟨by rw [sm j jk]; exact l1, fun m' hm' => by rw [sm m' (by omega)]; exact l2 m' hm'⟩
  · have jk := h.ksK j (List.mem_of_getElem? ej')
    obtain ⟨r0, e0, sm⟩ := tb er
    obtain ⟨r1, e1, sm1⟩ := tb er'
    rw [sm j jk, sm1 j jk]
    exact h.above m m' r0 r1 j hm e0 e1 ej'
  · have er2 := ne (by omega) er
    rw [ey] at er2
    cases er2
    by_cases e : m = i
    · subst e
      rw [eq er', atk]
      exact rs
    · exact h.done m y r' (by omega) (ne e er') ey
  · by_cases e : m = i
    · subst e
      rw [eq er]
      intro z hz
      obtain ⟨j, hj, rfl⟩ := List.getElem_of_mem hz
      unfold lessI at hj ⊢
      rw [List.length_zipWith] at hj
      rw [List.getElem_zipWith]
      have b1 := h.bu m x (Nat.le_refl _) hi ex _ (List.getElem_mem (show j < x.length by omega))
      have b2 := h.bs _ y (Nat.le_refl _) ey _ (List.getElem_mem (show j < y.length by omega))
      have h3 := Int.natAbs_sub_le (x[j]'(by omega)) (q * y[j]'(by omega))
      rw [Int.natAbs_mul] at h3
      have h4 := Nat.mul_le_mul bq b2
      rw [← Nat.pow_add] at h4
      have h5 : 2 ^ u ≤ 2 ^ (u + b) := Nat.pow_le_pow_right (by decide) (by omega)
      rw [Nat.pow_succ]
      omega
    · exact h.bl m r (by omega) (ne e er)
  · rw [List.getElem?_set_ne (Ne.symm hm)] at es
    exact h.bc m s hm es
  · rw [List.getElem?_set_self cl] at es
    cases es
    intro z hz
    obtain ⟨j, hj, rfl⟩ := List.getElem_of_mem hz
    unfold lessI at hj ⊢
    rw [List.length_zipWith] at hj
    rw [List.getElem_zipWith]
    have b1 := h.bt cj ej _ (List.getElem_mem (show j < cj.length by omega))
    have b2 := h.bc i ci (by omega) ei _ (List.getElem_mem (show j < ci.length by omega))
    have h3 := Int.natAbs_sub_le (cj[j]'(by omega)) (-q * ci[j]'(by omega))
    rw [Int.natAbs_mul, Int.natAbs_neg] at h3
    have h4 := Nat.mul_le_mul bq b2
    have e : 2 ^ c * (1 + (i + 1) * 2 ^ u) = 2 ^ c * (1 + i * 2 ^ u) + 2 ^ u * 2 ^ c := by
      rw [Nat.add_mul, Nat.one_mul, ← Nat.add_assoc, Nat.mul_add (2 ^ c) (1 + i * 2 ^ u) (2 ^ u), Nat.mul_comm (2 ^ c) (2 ^ u)]
    rw [e]
    omega
theorem Sl.end {d n k : Nat} {cs : LM} {ks : List Nat} {b u c : Nat} {L C : LM} (h : Sl d n k cs ks b u c ks.length L C) (hn : n ≤ 63) (pos : ∀ r, L[ks.length]? = some r → 0 < r.getD k 0) :
    Ec d n (k + 1) cs (ks ++ [k]) b (u + b + 1) (c + u + 6) L C := by
  have kl : ∀ {i j : Nat}, (ks ++ [k])[i]? = some j → i < ks.length ∧ ks[i]? = some j ∨ i = ks.length ∧ j = k := fun {i j} e => by
    rcases Nat.lt_trichotomy i ks.length with q | q | q
    · rw [List.getElem?_append_left q] at e; exact .inl ⟨q, e⟩
    · subst q; rw [List.getElem?_append_right (Nat.le_refl _), Nat.sub_self] at e; exact .inr ⟨rfl, (Option.some.inj e).symm⟩
    · rw [List.getElem?_append_right (by omega), List.getElem?_eq_none (by simp; omega)] at e; cases e
  have tn := h.tn
  refine ⟨h.ln, by simp; omega, List.pairwise_append.mpr ⟨h.ksS, List.pairwise_singleton _ _, fun a ha b hb => by rw [List.mem_singleton.mp hb]; exact h.ksK a ha⟩, fun j hj => ?_, fun i r j er ej => ?_, fun i i' r r' j hi er er' ej => ?_, fun i r hi er m hm => ?_, fun i r hi er => h.bs i r (by simp at hi; omega) er, fun r hr z hz => ?_, fun s hs z hz => ?_⟩
  · rcases List.mem_append.mp hj with e | e
    · exact Nat.lt_succ_of_lt (h.ksK j e)
    · rw [List.mem_singleton.mp e]; omega
  · rcases kl ej with ⟨_, q⟩ | ⟨rfl, rfl⟩
    · exact h.lead i r j er q
    · exact ⟨pos r er, h.low _ r (Nat.le_refl _) er⟩
  · rcases kl ej with ⟨_, q⟩ | ⟨rfl, rfl⟩
    · exact h.above i i' r r' j hi er er' q
    · exact h.done i' r r' hi er' er
  · simp at hi
    rcases Nat.lt_or_ge m k with q | q
    · exact h.low i r (by omega) er m q
    · rw [show m = k by omega]; exact h.zero i r (by omega) er
  · obtain ⟨m, hm, rfl⟩ := List.getElem_of_mem hr
    have er := List.getElem?_eq_getElem hm
    rcases Nat.lt_or_ge m ks.length with q | q
    · exact h.bl m _ q er z hz
    · exact Nat.le_trans (h.bs m _ q er z hz) (Nat.pow_le_pow_right (by decide) (by omega))
  · obtain ⟨m, hm, rfl⟩ := List.getElem_of_mem hs
    have es := List.getElem?_eq_getElem hm
    by_cases e : m = ks.length
    · subst e
      refine Nat.le_trans (h.bt _ es z hz) ?_
      have p : 1 ≤ 2 ^ u := Nat.two_pow_pos u
      have l1 : ks.length * 2 ^ u ≤ 63 * 2 ^ u := Nat.mul_le_mul_right _ (by omega)
      have l2 : 1 + ks.length * 2 ^ u ≤ 2 ^ (u + 6) := by rw [Nat.pow_add]; omega
      rw [show c + u + 6 = c + (u + 6) by omega, Nat.pow_add]
      exact Nat.mul_le_mul_left _ l2
    · exact Nat.le_trans (h.bc m _ e es z hz) (Nat.pow_le_pow_right (by decide) (by omega))
noncomputable def bR (n B : Nat) : Nat → Nat
  | 0 => B
  | t + 1 => 4 * bR n B t + 2
noncomputable def uR (n B : Nat) : Nat → Nat
  | 0 => B
  | t + 1 => uR n B t + bR n B (t + 1) + 1
noncomputable def cR (n B : Nat) : Nat → Nat
  | 0 => B
  | t + 1 => cR n B t + (n - t) * (bR n B t + 1) + uR n B t + 6
noncomputable def bS : Nat := 33554432
noncomputable def uS : Nat := 1048576
noncomputable def FitS (n d B : Nat) : Prop := ∀ t, t ≤ n → t ≤ d → uR n B t ≤ uS ∧ cR n B t ≤ bS
theorem bR_le (n B : Nat) : ∀ t, bR n B t ≤ uR n B t
  | 0 => Nat.le_refl _
  | t + 1 => by show _ ≤ uR n B t + bR n B (t + 1) + 1; omega
noncomputable def unitI (n i : Nat) : List Int := (List.range n).map fun k => if i = k then (1 : Int) else 0
theorem unit_len (n i : Nat) : (unitI n i).length = n := by simp [unitI]
theorem unit_at {n i k : Nat} (h : k < n) : (unitI n i).getD k 0 = if i = k then 1 else 0 := by
  unfold unitI
  rw [List.getD_eq_getElem?_getD, List.getElem?_map, List.getElem?_range h]
  rfl
theorem dot_zero : ∀ (x v : List Int), (∀ z ∈ x, z = 0) → dotI x v = 0
  | [], v, _ => by simp [dotI]
  | a :: x, [], _ => by simp [dotI]
  | a :: x, b :: v, h => by
    have ih := dot_zero x v fun z hz => h z (List.mem_cons_of_mem _ hz)
    have e := h a (List.mem_cons_self ..)
    simp only [dotI, List.zipWith_cons_cons, List.sum_cons] at ih ⊢
    rw [ih, e]
    simp
theorem dot_unit : ∀ (v : List Int) (i : Nat), dotI (unitI v.length i) v = v.getD i 0
  | [], i => by simp [dotI, unitI]
  | b :: v, 0 => by
    have e : unitI (b :: v).length 0 = 1 :: (List.range v.length).map fun _ => (0 : Int) := by
      unfold unitI
      rw [List.length_cons, List.range_succ_eq_map, List.map_cons, List.map_map]
      congr 1
    rw [e]
    have z := dot_zero ((List.range v.length).map fun _ => (0 : Int)) v fun z hz => by
      obtain ⟨_, _, rfl⟩ := List.mem_map.mp hz
      rfl
    simp only [dotI, List.zipWith_cons_cons, List.sum_cons] at z ⊢
    rw [z]
    simp
  | b :: v, i + 1 => by
    have e : unitI (b :: v).length (i + 1) = 0 :: unitI v.length i := by
      unfold unitI
      rw [List.length_cons, List.range_succ_eq_map, List.map_cons, List.map_map]
      congr 1
      refine List.map_congr_left fun k _ => ?_
      show (if i + 1 = k + 1 then (1 : Int) else 0) = if i = k then 1 else 0
      by_cases q : i = k
      · rw [if_pos q, if_pos (by omega)]
      · rw [if_neg q, if_neg (by omega)]
    rw [e]
    have ih := dot_unit v i
    simp only [dotI, List.zipWith_cons_cons, List.sum_cons] at ih ⊢
    rw [ih]
    simp
theorem idM_at {n i : Nat} {r : List Int} (e : (idM n)[i]? = some r) : i < n ∧ r = unitI n i := by
  have hi : i < n := by have := (List.getElem?_eq_some_iff.mp e).1; simpa [idM] using this
  refine ⟨hi, ?_⟩
  unfold idM at e
  rw [List.getElem?_map, List.getElem?_range hi] at e
  exact (Option.some.inj e).symm
theorem idM_get {n i : Nat} (h : i < n) : (idM n)[i]? = some (unitI n i) := by
  unfold idM
  rw [List.getElem?_map, List.getElem?_range h]
  rfl
noncomputable def colsM (d : Nat) (A : LM) : LM := (List.range d).map fun k => colI k A
theorem colI_len (k : Nat) (A : LM) : (colI k A).length = A.length := by simp [colI]
theorem colI_at {k i : Nat} {A : LM} {r : List Int} (e : A[i]? = some r) : (colI k A).getD i 0 = r.getD k 0 := by
  unfold colI
  rw [List.getD_eq_getElem?_getD, List.getElem?_map, e]
  rfl
theorem getD_ext {x y : List Int} (h : x.length = y.length) (e : ∀ i, i < x.length → x.getD i 0 = y.getD i 0) : x = y := by
  refine List.ext_getElem h fun i h1 h2 => ?_
  have := e i h1
  rw [List.getD_eq_getElem?_getD, List.getD_eq_getElem?_getD, List.getElem?_eq_getElem h1, List.getElem?_eq_getElem h2] at this
  exact this
theorem rowT_len (cs : LM) (r : List Int) : (rowT cs r).length = cs.length := by simp [rowT]
theorem rowT_at {d k : Nat} {A : LM} {r : List Int} (h : k < d) : (rowT (colsM d A) r).getD k 0 = dotI r (colI k A) := by
  unfold rowT colsM
  rw [List.map_map, List.getD_eq_getElem?_getD, List.getElem?_map, List.getElem?_range h]
  rfl
theorem zip_at {A : LM} {n i : Nat} {r : List Int} (hA : A.length = n) (e : (List.zipWith (· ++ ·) A (idM n))[i]? = some r) : ∃ a, A[i]? = some a ∧ i < n ∧ r = a ++ unitI n i := by
  have hl := (List.getElem?_eq_some_iff.mp e).1
  rw [List.length_zipWith] at hl
  have hi : i < n := by omega
  have ea : A[i]? = some A[i] := List.getElem?_eq_getElem (by omega)
  rw [List.getElem?_zipWith, ea, idM_get hi] at e
  exact ⟨_, ea, hi, (Option.some.inj e).symm⟩
theorem ln_start {d n : Nat} {A : LM} (hA : A.length = n) (hw : ∀ r ∈ A, r.length = d) : Ln d n (colsM d A) (List.zipWith (· ++ ·) A (idM n)) (idM n) := by
  have il : (idM n).length = n := by simp [idM]
  have mem : ∀ r ∈ List.zipWith (· ++ ·) A (idM n), ∃ (i : Nat) (a : List Int), A[i]? = some a ∧ i < n ∧ r = a ++ unitI n i := fun r hr => by
    obtain ⟨i, hi, e⟩ := List.getElem_of_mem hr
    obtain ⟨a, h⟩ := zip_at hA (show (List.zipWith (· ++ ·) A (idM n))[i]? = some r by rw [List.getElem?_eq_getElem hi, e])
    exact ⟨i, a, h⟩
  have dr : ∀ {a : List Int} {i : Nat}, a ∈ A → (a ++ unitI n i).drop d = unitI n i := fun {a i} ha => by rw [← hw a ha, List.drop_left]
  refine ⟨by rw [List.length_zipWith, hA, il, Nat.min_self], fun r hr => ?_, fun r hr => ?_, fun v hv hz x hx => ?_, il, fun r hr => ?_, fun i j r s er es => ?_⟩
  · obtain ⟨i, a, ea, _, rfl⟩ := mem r hr
    rw [List.length_append, hw a (List.mem_of_getElem? ea), unit_len]
  · obtain ⟨i, a, ea, hi, rfl⟩ := mem r hr
    have ma := List.mem_of_getElem? ea
    rw [dr ma]
    have e1 : (a ++ unitI n i).take d = a := by rw [← hw a ma, List.take_left]
    rw [e1]
    refine getD_ext (by rw [rowT_len, hw a ma]; simp [colsM]) fun k hk => ?_
    rw [rowT_at (by rw [← hw a ma]; exact hk), ← colI_at (k := k) ea, ← dot_unit, colI_len, hA]
  · obtain ⟨i, hi, rfl⟩ := List.getElem_of_mem hx
    have ha : A[i]? = some A[i] := List.getElem?_eq_getElem (by omega)
    have := hz (A[i] ++ unitI n i) (List.mem_of_getElem? (i := i) (by rw [List.getElem?_zipWith, ha, idM_get (by omega)]))
    rw [dr (List.mem_of_getElem? ha), ← hv, dot_unit, List.getD_eq_getElem?_getD, List.getElem?_eq_getElem hi] at this
    exact this
  · obtain ⟨i, hi, rfl⟩ := List.getElem_of_mem hr
    obtain ⟨_, e⟩ := idM_at (List.getElem?_eq_getElem hi)
    rw [e, unit_len]
  · obtain ⟨a, ea, hi, rfl⟩ := zip_at hA er
    obtain ⟨hj, rfl⟩ := idM_at es
    rw [dr (List.mem_of_getElem? ea)]
    have := dot_unit (unitI n j) i
    rw [unit_len] at this
    rw [this, unit_at hi]
    by_cases q : i = j
    · rw [if_pos q, if_pos q.symm]
    · rw [if_neg q, if_neg (fun z => q z.symm)]
theorem ec_start {d n B : Nat} {A : LM} (hA : A.length = n) (hw : ∀ r ∈ A, r.length = d) (hB : BdM (2 ^ B) A) : Ec d n 0 (colsM d A) [] (bR n B 0) (uR n B 0) (cR n B 0) (List.zipWith (· ++ ·) A (idM n)) (idM n) := by
  have one : 1 ≤ 2 ^ B := Nat.two_pow_pos B
  have un : ∀ {i : Nat}, ∀ z ∈ unitI n i, z.natAbs ≤ 2 ^ B := fun {i} z hz => by
    unfold unitI at hz
    obtain ⟨k, _, rfl⟩ := List.mem_map.mp hz
    split <;> simp <;> omega
  have bl : BdM (2 ^ B) (List.zipWith (· ++ ·) A (idM n)) := fun r hr z hz => by
    obtain ⟨i, hi, e⟩ := List.getElem_of_mem hr
    obtain ⟨a, ea, _, rfl⟩ := zip_at hA (show (List.zipWith (· ++ ·) A (idM n))[i]? = some r by rw [List.getElem?_eq_getElem hi, e])
    rcases List.mem_append.mp hz with q | q
    · exact hB a (List.mem_of_getElem? ea) z q
    · exact un z q
  refine ⟨ln_start hA hw, Nat.zero_le _, .nil, (fun j hj => by cases hj), (fun i r j er ej => by cases ej), (fun i i' r r' j _ _ _ ej => by cases ej), (fun i r hi er m hm => by omega), fun i r hi er => bl r (List.mem_of_getElem? er), bl, fun r hr z hz => ?_⟩
  obtain ⟨i, hi, rfl⟩ := List.getElem_of_mem hr
  obtain ⟨_, e⟩ := idM_at (List.getElem?_eq_getElem hi)
  rw [e] at hz
  exact un z hz
structure Sta (d n : Nat) (A : LM) (ks : List Nat) (F R C : LM) : Prop where
  fl : F.length = n
  fw : ∀ r ∈ F, r.length = d
  rl : R.length = n
  rw : ∀ r ∈ R, r.length = n
  cl : C.length = n
  cw : ∀ r ∈ C, r.length = n
  lin : ∀ (i : Nat) r s, F[i]? = some r → R[i]? = some s → r = rowT (colsM d A) s
  inj : ∀ v : List Int, v.length = n → (∀ r ∈ R, dotI r v = 0) → ∀ x ∈ v, x = 0
  dual : ∀ (i j : Nat) r s, R[i]? = some r → C[j]? = some s → dotI r s = if i = j then 1 else 0
  kn : ks.length ≤ n
  ksS : ks.Pairwise (· < ·)
  ksK : ∀ j ∈ ks, j < d
  lead : ∀ (i : Nat) r j, F[i]? = some r → ks[i]? = some j → 0 < r.getD j 0 ∧ ∀ m, m < j → r.getD m 0 = 0
  above : ∀ (i i' : Nat) r r' j, i' < i → F[i]? = some r → F[i']? = some r' → ks[i]? = some j → 0 ≤ r'.getD j 0 ∧ r'.getD j 0 < r.getD j 0
  zero : ∀ (i : Nat) r, ks.length ≤ i → F[i]? = some r → ∀ m, r.getD m 0 = 0
  bf : BdM (2 ^ uS) F
  br : BdM (2 ^ uS) R
  bc : BdM (2 ^ bS) C
theorem ec_end {d n : Nat} {A : LM} {ks : List Nat} {b u c : Nat} {L C : LM} (h : Ec d n d (colsM d A) ks b u c L C) (hu : u ≤ uS) (hc : c ≤ bS) : Sta d n A ks (L.map fun r => r.take d) (L.map fun r => r.drop d) C := by
  have gt : ∀ (r : List Int) (m : Nat), m < d → (r.take d).getD m 0 = r.getD m 0 := fun r m hm => by
    rw [List.getD_eq_getElem?_getD, List.getD_eq_getElem?_getD, List.getElem?_take_of_lt hm]
  have at' : ∀ {f : List Int → List Int} {i : Nat} {r : List Int}, (L.map f)[i]? = some r → ∃ l, L[i]? = some l ∧ r = f l := fun {f i r} e => by
    rw [List.getElem?_map] at e
    cases q : L[i]? with
    | none => rw [q] at e; cases e
    | some l => rw [q] at e; cases e; exact ⟨l, rfl, rfl⟩
  have kd : ∀ {i j : Nat}, ks[i]? = some j → j < d := fun e => h.ksK _ (List.mem_of_getElem? e)
  have up : ∀ {M : LM} {e S : Nat}, e ≤ S → BdM (2 ^ e) M → BdM (2 ^ S) M := fun he hM r hr z hz => Nat.le_trans (hM r hr z hz) (Nat.pow_le_pow_right (by decide) he)
  refine ⟨by rw [List.length_map]; exact h.ln.len, fun r hr => ?_, by rw [List.length_map]; exact h.ln.len, fun r hr => ?_, h.ln.clen, h.ln.cwid, fun i r s er es => ?_, fun v hv hz => h.ln.inj v hv fun r hr => hz _ (List.mem_map_of_mem hr), fun i j r s er es => ?_, h.kn, h.ksS, h.ksK, fun i r j er ej => ?_, fun i i' r r' j hi er er' ej => ?_, fun i r hi er m => ?_, up hu fun r hr z hz => ?_, up hu fun r hr z hz => ?_, up hc h.bc⟩
  · obtain ⟨l, hl, rfl⟩ := List.mem_map.mp hr
    rw [List.length_take, h.ln.wid l hl]; omega
  · obtain ⟨l, hl, rfl⟩ := List.mem_map.mp hr
    rw [List.length_drop, h.ln.wid l hl]; omega
  · obtain ⟨l, el, rfl⟩ := at' er
    obtain ⟨l', el', rfl⟩ := at' es
    rw [el] at el'
    cases el'
    exact h.ln.lin l (List.mem_of_getElem? el)
  · obtain ⟨l, el, rfl⟩ := at' er
    exact h.ln.dual i j l s el es
  · obtain ⟨l, el, rfl⟩ := at' er
    obtain ⟨q1, q3⟩ := h.lead i l j el ej
    have jd := kd ej
    rw [gt l j jd]
    exact ⟨q1, fun m hm => by rw [gt l m (by omega)]; exact q3 m hm⟩
  · obtain ⟨l, el, rfl⟩ := at' er
    obtain ⟨l', el', rfl⟩ := at' er'
    rw [gt l j (kd ej), gt l' j (kd ej)]
    exact h.above i i' l l' j hi el el' ej
  · obtain ⟨l, el, rfl⟩ := at' er
    rcases Nat.lt_or_ge m d with q | q
    · rw [gt l m q]; exact h.zero i l hi el m q
    · rw [List.getD_eq_getElem?_getD, List.getElem?_eq_none (by rw [List.length_take]; omega)]; rfl
  · obtain ⟨l, hl, rfl⟩ := List.mem_map.mp hr
    exact h.bl l hl z (List.mem_of_mem_take hz)
  · obtain ⟨l, hl, rfl⟩ := List.mem_map.mp hr
    exact h.bl l hl z (List.mem_of_mem_drop hz)
theorem dot_take : ∀ (j : Nat) (r c : List Int), j < r.length → j < c.length → dotI (r.take (j + 1)) c = dotI (r.take j) c + r.getD j 0 * c.getD j 0
  | j, [], c, h, _ => by simp at h
  | j, a :: r, [], _, h => by simp at h
  | 0, a :: r, b :: c, _, _ => by simp [dotI]
  | j + 1, a :: r, b :: c, h1, h2 => by
    have ih := dot_take j r c (by simpa using h1) (by simpa using h2)
    simp only [dotI, List.take_succ_cons, List.zipWith_cons_cons, List.sum_cons, List.getD_cons_succ] at ih ⊢
    rw [ih]
    omega
noncomputable def sumN : Nat → (Nat → Int) → Int
  | 0, _ => 0
  | n + 1, f => sumN n f + f n
theorem sumN_congr : ∀ (n : Nat) {f g : Nat → Int}, (∀ i, i < n → f i = g i) → sumN n f = sumN n g
  | 0, _, _, _ => rfl
  | n + 1, f, g, h => by
    show sumN n f + f n = sumN n g + g n
    rw [sumN_congr n (fun i hi => h i (by omega)), h n (by omega)]
theorem sumN_mix (x y : Int) (f g : Nat → Int) : ∀ n, sumN n (fun i => x * f i + y * g i) = x * sumN n f + y * sumN n g
  | 0 => by simp [sumN]
  | n + 1 => by
    show sumN n _ + _ = x * (sumN n f + f n) + y * (sumN n g + g n)
    rw [sumN_mix x y f g n]
    grind
theorem sumN_mul (x : Int) (f : Nat → Int) (n : Nat) : sumN n (fun i => x * f i) = x * sumN n f := by
  have := sumN_mix x 0 f f n
  simp only [Int.zero_mul, Int.add_zero] at this
  exact this
theorem sumN_zero : ∀ (n : Nat) {f : Nat → Int}, (∀ i, i < n → f i = 0) → sumN n f = 0
  | 0, _, _ => rfl
  | n + 1, f, h => by
    show sumN n f + f n = 0
    rw [sumN_zero n (fun i hi => h i (by omega)), h n (by omega)]
    rfl
theorem sumN_one : ∀ (n : Nat) {f : Nat → Int} {i : Nat}, i < n → (∀ j, j < n → j ≠ i → f j = 0) → sumN n f = f i
  | 0, _, _, h, _ => by omega
  | n + 1, f, i, h, hz => by
    show sumN n f + f n = f i
    by_cases e : i = n
    · subst e
      rw [sumN_zero i fun j hj => hz j (by omega) (by omega)]
      simp
    · rw [sumN_one n (i := i) (by omega) fun j hj hn => hz j (by omega) hn, hz n (by omega) (fun z => e z.symm)]
      simp
theorem sumN_swap (f : Nat → Nat → Int) (n : Nat) : ∀ m, sumN m (fun i => sumN n fun j => f i j) = sumN n fun j => sumN m fun i => f i j
  | 0 => (sumN_zero n fun _ _ => rfl).symm
  | m + 1 => by
    show sumN m (fun i => sumN n fun j => f i j) + (sumN n fun j => f m j) = sumN n fun j => sumN m (fun i => f i j) + f m j
    rw [sumN_swap f n m]
    have := sumN_mix 1 1 (fun j => sumN m fun i => f i j) (fun j => f m j) n
    simp only [Int.one_mul] at this
    exact this.symm
theorem dot_sum {x y : List Int} (h : x.length = y.length) : dotI x y = sumN x.length fun i => x.getD i 0 * y.getD i 0 := by
  have key : ∀ j, j ≤ x.length → dotI (x.take j) y = sumN j fun i => x.getD i 0 * y.getD i 0 := by
    intro j
    induction j with
    | zero => intro _; simp [dotI, sumN]
    | succ j ih =>
      intro hj
      rw [dot_take j x y (by omega) (by omega), ih (by omega)]
      rfl
  have := key x.length (Nat.le_refl _)
  rw [List.take_length] at this
  exact this
noncomputable def atN (A : LM) (i k : Nat) : Int := (A.getD i []).getD k 0
theorem atN_is {A : LM} {i k : Nat} {r : List Int} (e : A[i]? = some r) : atN A i k = r.getD k 0 := by
  unfold atN
  have : A.getD i [] = r := by rw [List.getD_eq_getElem?_getD, e]; rfl
  rw [this]
theorem col_at (A : LM) (k i : Nat) : (colI k A).getD i 0 = atN A i k := by
  cases e : A[i]? with
  | some r => rw [colI_at e, atN_is e]
  | none =>
    have hi : A.length ≤ i := List.getElem?_eq_none_iff.mp e
    unfold atN
    rw [List.getD_eq_getElem?_getD, List.getElem?_eq_none (by rw [colI_len]; exact hi), List.getD_eq_getElem?_getD (l := A), e]
    rfl
noncomputable def Lat (d : Nat) (A : LM) (v : List Int) : Prop := v.length = d ∧ ∃ c : Nat → Int, ∀ k, k < d → v.getD k 0 = sumN A.length fun i => c i * atN A i k
theorem Lat.row {d i : Nat} {A : LM} {r : List Int} (e : A[i]? = some r) (hr : r.length = d) : Lat d A r := by
  have hi := (List.getElem?_eq_some_iff.mp e).1
  refine ⟨hr, fun j => if j = i then 1 else 0, fun k _ => ?_⟩
  rw [sumN_one A.length (i := i) hi fun j _ hn => by dsimp only; rw [if_neg hn, Int.zero_mul]]
  dsimp only
  rw [if_pos rfl, Int.one_mul, atN_is e]
theorem Lat.mix {d : Nat} {A : LM} {u v w : List Int} (x y : Int) (hu : Lat d A u) (hv : Lat d A v) (hw : w.length = d) (h : ∀ k, k < d → w.getD k 0 = x * u.getD k 0 + y * v.getD k 0) : Lat d A w := by
  obtain ⟨_, c, hc⟩ := hu
  obtain ⟨_, e, he⟩ := hv
  refine ⟨hw, fun i => x * c i + y * e i, fun k hk => ?_⟩
  rw [h k hk, hc k hk, he k hk, ← sumN_mix]
  refine sumN_congr _ fun i _ => ?_
  grind
theorem Lat.trans {d : Nat} {A B : LM} {v : List Int} (hB : ∀ r ∈ B, Lat d A r) (hv : Lat d B v) : Lat d A v := by
  obtain ⟨hl, c, hc⟩ := hv
  have key : ∀ m, m ≤ B.length → ∃ e : Nat → Int, ∀ k, k < d → (sumN m fun i => c i * atN B i k) = sumN A.length fun i => e i * atN A i k := by
    intro m
    induction m with
    | zero => exact fun _ => ⟨fun _ => 0, fun k _ => (sumN_zero _ fun i _ => Int.zero_mul _).symm⟩
    | succ m ih =>
      intro hm
      obtain ⟨e, he⟩ := ih (by omega)
      have er : B[m]? = some B[m] := List.getElem?_eq_getElem (by omega)
      obtain ⟨_, g, hg⟩ := hB _ (List.mem_of_getElem? er)
      refine ⟨fun i => 1 * e i + c m * g i, fun k hk => ?_⟩
      show (sumN m fun i => c i * atN B i k) + c m * atN B m k = _
      rw [he k hk, atN_is er, hg k hk]
      have := sumN_mix 1 (c m) (fun i => e i * atN A i k) (fun i => g i * atN A i k) A.length
      rw [Int.one_mul] at this
      rw [← this]
      refine sumN_congr _ fun i _ => ?_
      grind
  obtain ⟨e, he⟩ := key B.length (Nat.le_refl _)
  exact ⟨hl, e, fun k hk => by rw [hc k hk, he k hk]⟩
theorem least : ∀ (t : Nat) (P : Nat → Prop), (∃ i, i < t ∧ P i) → ∃ i, i < t ∧ P i ∧ ∀ j, j < i → ¬ P j
  | 0, _, ⟨_, h, _⟩ => by omega
  | t + 1, P, h => by
    by_cases q : ∃ i, i < t ∧ P i
    · obtain ⟨i, h1, h2, h3⟩ := least t P q
      exact ⟨i, by omega, h2, h3⟩
    · obtain ⟨i, h1, h2⟩ := h
      have : i = t := by
        rcases Nat.lt_or_ge i t with w | w
        · exact absurd ⟨i, w, h2⟩ q
        · omega
      subst this
      exact ⟨i, by omega, h2, fun j hj pj => q ⟨j, hj, pj⟩⟩
structure Frm (d n : Nat) (ks : List Nat) (F : LM) : Prop where
  fl : F.length = n
  fw : ∀ r ∈ F, r.length = d
  kn : ks.length ≤ n
  ksS : ks.Pairwise (· < ·)
  ksK : ∀ j ∈ ks, j < d
  lead : ∀ (i : Nat) r j, F[i]? = some r → ks[i]? = some j → 0 < r.getD j 0 ∧ ∀ m, m < j → r.getD m 0 = 0
  above : ∀ (i i' : Nat) r r' j, i' < i → F[i]? = some r → F[i']? = some r' → ks[i]? = some j → 0 ≤ r'.getD j 0 ∧ r'.getD j 0 < r.getD j 0
  zero : ∀ (i : Nat) r, ks.length ≤ i → F[i]? = some r → ∀ m, r.getD m 0 = 0
theorem Sta.frm {d n : Nat} {A : LM} {ks : List Nat} {F R C : LM} (h : Sta d n A ks F R C) : Frm d n ks F := ⟨h.fl, h.fw, h.kn, h.ksS, h.ksK, h.lead, h.above, h.zero⟩
theorem inc_at {ks : List Nat} (h : ks.Pairwise (· < ·)) {i i' j j' : Nat} (e : ks[i]? = some j) (e' : ks[i']? = some j') : (i < i' → j < j') ∧ (i = i' → j = j') := by
  obtain ⟨a1, a2⟩ := List.getElem?_eq_some_iff.mp e
  obtain ⟨b1, b2⟩ := List.getElem?_eq_some_iff.mp e'
  refine ⟨fun hl => ?_, fun hq => ?_⟩
  · have := List.pairwise_iff_getElem.mp h i i' a1 b1 hl
    omega
  · subst hq
    omega
theorem Frm.first {d n : Nat} {ks : List Nat} {F : LM} (h : Frm d n ks F) {v : List Int} (hv : Lat d F v) {p : Nat} (hp : p < d) (nz : v.getD p 0 ≠ 0) (lo : ∀ m, m < p → v.getD m 0 = 0) : ∃ i c, ks[i]? = some p ∧ v.getD p 0 = c * atN F i p := by
  obtain ⟨hl, c, hc⟩ := hv
  have fl := h.fl
  have kn := h.kn
  rw [fl] at hc
  have row : ∀ i, i < n → F[i]? = some (F.getD i []) := fun i hi => by
    rw [List.getD_eq_getElem?_getD, List.getElem?_eq_getElem (by omega)]
    rfl
  have zr : ∀ i k, i < n → ks.length ≤ i → atN F i k = 0 := fun i k hi hk => h.zero i _ hk (row i hi) k
  by_cases q : ∃ i, i < ks.length ∧ c i ≠ 0
  · obtain ⟨i, hi, ci, lo'⟩ := least ks.length (fun i => c i ≠ 0) q
    have ej := List.getElem?_eq_getElem hi
    generalize ks[i] = j at ej
    obtain ⟨l1, l2⟩ := h.lead i _ j (row i (by omega)) ej
    have jd := h.ksK j (List.mem_of_getElem? ej)
    have other : ∀ k, k ≤ j → ∀ m, m < n → m ≠ i → c m * atN F m k = 0 := fun k hk m hm hne => by
      rcases Nat.lt_or_ge m i with w | w
      · have : c m = 0 := Decidable.not_not.mp (lo' m w)
        rw [this, Int.zero_mul]
      · rcases Nat.lt_or_ge m ks.length with u | u
        · have em := List.getElem?_eq_getElem u
          have := (inc_at h.ksS ej em).1 (by omega)
          rw [show atN F m k = 0 from (h.lead m _ _ (row m hm) em).2 k (by omega), Int.mul_zero]
        · rw [zr m k hm u, Int.mul_zero]
    have vj : v.getD j 0 = c i * atN F i j := by
      rw [hc j jd]
      exact sumN_one n (i := i) (by omega) (other j (Nat.le_refl _))
    have vk : ∀ k, k < j → v.getD k 0 = 0 := fun k hk => by
      rw [hc k (by omega), sumN_one n (i := i) (by omega) (other k (by omega)), show atN F i k = 0 from l2 k hk, Int.mul_zero]
    have vn : v.getD j 0 ≠ 0 := fun z => by
      rw [vj] at z
      rcases Int.mul_eq_zero.mp z with w | w
      · exact ci w
      · have : 0 < atN F i j := l1
        omega
    have pj : p = j := by
      rcases Nat.lt_trichotomy p j with w | w | w
      · exact absurd (vk p w) nz
      · exact w
      · exact absurd (lo j w) vn
    subst pj
    exact ⟨i, c i, ej, vj⟩
  · refine absurd ?_ nz
    rw [hc p hp]
    refine sumN_zero n fun i hi => ?_
    rcases Nat.lt_or_ge i ks.length with w | w
    · have : c i = 0 := Decidable.not_not.mp fun z => q ⟨i, w, z⟩
      rw [this, Int.zero_mul]
    · rw [zr i p hi w, Int.mul_zero]
theorem inc_eq : ∀ {ks ks' : List Nat}, ks.Pairwise (· < ·) → ks'.Pairwise (· < ·) → (∀ j, j ∈ ks ↔ j ∈ ks') → ks = ks'
  | [], [], _, _, _ => rfl
  | [], b :: r, _, _, h => absurd ((h b).mpr (List.mem_cons_self ..)) (by simp)
  | a :: r, [], _, _, h => absurd ((h a).mp (List.mem_cons_self ..)) (by simp)
  | a :: r, b :: r', h1, h2, h => by
    obtain ⟨p1, p2⟩ := List.pairwise_cons.mp h1
    obtain ⟨q1, q2⟩ := List.pairwise_cons.mp h2
    have ab : a = b := by
      rcases List.mem_cons.mp ((h a).mp (List.mem_cons_self ..)) with e | e
      · exact e
      · rcases List.mem_cons.mp ((h b).mpr (List.mem_cons_self ..)) with e' | e'
        · exact e'.symm
        · have := q1 a e
          have := p1 b e'
          omega
    subst ab
    have : r = r' := inc_eq p2 q2 fun j => by
      constructor
      · intro hj
        rcases List.mem_cons.mp ((h j).mp (List.mem_cons_of_mem _ hj)) with e | e
        · have := p1 j hj; omega
        · exact e
      · intro hj
        rcases List.mem_cons.mp ((h j).mpr (List.mem_cons_of_mem _ hj)) with e | e
        · have := q1 j hj; omega
        · exact e
    rw [this]
theorem Frm.half {d n n' : Nat} {ks ks' : List Nat} {F F' : LM} (h : Frm d n ks F) (h' : Frm d n' ks' F') (g : ∀ r ∈ F, Lat d F' r) {i j : Nat} {r : List Int} (er : F[i]? = some r) (ej : ks[i]? = some j) : ∃ i' c, ks'[i']? = some j ∧ r.getD j 0 = c * atN F' i' j := by
  obtain ⟨l1, l2⟩ := h.lead i r j er ej
  exact h'.first (g r (List.mem_of_getElem? er)) (h.ksK j (List.mem_of_getElem? ej)) (by omega) l2
theorem times_one {a b c e : Int} (ha : 0 < a) (hb : 0 < b) (h1 : a = c * b) (h2 : b = e * a) : a = b := by
  have c1 : 1 ≤ c := by
    rcases Int.lt_or_le c 1 with w | w
    · have : c * b ≤ 0 := Int.mul_nonpos_of_nonpos_of_nonneg (by omega) (by omega)
      omega
    · exact w
  have e1 : 1 ≤ e := by
    rcases Int.lt_or_le e 1 with w | w
    · have : e * a ≤ 0 := Int.mul_nonpos_of_nonpos_of_nonneg (by omega) (by omega)
      omega
    · exact w
  have h3 : 1 * b ≤ c * b := Int.mul_le_mul_of_nonneg_right c1 (by omega)
  have h4 : 1 * a ≤ e * a := Int.mul_le_mul_of_nonneg_right e1 (by omega)
  omega
theorem Frm.one {d n n' : Nat} {ks ks' : List Nat} {F F' : LM} (h : Frm d n ks F) (h' : Frm d n' ks' F') (g : ∀ r ∈ F, Lat d F' r) (g' : ∀ r ∈ F', Lat d F r) : ks = ks' ∧ ∀ (i : Nat) r r', i < ks.length → F[i]? = some r → F'[i]? = some r' → r = r' := by
  have kl : ∀ {n : Nat} {ks : List Nat} {F : LM}, Frm d n ks F → ∀ j, j ∈ ks → ∃ (i : Nat) (r : List Int), F[i]? = some r ∧ ks[i]? = some j := fun {n ks F} h j hj => by
    obtain ⟨i, hi, rfl⟩ := List.getElem_of_mem hj
    have := h.kn
    have := h.fl
    exact ⟨i, _, List.getElem?_eq_getElem (by omega), List.getElem?_eq_getElem hi⟩
  have e : ks = ks' := inc_eq h.ksS h'.ksS fun j => ⟨fun hj => by
    obtain ⟨i, r, er, ej⟩ := kl h j hj
    obtain ⟨i', _, q, _⟩ := h.half h' g er ej
    exact List.mem_of_getElem? q, fun hj => by
    obtain ⟨i, r, er, ej⟩ := kl h' j hj
    obtain ⟨i', _, q, _⟩ := h'.half h g' er ej
    exact List.mem_of_getElem? q⟩
  subst e
  have uniq : ∀ {i i' j : Nat}, ks[i]? = some j → ks[i']? = some j → i = i' := fun {i i' j} a b => by
    rcases Nat.lt_trichotomy i i' with w | w | w
    · have := (inc_at h.ksS a b).1 w; omega
    · exact w
    · have := (inc_at h.ksS b a).1 w; omega
  have leads : ∀ (i : Nat) r r' j, F[i]? = some r → F'[i]? = some r' → ks[i]? = some j → r.getD j 0 = r'.getD j 0 := fun i r r' j er er' ej => by
    obtain ⟨i1, c, q1, q2⟩ := h.half h' g er ej
    obtain ⟨i2, c', q3, q4⟩ := h'.half h g' er' ej
    have w1 := uniq ej q1
    have w2 := uniq ej q3
    subst w1 w2
    rw [atN_is er'] at q2
    rw [atN_is er] at q4
    exact times_one (h.lead i r j er ej).1 (h'.lead i r' j er' ej).1 q2 q4
  refine ⟨rfl, fun i r r' hi er er' => ?_⟩
  have ej := List.getElem?_eq_getElem hi
  generalize ks[i] = j at ej
  have wr := h.fw r (List.mem_of_getElem? er)
  have wr' := h'.fw r' (List.mem_of_getElem? er')
  refine getD_ext (by omega) fun k hk => Decidable.not_not.mp fun nk => ?_
  obtain ⟨p, hp, np, lo⟩ := least d (fun k => r.getD k 0 ≠ r'.getD k 0) ⟨k, by omega, nk⟩
  have dat : ∀ m, m < d → ((List.range d).map fun m => r.getD m 0 - r'.getD m 0).getD m 0 = r.getD m 0 - r'.getD m 0 := fun m hm => by
    rw [List.getD_eq_getElem?_getD, List.getElem?_map, List.getElem?_range hm]
    rfl
  have hD : Lat d F ((List.range d).map fun m => r.getD m 0 - r'.getD m 0) := Lat.mix 1 (-1) (Lat.row er wr) (g' r' (List.mem_of_getElem? er')) (by simp) fun m hm => by rw [dat m hm]; omega
  obtain ⟨i', c, q1, q2⟩ := h.first hD hp (by rw [dat p hp]; omega) fun m hm => by
    rw [dat m (by omega)]
    have := Decidable.not_not.mp (lo m hm)
    omega
  rw [dat p hp] at q2
  have hj : j < p := by
    rcases Nat.lt_or_ge j p with w | w
    · exact w
    · rcases Nat.lt_or_ge p j with u | u
      · have z1 := (h.lead i r j er ej).2 p u
        have z2 := (h'.lead i r' j er' ej).2 p u
        omega
      · have : p = j := by omega
        subst this
        have := leads i r r' p er er' ej
        omega
  have ii : i < i' := by
    rcases Nat.lt_trichotomy i i' with w | w | w
    · exact w
    · have := (inc_at h.ksS ej q1).2 w; omega
    · have := (inc_at h.ksS q1 ej).1 w; omega
  have hi' := (List.getElem?_eq_some_iff.mp q1).1
  have k1 := h.kn
  have k2 := h'.kn
  have f1 := h.fl
  have f2 := h'.fl
  have es : F[i']? = some F[i'] := List.getElem?_eq_getElem (by omega)
  have es' : F'[i']? = some F'[i'] := List.getElem?_eq_getElem (by omega)
  obtain ⟨a1, a2⟩ := h.above i' i _ r p ii es er q1
  obtain ⟨b1, b2⟩ := h'.above i' i _ r' p ii es' er' q1
  have el := leads i' _ _ p es es' q1
  have lp := (h.lead i' _ p es q1).1
  rw [atN_is es] at q2
  generalize (F[i']'(by omega)).getD p 0 = l at *
  have : c = 0 := by
    rcases Int.lt_trichotomy c 0 with w | w | w
    · have : c * l ≤ (-1) * l := Int.mul_le_mul_of_nonneg_right (by omega) (by omega)
      omega
    · exact w
    · have : 1 * l ≤ c * l := Int.mul_le_mul_of_nonneg_right (by omega) (by omega)
      omega
  rw [this, Int.zero_mul] at q2
  omega
theorem zero_row {r : List Int} {d : Nat} (hl : r.length = d) (h : ∀ m, r.getD m 0 = 0) : r = (List.range d).map fun _ => (0 : Int) :=
  getD_ext (by simp [hl]) fun k hk => by
    rw [h k, List.getD_eq_getElem?_getD, List.getElem?_map, List.getElem?_range (by omega)]
    rfl
theorem Frm.same {d n : Nat} {ks ks' : List Nat} {F F' : LM} (h : Frm d n ks F) (h' : Frm d n ks' F') (g : ∀ r ∈ F, Lat d F' r) (g' : ∀ r ∈ F', Lat d F r) : F = F' := by
  obtain ⟨rfl, hr⟩ := h.one h' g g'
  have f1 := h.fl
  have f2 := h'.fl
  refine List.ext_getElem (by omega) fun i h1 h2 => ?_
  have e1 := List.getElem?_eq_getElem h1
  have e2 := List.getElem?_eq_getElem h2
  rcases Nat.lt_or_ge i ks.length with w | w
  · exact hr i _ _ w e1 e2
  · rw [zero_row (h.fw _ (List.getElem_mem h1)) (h.zero i _ w e1), zero_row (h'.fw _ (List.getElem_mem h2)) (h'.zero i _ w e2)]
theorem Frm.more {d n : Nat} {ks ks' : List Nat} {F F' : LM} (h : Frm d n ks F) (h' : Frm d (n + 1) ks' F') (g : ∀ r ∈ F, Lat d F' r) (g' : ∀ r ∈ F', Lat d F r) : F' = F ++ [(List.range d).map fun _ => (0 : Int)] := by
  obtain ⟨rfl, hr⟩ := h.one h' g g'
  have f1 := h.fl
  have f2 := h'.fl
  have kn := h.kn
  refine List.ext_getElem (by simp; omega) fun i h1 h2 => ?_
  have e1 := List.getElem?_eq_getElem h1
  rcases Nat.lt_or_ge i n with u | u
  · rw [List.getElem_append_left (by omega)]
    have e2 : F[i]? = some F[i] := List.getElem?_eq_getElem (by omega)
    rcases Nat.lt_or_ge i ks.length with w | w
    · exact (hr i _ _ w e2 e1).symm
    · rw [zero_row (h.fw _ (List.mem_of_getElem? e2)) (h.zero i _ w e2), zero_row (h'.fw _ (List.getElem_mem h1)) (h'.zero i _ w e1)]
  · rw [List.getElem_append_right (by omega), zero_row (h'.fw _ (List.getElem_mem h1)) (h'.zero i _ (by omega) e1)]
    simp
theorem dot_set : ∀ (r ns : List Int) (j : Nat) (v : Int), j < ns.length → dotI r (ns.set j v) = dotI r ns + r.getD j 0 * (v - ns.getD j 0)
  | [], ns, j, v, _ => by simp [dotI]
  | a :: r, [], j, v, h => by simp at h
  | a :: r, b :: ns, 0, v, h => by simp [dotI]; grind
  | a :: r, b :: ns, j + 1, v, h => by
    have ih := dot_set r ns j v (by simpa using h)
    simp only [dotI, List.set_cons_succ, List.zipWith_cons_cons, List.sum_cons, List.getD_cons_succ] at ih ⊢
    rw [ih]; grind
theorem dvd_dot {c : Int} : ∀ (r ns : List Int), (∀ z ∈ ns, c ∣ z) → c ∣ dotI r ns
  | [], ns, _ => by simp [dotI]
  | a :: r, [], _ => by simp [dotI]
  | a :: r, b :: ns, h => by
    have ih := dvd_dot r ns fun z hz => h z (List.mem_cons_of_mem _ hz)
    simp only [dotI, List.zipWith_cons_cons, List.sum_cons] at ih ⊢
    exact Int.dvd_add (Int.dvd_mul_of_dvd_right (h b List.mem_cons_self)) ih
theorem dot_bd {A B : Nat} : ∀ (r ns : List Int), (∀ z ∈ r, z.natAbs ≤ A) → (∀ z ∈ ns, z.natAbs ≤ B) → (dotI r ns).natAbs ≤ r.length * (A * B)
  | [], ns, _, _ => by simp [dotI]
  | a :: r, [], _, _ => by simp [dotI]
  | a :: r, b :: ns, h1, h2 => by
    have ih := dot_bd r ns (fun z hz => h1 z (List.mem_cons_of_mem _ hz)) fun z hz => h2 z (List.mem_cons_of_mem _ hz)
    have e : dotI (a :: r) (b :: ns) = a * b + dotI r ns := by simp [dotI]
    rw [e]
    have hab : (a * b).natAbs ≤ A * B := by rw [Int.natAbs_mul]; exact Nat.mul_le_mul (h1 a List.mem_cons_self) (h2 b List.mem_cons_self)
    have := Int.natAbs_add_le (a * b) (dotI r ns)
    rw [List.length_cons, Nat.add_mul, Nat.one_mul]
    omega
noncomputable def leadV (F : LM) (ks : List Nat) (i : Nat) : Int := (F.getD i []).getD (ks.getD i 0) 0
noncomputable def scl (F : LM) (ks : List Nat) : Nat → Int
  | 0 => 1
  | m + 1 => scl F ks m * leadV F ks m
theorem scl_dvd (F : LM) (ks : List Nat) (m : Nat) : ∀ k, scl F ks m ∣ scl F ks (m + k)
  | 0 => Int.dvd_refl _
  | k + 1 => Int.dvd_trans (scl_dvd F ks m k) ⟨_, rfl⟩
theorem scl_bd {F : LM} {ks : List Nat} {W : Nat} (h : BdM (2 ^ W) F) : ∀ m, (scl F ks m).natAbs ≤ 2 ^ (m * W)
  | 0 => by simp [scl]
  | m + 1 => by
    have ih := scl_bd (ks := ks) h m
    have hl : (leadV F ks m).natAbs ≤ 2 ^ W := by
      unfold leadV
      refine getD_le fun z hz => ?_
      by_cases hm : m < F.length
      · exact h _ (by rw [List.getD_eq_getElem?_getD, List.getElem?_eq_getElem hm]; exact List.getElem_mem hm) z hz
      · rw [List.getD_eq_getElem?_getD, List.getElem?_eq_none (by omega)] at hz; cases hz
    show (scl F ks m * leadV F ks m).natAbs ≤ _
    rw [Int.natAbs_mul, Nat.add_mul, Nat.one_mul, Nat.pow_add]
    exact Nat.mul_le_mul ih hl
structure Cl (d : Nat) (F : LM) (ks : List Nat) (ts : List Int) (W m : Nat) (ns : List Int) : Prop where
  len : ns.length = d
  eq : ∀ (i : Nat) r x, m ≤ i → i < ks.length → F[i]? = some r → ts[i]? = some x → dotI r ns = x * scl F ks ks.length
  nul : ∀ (i : Nat) j, i < m → ks[i]? = some j → ns.getD j 0 = 0
  dv : ∀ z ∈ ns, scl F ks m ∣ z
  bd : ∀ z ∈ ns, z.natAbs ≤ 2 ^ ((ks.length + 1) * W + (ks.length - m) * (W + 4))
theorem Cl.step {d : Nat} {F : LM} {ks : List Nat} {ts : List Int} {W m j : Nat} {ns r : List Int} {x : Int} (h : Cl d F ks ts W (m + 1) ns) (hm : m < ks.length) (hd : d ≤ 12) (ksS : ks.Pairwise (· < ·)) (ej : ks[m]? = some j) (jd : j < d) (er : F[m]? = some r) (ext : ts[m]? = some x)
    (hlead : ∀ (i : Nat) r j, F[i]? = some r → ks[i]? = some j → 0 < r.getD j 0 ∧ ∀ m, m < j → r.getD m 0 = 0) (wr : r.length = d) (bF' : BdM (2 ^ W) F) (bx : x.natAbs ≤ 2 ^ W) :
    Cl d F ks ts W m (ns.set j ((x * scl F ks ks.length - dotI r ns).fdiv (r.getD j 0))) := by
  obtain ⟨lp, _⟩ := hlead m r j er ej
  have hlv : leadV F ks m = r.getD j 0 := by
    unfold leadV
    rw [List.getD_eq_getElem?_getD (l := F), er, List.getD_eq_getElem?_getD (l := ks), ej]
    rfl
  have sm : scl F ks (m + 1) = scl F ks m * r.getD j 0 := by show scl F ks m * leadV F ks m = _; rw [hlv]
  have d1 : scl F ks (m + 1) ∣ scl F ks ks.length := by
    have := scl_dvd F ks (m + 1) (ks.length - (m + 1))
    rwa [show m + 1 + (ks.length - (m + 1)) = ks.length by omega] at this
  have d2 : scl F ks (m + 1) ∣ x * scl F ks ks.length - dotI r ns := Int.dvd_sub (Int.dvd_mul_of_dvd_right d1) (dvd_dot r ns h.dv)
  obtain ⟨c, hc⟩ := d2
  have ne : r.getD j 0 ≠ 0 := by omega
  have ev : (x * scl F ks ks.length - dotI r ns).fdiv (r.getD j 0) = scl F ks m * c := by
    rw [hc, sm, show scl F ks m * r.getD j 0 * c = (scl F ks m * c) * r.getD j 0 by grind, Int.mul_fdiv_cancel _ ne]
  have ex2 : r.getD j 0 * (x * scl F ks ks.length - dotI r ns).fdiv (r.getD j 0) = x * scl F ks ks.length - dotI r ns := by rw [ev, hc, sm]; grind
  have jl : j < ns.length := by rw [h.len]; exact jd
  have vb : ((x * scl F ks ks.length - dotI r ns).fdiv (r.getD j 0)).natAbs ≤ 2 ^ ((ks.length + 1) * W + (ks.length - m) * (W + 4)) := by
    refine Nat.le_trans (nat_fdiv_le _ _ lp) ?_
    have b1 := scl_bd (ks := ks) bF' ks.length
    have b2 := dot_bd r ns (bF' r (List.mem_of_getElem? er)) h.bd
    have e1 : (x * scl F ks ks.length).natAbs ≤ 2 ^ ((ks.length + 1) * W) := by
      rw [Int.natAbs_mul, Nat.add_mul, Nat.one_mul, Nat.add_comm, Nat.pow_add]
      exact Nat.mul_le_mul bx b1
    have eE : ks.length - m = (ks.length - (m + 1)) + 1 := by omega
    have e4 : 2 ^ ((ks.length + 1) * W + (ks.length - m) * (W + 4)) = 16 * 2 ^ (W + ((ks.length + 1) * W + (ks.length - (m + 1)) * (W + 4))) := by
      rw [eE, Nat.add_mul (ks.length - (m + 1)) 1, Nat.one_mul, show (ks.length + 1) * W + ((ks.length - (m + 1)) * (W + 4) + (W + 4)) = (W + ((ks.length + 1) * W + (ks.length - (m + 1)) * (W + 4))) + 4 by omega, Nat.pow_add]
      omega
    have e2 : (dotI r ns).natAbs ≤ 12 * 2 ^ (W + ((ks.length + 1) * W + (ks.length - (m + 1)) * (W + 4))) := by
      rw [Nat.pow_add]
      exact Nat.le_trans b2 (Nat.mul_le_mul_right _ (by omega))
    have e3 : 2 ^ ((ks.length + 1) * W) ≤ 2 ^ (W + ((ks.length + 1) * W + (ks.length - (m + 1)) * (W + 4))) := Nat.pow_le_pow_right (by decide) (by omega)
    have e5 := Int.natAbs_sub_le (x * scl F ks ks.length) (dotI r ns)
    rw [e4]
    omega
  refine ⟨by rw [List.length_set]; exact h.len, fun i r' x' hi hil er' ex' => ?_, fun i j' hi ej' => ?_, fun z hz => ?_, fun z hz => ?_⟩
  · rw [dot_set r' ns j _ jl]
    by_cases e : i = m
    · subst e
      rw [er] at er'; cases er'
      rw [ext] at ex'; cases ex'
      rw [h.nul i j (by omega) ej, Int.sub_zero, ex2]
      omega
    · have hi2 : m < i := by omega
      obtain ⟨j', ej'⟩ : ∃ j', ks[i]? = some j' := ⟨_, List.getElem?_eq_getElem hil⟩
      have lt : j < j' := by
        obtain ⟨a1, a2⟩ := List.getElem?_eq_some_iff.mp ej
        obtain ⟨b1, b2⟩ := List.getElem?_eq_some_iff.mp ej'
        have := List.pairwise_iff_getElem.mp ksS m i a1 b1 hi2
        rw [a2, b2] at this
        exact this
      rw [(hlead i r' j' er' ej').2 j lt, Int.zero_mul, Int.add_zero]
      exact h.eq i r' x' (by omega) hil er' ex'
  · have lt : j' < j := by
      obtain ⟨a1, a2⟩ := List.getElem?_eq_some_iff.mp ej'
      obtain ⟨b1, b2⟩ := List.getElem?_eq_some_iff.mp ej
      have := List.pairwise_iff_getElem.mp ksS i m a1 b1 hi
      rw [a2, b2] at this
      exact this
    rw [List.getD_eq_getElem?_getD, List.getElem?_set_ne (by omega), ← List.getD_eq_getElem?_getD]
    exact h.nul i j' (by omega) ej'
  · rcases mem_set' hz with e | e
    · rw [e, ev]; exact ⟨c, rfl⟩
    · exact Int.dvd_trans ⟨_, sm⟩ (h.dv z e)
  · rcases mem_set' hz with e | e
    · rw [e]; exact vb
    · exact Nat.le_trans (h.bd z e) (Nat.pow_le_pow_right (by decide) (Nat.add_le_add_left (Nat.mul_le_mul_right _ (by omega)) _))
theorem scl_pos {F : LM} {ks : List Nat} (h : ∀ (i : Nat) r j, F[i]? = some r → ks[i]? = some j → 0 < r.getD j 0) (hl : ks.length ≤ F.length) : ∀ m, m ≤ ks.length → 0 < scl F ks m
  | 0, _ => by show (0 : Int) < 1; decide
  | m + 1, hm => by
    obtain ⟨j, hj⟩ : ∃ j, ks[m]? = some j := ⟨_, List.getElem?_eq_getElem (by omega)⟩
    obtain ⟨r, hr⟩ : ∃ r, F[m]? = some r := ⟨_, List.getElem?_eq_getElem (by omega)⟩
    have e : leadV F ks m = r.getD j 0 := by
      unfold leadV
      rw [List.getD_eq_getElem?_getD (l := F), hr, List.getD_eq_getElem?_getD (l := ks), hj]
      rfl
    show 0 < scl F ks m * leadV F ks m
    rw [e]
    exact Int.mul_pos (scl_pos h hl m (by omega)) (h m r j hr hj)
theorem dot_scaleW {w c : Int} : ∀ (r ns ms : List Int), ns.length = ms.length → (∀ (i : Nat) x y, ns[i]? = some x → ms[i]? = some y → x * w = y * c) → dotI r ns * w = dotI r ms * c
  | [], ns, ms, _, _ => by simp [dotI]
  | a :: r, [], [], _, _ => by simp [dotI]
  | a :: r, x :: ns, y :: ms, hl, h => by
    have ih := dot_scaleW r ns ms (by simpa using hl) fun i u v e1 e2 => h (i + 1) u v (by simpa using e1) (by simpa using e2)
    have h0 := h 0 x y rfl rfl
    have e1 : dotI (a :: r) (x :: ns) = a * x + dotI r ns := by simp [dotI]
    have e2 : dotI (a :: r) (y :: ms) = a * y + dotI r ms := by simp [dotI]
    rw [e1, e2, Int.add_mul, Int.add_mul, ih, Int.mul_assoc, h0, Int.mul_assoc]
theorem dot_assoc {d n : Nat} {A : LM} (hA : A.length = n) (hw : ∀ r ∈ A, r.length = d) {s ns ts : List Int} (hs : s.length = n) (hn : ns.length = d) (ht : ts.length = n) (S : Int) :
    dotI s ((List.range n).map fun i => dotI (A.getD i []) ns - ts.getD i 0 * S) = dotI (rowT (colsM d A) s) ns - dotI s ts * S := by
  rw [dot_sum (by simp [hs]), dot_sum (by rw [rowT_len]; simp [colsM, hn]), dot_sum (by rw [hs, ht]), rowT_len, hs]
  have lc : (colsM d A).length = d := by simp [colsM]
  rw [lc]
  have e1 : (sumN n fun i => s.getD i 0 * ((List.range n).map fun i => dotI (A.getD i []) ns - ts.getD i 0 * S).getD i 0) = sumN n fun i => 1 * (sumN d fun k => s.getD i 0 * (atN A i k * ns.getD k 0)) + (-S) * (s.getD i 0 * ts.getD i 0) := sumN_congr _ fun i hi => by
    rw [List.getD_eq_getElem?_getD (l := (List.range n).map _), List.getElem?_map, List.getElem?_range hi]
    show s.getD i 0 * (dotI (A.getD i []) ns - ts.getD i 0 * S) = _
    have ea : A[i]? = some (A[i]'(by omega)) := List.getElem?_eq_getElem (by omega)
    have eg : A.getD i [] = A[i]'(by omega) := by rw [List.getD_eq_getElem?_getD, ea]; rfl
    have wa := hw _ (List.mem_of_getElem? ea)
    rw [eg, dot_sum (by rw [wa, hn]), wa, sumN_mul]
    have e2 : (sumN d fun k => (A[i]'(by omega)).getD k 0 * ns.getD k 0) = sumN d fun k => atN A i k * ns.getD k 0 := sumN_congr _ fun k _ => by rw [atN_is ea]
    rw [e2]
    grind
  rw [e1, sumN_mix, sumN_swap]
  have e3 : (sumN d fun k => sumN n fun i => s.getD i 0 * (atN A i k * ns.getD k 0)) = sumN d fun k => (rowT (colsM d A) s).getD k 0 * ns.getD k 0 := sumN_congr _ fun k hk => by
    rw [rowT_at hk, dot_sum (by rw [colI_len, hs, hA]), hs, Int.mul_comm _ (ns.getD k 0), ← sumN_mul]
    exact sumN_congr _ fun i _ => by rw [col_at]; grind
  rw [e3]
  grind
theorem dot_comm : ∀ (x y : List Int), dotI x y = dotI y x
  | [], [] => rfl
  | [], b :: y => by simp [dotI]
  | a :: x, [] => by simp [dotI]
  | a :: x, b :: y => by
    have ih := dot_comm x y
    have e1 : dotI (a :: x) (b :: y) = a * b + dotI x y := by simp [dotI]
    have e2 : dotI (b :: y) (a :: x) = b * a + dotI y x := by simp [dotI]
    rw [e1, e2, ih, Int.mul_comm]
theorem Sta.injM {d n : Nat} {A F R C : LM} {ks : List Nat} (h : Sta d n A ks F R C) {c : Int} (v : List Int) (hv : v.length = n) (hz : ∀ r ∈ R, c ∣ dotI r v) : ∀ x ∈ v, c ∣ x := by
  have al : (R.map fun r => dotI r v).length = n := by rw [List.length_map]; exact h.rl
  have ul : (rowT (colsM n C) (R.map fun r => dotI r v)).length = n := by rw [rowT_len]; simp [colsM]
  have ga : ∀ (j : Nat) r, R[j]? = some r → (R.map fun r => dotI r v).getD j 0 = dotI r v := fun j r e => by
    rw [List.getD_eq_getElem?_getD, List.getElem?_map, e]; rfl
  have key : ∀ (j : Nat) r, R[j]? = some r → dotI r (rowT (colsM n C) (R.map fun r => dotI r v)) = dotI r v := by
    intro j r e
    have hj : j < n := by rw [← h.rl]; exact (List.getElem?_eq_some_iff.mp e).1
    have := dot_assoc h.cl h.cw (s := R.map fun r => dotI r v) (ns := r) (ts := List.replicate n 0) al (h.rw r (List.mem_of_getElem? e)) (by simp) 0
    rw [Int.mul_zero, Int.sub_zero] at this
    rw [dot_comm, ← this]
    have el : ((List.range n).map fun i => dotI (C.getD i []) r - (List.replicate n (0 : Int)).getD i 0 * 0) = unitI (R.map fun r => dotI r v).length j := by
      rw [al]
      refine List.ext_getElem (by simp [unitI]) fun i h1 h2 => ?_
      have hi : i < n := by simpa using h1
      have ec : C[i]? = some (C[i]'(by rw [h.cl]; exact hi)) := List.getElem?_eq_getElem _
      have gc : C.getD i [] = C[i]'(by rw [h.cl]; exact hi) := by rw [List.getD_eq_getElem?_getD, ec]; rfl
      have du := h.dual j i r _ e ec
      simp only [List.getElem_map, List.getElem_range, Int.mul_zero, Int.sub_zero, unitI, gc]
      rw [dot_comm, du]
    rw [el, dot_comm, dot_unit, ga j r e]
  have w0 := h.inj (lessI v (rowT (colsM n C) (R.map fun r => dotI r v)) 1) (by simp [lessI, hv, ul]) fun r hr => by
    obtain ⟨j, hj, rfl⟩ := List.getElem_of_mem hr
    rw [dot_lessR 1 _ _ _ (by rw [hv, ul]), key j _ (List.getElem?_eq_getElem hj)]
    omega
  intro x hx
  obtain ⟨k, hk, rfl⟩ := List.getElem_of_mem hx
  have kn : k < n := by omega
  have e1 : (rowT (colsM n C) (R.map fun r => dotI r v))[k]? = some (dotI (R.map fun r => dotI r v) (colI k C)) := by
    have := rowT_at (A := C) (r := R.map fun r => dotI r v) kn
    rw [List.getD_eq_getElem?_getD, List.getElem?_eq_getElem (by omega)] at this
    rw [List.getElem?_eq_getElem (by omega)]
    exact congrArg some this
  have e2 : (lessI v (rowT (colsM n C) (R.map fun r => dotI r v)) 1)[k]? = some (v[k] - 1 * dotI (R.map fun r => dotI r v) (colI k C)) := by
    unfold lessI
    rw [List.getElem?_zipWith, List.getElem?_eq_getElem hk, e1]
  have e3 := w0 _ (List.mem_of_getElem? e2)
  have e4 : v[k] = dotI (R.map fun r => dotI r v) (colI k C) := by omega
  rw [e4, dot_comm]
  exact dvd_dot _ _ fun z hz' => by
    obtain ⟨r, hr, rfl⟩ := List.mem_map.mp hz'
    exact hz r hr
theorem met_placeM {d n : Nat} {A F R C : LM} {ks : List Nat} {ts ns : List Int} (hA : A.length = n) (hw : ∀ r ∈ A, r.length = d) (h : Sta d n A ks F R C) (ht : ts.length = n) (hn : ns.length = d) {S mm : Int}
    (e1 : ∀ (i : Nat) r s, i < ks.length → F[i]? = some r → R[i]? = some s → dotI r ns = dotI s ts * S) (e2 : ∀ (i : Nat) s, ks.length ≤ i → R[i]? = some s → mm ∣ dotI s ts) :
    ∀ (i : Nat) row x, A[i]? = some row → ts[i]? = some x → mm * S ∣ dotI row ns - x * S := by
  have z := h.injM (c := mm * S) ((List.range n).map fun i => dotI (A.getD i []) ns - ts.getD i 0 * S) (by simp) fun s hs => by
    obtain ⟨m, hm, rfl⟩ := List.getElem_of_mem hs
    have es := List.getElem?_eq_getElem hm
    have ml : m < F.length := by rw [h.fl, ← h.rl]; exact hm
    have ef := List.getElem?_eq_getElem ml
    rw [dot_assoc hA hw (h.rw _ (List.getElem_mem hm)) hn ht, ← h.lin m _ _ ef es]
    rcases Nat.lt_or_ge m ks.length with q | q
    · rw [e1 m _ _ q ef es, Int.sub_self]; exact Int.dvd_zero _
    · obtain ⟨y, hy⟩ := e2 m _ q es
      rw [dot_zero _ _ fun z hz => by
        obtain ⟨k, hk, rfl⟩ := List.getElem_of_mem hz
        have := h.zero m _ q ef k
        rw [List.getD_eq_getElem?_getD, List.getElem?_eq_getElem hk] at this
        exact this, hy]
      exact ⟨-y, by grind⟩
  intro i row x er ex
  have hi : i < n := by rw [← ht]; exact (List.getElem?_eq_some_iff.mp ex).1
  have := z _ (List.mem_map.mpr ⟨i, List.mem_range.mpr hi, rfl⟩)
  rw [List.getD_eq_getElem?_getD (l := A), er, List.getD_eq_getElem?_getD (l := ts), ex] at this
  exact this
theorem met_low {row ns ms : List Int} {u S w x mm : Int} (hl : ns.length = ms.length) (hS : S ≠ 0) (h : mm * S ∣ dotI row ns - x * S) (c : ∀ (i : Nat) a b, ns[i]? = some a → ms[i]? = some b → a * w = b * (u * S)) : mm * w ∣ dotI row ms * u - x * w := by
  have e := dot_scaleW (w := w) (c := u * S) row ns ms hl c
  obtain ⟨y, hy⟩ := h
  refine ⟨y, ?_⟩
  refine Int.eq_of_mul_eq_mul_right hS ?_
  have : dotI row ns = x * S + mm * S * y := by omega
  rw [this] at e
  grind
theorem met_rest {w : Int} : ∀ (r ns : List Int), w ∣ dotI r ns - dotI r (restT w ns)
  | [], ns => by simp [dotI]
  | a :: r, [] => by simp [dotI, restT]
  | a :: r, x :: ns => by
    have ih := met_rest (w := w) r ns
    have e1 : dotI (a :: r) (x :: ns) = a * x + dotI r ns := by simp [dotI]
    have e2 : dotI (a :: r) (restT w (x :: ns)) = a * x.fmod w + dotI r (restT w ns) := by simp [dotI, restT]
    rw [e1, e2]
    have e3 : x = w * x.fdiv w + x.fmod w := (Int.mul_fdiv_add_fmod x w).symm
    obtain ⟨y, hy⟩ := ih
    exact ⟨a * x.fdiv w + y, by
      have : dotI r ns = dotI r (restT w ns) + w * y := by omega
      rw [this]
      generalize x.fmod w = f at *
      generalize x.fdiv w = q at *
      subst e3
      grind⟩
theorem none_back {H H' : Hp} {p : Addr} (s : Same H H') (h : H' p = none) : H p = none := by
  cases w : H p with
  | none => rfl
  | some o => rw [s _ _ w] at h; cases h
noncomputable def RowN (H0 : Hp) (a : Addr) (f : Nat → List Int) (j : Nat) (y : V) (H : Hp) : Prop := ∃ p, y = .ref p ∧ p ≠ a ∧ H0 p = none ∧ H p = some (.lst ((f j).map V.int))
theorem RowN.mono {H0 : Hp} {a : Addr} {f : Nat → List Int} (i : Nat) (y : V) (H1 H2 : Hp) (h : RowN H0 a f i y H1) (s : SameX a H1 H2) : RowN H0 a f i y H2 := let ⟨p, e, n, z, q⟩ := h; ⟨p, e, n, z, s _ _ n q⟩
noncomputable def MatP (H : Hp) (a : Addr) (ps : List Addr) (A : LM) : Prop := H a = some (.lst (ps.map V.ref)) ∧ ps.length = A.length ∧ ∀ (i : Nat) p r, ps[i]? = some p → A[i]? = some r → p ≠ a ∧ H p = some (.lst (r.map V.int))
theorem MatP.l {H : Hp} {a : Addr} {ps : List Addr} {A : LM} (h : MatP H a ps A) : MatL H a A := ⟨ps, h⟩
theorem MatP.up {H H' : Hp} {a : Addr} {ps : List Addr} {A : LM} (h : MatP H a ps A) (s : Same H H') : MatP H' a ps A := ⟨s _ _ h.1, h.2.1, fun i p r e1 e2 => ⟨(h.2.2 i p r e1 e2).1, s _ _ (h.2.2 i p r e1 e2).2⟩⟩
theorem matP_ex {H : Hp} {a x : Addr} {ps : List Addr} {A : LM} (h : MatP H a ps A) (hx : x = a ∨ x ∈ ps) : ∃ xs, H x = some (.lst xs) := by
  rcases hx with rfl | hx
  · exact ⟨_, h.1⟩
  · obtain ⟨i, hi, rfl⟩ := List.getElem_of_mem hx
    have := h.2.1
    exact ⟨_, (h.2.2 i _ _ (List.getElem?_eq_getElem hi) (List.getElem?_eq_getElem (by omega))).2⟩
noncomputable def NewL (H0 H : Hp) (a : Addr) (A : LM) : Prop := ∃ ps, MatP H a ps A ∧ ∀ x, x = a ∨ x ∈ ps → H0 x = none
theorem NewL.up {H0 H H' : Hp} {a : Addr} {A : LM} (h : NewL H0 H a A) (s : Same H H') : NewL H0 H' a A := let ⟨ps, h1, h2⟩ := h; ⟨ps, h1.up s, h2⟩
theorem refs_of : ∀ (ys : List V), (∀ (j : Nat) y, ys[j]? = some y → ∃ p : Addr, y = .ref p) → ∃ ps : List Addr, ys = ps.map V.ref
  | [], _ => ⟨[], rfl⟩
  | y :: ys, h => by
    obtain ⟨p, rfl⟩ := h 0 y rfl
    obtain ⟨ps, rfl⟩ := refs_of ys fun j z e => h (j + 1) z (by simpa using e)
    exact ⟨p :: ps, rfl⟩
theorem NewL.of {H0 H : Hp} {a : Addr} {f : Nat → List Int} {ys : List V} (h : H a = some (.lst ys)) (h0 : H0 a = none) (hr : ∀ (j : Nat) y, ys[j]? = some y → RowN H0 a f j y H) : NewL H0 H a ((List.range ys.length).map f) := by
  obtain ⟨ps, rfl⟩ := refs_of ys fun j y e => let ⟨p, e, _⟩ := hr j y e; ⟨p, e⟩
  refine ⟨ps, ⟨h, by simp, fun i p r e1 e2 => ?_⟩, fun x hx => ?_⟩
  · obtain ⟨p', e, n, _, q⟩ := hr i (.ref p) (by rw [List.getElem?_map, e1]; rfl)
    cases e
    have hi := (List.getElem?_eq_some_iff.mp e1).1
    rw [List.getElem?_map, List.getElem?_range (by simpa using hi)] at e2
    cases e2
    exact ⟨n, q⟩
  · rcases hx with rfl | hx
    · exact h0
    · obtain ⟨i, hi, rfl⟩ := List.getElem_of_mem hx
      obtain ⟨p', e, _, z, _⟩ := hr i (.ref ps[i]) (by rw [List.getElem?_map, List.getElem?_eq_getElem hi]; rfl)
      cases e
      exact z
noncomputable def Told (H : Hp) (f g h : Addr) (F R U : LM) : Prop := ∃ ps qs us, MatP H f ps F ∧ MatP H g qs R ∧ MatP H h us U ∧ (∀ x, x = f ∨ x ∈ ps → x ≠ g ∧ x ∉ qs ∧ x ≠ h ∧ x ∉ us) ∧ ∀ x, x = g ∨ x ∈ qs → x ≠ h ∧ x ∉ us
theorem told_of {H3 H4 H5 H6 H : Hp} {f g h : Addr} {F R U : LM} (n1 : NewL H3 H4 f F) (n2 : NewL H4 H5 g R) (s5 : Same H4 H5) (n3 : NewL H5 H6 h U) (s6 : Same H5 H6) (s7 : Same H6 H) : Told H f g h F R U := by
  obtain ⟨ps, p1, p2⟩ := n1
  obtain ⟨qs, q1, q2⟩ := n2
  obtain ⟨us, u1, u2⟩ := n3
  refine ⟨ps, qs, us, ((p1.up s5).up s6).up s7, (q1.up s6).up s7, u1.up s7, fun x hx => ?_, fun x hx => ?_⟩
  · obtain ⟨xs, e⟩ := matP_ex p1 hx
    have e5 := s5 _ _ e
    refine ⟨fun z => ?_, fun z => ?_, fun z => ?_, fun z => ?_⟩
    · rw [q2 x (.inl z)] at e; cases e
    · rw [q2 x (.inr z)] at e; cases e
    · rw [u2 x (.inl z)] at e5; cases e5
    · rw [u2 x (.inr z)] at e5; cases e5
  · obtain ⟨xs, e5⟩ := matP_ex q1 hx
    refine ⟨fun z => ?_, fun z => ?_⟩
    · rw [u2 x (.inl z)] at e5; cases e5
    · rw [u2 x (.inr z)] at e5; cases e5
noncomputable def spN_turned (K : Frag) : Sp := fun vs H Q _ => ∃ (b1 b2 : Bool) (a : Addr) (rows : LM) (w : Nat), vs = [.ref a] ∧ MatB b1 b2 K H a rows ∧ rows ≠ [] ∧ (∀ r ∈ rows, r.length = w) ∧ w ≤ 1000 ∧ rows.length ≤ 1000 ∧
  ∀ r H', Same H H' → NewL H H' r (turnM w rows) → Q (.ref r) H'
theorem ok_turned (T : Txt K mg t) : FnOk P w K mg base CX0 1 t.a_turned t.d_turned ["rows"] (spN_turned K) := by
  refine T.F_turned.ok sc_turned (by walk_at "v") (fun cdv A outer s H vs Q E hr h => ?_)
  · obtain ⟨b1, b2, a, rows, w, rfl, hM, hne, hw, hw1, hl1, hQ⟩ := h
    refine ⟨_, (pss_one (ps_ret (pe_compG (xs := ["k"]) (fr := [("rows", 0)]) (g := (gName 0)) (tt := (tEl (tCompG (iSeq K (tVar 1)) (gName 0) (tEl (tOp (rIxB K) (tVar 0) (tVar 1))) 1 [("k", 0)]))) (compG_ok (sc := defScope s_turned) (N := N_turned) rfl rfl (by decide +kernel)) rfl (pi_range1 rfl T.z_range (pa_cons (pe_callB call_lenB rfl T.z_len (by decide +kernel) (pa_cons (px (pv 0) pe_int) pa_nil)) pa_nil)) (fun _ _ _ hE1 => (pg_ownC (N := ["k", "rows"]) (i := 0) hE1 rfl (by decide +kernel) rfl)) (fun _ _ _ hE1 => (po_el (pe_compG (xs := ["row"]) (fr := [("k", 0)]) (g := (gName 0)) (tt := (tEl (tOp (rIxB K) (tVar 0) (tVar 1)))) (compG_ok (N := ["k", "rows"]) hE1 rfl (by decide +kernel)) rfl (pi_seq (pv 1)) (fun _ _ _ hE2 => (pg_own (N := ["row", "k"]) (i := 0) hE2 rfl (by decide +kernel))) (fun _ _ _ hE2 => (po_el (px (pv 0) (pv 1)))))))))), ?_⟩
    show tRet _ _ [some (.ref a)] H
    walk_at "r"
    refine compE_st fun B eB => ?_
    simp only [iRng1]
    walk_at "r"
    obtain ⟨r0, e0⟩ : ∃ r0, rows[0]? = some r0 := by cases rows with | nil => exact absurd rfl hne | cons r _ => exact ⟨r, rfl⟩
    have w0 : r0.length = w := hw r0 (List.mem_of_getElem? e0)
    obtain ⟨ps, p, k1, k2, k3, k4⟩ := hM.row e0
    refine ⟨b1, a, _, 0, _, rfl, rfl, k1, atI_at k2 rfl, b2, p, _, rfl, k4, ?_⟩
    rw [List.length_map, w0]
    refine ⟨_, rfl, by omega, by omega, fun a1 ha1 => ?_⟩
    rw [Int.toNat_natCast]
    refine cg_range (RowN H a1 fun k => colI k rows) ha1 hw1 (RowN.mono (a := a1)) ?_ ?_
    · intro i H1 zs hi s1 ez Q' hQ'
      subst eB
      show tCompG _ _ _ _ _ [some (.int (0 + (i : Int))), some (.ref a)] H1 Q'
      refine compE_st fun B eB => ?_
      simp only [iSeq]
      walk_at "r"
      obtain ⟨xs, x1, x2, x3⟩ := (hM.up s1).walk
      refine ⟨b1, ⟨_, x1⟩, fun a2 ha2 => ?_⟩
      refine cg_seq (fun j y _ => ∃ r, rows[j]? = some r ∧ y = .int (r.getD i 0)) ha2 x1 (by omega) (fun _ _ _ _ r _ => r) ?_ ?_
      · intro j x H2 zs2 ex s2 ez2 Q2 hQ2
        obtain ⟨p, r, rfl, er, hp⟩ := x3 j x ex
        subst eB
        show tOp _ _ _ [some (.ref p), some (.int (0 + (i : Int)))] H2 Q2
        walk_at "r"
        have hri : i < r.length := by rw [hw r (List.mem_of_getElem? er)]; exact hi
        exact ⟨b2, p, _, _, _, rfl, rfl, hp.up s2, atI_at (int_at (getD_at hri)) (by omega), hQ2 _ _ (Same.refl _) ⟨r, er, rfl⟩⟩
      · intro H2 ys s2 e2 hly hr2
        have ey : ys = (colI i rows).map V.int := by
          refine list_is (by simp [colI]; omega) fun j y e => ?_
          obtain ⟨r, er, rfl⟩ := hr2 j y e
          exact ⟨r.getD i 0, by unfold colI; rw [List.getElem?_map, er]; rfl, rfl⟩
        subst ey
        exact hQ' _ _ s2 ⟨a2, rfl, Ne.symm (ne_of_none ez ha2), none_back s1 ha2, e2⟩
    · intro H1 ys s1 e1 hly hr1
      have := NewL.of e1 ha1 hr1
      rw [hly] at this
      exact hQ a1 H1 s1 this
noncomputable def noE : Expr := .Name "" ⟨0, 0, 0, 0⟩
noncomputable def retE : Stmt → Expr
  | .Return (some e) _ => e
  | _ => noE
noncomputable def argE (i : Nat) : Expr → Expr
  | .Call _ as _ _ => as.getD i noE
  | _ => noE
noncomputable def kwE : Expr → Expr
  | .Call _ _ (k :: _) _ => k.value
  | _ => noE
noncomputable def lamP : Expr → Arguments
  | .Lambda p _ _ _ => p
  | _ => ⟨[], [], none, [], [], none, []⟩
noncomputable def lamB : Expr → Expr
  | .Lambda _ b _ _ => b
  | _ => noE
noncomputable def lamS : Expr → Scope
  | .Lambda _ _ s _ => s
  | _ => defScope (.Pass ⟨0, 0, 0, 0⟩)
noncomputable def lamPos : Expr → Pos
  | .Lambda _ _ _ p => p
  | _ => ⟨0, 0, 0, 0⟩
noncomputable def asgE : Stmt → Expr
  | .Assign _ e _ => e
  | _ => noE
noncomputable def lam_whole_met : Expr := argE 2 (asgE ((defBody s_whole_met).getD 1 (.Pass ⟨0, 0, 0, 0⟩)))
theorem lc_lam_whole_met : LamC (lamS lam_whole_met) "top" "spot" := ⟨rfl, by decide +kernel, by decide +kernel, by decide +kernel⟩
noncomputable def lam_rising : Expr := kwE (retE ((defBody s_Steps_rising).getD 2 (.Pass ⟨0, 0, 0, 0⟩)))
structure TT (K : Frag) (t : Adr) (H : Hp) : Prop where
  r : TabAt H (tabP K t.a_Steps_rising) (lamPos lam_rising) "Steps.rising.<locals>.<lambda>"
  m : TabAt H (tabP K t.a_whole_met) (lamPos lam_whole_met) "whole_met.<locals>.<lambda>"
  ne : tabP K t.a_Steps_rising ≠ tabP K t.a_whole_met
noncomputable def Ev (K : Frag) (t : Adr) (S : List Addr) (H H' : Hp) : Prop := (∀ b o, b ∉ S → (∀ ps, o ≠ .tbl ps) → H b = some o → H' b = some o) ∧ (TT K t H → TT K t H')
noncomputable def Bt (S : List Addr) (H H' : Hp) : Prop := ∀ b o, b ∉ S → H b = some o → H' b = some o
theorem tab_bt {S : List Addr} {H H' : Hp} {P : Addr} {pos : Pos} {q : Str} (h : TabAt H P pos q) (b : Bt S H H') (hS : ∀ a ∈ S, H a = none ∨ (∃ zs, H a = some (.lst zs)) ∨ ∃ C dx fs, H a = some (.ins C dx fs)) : TabAt H' P pos q := by
  have no : ∀ {a : Addr} {o : HO}, H a = some o → (∀ zs, o ≠ .lst zs) → (∀ C dx fs, o ≠ .ins C dx fs) → a ∉ S := fun {a o} e n1 n2 z => by
    rcases hS a z with w | ⟨zs, w⟩ | ⟨C, dx, fs, w⟩ <;> (rw [e] at w; cases w)
    · exact n1 _ rfl
    · exact n2 _ _ _ rfl
  rcases h with h | ⟨c, h1, h2⟩
  · exact .inl (b _ _ (no h (fun _ z => by cases z) fun _ _ _ z => by cases z) h)
  · refine .inr ⟨c, b _ _ (no h1 (fun _ z => by cases z) fun _ _ _ z => by cases z) h1, b _ _ (no h2 (fun _ z => ?_) fun _ _ _ z => ?_) h2⟩ <;> (unfold codeO at z; cases z)
theorem Bt.ev {K : Frag} {t : Adr} {S : List Addr} {H H' : Hp} (b : Bt S H H') (hS : ∀ a ∈ S, H a = none ∨ (∃ zs, H a = some (.lst zs)) ∨ ∃ C dx fs, H a = some (.ins C dx fs)) : Ev K t S H H' :=
  ⟨fun a o h1 _ e => b a o h1 e, fun T => ⟨tab_bt T.r b hS, tab_bt T.m b hS, T.ne⟩⟩
theorem same_bt {S : List Addr} {H H' : Hp} (s : Same H H') : Bt S H H' := fun a o _ e => s a o e
theorem same_ev {K : Frag} {t : Adr} {S : List Addr} {H H' : Hp} (s : Same H H') : Ev K t S H H' :=
  have b : Bt [] H H' := same_bt s
  ⟨fun a o _ _ e => s a o e, fun T => ⟨tab_bt T.r b (fun a z => nomatch z), tab_bt T.m b (fun a z => nomatch z), T.ne⟩⟩
theorem Ev.trans {K : Frag} {t : Adr} {S : List Addr} {H H1 H2 : Hp} (a : Ev K t S H H1) (b : Ev K t S H1 H2) : Ev K t S H H2 := ⟨fun c o h1 h2 e => b.1 c o h1 h2 (a.1 c o h1 h2 e), fun T => b.2 (a.2 T)⟩
theorem Ev.sub {K : Frag} {t : Adr} {S S' : List Addr} {H H1 : Hp} (a : Ev K t S H H1) (h : ∀ x ∈ S, x ∈ S') : Ev K t S' H H1 := ⟨fun c o h1 h2 e => a.1 c o (fun z => h1 (h c z)) h2 e, a.2⟩
theorem Ev.new {K : Frag} {t : Adr} {S : List Addr} {H H1 H2 : Hp} (a : Ev K t [] H H1) (b : Ev K t S H1 H2) (h : ∀ x ∈ S, H x = none) : Ev K t [] H H2 :=
  ⟨fun c o _ h2 e => b.1 c o (fun z => by rw [h c z] at e; cases e) h2 (a.1 c o (fun z => nomatch z) h2 e), fun T => b.2 (a.2 T)⟩
theorem row_ne {H : Hp} {l p : Addr} {qs : List Addr} {ns : List Int} (h : H l = some (.lst (qs.map V.ref))) (h1 : qs ≠ []) (h2 : H p = some (.lst (ns.map V.int))) : p ≠ l := fun z => by
  rw [z, h] at h2
  cases qs with
  | nil => exact h1 rfl
  | cons a r =>
    cases ns with
    | nil => cases h2
    | cons n m => cases h2
theorem matL_ev {K : Frag} {t : Adr} {S : List Addr} {H H' : Hp} {a : Addr} {A : LM} (h : MatL H a A) (e : Ev K t S H H') (ha : a ∉ S) (hr : ∀ p ∈ S, ∀ ns : List Int, H p ≠ some (.lst (ns.map V.int))) : MatL H' a A := by
  obtain ⟨ps, h1, h2, h3⟩ := h
  refine ⟨ps, e.1 _ _ ha (fun _ z => by cases z) h1, h2, fun i p r e1 e2 => ?_⟩
  obtain ⟨n1, n2⟩ := h3 i p r e1 e2
  exact ⟨n1, e.1 _ _ (fun z => hr p z r n2) (fun _ z => by cases z) n2⟩
theorem sqB_ev {b : Bool} {K : Frag} {t : Adr} {H H' : Hp} {a : Addr} {xs : List V} (h : SqB b K H a xs) (e : Ev K t [] H H') : SqB b K H' a xs := by
  cases b
  · rcases h with (h | ⟨o, h⟩) | h
    · exact .inl (.inl (e.1 _ _ (fun z => nomatch z) (fun _ z => by cases z) h))
    · exact .inl (.inr ⟨o, e.1 _ _ (fun z => nomatch z) (fun _ z => by cases z) h⟩)
    · exact .inr h
  · rcases h with (h | ⟨o, h⟩) | h
    · exact .inl (.inl (e.1 _ _ (fun z => nomatch z) (fun _ z => by cases z) h))
    · exact .inl (.inr ⟨o, e.1 _ _ (fun z => nomatch z) (fun _ z => by cases z) h⟩)
    · exact .inr h
theorem matB_ev {b1 b2 : Bool} {K : Frag} {t : Adr} {H H' : Hp} {a : Addr} {A : LM} (h : MatB b1 b2 K H a A) (e : Ev K t [] H H') : MatB b1 b2 K H' a A := let ⟨ps, h1, h2, h3⟩ := h; ⟨ps, sqB_ev h1 e, h2, fun i p r e1 e2 => sqB_ev (h3 i p r e1 e2) e⟩
theorem place_ev {K : Frag} {t : Adr} {H H' : Hp} {p : Addr} {ns : List Int} {u : Int} (h : PlaceAt H p ns u) (e : Ev K t [] H H') : PlaceAt H' p ns u := let ⟨x, h1, h2⟩ := h; ⟨x, e.1 _ _ (fun z => nomatch z) (fun _ z => by cases z) h1, e.1 _ _ (fun z => nomatch z) (fun _ z => by cases z) h2⟩
noncomputable def stF (l c : Addr) : List (Str × V) := putF "columns" (.ref c) (putF "lines" (.ref l) [])
theorem stF_lines (l c : Addr) : (stF l c).lookup ("lines" : Str) = some (.ref l) := by unfold stF; rw [lookup_putF, if_neg (by decide), lookup_putF, if_pos rfl]
theorem stF_columns (l c : Addr) : (stF l c).lookup ("columns" : Str) = some (.ref c) := by unfold stF; rw [lookup_putF, if_pos rfl]
theorem stF_no (l c : Addr) {m : Str} (h1 : ¬ m = "columns") (h2 : ¬ m = "lines") : (stF l c).lookup m = none := by unfold stF; rw [lookup_putF, if_neg h1, lookup_putF, if_neg h2]; rfl
structure StepsAt (t : Adr) (H : Hp) (x l c : Addr) (L C : LM) : Prop where
  ob : ∃ dx, H x = some (.ins t.a_Steps dx (stF l c))
  li : MatL H l L
  co : MatL H c C
  ne : l ≠ c
  l0 : L ≠ []
  c0 : C ≠ []
noncomputable def at2 (L : LM) (i : Int) (k : Nat) : Int := (L.getD i.toNat []).getD k 0
noncomputable def stand (L : LM) (top k : Nat) : List Int := ((List.range (L.length - top)).map fun i => ((top + i : Nat) : Int)).filter fun i => decide (at2 L i k ≠ 0)
noncomputable def Rises (L : LM) (top k : Nat) (ns : List Int) : Prop := ns.Perm (stand L top k) ∧ ns.Pairwise fun a b => (at2 L a k).natAbs ≤ (at2 L b k).natAbs
noncomputable def sp_nearest : Sp := fun vs H Q _ => ∃ a b : Int, vs = [.int a, .int b] ∧ b ≠ 0 ∧ Q (.int ((2 * a + b).fdiv (2 * b))) H
noncomputable def sp_less (K : Frag) : Sp := fun vs H Q _ => ∃ (b1 b2 : Bool) (a b : Addr) (xs ys : List Int) (q : Int), vs = [.ref a, .ref b, .int q] ∧ SqB b1 K H a (xs.map V.int) ∧ SqB b2 K H b (ys.map V.int) ∧ xs.length = ys.length ∧ xs.length ≤ 1000 ∧ (∀ y ∈ ys, IntMulOk q y) ∧
  ∀ p H', Same H H' → H p = none → H' p = some (.lst ((lessI xs ys q).map V.int)) → Q (.ref p) H'
noncomputable def sp_exchange : Sp := fun vs H Q _ => ∃ (l : Addr) (zs : List V) (i j : Nat) (x y : V), vs = [.ref l, .int i, .int j] ∧ H l = some (.lst zs) ∧ zs[i]? = some x ∧ zs[j]? = some y ∧ Q .non (upd H l (.lst ((zs.set i y).set j x)))
noncomputable def sp_turn_signs : Sp := fun vs H Q _ => ∃ (l : Addr) (L : LM) (i : Nat) (r : List Int), vs = [.ref l, .int i] ∧ MatL H l L ∧ L[i]? = some r ∧ r.length ≤ 1000 ∧ ∀ H', Bt [l] H H' → MatL H' l (L.set i (r.map fun z => -z)) → Q .non H'
noncomputable def sp_Steps_init (K : Frag) (t : Adr) : Sp := fun vs H Q _ => ∃ (x dx a : Addr) (b1 b2 : Bool) (A : LM) (d : Nat), vs = [.ref x, .ref a] ∧ H x = some (.ins t.a_Steps dx []) ∧ MatB b1 b2 K H a A ∧ 1 ≤ A.length ∧ A.length ≤ 63 ∧ (∀ r ∈ A, r.length = d) ∧ d ≤ 63 ∧
  ∀ l c H', Bt [x] H H' → StepsAt t H' x l c (List.zipWith (· ++ ·) A (idM A.length)) (idM A.length) → H l = none → H c = none → Q .non H'
noncomputable def sp_Steps_take (t : Adr) : Sp := fun vs H Q _ => ∃ (x l c : Addr) (L C : LM) (i j : Nat) (q : Int) (xi xj ci cj : List Int), vs = [.ref x, .int i, .int j, .int q] ∧ StepsAt t H x l c L C ∧ L[i]? = some xi ∧ L[j]? = some xj ∧ C[i]? = some ci ∧ C[j]? = some cj ∧
  xi.length = xj.length ∧ xi.length ≤ 1000 ∧ ci.length = cj.length ∧ ci.length ≤ 1000 ∧ (∀ z ∈ xj, IntMulOk q z) ∧ (∀ z ∈ ci, IntMulOk (-q) z) ∧
  ∀ H', Bt [l, c] H H' → StepsAt t H' x l c (L.set i (lessI xi xj q)) (C.set j (lessI cj ci (-q))) → Q .non H'
noncomputable def sp_Steps_rising (K : Frag) (t : Adr) : Sp := fun vs H Q _ => ∃ (x l c : Addr) (L C : LM) (top k : Nat), vs = [.ref x, .int top, .int k] ∧ StepsAt t H x l c L C ∧ TT K t H ∧ top ≤ L.length ∧ L.length ≤ 63 ∧ (∀ r ∈ L, k < r.length) ∧
  ∀ q (ns : List Int) H', Ev K t [] H H' → TT K t H' → H q = none → H' q = some (.lst (ns.map V.int)) → Rises L top k ns → Q (.ref q) H'
theorem fld_at {K : Frag} {σ : St} {H : Hp} {Q : VK} {i : Nat} {x C dx : Addr} {fs : List (Str × V)} {f : Str} {v : V} (hv : σ[i]? = some (some (.ref x))) (ob : H x = some (.ins C dx fs)) (cl : Cls K C) (no : NoAttr K C f) (l : fs.lookup f = some v) (q : Q v H) : tFld K (tVar i) f σ H Q :=
  ⟨.ref x, hv, x, C, dx, fs, v, rfl, ob, cl, no, l, q⟩
theorem ix_at {b : Bool} {K : Frag} {H : Hp} {Q : VK} {a : Addr} {xs : List V} {i : Nat} {v : V} (h : SqB b K H a xs) (e : xs[i]? = some v) (q : Q v H) : rIxB K (.ref a) (.int i) H Q := ⟨b, a, _, _, _, rfl, rfl, h, atI_at e rfl, q⟩
theorem cg_rangeI {a : Addr} {H : Hp} {tt : St → Hp → (Option V → Hp → Prop) → Prop} {fr : List (Str × Nat)} {σ : St} {Q : VK} {lo : Int} {len : Nat} (P : Nat → List V → Hp → Prop) (ha : H a = none) (hz : len ≤ 1000) (h0 : P 0 [] (upd H a (.lst [])))
    (hl : ∀ i zs H1, P i zs H1 → zs.length ≤ i) (mono : ∀ i zs H1 H2, P i zs H1 → SameX a H1 H2 → P i zs H2)
    (he : ∀ (i : Nat) H1 zs, i < len → Same H H1 → H1 a = some (.lst zs) → P i zs H1 → ∀ C : Option V → Hp → Prop,
      (∀ y H2, Same H1 H2 → P (i + 1) (zs ++ [y]) H2 → C (some y) H2) → (∀ H2, Same H1 H2 → P (i + 1) zs H2 → C none H2) → tt (some (.int (lo + i)) :: frees fr σ) H1 C)
    (hd : ∀ H1 ys, Same H H1 → H1 a = some (.lst ys) → P len ys H1 → Q (.ref a) H1) : CompWG (Itr lo len) (gName 0) tt 1 fr σ a H Q := by
  refine cg_inv len P ha hz h0 hl mono (fun i H1 hi s => hi) (fun H1 s => Nat.le_refl _) ?_ hd
  intro i H1 zs hi s1 ez p ys x H3 hys hy C hC1 hC2
  obtain ⟨e1, e2⟩ := hy
  subst e1 e2
  match ys, hys with
  | [o], _ => exact ⟨⟨[_], rfl, rfl⟩, he i H3 zs hi s1 ez p C hC1 hC2⟩
theorem matL_p {P a : Addr} {H H' : Hp} {A : LM} {ps : Array Value} (h : MatL H a A) (e : H P = some (.tbl ps)) (s : SameP P H H') : MatL H' a A := by
  obtain ⟨qs, h1, h2, h3⟩ := h
  refine ⟨qs, s _ _ (fun z => by rw [z, e] at h1; cases h1) h1, h2, fun i p r e1 e2 => ?_⟩
  obtain ⟨n1, n2⟩ := h3 i p r e1 e2
  exact ⟨n1, s _ _ (fun z => by rw [z, e] at n2; cases n2) n2⟩
theorem TT.rise {K : Frag} {t : Adr} {H H' : Hp} (T : TT K t H) (s : SameP (tabP K t.a_Steps_rising) H H') (h : TabAt H' (tabP K t.a_Steps_rising) (lamPos lam_rising) "Steps.rising.<locals>.<lambda>") : Ev K t [] H H' ∧ TT K t H' := by
  have T' : TT K t H' := by
    refine ⟨h, ?_, T.ne⟩
    obtain ⟨ps, et⟩ := T.r.tbl
    rcases T.m with q | ⟨c, q1, q2⟩
    · exact .inl (s _ _ (Ne.symm T.ne) q)
    · exact .inr ⟨c, s _ _ (Ne.symm T.ne) q1, s _ _ (fun z => by rw [z, et] at q2; unfold codeO at q2; cases q2) q2⟩
  refine ⟨⟨fun b o _ ho e => s b o (fun z => ?_) e, fun _ => T'⟩, T'⟩
  obtain ⟨ps, et⟩ := T.r.tbl
  rw [z, et] at e
  cases e
  exact ho _ rfl
theorem TT.meet {K : Frag} {t : Adr} {H H' : Hp} (T : TT K t H) (s : SameP (tabP K t.a_whole_met) H H') (h : TabAt H' (tabP K t.a_whole_met) (lamPos lam_whole_met) "whole_met.<locals>.<lambda>") : Ev K t [] H H' ∧ TT K t H' := by
  obtain ⟨ps, et⟩ := T.m.tbl
  have T' : TT K t H' := by
    refine ⟨?_, h, T.ne⟩
    rcases T.r with q | ⟨c, q1, q2⟩
    · exact .inl (s _ _ T.ne q)
    · exact .inr ⟨c, s _ _ T.ne q1, s _ _ (fun z => by rw [z, et] at q2; unfold codeO at q2; cases q2) q2⟩
  refine ⟨⟨fun b o _ ho e => s b o (fun z => ?_) e, fun _ => T'⟩, T'⟩
  rw [z, et] at e
  cases e
  exact ho _ rfl
theorem meth_at {σ : St} {H : Hp} {Q : VK} {E : XK} {i : Nat} {x C dx : Addr} {fs : List (Str × V)} {m : Str} {sp : Sp} {tg : TA} (hv : σ[i]? = some (some (.ref x))) (ob : H x = some (.ins C dx fs)) (l : fs.lookup m = none)
    (h : tg σ H fun vs H2 => sp (.ref x :: (vs ++ [])) H2 Q E) : tMeth C m sp [] E (tVar i) tg σ H Q := ⟨.ref x, hv, x, dx, fs, rfl, ob, l, h⟩
theorem atI_back {α : Type} {xs : List α} {m : Nat} {v : α} {I : Int} (h : xs[m]? = some v) (hI : I = (m : Int) - xs.length) : atI xs I = some v := by
  have hm := (List.getElem?_eq_some_iff.mp h).1
  unfold atI ixN
  rw [if_neg (by omega), if_pos (by omega), show (I + (xs.length : Int)).toNat = m by omega]
  exact h
theorem at2_is {L : LM} {k m : Nat} {r : List Int} (e : L[m]? = some r) : at2 L (m : Int) k = r.getD k 0 := by
  unfold at2
  have e0 : L.getD m [] = r := by rw [List.getD_eq_getElem?_getD, e]; rfl
  rw [Int.toNat_natCast, e0]
theorem stand_mem {L : LM} {top k : Nat} {n : Int} (h : n ∈ stand L top k) : ∃ (m : Nat) (r : List Int), n = (m : Int) ∧ top ≤ m ∧ L[m]? = some r ∧ r.getD k 0 ≠ 0 := by
  obtain ⟨h1, h2⟩ := List.mem_filter.mp h
  obtain ⟨m, hm, rfl⟩ := List.mem_map.mp h1
  have := List.mem_range.mp hm
  have e : L[top + m]? = some L[top + m] := List.getElem?_eq_getElem (by omega)
  refine ⟨top + m, _, rfl, by omega, e, ?_⟩
  have h3 : at2 L ((top + m : Nat) : Int) k ≠ 0 := of_decide_eq_true h2
  rw [at2_is e] at h3
  exact h3
theorem mem_stand {L : LM} {top k m : Nat} {r : List Int} (hm : top ≤ m) (e : L[m]? = some r) (h : r.getD k 0 ≠ 0) : (m : Int) ∈ stand L top k := by
  have hl := (List.getElem?_eq_some_iff.mp e).1
  refine List.mem_filter.mpr ⟨List.mem_map.mpr ⟨m - top, List.mem_range.mpr (by omega), by omega⟩, decide_eq_true ?_⟩
  rw [at2_is e]
  exact h
theorem stand_nd {L : LM} {top k : Nat} : (stand L top k).Nodup := by
  unfold stand
  refine List.Nodup.sublist List.filter_sublist ?_
  unfold List.Nodup
  rw [List.pairwise_map]
  exact (List.nodup_range (n := L.length - top)).imp fun {a b} h z => h (by omega)
theorem map_ref_swap {zs : List Addr} {i j : Nat} {a b : Addr} : ((zs.map V.ref).set i (.ref b)).set j (.ref a) = ((zs.set i b).set j a).map V.ref := by rw [List.map_set, List.map_set]
theorem matL_swap {H : Hp} {l : Addr} {L : LM} {i j : Nat} {x y : List Int} (h : MatL H l L) (ei : L[i]? = some x) (ej : L[j]? = some y) : ∃ zs u v, H l = some (.lst zs) ∧ zs[i]? = some u ∧ zs[j]? = some v ∧ MatL (upd H l (.lst ((zs.set i v).set j u))) l ((L.set i y).set j x) := by
  obtain ⟨ps, h1, h2, h3⟩ := h
  have il := (List.getElem?_eq_some_iff.mp ei).1
  have jl := (List.getElem?_eq_some_iff.mp ej).1
  obtain ⟨a, ha⟩ : ∃ p, ps[i]? = some p := ⟨_, List.getElem?_eq_getElem (by omega)⟩
  obtain ⟨b, hb⟩ : ∃ p, ps[j]? = some p := ⟨_, List.getElem?_eq_getElem (by omega)⟩
  refine ⟨_, .ref a, .ref b, h1, by rw [List.getElem?_map, ha]; rfl, by rw [List.getElem?_map, hb]; rfl, ?_⟩
  rw [map_ref_swap]
  refine ⟨(ps.set i b).set j a, upd_same, by simp [h2], fun m p r e1 e2 => ?_⟩
  rw [swap_at ei ej] at e2
  have sw : ((ps.set i b).set j a)[m]? = if m = j then some a else if m = i then some b else ps[m]? := by
    by_cases h1 : m = j
    · subst h1
      rw [if_pos rfl, List.getElem?_set_self (by rw [List.length_set]; omega)]
    · rw [if_neg h1, List.getElem?_set_ne (fun z => h1 z.symm)]
      by_cases h2 : m = i
      · subst h2
        rw [if_pos rfl, List.getElem?_set_self (by omega)]
      · rw [if_neg h2, List.getElem?_set_ne (fun z => h2 z.symm)]
  rw [sw] at e1
  have go : p ≠ l ∧ H p = some (.lst (r.map V.int)) := by
    by_cases h1 : m = j
    · rw [if_pos h1] at e1 e2
      exact h3 i p r (ha.trans e1) (ei.trans e2)
    · rw [if_neg h1] at e1 e2
      by_cases h2 : m = i
      · rw [if_pos h2] at e1 e2
        exact h3 j p r (hb.trans e1) (ej.trans e2)
      · rw [if_neg h2] at e1 e2
        exact h3 m p r e1 e2
  exact ⟨go.1, by rw [upd_ne go.1]; exact go.2⟩
theorem two_last {ns : List Int} (h : 2 ≤ ns.length) : ∃ (us : List Int) (b a : Int), ns = us ++ [b, a] := by
  obtain ⟨us, a, rfl⟩ : ∃ us a, ns = us ++ [a] := ⟨ns.dropLast, ns.getLast (by intro z; rw [z] at h; simp at h), (List.dropLast_concat_getLast _).symm⟩
  obtain ⟨us', b, rfl⟩ : ∃ us' b, us = us' ++ [b] := ⟨us.dropLast, us.getLast (by intro z; rw [z] at h; simp at h), (List.dropLast_concat_getLast _).symm⟩
  exact ⟨us', b, a, by simp⟩
theorem StepsAt.ev {K : Frag} {t : Adr} {H H' : Hp} {x l c : Addr} {L C : LM} (S : StepsAt t H x l c L C) (e : Ev K t [] H H') : StepsAt t H' x l c L C := by
  obtain ⟨⟨dx, ob⟩, li, co, ne, l0, c0⟩ := S
  exact ⟨⟨dx, e.1 _ _ (fun z => nomatch z) (fun _ z => by cases z) ob⟩, matL_ev li e (fun z => nomatch z) (fun _ z => nomatch z), matL_ev co e (fun z => nomatch z) (fun _ z => nomatch z), ne, l0, c0⟩
theorem StepsAt.bt {K : Frag} {t : Adr} {H H' : Hp} {x l c : Addr} {L C : LM} (S : StepsAt t H x l c L C) (b : Bt [l, c] H H') : Ev K t [l, c] H H' := by
  refine b.ev fun a ha => ?_
  obtain ⟨_, ⟨ps, h1, _⟩, ⟨qs, k1, _⟩, _⟩ := S
  rcases List.mem_cons.mp ha with e | e
  · rw [e]; exact .inr (.inl ⟨_, h1⟩)
  · rw [List.mem_singleton.mp e]; exact .inr (.inl ⟨_, k1⟩)
theorem bits_of {x : Int} {B : Nat} (h : x.natAbs < 2 ^ B) : Builtin.Int.intBits x ≤ B := intBits_le_iff.mpr h
theorem pow_abs {q : Int} {E : Nat} (h : q.natAbs ≤ 2 ^ E) : Builtin.Int.intBits q ≤ E + 1 := bits_of (Nat.lt_of_le_of_lt h (Nat.pow_lt_pow_right (by decide) (Nat.lt_succ_self E)))
noncomputable def sp_Steps_gather (K : Frag) (t : Adr) : Sp := fun vs H Q _ => ∃ (x l c : Addr) (L C : LM) (top k d n : Nat) (cs : LM) (b e : Nat), vs = [.ref x, .int top, .int k] ∧ StepsAt t H x l c L C ∧ TT K t H ∧ Gm d n k top cs b e L L C 1 ∧ (∀ (i : Nat) r, top ≤ i → L[i]? = some r → ∀ z ∈ r, z.natAbs ≤ 2 ^ b) ∧
  n ≤ 63 ∧ k < d ∧ d ≤ 63 ∧ top ≤ n ∧ (n - top) * (b + 1) ≤ bS ∧ (4 * b + 2 ≤ bS ∨ n ≤ top) ∧ e ≤ bS ∧
  ∀ v F L' C' H', Ev K t [l, c] H H' → TT K t H' → StepsAt t H' x l c L' C' → Gm d n k top cs b e L L' C' F → F ≤ 2 ^ ((n - top) * (b + 1)) → Gat v k top L' → (v = false → L' = L ∧ C' = C) → Q (.bl v) H'
noncomputable def sp_Steps_set_lead (t : Adr) : Sp := fun vs H Q _ => ∃ (x l c : Addr) (L C : LM) (ks : List Nat) (k d n : Nat) (cs : LM) (b u e : Nat), vs = [.ref x, .int ks.length, .int k] ∧ StepsAt t H x l c L C ∧ Sl d n k cs ks b u e 0 L C ∧
  n ≤ 63 ∧ k < d ∧ d ≤ 63 ∧ b ≤ bS ∧ u ≤ bS ∧ e ≤ bS ∧
  ∀ L' C' H', Bt [l, c] H H' → StepsAt t H' x l c L' C' → Ec d n (k + 1) cs (ks ++ [k]) b (u + b + 1) (e + u + 6) L' C' → Q .non H'
noncomputable def sp_stairs (K : Frag) (t : Adr) : Sp := fun vs H Q _ => ∃ (b1 b2 : Bool) (a : Addr) (A : LM) (d n B : Nat), vs = [.ref a] ∧ MatB b1 b2 K H a A ∧ A.length = n ∧ (∀ r ∈ A, r.length = d) ∧ 1 ≤ n ∧ n ≤ 63 ∧ d ≤ 63 ∧ BdM (2 ^ B) A ∧ FitS n d B ∧ TT K t H ∧
  ∀ r f g h F R C ks H', Ev K t [] H H' → TT K t H' → H' r = some (.tup [.ref f, .ref g, .ref h]) → Told H' f g h F R (turnM n C) → Sta d n A ks F R C → (∀ x o, (∀ ps, o ≠ .tbl ps) → H x = some o → x ≠ f) → Q (.ref r) H'
theorem rise_mx {L : LM} {top k : Nat} {us : List Int} {i j : Nat} {xj : List Int} (h : Rises L top k (us ++ [(j : Int), (i : Int)])) (ej : L[j]? = some xj) {m : Nat} {r : List Int} (hm : top ≤ m) (ne : m ≠ i) (e : L[m]? = some r) : (r.getD k 0).natAbs ≤ (xj.getD k 0).natAbs := by
  by_cases z : r.getD k 0 = 0
  · rw [z]; exact Nat.zero_le _
  · have h1 := h.1.mem_iff.mpr (mem_stand hm e z)
    rcases List.mem_append.mp h1 with q | q
    · have := (List.pairwise_append.mp h.2).2.2 _ q (j : Int) (List.mem_cons_self ..)
      rw [at2_is e, at2_is ej] at this
      exact this
    · rcases List.mem_cons.mp q with q | q
      · have : m = j := by omega
        subst this
        rw [e] at ej
        cases ej
        exact Nat.le_refl _
      · exact absurd (show m = i by have := List.mem_singleton.mp q; omega) ne
noncomputable def PairsAt (H : Hp) (q : Addr) (ks : List Nat) : Prop := ∃ ps : List Addr, H q = some (.lst (ps.map V.ref)) ∧ ps.length = ks.length ∧ ∀ (i : Nat) p j, ps[i]? = some p → ks[i]? = some j → H p = some (.tup [.int i, .int j])
noncomputable def LeadsAre (d : Nat) (F : LM) (ks : List Nat) : Prop := ks.length ≤ F.length ∧ ∀ (i : Nat) r, F[i]? = some r → (∀ j, ks[i]? = some j → j < d ∧ r.getD j 0 ≠ 0 ∧ ∀ m, m < j → r.getD m 0 = 0) ∧ (ks.length ≤ i → ∀ m, r.getD m 0 = 0)
noncomputable def sp_leads_of (K : Frag) : Sp := fun vs H Q _ => ∃ (b1 b2 : Bool) (f : Addr) (F : LM) (d : Nat) (ks : List Nat), vs = [.ref f] ∧ MatB b1 b2 K H f F ∧ F.length ≤ 63 ∧ (∀ r ∈ F, r.length = d) ∧ d ≤ 63 ∧ LeadsAre d F ks ∧
  ∀ q H', Same H H' → H q = none → PairsAt H' q ks → Q (.ref q) H'
noncomputable def wB : Nat := 4194304
noncomputable def sp_climbed (K : Frag) : Sp := fun vs H Q _ => ∃ (b1 b2 b3 : Bool) (f q tp : Addr) (F : LM) (d n : Nat) (ks : List Nat) (ts : List Int) (u : Int), vs = [.ref f, .ref q, .ref tp, .int u] ∧ MatB b1 b2 K H f F ∧ PairsAt H q ks ∧ SqB b3 K H tp (ts.map V.int) ∧
  F.length = n ∧ (∀ r ∈ F, r.length = d) ∧ ts.length = n ∧ 1 ≤ n ∧ n ≤ 63 ∧ 1 ≤ d ∧ d ≤ 12 ∧ ks.length ≤ n ∧ ks.Pairwise (· < ·) ∧ (∀ j ∈ ks, j < d) ∧
  (∀ (i : Nat) r j, F[i]? = some r → ks[i]? = some j → 0 < r.getD j 0 ∧ ∀ m, m < j → r.getD m 0 = 0) ∧ u ≠ 0 ∧ u.natAbs ≤ 2 ^ wB ∧ BdM (2 ^ wB) F ∧ BdM (2 ^ wB) [ts] ∧
  ∀ p H' ns, Same H H' → PlaceAt H' p (redT (u * scl F ks ks.length) ns) (redU (u * scl F ks ks.length) ns) → ns.length = d → (∀ z ∈ ns, z.natAbs ≤ 2 ^ (25 * wB + 48)) → (∀ (i : Nat) r x, i < ks.length → F[i]? = some r → ts[i]? = some x → dotI r ns = x * scl F ks ks.length) → Q (.ref p) H'
noncomputable def MetAt (H : Hp) (v : V) (A : LM) (ts : List Int) (u mm : Int) (d n : Nat) : Prop := ∃ r, v = .ref r ∧
  ((∃ p ns w, H r = some (.tup [.str "place", .ref p]) ∧ PlaceAt H p ns w ∧ 0 < w ∧ w.natAbs ≤ 2 ^ (13 * wB) ∧ gl w ns = 1 ∧ ns.length = d ∧ (∀ z ∈ ns, z.natAbs ≤ 2 ^ (25 * wB + 48)) ∧ ∀ (i : Nat) row x, A[i]? = some row → ts[i]? = some x → mm * w ∣ dotI row ns * u - x * w) ∨
   (∃ p ns, H r = some (.tup [.str "row", .ref p]) ∧ H p = some (.tup (ns.map V.int)) ∧ ns.length = n ∧ (∀ z ∈ ns, z.natAbs ≤ 2 ^ wB) ∧ (∀ k, k < d → dotI ns (colI k A) = 0) ∧ ¬ mm ∣ dotI ns ts))
noncomputable def sp_meeting (K : Frag) (t : Adr) : Sp := fun vs H Q _ => ∃ (b1 b2 : Bool) (a sp f c cc : Addr) (ob : Obj) (pm ctv : Value) (A : LM) (ts : List Int) (u : Int) (d n B : Nat), vs = [.ref a, .ref sp, .ref f] ∧ MatB b1 b2 K H a A ∧ A.length = n ∧ (∀ r ∈ A, r.length = d) ∧ 1 ≤ n ∧ n ≤ 63 ∧ 1 ≤ d ∧ d ≤ 12 ∧ BdM (2 ^ B) A ∧ FitS n d B ∧
  PlaceAt H sp ts u ∧ 0 < u ∧ u.natAbs ≤ 2 ^ 90 ∧ ts.length = n ∧ (∀ z ∈ ts, z.natAbs ≤ 2 ^ (B + 90)) ∧ TT K t H ∧ H f = some (lamO f c "whole_met.<locals>.<lambda>" (lamP lam_whole_met) (lamB lam_whole_met) (lamS lam_whole_met) [("spot", cc)] pm ctv) ∧ H c = some (codeO c "whole_met.<locals>.<lambda>") ∧ H cc = some (cellO cc ob) ∧ ob.data = .cell (some (.ref sp)) ∧
  ∀ v H', Ev K t [] H H' → TT K t H' → MetAt H' v A ts u u d n → Q v H'
noncomputable def sp_whole_met (K : Frag) (t : Adr) : Sp := fun vs H Q _ => ∃ (b1 b2 b3 : Bool) (a tp : Addr) (A : LM) (ts : List Int) (u : Int) (d n B : Nat), vs = [.ref a, .ref tp, .int u] ∧ MatB b1 b2 K H a A ∧ SqB b3 K H tp (ts.map V.int) ∧ A.length = n ∧ (∀ r ∈ A, r.length = d) ∧ 1 ≤ n ∧ n ≤ 63 ∧ 1 ≤ d ∧ d ≤ 12 ∧ BdM (2 ^ B) A ∧ FitS n d B ∧
  u ≠ 0 ∧ u.natAbs ≤ 2 ^ 90 ∧ ts.length = n ∧ (∀ z ∈ ts, z.natAbs ≤ 2 ^ (B + 90)) ∧ TT K t H ∧ ∀ v H', Ev K t [] H H' → TT K t H' → MetAt H' v A (redT u ts) (redU u ts) (redU u ts) d n → Q v H'
theorem ixN_nat {n k : Nat} (h : k < n) : ixN n (k : Int) = some k := by
  unfold ixN
  rw [if_pos (by omega), if_pos (by omega)]
  simp
theorem ok_nearest (T : Txt K mg t) (Gs : Gd P mg base) : FnOk P w K mg base CX0 33 t.a_nearest t.d_nearest ["one", "other"] sp_nearest := by
  refine T.F_nearest.ok sc_nearest (by walk_at "v") (fun cdv A outer s H vs Q E hr h => ?_)
  · obtain ⟨b, a, rfl, h0, q⟩ := h
    refine ⟨_, (pss_one (ps_ret (pe_op (op_fdivP Gs (room_any hr (by decide))) (pe_op op_add (pe_op op_mulB pe_int (pv 0)) (pv 1)) (pe_op op_mulB pe_int (pv 1))))), ?_⟩
    show tRet _ _ [some (.int b), some (.int a)] H
    walk_at "r"
    exact ⟨IntMulOk.of_left (by decide), IntMulOk.of_left (by decide), by omega, q⟩
theorem ok_less (T : Txt K mg t) : FnOk P w K mg base CX0 1 t.a_less t.d_less ["one", "other", "count"] (sp_less K) := by
  refine T.F_less.ok sc_less (by walk_at "v") (fun cdv A outer s H vs Q E hr h => ?_)
  · obtain ⟨b1, b2, a, b, xs, ys, c, rfl, h1, h2, hl, hz, hm, hQ⟩ := h
    refine ⟨_, (pss_one (ps_ret (pe_compG (xs := ["left", "right"]) (fr := [("count", 2)]) (g := (gTup K 2 (gCons (gName 0) (gCons (gName 1) gNil)))) (tt := (tEl (tOp (rI0 fun i j => .int (i - j)) (tVar 0) (tOp (rI (fun i j => IntMulOk i j) fun i j => .int (i * j)) (tVar 2) (tVar 1))))) (compG_ok (sc := defScope s_less) (N := N_less) rfl rfl (by decide +kernel)) rfl (pi_zip rfl T.z_zip (pa_cons (pv 0) (pa_cons (pv 1) pa_nil))) (fun _ _ _ hE1 => (pg_tup rfl (pgs_cons (pg_own (N := ["left", "right", "count"]) (i := 0) hE1 rfl (by decide +kernel)) (pgs_cons (pg_own (N := ["left", "right", "count"]) (i := 1) hE1 rfl (by decide +kernel)) pgs_nil)))) (fun _ _ _ hE1 => (po_el (pe_op op_sub (pv 0) (pe_op op_mulB (pv 2) (pv 1)))))))), ?_⟩
    show tRet _ _ [some (.ref a), some (.ref b), some (.int c)] H
    walk_at "r"
    refine compE_st fun B eB => ?_
    simp only [iZip]
    walk_at "r"
    refine ⟨b1, ⟨_, h1⟩, b2, ⟨_, h2⟩, fun p hp => ?_⟩
    refine cg_zip (fun j y _ => ∃ m n, xs[j]? = some m ∧ ys[j]? = some n ∧ y = .int (m - c * n)) hp h1 h2 (by simpa using hl) (by simpa using hz) (fun _ _ _ _ r _ => r) ?_ ?_
    · intro i x y H1 zs ex ey s1 ez Q' hQ'
      obtain ⟨m, em, rfl⟩ := ints_at ex
      obtain ⟨n, en, rfl⟩ := ints_at ey
      subst eB
      show tOp _ _ _ [some (.int m), some (.int n), some (.int c)] H1 Q'
      walk_at "r"
      exact ⟨hm n (List.mem_of_getElem? en), hQ' _ _ (Same.refl _) ⟨m, n, em, en, rfl⟩⟩
    · intro H1 zs s1 ez hlz hr'
      have ey : zs = (lessI xs ys c).map V.int := by
        refine list_is (by unfold lessI; simp at hlz ⊢; omega) fun j y e => ?_
        obtain ⟨m, n, em, en, rfl⟩ := hr' j y e
        exact ⟨m - c * n, by unfold lessI; rw [List.getElem?_zipWith, em, en], rfl⟩
      subst ey
      exact hQ p H1 s1 hp ez
theorem ok_exchange (T : Txt K mg t) : FnOk P w K mg base CX0 1 t.a_exchange t.d_exchange ["table", "i", "j"] sp_exchange := by
  refine T.F_exchange.ok sc_exchange (by walk_at "v") (fun cdv A outer s H vs Q E hr h => ?_)
  · obtain ⟨l, zs, i, j, x, y, rfl, h1, hi, hj, q⟩ := h
    have il := (List.getElem?_eq_some_iff.mp hi).1
    have jl := (List.getElem?_eq_some_iff.mp hj).1
    refine ⟨_, (pss_cons (ps_set (i := 3) sc_exchange.nd rfl (Or.inl rfl) (px (pv 0) (pv 1)))
      (pss_cons (ps_asg (px (pv 0) (pv 2)) (pg_sub (pv 0) (pv 1) set_list))
      (pss_one (ps_asg (pv 3) (pg_sub (pv 0) (pv 2) set_list))))), ?_⟩
    show tSeq _ _ _ [some (.ref l), some (.int i), some (.int j), none] H
    refine st fun N1 e1 => ?_
    walk_at "r"
    refine ⟨false, l, _, _, _, rfl, rfl, SqB.lst h1, atI_at hi rfl, ?_⟩
    subst e1
    refine st fun N1 e1 => ?_
    simp only [tAsg, gSub, rSetL]
    walk_at "r"
    refine ⟨false, l, _, _, _, rfl, rfl, SqB.lst h1, atI_at hj rfl, _, h1, i, ixN_nat il, ?_⟩
    subst e1
    simp only [tAsg, gSub, rSetL]
    walk_at "r"
    refine ⟨_, upd_same, j, ixN_nat (by rw [List.length_set]; exact jl), ?_⟩
    rw [upd_upd]
    exact q
theorem ok_turn_signs (T : Txt K mg t) : FnOk P w K mg base CX0 1 t.a_turn_signs t.d_turn_signs ["table", "i"] sp_turn_signs := by
  refine T.F_turn_signs.ok sc_turn_signs (by walk_at "v") (fun cdv A outer s H vs Q E hr h => ?_)
  · obtain ⟨l, L, i, r, rfl, hM, hi, hl, hQ⟩ := h
    refine ⟨_, (pss_one (ps_asg (pe_compG (xs := ["number"]) (fr := []) (g := (gName 0)) (tt := (tEl (tUn (rU fun i => .int (-i)) (tVar 0)))) (compG_ok (sc := defScope s_turn_signs) (N := N_turn_signs) rfl rfl (by decide +kernel)) rfl (pi_seq (px (pv 0) (pv 1))) (fun _ _ _ hE1 => (pg_own (N := ["number"]) (i := 0) hE1 rfl (by decide +kernel))) (fun _ _ _ hE1 => (po_el (pe_un un_neg (pv 0))))) (pg_sub (pv 0) (pv 1) set_list))), ?_⟩
    show tAsg _ _ _ [some (.ref l), some (.int i)] H
    have il := (List.getElem?_eq_some_iff.mp hi).1
    obtain ⟨ps, h1, h2, h3⟩ := id hM
    obtain ⟨p, hp⟩ : ∃ p, ps[i]? = some p := ⟨_, List.getElem?_eq_getElem (by omega)⟩
    obtain ⟨hne, hr'⟩ := h3 i p r hp hi
    simp only [tAsg, gSub, rSetL]
    walk_at "r"
    refine compE_st fun B eB => ?_
    simp only [iSeq]
    walk_at "r"
    refine ⟨false, l, _, _, _, rfl, rfl, SqB.lst h1, atI_at (show (ps.map V.ref)[i]? = some (.ref p) by rw [List.getElem?_map, hp]; rfl) rfl, false, p, rfl, ⟨_, SqB.lst hr'⟩, fun a1 ha1 => ?_⟩
    refine cg_seq (fun k z _ => ∃ n, r[k]? = some n ∧ z = .int (-n)) ha1 (SqB.lst hr') (by rw [List.length_map]; exact hl) (fun _ _ _ _ r _ => r) ?_ ?_
    · intro k z H3 zs3 ez2 s3 _ Q2 hQ2
      obtain ⟨n, en, rfl⟩ := ints_at ez2
      subst eB
      show tUn _ _ [some (.int n)] H3 Q2
      walk_at "r"
      exact hQ2 _ _ (Same.refl _) ⟨n, en, rfl⟩
    · intro H1 zs s1 ez hlz hr2
      have ey : zs = (r.map fun z => -z).map V.int := by
        refine list_is (by simpa using hlz) fun j y e => ?_
        obtain ⟨n, en, rfl⟩ := hr2 j y e
        exact ⟨-n, by rw [List.getElem?_map, en]; rfl, rfl⟩
      subst ey
      have nea : a1 ≠ l := fun z => by rw [z, h1] at ha1; cases ha1
      refine ⟨_, s1 _ _ h1, i, ixN_nat (by rw [List.length_map]; omega), ?_⟩
      refine hQ _ (fun b o hb e => by rw [upd_ne (by simpa using hb)]; exact s1 b o e) ⟨ps.set i a1, by rw [upd_same, List.map_set], by simp [h2], fun m p' r' e1 e2 => ?_⟩
      by_cases e : m = i
      · subst e
        rw [List.getElem?_set_self (by omega)] at e1
        rw [List.getElem?_set_self il] at e2
        cases e1; cases e2
        exact ⟨nea, by rw [upd_ne nea]; exact ez⟩
      · rw [List.getElem?_set_ne (fun w => e w.symm)] at e1 e2
        obtain ⟨n1, n2⟩ := h3 m p' r' e1 e2
        exact ⟨n1, by rw [upd_ne n1]; exact s1 _ _ n2⟩
theorem ok_Steps_rising (T : Txt K mg t) (Gs : Gd P mg base) : FnOk P w K mg base CX0 1 t.a_Steps_rising t.d_Steps_rising ["self", "top", "k"] (sp_Steps_rising K t) := by
  have Bm := Gs.bm
  refine T.F_Steps_rising.okL T.tb_Steps_rising sc_Steps_rising (fun vs H Q E h => ?_) (fun A outer s H vs Q E hr h => ?_)
  · obtain ⟨x, l, c, L, C, top, k, rfl, _⟩ := h
    rfl
  · obtain ⟨x, l, c, L, C, top, k, rfl, S, tt, ht, h4, hk, hQ⟩ := h
    obtain ⟨⟨dx, ob⟩, li, co, ne, l0, c0⟩ := S
    refine ⟨_, (pss_cons (ps_set (i := 3) sc_Steps_rising.nd rfl (Or.inr rfl) (pe_fld (pv 0) rfl))
      (pss_cons (ps_setCG (i := 4) (xs := ["i"]) (fr := [("k", 2), ("lines", 3)]) (g := (gName 0)) (tt := (tElIf (tTest (tOp (rI0 fun i j => .bl (!decide (i = j))) (tOp (rIxB K) (tOp (rIxB K) (tVar 2) (tVar 0)) (tVar 1)) (tC (.int 0)))) (tVar 0))) (compG_ok (sc := defScope s_Steps_rising) (N := N_Steps_rising) rfl rfl (by decide +kernel)) rfl sc_Steps_rising.nd rfl rfl (pi_range2 rfl T.z_range (pa_cons (pv 1) (pa_cons (pe_callB call_lenB rfl T.z_len (by decide +kernel) (pa_cons (pv 3) pa_nil)) pa_nil))) (fun _ _ _ hE1 => (pg_own (N := ["i", "k", "lines"]) (i := 0) hE1 rfl (by decide +kernel))) (fun _ _ _ hE1 => (po_if (pt_cmpR op_neZ (px (px (pv 2) (pv 0)) (pv 1)) pe_int (nomark _)) (pv 0))))
      (pss_one (ps_ret (pe_sortK (x := "i") (fr := [("k", 2), ("lines", 3)]) (qual := "Steps.rising.<locals>.<lambda>") (f0 := t.a_Steps_rising) (comp_ok (sc := defScope s_Steps_rising) (N := N_Steps_rising) rfl rfl (by decide +kernel)) ⟨rfl, rfl, fun _ _ _ _ _ _ _ _ => rfl⟩ T.tb_Steps_rising rfl Bm hr.depth rfl T.z_sorted (pv 4) (te := (tCB (fun xs H Q => ∃ i, xs = [.int i] ∧ Q (.int (if i < 0 then -i else i)) H) (tCons (tOp (rIxB K) (tOp (rIxB K) (tVar 2) (tVar 0)) (tVar 1)) tNil))) (fun _ _ _ _ => (pe_callB call_abs rfl T.z_abs (by decide +kernel) (pa_cons (px (px (pv 2) (pv 0)) (pv 1)) pa_nil)))))))), ?_⟩
    show tSeq _ _ _ [some (.ref x), some (.int top), some (.int k), none, none] H
    refine st fun N1 e1 => ?_
    show tFld _ _ _ [some (.ref x), some (.int top), some (.int k), none, none] H _
    refine fld_at rfl ob T.cl_Steps T.no_lines (stF_lines l c) ?_
    show N1 [some (.ref x), some (.int top), some (.int k), some (.ref l), none] H
    subst e1
    refine st fun N1 e1 => ?_
    show tSetC _ _ _ [some (.ref x), some (.int top), some (.int k), some (.ref l), none] H
    simp only [tSetC]
    refine compI_st fun C0 B0 eC eB => ?_
    simp only [iRng2]
    walk_at "r"
    have hM : MatB false false K H l L := li.b
    refine mat_len hM ?_
    walk_at "r"
    refine ⟨by omega, by omega, by omega, by omega, fun p hp => ?_⟩
    have en : ((L.length : Int) - (top : Int)).toNat = L.length - top := by omega
    rw [en]
    have at_is : ∀ {m : Nat} {r : List Int}, L[m]? = some r → at2 L (m : Int) k = r.getD k 0 := fun {m r} e => by
      unfold at2
      have e0 : L.getD m [] = r := by rw [List.getD_eq_getElem?_getD, e]; rfl
      rw [Int.toNat_natCast, e0]
    refine cg_rangeI (fun i zs _ => zs = ((((List.range i).map fun m => ((top + m : Nat) : Int)).filter fun z => decide (at2 L z k ≠ 0)).map V.int)) hp (by omega) rfl (fun i zs _ e => ?_) (fun _ _ _ _ e _ => e) ?_ ?_
    · rw [e, List.length_map]
      exact Nat.le_trans (List.length_filter_le _ _) (by simp)
    · intro i H1 zs hi s1 ez eP C' hC1 hC2
      obtain ⟨r, er⟩ : ∃ r, L[top + i]? = some r := ⟨_, List.getElem?_eq_getElem (by omega)⟩
      have hkr : k < r.length := hk r (List.mem_of_getElem? er)
      subst eC
      subst eB
      show tElIf _ _ [some (.int ((top : Int) + i)), some (.int k), some (.ref l)] H1 C'
      simp only [tElIf]
      walk_at "r"
      refine mat_ix ((li.up s1).b (K := K)) er (getD_at hkr) (by omega) rfl ?_
      walk_at "r"
      have e2 : at2 L ((top + i : Nat) : Int) k = r.getD k 0 := at_is er
      refine ite2 (fun z => ?_) (fun z => ?_)
      · have zn : r.getD k 0 ≠ 0 := by simpa using z
        refine hC1 _ _ (Same.refl _) ?_
        rw [eP, List.range_succ, List.map_append, List.filter_append, List.map_append, List.map_singleton, List.filter_cons_of_pos (by rw [e2]; simpa using zn)]
        simp
      · have zn : r.getD k 0 = 0 := by simpa using z
        refine hC2 _ (Same.refl _) ?_
        rw [eP, List.range_succ, List.map_append, List.filter_append, List.map_append, List.map_singleton, List.filter_cons_of_neg (by rw [e2, zn]; simp)]
        simp
    · intro H1 ys s1 ey eP
      subst eP
      subst e1
      show tRet _ _ [some (.ref x), some (.int top), some (.int k), some (.ref l), some (.ref p)] H1
      have tt1 : TT K t H1 := (same_ev (S := []) s1).2 tt
      obtain ⟨pt, et⟩ := tt1.r.tbl
      have memS : ∀ n ∈ stand L top k, ∃ (m : Nat) (r : List Int), n = (m : Int) ∧ L[m]? = some r := fun n hn => by
        obtain ⟨h1, _⟩ := List.mem_filter.mp hn
        obtain ⟨m, hm, rfl⟩ := List.mem_map.mp h1
        have := List.mem_range.mp hm
        exact ⟨top + m, _, rfl, List.getElem?_eq_getElem (by omega)⟩
      refine ⟨.ref p, rfl, tt1.r, p, stand L top k, fun n => if at2 L n k < 0 then -(at2 L n k) else at2 L n k, rfl, SqL.of ey, ?_, ?_, ?_⟩
      · have : (stand L top k).length ≤ L.length - top := by
          unfold stand
          exact Nat.le_trans (List.length_filter_le _ _) (by simp)
        omega
      · intro n hn H2 sp Q' hQ'
        obtain ⟨m, r, rfl, er⟩ := memS n hn
        have hkr : k < r.length := hk r (List.mem_of_getElem? er)
        have li2 : MatL H2 l L := matL_p (li.up s1) et sp
        show tCB _ _ [some (.int (m : Int)), some (.int k), some (.ref l)] H2 Q'
        walk_at "r"
        refine mat_ix (li2.b (K := K)) er (getD_at hkr) rfl rfl ?_
        refine ⟨_, rfl, ?_⟩
        dsimp only at hQ'
        rw [at_is er] at hQ'
        exact hQ'
      · intro q ns' H2 sp tb hq e p' o'
        obtain ⟨ev, tt2⟩ := tt1.rise sp tb
        refine hQ q ns' H2 ((same_ev s1).trans ev) tt2 ?_ e ⟨p', ?_⟩
        · cases w : H q with
          | none => rfl
          | some z => rw [s1 _ _ w] at hq; cases hq
        · refine o'.imp fun {a b} hab => ?_
          dsimp only at hab
          split at hab <;> split at hab <;> omega
theorem ok_Steps_take (T : Txt K mg t) : FnOk P w K mg base CX0 2 t.a_Steps_take t.d_Steps_take ["self", "i", "j", "count"] (sp_Steps_take t) := by
  have G_less : FnOk P w K mg base CX0 1 t.a_less t.d_less ["one", "other", "count"] (sp_less K) := ok_less T
  refine T.F_Steps_take.ok sc_Steps_take (by walk_at "v") (fun cdv A outer s H vs Q E hr h => ?_)
  · obtain ⟨x, l, c, L, C, i, j, q, xi, xj, ci, cj, rfl, S, exi, exj, eci, ecj, hl, hz, hl2, hz2, hm, hm2, hQ⟩ := h
    obtain ⟨⟨dx, ob⟩, li, co, ne, l0, c0⟩ := S
    refine ⟨_, (pss_cons (ps_asg (pe_call G_less hr.mo rfl T.m_less T.F_less.kp T.b_less .nil pass0 (pa_cons (px (pe_fld (pv 0) rfl) (pv 1)) (pa_cons (px (pe_fld (pv 0) rfl) (pv 2)) (pa_cons (pv 3) pa_nil)))) (pg_sub (pe_fld (pv 0) rfl) (pv 1) set_list))
      (pss_one (ps_asg (pe_call G_less hr.mo rfl T.m_less T.F_less.kp T.b_less .nil pass0 (pa_cons (px (pe_fld (pv 0) rfl) (pv 2)) (pa_cons (px (pe_fld (pv 0) rfl) (pv 1)) (pa_cons (pe_un un_neg (pv 3)) pa_nil)))) (pg_sub (pe_fld (pv 0) rfl) (pv 2) set_list)))), ?_⟩
    show tSeq _ _ _ [some (.ref x), some (.int i), some (.int j), some (.int q)] H
    have lnl := T.no_lines
    have lnc := T.no_columns
    obtain ⟨ps, h1, h2, h3⟩ := id li
    obtain ⟨qs, k1, k2, k3⟩ := id co
    have il := (List.getElem?_eq_some_iff.mp exi).1
    have jl := (List.getElem?_eq_some_iff.mp exj).1
    have ic := (List.getElem?_eq_some_iff.mp eci).1
    have jc := (List.getElem?_eq_some_iff.mp ecj).1
    have ps0 : ps ≠ [] := fun z => l0 (List.eq_nil_of_length_eq_zero (by rw [← h2, z]; rfl))
    have qs0 : qs ≠ [] := fun z => c0 (List.eq_nil_of_length_eq_zero (by rw [← k2, z]; rfl))
    obtain ⟨pi, hpi⟩ : ∃ p, ps[i]? = some p := ⟨_, List.getElem?_eq_getElem (by omega)⟩
    obtain ⟨pj, hpj⟩ : ∃ p, ps[j]? = some p := ⟨_, List.getElem?_eq_getElem (by omega)⟩
    obtain ⟨qi, hqi⟩ : ∃ p, qs[i]? = some p := ⟨_, List.getElem?_eq_getElem (by omega)⟩
    obtain ⟨qj, hqj⟩ : ∃ p, qs[j]? = some p := ⟨_, List.getElem?_eq_getElem (by omega)⟩
    have mref : ∀ {zs : List Addr} {m : Nat} {p : Addr}, zs[m]? = some p → (zs.map V.ref)[m]? = some (.ref p) := fun e => by rw [List.getElem?_map, e]; rfl
    refine st fun N1 e1 => ?_
    simp only [tAsg, gSub, rSetL]
    walk_at "r"
    refine fld_at rfl ob T.cl_Steps lnl (stF_lines l c) (ix_at (SqB.lst h1) (mref hpi) (fld_at rfl ob T.cl_Steps lnl (stF_lines l c) (ix_at (SqB.lst h1) (mref hpj) ?_)))
    refine ⟨false, false, pi, pj, xi, xj, q, rfl, SqB.lst (h3 i pi xi hpi exi).2, SqB.lst (h3 j pj xj hpj exj).2, hl, hz, hm, fun p H1 s1 hp ep => ?_⟩
    have pl : p ≠ l := fun z => by rw [z, h1] at hp; cases hp
    refine fld_at rfl (s1 _ _ ob) T.cl_Steps lnl (stF_lines l c) ⟨l, rfl, _, s1 _ _ h1, i, ixN_nat (by rw [List.length_map]; omega), ?_⟩
    have b1 : Bt [l] H (upd H1 l (.lst ((ps.map V.ref).set i (.ref p)))) := fun b o hb e => by rw [upd_ne (by simpa using hb)]; exact s1 b o e
    have li1 : MatL (upd H1 l (.lst ((ps.map V.ref).set i (.ref p)))) l (L.set i (lessI xi xj q)) := by
      refine ⟨ps.set i p, by rw [upd_same, List.map_set], by simp [h2], fun m p' r' e1 e2 => ?_⟩
      by_cases e : m = i
      · subst e
        rw [List.getElem?_set_self (by omega)] at e1
        rw [List.getElem?_set_self il] at e2
        cases e1; cases e2
        exact ⟨pl, by rw [upd_ne pl]; exact ep⟩
      · rw [List.getElem?_set_ne (fun w => e w.symm)] at e1 e2
        obtain ⟨n1, n2⟩ := h3 m p' r' e1 e2
        exact ⟨n1, by rw [upd_ne n1]; exact s1 _ _ n2⟩
    have nl : ∀ {b : Addr} {o : HO}, H b = some o → b ≠ l → (upd H1 l (.lst ((ps.map V.ref).set i (.ref p)))) b = some o := fun e n => by rw [upd_ne n]; exact s1 _ _ e
    have xl : x ≠ l := fun z => by rw [z, h1] at ob; cases ob
    have ob1 := nl ob xl
    have co1 : (upd H1 l (.lst ((ps.map V.ref).set i (.ref p)))) c = some (.lst (qs.map V.ref)) := nl k1 (Ne.symm ne)
    have rows1 : ∀ (m : Nat) p' r', qs[m]? = some p' → C[m]? = some r' → p' ≠ c ∧ (upd H1 l (.lst ((ps.map V.ref).set i (.ref p)))) p' = some (.lst (r'.map V.int)) := fun m p' r' e1 e2 => by
      obtain ⟨n1, n2⟩ := k3 m p' r' e1 e2
      exact ⟨n1, nl n2 (row_ne h1 ps0 n2)⟩
    generalize upd H1 l (.lst ((ps.map V.ref).set i (.ref p))) = H2 at *
    subst e1
    simp only [tAsg, gSub, rSetL]
    walk_at "r"
    refine fld_at rfl ob1 T.cl_Steps lnc (stF_columns l c) (ix_at (SqB.lst co1) (mref hqj) (fld_at rfl ob1 T.cl_Steps lnc (stF_columns l c) (ix_at (SqB.lst co1) (mref hqi) ?_)))
    refine ⟨false, false, qj, qi, cj, ci, -q, rfl, SqB.lst (rows1 j qj cj hqj ecj).2, SqB.lst (rows1 i qi ci hqi eci).2, hl2.symm, by omega, hm2, fun p2 H3 s3 hp2 ep2 => ?_⟩
    have pc : p2 ≠ c := fun z => by rw [z, co1] at hp2; cases hp2
    refine fld_at rfl (s3 _ _ ob1) T.cl_Steps lnc (stF_columns l c) ⟨c, rfl, _, s3 _ _ co1, j, ixN_nat (by rw [List.length_map]; omega), ?_⟩
    have xc : x ≠ c := fun z => by rw [z, k1] at ob; cases ob
    refine hQ _ (fun b o hb e => ?_) ⟨⟨dx, by rw [upd_ne xc]; exact s3 _ _ ob1⟩, ?_, ?_, ne, fun z => ?_, fun z => ?_⟩
    · have hb' : b ≠ l ∧ b ≠ c := by simpa using hb
      rw [upd_ne hb'.2]
      exact s3 _ _ (b1 b o (by simpa using hb'.1) e)
    · obtain ⟨rs, r1, r2, r3⟩ := li1
      refine ⟨rs, by rw [upd_ne ne]; exact s3 _ _ r1, r2, fun m p' r' e1 e2 => ?_⟩
      obtain ⟨n1, n2⟩ := r3 m p' r' e1 e2
      exact ⟨n1, by rw [upd_ne (row_ne co1 qs0 n2)]; exact s3 _ _ n2⟩
    · refine ⟨qs.set j p2, by rw [upd_same, List.map_set], by simp [k2], fun m p' r' e1 e2 => ?_⟩
      by_cases e : m = j
      · subst e
        rw [List.getElem?_set_self (by omega)] at e1
        rw [List.getElem?_set_self jc] at e2
        cases e1; cases e2
        exact ⟨pc, by rw [upd_ne pc]; exact ep2⟩
      · rw [List.getElem?_set_ne (fun w => e w.symm)] at e1 e2
        obtain ⟨n1, n2⟩ := rows1 m p' r' e1 e2
        exact ⟨n1, by rw [upd_ne n1]; exact s3 _ _ n2⟩
    · exact l0 (List.eq_nil_of_length_eq_zero (by have := congrArg List.length z; simpa using this))
    · exact c0 (List.eq_nil_of_length_eq_zero (by have := congrArg List.length z; simpa using this))
theorem zip_is {A U : LM} (h : A.length = U.length) : (List.range A.length).map (fun i => A.getD i [] ++ U.getD i []) = List.zipWith (· ++ ·) A U := by
  refine List.ext_getElem (by simp [h]) fun i h1 h2 => ?_
  have hi : i < A.length := by simpa using h1
  rw [List.getElem_map, List.getElem_range, List.getElem_zipWith]
  rw [List.getD_eq_getElem?_getD, List.getD_eq_getElem?_getD, List.getElem?_eq_getElem hi, List.getElem?_eq_getElem (by omega)]
  rfl
theorem ok_Steps___init__ (T : Txt K mg t) : FnOk P w K mg base CX0 2 t.a_Steps___init__ t.d_Steps___init__ ["self", "rows"] (sp_Steps_init K t) := by
  have G_still_rows : FnOk P w K mg base CX0 1 t.a_still_rows t.d_still_rows ["size"] sp_still_rows := ok_still_rows T
  refine T.F_Steps___init__.ok sc_Steps___init__ (by walk_at "v") (fun cdv A outer s H vs Q E hr h => ?_)
  · obtain ⟨x, dx, a, b1, b2, MA, d, rfl, hx, hM, n1, n4, hw, hd, hQ⟩ := h
    refine ⟨_, (pss_cons (ps_set (i := 2) sc_Steps___init__.nd rfl (Or.inl rfl) (pe_call G_still_rows hr.mo rfl T.m_still_rows T.F_still_rows.kp T.b_still_rows .nil pass0 (pa_cons (pe_callB call_lenB rfl T.z_len (by decide +kernel) (pa_cons (pv 1) pa_nil)) pa_nil)))
      (pss_cons (ps_fld (pv 0) (pe_compG (xs := ["row", "unit"]) (fr := []) (g := (gTup K 2 (gCons (gName 0) (gCons (gName 1) gNil)))) (tt := (tEl (tOp rCat (tCB (rListB K) (tCons (tVar 0) tNil)) (tVar 1)))) (compG_ok (sc := defScope s_Steps___init__) (N := N_Steps___init__) rfl rfl (by decide +kernel)) rfl (pi_zip rfl T.z_zip (pa_cons (pv 1) (pa_cons (pv 2) pa_nil))) (fun _ _ _ hE1 => (pg_tup rfl (pgs_cons (pg_own (N := ["row", "unit"]) (i := 0) hE1 rfl (by decide +kernel)) (pgs_cons (pg_own (N := ["row", "unit"]) (i := 1) hE1 rfl (by decide +kernel)) pgs_nil)))) (fun _ _ _ hE1 => (po_el (pe_op op_cat (pe_callTy call_listB rfl T.z_list (by decide +kernel) (pa_cons (pv 0) pa_nil)) (pv 1))))) rfl)
      (pss_one (ps_fld (pv 0) (pe_call G_still_rows hr.mo rfl T.m_still_rows T.F_still_rows.kp T.b_still_rows .nil pass0 (pa_cons (pe_callB call_lenB rfl T.z_len (by decide +kernel) (pa_cons (pv 1) pa_nil)) pa_nil)) rfl)))), ?_⟩
    show tSeq _ _ _ [some (.ref x), some (.ref a), none] H
    have nz : (idM MA.length).length = MA.length := by simp [idM]
    have nw : ∀ r ∈ idM MA.length, r.length = MA.length := fun r hr => by
      unfold idM at hr
      obtain ⟨i, _, rfl⟩ := List.mem_map.mp hr
      simp
    refine st fun N1 e1 => ?_
    walk_at "r"
    refine mat_len hM ?_
    refine ⟨MA.length, rfl, by omega, fun un H1 hun s1 hU => ?_⟩
    subst e1
    refine st fun N1 e1 => ?_
    show tCompG _ _ _ _ _ [some (.ref x), some (.ref a), some (.ref un)] H1 _
    refine compE_st fun B eB => ?_
    simp only [iZip]
    walk_at "r"
    obtain ⟨xs, x1, x2, x3⟩ := (hM.up s1).walk
    obtain ⟨us, u1, u2, u3⟩ := hU
    refine ⟨b1, ⟨_, x1⟩, false, ⟨_, SqB.lst u1⟩, fun l hl => ?_⟩
    refine cg_zip (RowR l fun i => MA.getD i [] ++ (idM MA.length).getD i []) hl x1 (SqB.lst u1) (by rw [x2, List.length_map, u2, nz]) (by rw [x2]; omega) (RowR.mono (a := l)) ?_ ?_
    · intro i u v H2 zs eu ev s2 ez Q' hQ'
      obtain ⟨p, r, rfl, er, hp⟩ := x3 i u eu
      have hin : i < us.length := by have := (List.getElem?_eq_some_iff.mp ev).1; simpa using this
      obtain ⟨p', hp'⟩ : ∃ p', us[i]? = some p' := ⟨_, List.getElem?_eq_getElem hin⟩
      obtain ⟨r', er'⟩ : ∃ r', (idM MA.length)[i]? = some r' := ⟨_, List.getElem?_eq_getElem (by omega)⟩
      rw [List.getElem?_map, hp'] at ev
      cases ev
      subst eB
      show tOp _ _ _ [some (.ref p), some (.ref p')] H2 Q'
      walk_at "r"
      refine ⟨b2, p, _, rfl, hp.up s2, fun c1 hc1 => ?_⟩
      have hp2 : H2 p' = some (.lst (r'.map V.int)) := s2 _ _ (u3 i p' r' hp' er').2
      have lr : r.length = d := hw r (List.mem_of_getElem? er)
      have lr' : r'.length = MA.length := nw r' (List.mem_of_getElem? er')
      have e2 : (upd H2 c1 (.lst (r.map V.int))) c1 = some (.lst (r.map V.int)) := upd_same
      have s3 : Same H2 (upd H2 c1 (.lst (r.map V.int))) := Same.new hc1
      generalize upd H2 c1 (.lst (r.map V.int)) = H3 at *
      refine ⟨c1, p', _, _, rfl, rfl, e2, s3 _ _ hp2, by rw [List.length_map, List.length_map]; exact Nat.le_of_lt (small1000 (by omega)), fun c2 hc2 => ?_⟩
      have ne2 : c2 ≠ l := fun z => by rw [z, s3 _ _ ez] at hc2; cases hc2
      refine hQ' _ _ (s3.trans (Same.new hc2)) ⟨c2, rfl, ne2, ?_⟩
      rw [upd_same, ← List.map_append]
      congr 2
      show _ = List.map V.int (MA.getD i [] ++ (idM MA.length).getD i [])
      rw [List.getD_eq_getElem?_getD, List.getD_eq_getElem?_getD, er, er']
      rfl
    · intro H2 zs s2 ez hlz hr'
      have hLi : MatL H2 l (List.zipWith (· ++ ·) MA (idM MA.length)) := by
        have := MatL.of ez hr'
        rw [hlz, x2, zip_is (by rw [nz])] at this
        exact this
      have xl : x ≠ l := fun z => by rw [← z, s1 _ _ hx] at hl; cases hl
      have l0 : List.zipWith (· ++ ·) MA (idM MA.length) ≠ [] := fun z => by
        have h0 : (List.zipWith (· ++ ·) MA (idM MA.length)).length = 0 := by rw [z]; rfl
        rw [List.length_zipWith, nz, Nat.min_self] at h0
        omega
      refine ⟨t.a_Steps, dx, [], s2 _ _ (s1 _ _ hx), T.cl_Steps, T.no_lines, by show 0 < 1000; decide, ?_⟩
      have bx : Bt [x] H (upd H2 x (.ins t.a_Steps dx (putF "lines" (.ref l) []))) := fun b o hb e => by rw [upd_ne (by simpa using hb)]; exact s2 _ _ (s1 _ _ e)
      have ex : (upd H2 x (.ins t.a_Steps dx (putF "lines" (.ref l) []))) x = some (.ins t.a_Steps dx (putF "lines" (.ref l) [])) := upd_same
      have hx2 := s2 _ _ (s1 _ _ hx)
      have hLi2 : MatL (upd H2 x (.ins t.a_Steps dx (putF "lines" (.ref l) []))) l (List.zipWith (· ++ ·) MA (idM MA.length)) := by
        obtain ⟨ps, h1, h2, h3⟩ := hLi
        refine ⟨ps, by rw [upd_ne (Ne.symm xl)]; exact h1, h2, fun i p r q1 q2 => ?_⟩
        obtain ⟨m1, m2⟩ := h3 i p r q1 q2
        exact ⟨m1, by rw [upd_ne (fun z => by rw [z, hx2] at m2; cases m2)]; exact m2⟩
      have hM3 : MatB b1 b2 K (upd H2 x (.ins t.a_Steps dx (putF "lines" (.ref l) []))) a MA := by
        have hMm := (hM.up s1).up s2
        obtain ⟨ps, h1, h2, h3⟩ := hMm
        have up : ∀ {b : Bool} {p : Addr} {us : List V}, SqB b K H2 p us → SqB b K (upd H2 x (.ins t.a_Steps dx (putF "lines" (.ref l) []))) p us := fun {b p us} h => by
          have ne : ∀ {o : HO}, H2 p = some o → (∀ C dx fs, o ≠ .ins C dx fs) → p ≠ x := fun e n z => by rw [z, hx2] at e; cases e; exact n _ _ _ rfl
          cases b
          · rcases h with (h | ⟨o, h⟩) | h
            · exact .inl (.inl (by rw [upd_ne (ne h (fun _ _ _ z => by cases z))]; exact h))
            · exact .inl (.inr ⟨o, by rw [upd_ne (ne h (fun _ _ _ z => by cases z))]; exact h⟩)
            · exact .inr h
          · rcases h with (h | ⟨o, h⟩) | h
            · exact .inl (.inl (by rw [upd_ne (ne h (fun _ _ _ z => by cases z))]; exact h))
            · exact .inl (.inr ⟨o, by rw [upd_ne (ne h (fun _ _ _ z => by cases z))]; exact h⟩)
            · exact .inr h
        exact ⟨ps, up h1, h2, fun i p r q1 q2 => up (h3 i p r q1 q2)⟩
      generalize upd H2 x (.ins t.a_Steps dx (putF "lines" (.ref l) [])) = H3 at *
      subst e1
      show (tCall _ _ _ _) [some (.ref x), some (.ref a), some (.ref un)] H3 _
      walk_at "r"
      refine mat_len hM3 ?_
      refine ⟨MA.length, rfl, by omega, fun c H4 hc s4 hC => ?_⟩
      have xc : x ≠ c := fun z => by rw [← z, ex] at hc; cases hc
      refine ⟨t.a_Steps, dx, _, s4 _ _ ex, T.cl_Steps, T.no_columns, by show 1 < 1000; decide, ?_⟩
      have hLi4 := hLi2.up s4
      have lc : l ≠ c := fun z => by obtain ⟨ps, h1, _⟩ := hLi2; rw [z, hc] at h1; cases h1
      have hnl : H l = none := by
        cases w : H l with
        | none => rfl
        | some o => rw [s1 _ _ w] at hl; cases hl
      have hnc : H c = none := by
        cases w : H c with
        | none => rfl
        | some o => rw [bx c o (by simpa using Ne.symm xc) w] at hc; cases hc
      have hx4 := s4 _ _ ex
      have keep : ∀ {z : Addr} {X : LM}, MatL H4 z X → z ≠ x → MatL (upd H4 x (.ins t.a_Steps dx (putF "columns" (.ref c) (putF "lines" (.ref l) [])))) z X := fun {z X} h ne => by
        obtain ⟨ps, h1, h2, h3⟩ := h
        refine ⟨ps, by rw [upd_ne ne]; exact h1, h2, fun i p r q1 q2 => ?_⟩
        obtain ⟨m1, m2⟩ := h3 i p r q1 q2
        exact ⟨m1, by rw [upd_ne (fun z => by rw [z, hx4] at m2; cases m2)]; exact m2⟩
      refine hQ l c _ (fun b o hb e => ?_) ⟨⟨dx, upd_same⟩, keep hLi4 (Ne.symm xl), keep hC (Ne.symm xc), lc, l0, fun z => ?_⟩ hnl hnc
      · rw [upd_ne (by simpa using hb)]; exact s4 _ _ (bx b o hb e)
      · have h0 : (idM MA.length).length = 0 := by rw [z]; rfl
        omega
noncomputable def GL (K : Frag) (t : Adr) (H : Hp) (x l c : Addr) (L : LM) (top k d n : Nat) (cs : LM) (b e : Nat) (C : LM) (m : Nat) (σ : St) (H2 : Hp) : Prop :=
  ∃ (q : Addr) (v4 v5 : Option V) (ns : List Int) (L' C' : LM) (F : Nat), σ = [some (.ref x), some (.int top), some (.int k), some (.ref q), v4, v5] ∧ Ev K t [l, c] H H2 ∧ TT K t H2 ∧ StepsAt t H2 x l c L' C' ∧ Gm d n k top cs b e L L' C' F ∧ Pot n k top b L' F ∧ (ns = [] → L' = L ∧ C' = C) ∧ H2 q = some (.lst (ns.map V.int)) ∧ Rises L' top k ns ∧ m = prodN (colW k top L')
theorem ok_Steps_gather (T : Txt K mg t) (Gs : Gd P mg base) : FnOk P w K mg base CX0 34 t.a_Steps_gather t.d_Steps_gather ["self", "top", "k"] (sp_Steps_gather K t) := by
  have G_Steps_rising : FnOk P w K mg base CX0 1 t.a_Steps_rising t.d_Steps_rising ["self", "top", "k"] (sp_Steps_rising K t) := ok_Steps_rising T Gs
  have G_Steps_take : FnOk P w K mg base CX0 2 t.a_Steps_take t.d_Steps_take ["self", "i", "j", "count"] (sp_Steps_take t) := ok_Steps_take T
  have G_nearest : FnOk P w K mg base CX0 33 t.a_nearest t.d_nearest ["one", "other"] sp_nearest := ok_nearest T Gs
  have G_exchange : FnOk P w K mg base CX0 1 t.a_exchange t.d_exchange ["table", "i", "j"] sp_exchange := ok_exchange T
  refine T.F_Steps_gather.ok sc_Steps_gather (by walk_at "v") (fun cdv A outer s H vs Q E hr h => ?_)
  · obtain ⟨x, l, c, L, C, top, k, d, n, cs, b, e, rfl, S, tt, md, bs0, n3, kd, d3, tn, hg, hb, he, hQ⟩ := h
    have eS : bS = 33554432 := rfl
    refine ⟨_, (pss_cons (ps_set (i := 3) sc_Steps_gather.nd rfl (Or.inl rfl) (pe_meth (C := t.a_Steps) (pv 0) T.cl_Steps T.me_Steps_rising G_Steps_rising hr.mo T.b_Steps_rising .nil pass0 (pa_cons (pv 1) (pa_cons (pv 2) pa_nil))))
      (pss_cons (ps_while PassesOwn.never (pt_cmpR op_gt (pe_callB call_lenB rfl T.z_len (by decide +kernel) (pa_cons (pv 3) pa_nil)) pe_int (nomark _))
      (pss_cons (ps_set (i := 4) sc_Steps_gather.nd rfl (Or.inl rfl) (px (pv 3) (pe_un un_neg pe_int)))
      (pss_cons (ps_set (i := 5) sc_Steps_gather.nd rfl (Or.inl rfl) (px (pv 3) (pe_un un_neg pe_int)))
      (pss_cons (ps_expr (pe_meth (C := t.a_Steps) (pv 0) T.cl_Steps T.me_Steps_take G_Steps_take hr.mo T.b_Steps_take .nil pass0 (pa_cons (pv 4) (pa_cons (pv 5) (pa_cons (pe_call G_nearest hr.mo rfl T.m_nearest T.F_nearest.kp T.b_nearest .nil pass0 (pa_cons (px (px (pe_fld (pv 0) rfl) (pv 4)) (pv 2)) (pa_cons (px (px (pe_fld (pv 0) rfl) (pv 5)) (pv 2)) pa_nil))) pa_nil)))))
      (pss_one (ps_set (i := 3) sc_Steps_gather.nd rfl (Or.inl rfl) (pe_meth (C := t.a_Steps) (pv 0) T.cl_Steps T.me_Steps_rising G_Steps_rising hr.mo T.b_Steps_rising .nil pass0 (pa_cons (pv 1) (pa_cons (pv 2) pa_nil)))))))))
      (pss_cons (ps_if (pt_cmpR op_eqZ (pe_callB call_lenB rfl T.z_len (by decide +kernel) (pa_cons (pv 3) pa_nil)) pe_int (nomark _))
      (pss_cons (ps_expr (pe_call G_exchange hr.mo rfl T.m_exchange T.F_exchange.kp T.b_exchange .nil pass0 (pa_cons (pe_fld (pv 0) rfl) (pa_cons (pv 1) (pa_cons (px (pv 3) pe_int) pa_nil)))))
      (pss_one (ps_expr (pe_call G_exchange hr.mo rfl T.m_exchange T.F_exchange.kp T.b_exchange .nil pass0 (pa_cons (pe_fld (pv 0) rfl) (pa_cons (pv 1) (pa_cons (px (pv 3) pe_int) pa_nil)))))))
      pss_nil)
      (pss_one (ps_ret (pe_cmpR op_eqZ (pe_callB call_lenB rfl T.z_len (by decide +kernel) (pa_cons (pv 3) pa_nil)) pe_int (nomark _))))))), ?_⟩
    show tSeq _ _ _ [some (.ref x), some (.int top), some (.int k), none, none, none] H
    have rise : ∀ {H1 : Hp} {L' C' : LM} {F : Nat} {σ : St} {Q' : VK}, σ[0]? = some (some (.ref x)) → σ[1]? = some (some (.int top)) → σ[2]? = some (some (.int k)) → StepsAt t H1 x l c L' C' → TT K t H1 → Gm d n k top cs b e L L' C' F →
        (∀ q (ns : List Int) H', Ev K t [] H1 H' → TT K t H' → H' q = some (.lst (ns.map V.int)) → Rises L' top k ns → Q' (.ref q) H') →
        tMeth t.a_Steps "rising" (sp_Steps_rising K t) [] E0 (tVar 0) (tCons (tVar 1) (tCons (tVar 2) tNil)) σ H1 Q' := fun {H1 L' C' F σ Q'} s0 s1 s2 S1 tt1 md1 hq => by
      obtain ⟨dx, ob⟩ := S1.ob
      refine meth_at s0 ob (stF_no l c (by decide) (by decide)) ⟨_, s1, _, s2, ?_⟩
      exact ⟨x, l, c, L', C', top, k, rfl, S1, tt1, by rw [md1.ln.len]; exact tn, by rw [md1.ln.len]; omega, fun r hr' => by rw [md1.ln.wid r hr']; omega, fun q ns H' ev tt' _ e r => hq q ns H' ev tt' e r⟩
    refine st fun N1 e1 => ?_
    refine rise rfl rfl rfl S tt md fun q ns H1 ev tt1 eq rs => ?_
    show N1 [some (.ref x), some (.int top), some (.int k), some (.ref q), none, none] H1
    subst e1
    refine st fun N1 e1 => while_st fun B eB => ?_
    refine ⟨GL K t H x l c L top k d n cs b e C,
      ⟨_, q, none, none, ns, L, C, 1, rfl, ev.sub (fun _ z => nomatch z), tt1, S.ev ev, md, Pot.start md.ln.len (fun i r hi er => getD_le (bs0 i r hi er)), fun _ => ⟨rfl, rfl⟩, eq, rs, rfl⟩, ?_⟩
    rintro m σ H2 ⟨q, v4, v5, ns, L', C', F, rfl, ev2, tt2, S2, md2, po, sm, eq2, rs2, rfl⟩
    walk_at "r"
    refine ints_len (b := false) (SqB.lst eq2) ?_
    walk_at "r"
    refine ite2 (fun z => ?_) (fun z => ?_)
    · have hlen : 1 < ns.length := by have := of_decide_eq_true z; omega
      obtain ⟨us, b', a', rfl⟩ := two_last (ns := ns) (by omega)
      have rs3 := rs2
      obtain ⟨perm, pw⟩ := rs2
      have nd : (us ++ [b', a']).Nodup := (perm.nodup_iff).mpr stand_nd
      have hab : b' ≠ a' := by
        have := (List.nodup_append.mp nd).2.1
        simpa using this
      obtain ⟨i, xi, rfl, ti, exi, nzi⟩ := stand_mem (perm.mem_iff.mp (show a' ∈ us ++ [b', a'] by simp))
      obtain ⟨j, xj, rfl, tj, exj, nzj⟩ := stand_mem (perm.mem_iff.mp (show b' ∈ us ++ [b', (i : Int)] by simp))
      have hij : i ≠ j := fun w => hab (by rw [w])
      have hle : (xj.getD k 0).natAbs ≤ (xi.getD k 0).natAbs := by
        have := (List.pairwise_append.mp pw).2.1
        have := (List.pairwise_cons.mp this).1 (i : Int) (List.mem_singleton.mpr rfl)
        rw [at2_is exi, at2_is exj] at this
        exact this
      have il := (List.getElem?_eq_some_iff.mp exi).1
      have jl := (List.getElem?_eq_some_iff.mp exj).1
      have wi := md2.ln.wid xi (List.mem_of_getElem? exi)
      have wj := md2.ln.wid xj (List.mem_of_getElem? exj)
      have ln := md2.ln.len
      have cn := md2.ln.clen
      obtain ⟨ci, eci⟩ : ∃ u, C'[i]? = some u := ⟨_, List.getElem?_eq_getElem (by omega)⟩
      obtain ⟨cj, ecj⟩ : ∃ u, C'[j]? = some u := ⟨_, List.getElem?_eq_getElem (by omega)⟩
      have wci := md2.ln.cwid ci (List.mem_of_getElem? eci)
      have wcj := md2.ln.cwid cj (List.mem_of_getElem? ecj)
      have near := near_ok (a := xi.getD k 0) (b := xj.getD k 0) nzj
      have po' := po.step (q := (2 * xi.getD k 0 + xj.getD k 0).fdiv (2 * xj.getD k 0)) ti exi (by omega) (by omega) nzj hle near
      have md' := md2.step (q := (2 * xi.getD k 0 + xj.getD k 0).fdiv (2 * xj.getD k 0)) kd ti tj hij exi exj eci ecj nzj hle near (fun m r hm nm em => rise_mx rs3 exj hm nm em)
      obtain ⟨dx, ob⟩ := S2.ob
      have hM2 : MatB false false K H2 l L' := S2.li.b
      have atm : ∀ {u : Nat} {z : Int}, (us ++ [(j : Int), (i : Int)])[u]? = some z → ((us ++ [(j : Int), (i : Int)]).map V.int)[u]? = some (.int z) := fun e => by rw [List.getElem?_map, e]; rfl
      refine ⟨fun σ' H' => ∃ m', m' < prodN (colW k top L') ∧ GL K t H x l c L top k d n cs b e C m' σ' H', fun σ' H' h => h, ?_⟩
      subst eB
      show tSeq _ _ _ [some (.ref x), some (.int top), some (.int k), some (.ref q), v4, v5] H2
      refine st fun N2 e2 => ?_
      walk_at "r"
      refine ⟨false, q, _, _, _, rfl, rfl, SqB.lst eq2, atI_back (atm (u := us.length + 1) (z := (i : Int)) (by simp)) (by simp; omega), ?_⟩
      subst e2
      refine st fun N2 e2 => ?_
      walk_at "r"
      refine ⟨false, q, _, _, _, rfl, rfl, SqB.lst eq2, atI_back (atm (u := us.length) (z := (j : Int)) (by simp)) (by simp; omega), ?_⟩
      subst e2
      refine st fun N2 e2 => ?_
      simp only [tDrop]
      refine meth_at rfl ob (stF_no l c (by decide) (by decide)) ?_
      walk_at "r"
      refine fld_at rfl ob T.cl_Steps T.no_lines (stF_lines l c) ?_
      refine mat_ix hM2 exi (getD_at (by omega)) rfl rfl ?_
      refine fld_at rfl ob T.cl_Steps T.no_lines (stF_lines l c) ?_
      refine mat_ix hM2 exj (getD_at (by omega)) rfl rfl ?_
      refine ⟨_, _, rfl, nzj, ?_⟩
      generalize (2 * xi.getD k 0 + xj.getD k 0).fdiv (2 * xj.getD k 0) = qq at *
      have hF' := po'.1.end
      have hF0 := po.end
      have f1 := md2.f1
      have hqb : qq.natAbs ≤ 2 ^ ((n - top) * (b + 1)) := by
        have : 1 * (1 + qq.natAbs) ≤ (1 + qq.natAbs) * F := by rw [Nat.mul_comm]; exact Nat.mul_le_mul_left _ f1
        omega
      refine ⟨x, l, c, L', C', i, j, qq, xi, xj, ci, cj, rfl, S2, exi, exj, eci, ecj, by omega, by omega, by omega, by omega, fun z hz => ?_, fun z hz => ?_, fun H3 b3 S3 => ?_⟩
      · exact PyProof.Rows.mulOk_of_bits (pow_abs hqb) (pow_abs (md2.bs j xj tj exj z hz)) (by omega)
      · exact PyProof.Rows.mulOk_of_bits (pow_abs (by rw [Int.natAbs_neg]; exact hqb)) (pow_abs (grow_le (md2.bc ci (List.mem_of_getElem? eci) z hz) hF0)) (by omega)
      · have ev3 := S2.bt (K := K) b3
        have tt3 := ev3.2 tt2
        subst e2
        show tMeth _ _ _ _ _ _ _ [some (.ref x), some (.int top), some (.int k), some (.ref q), some (.int i), some (.int j)] H3 _
        refine rise rfl rfl rfl S3 tt3 md' fun q' ns' H4 ev4 tt4 eq4 rs4 => ?_
        refine ⟨_, po'.2, q', _, _, ns', _, _, _, rfl, (ev2.trans ev3).trans (ev4.sub fun _ z => nomatch z), tt4, S3.ev ev4, md', po'.1, fun z0 => ?_, eq4, rs4, rfl⟩
        have := rs4.1.mem_iff.mpr (mem_stand tj (show (L'.set i (lessI xi xj qq))[j]? = some xj by rw [List.getElem?_set_ne hij]; exact exj) nzj)
        rw [z0] at this
        cases this
    · have hlen : ns.length ≤ 1 := by
        have hz : ¬ (1 : Int) < ns.length := fun w => z (decide_eq_true w)
        omega
      obtain ⟨perm, pw⟩ := rs2
      subst e1
      refine st fun N1 e1 => ?_
      walk_at "r"
      refine ints_len (b := false) (SqB.lst eq2) ?_
      walk_at "r"
      refine ite2 (fun z1 => ?_) (fun z1 => ?_)
      · have h1 : ns.length = 1 := by have := of_decide_eq_true z1; omega
        obtain ⟨a', rfl⟩ : ∃ a', ns = [a'] := by match ns, h1 with | [a'], _ => exact ⟨a', rfl⟩
        obtain ⟨p0, y, rfl, tb, ey, nz⟩ := stand_mem (perm.mem_iff.mp (show a' ∈ [a'] by simp))
        have bl := (List.getElem?_eq_some_iff.mp ey).1
        have ln := md2.ln.len
        have cn := md2.ln.clen
        obtain ⟨y0, ey0⟩ : ∃ u, L'[top]? = some u := ⟨_, List.getElem?_eq_getElem (by omega)⟩
        obtain ⟨u, eu⟩ : ∃ u, C'[top]? = some u := ⟨_, List.getElem?_eq_getElem (by omega)⟩
        obtain ⟨v, ev'⟩ : ∃ u, C'[p0]? = some u := ⟨_, List.getElem?_eq_getElem (by omega)⟩
        obtain ⟨dx, ob⟩ := S2.ob
        obtain ⟨zs, z1a, z1b, hz1, hz2, hz3, hz4⟩ := matL_swap S2.li ey0 ey
        refine fld_at rfl ob T.cl_Steps T.no_lines (stF_lines l c) ?_
        refine ⟨false, q, _, _, _, rfl, rfl, SqB.lst eq2, atI_at (show (([(p0 : Int)] : List Int).map V.int)[0]? = some (.int p0) from rfl) rfl, ?_⟩
        refine ⟨l, zs, top, p0, _, _, rfl, hz1, hz2, hz3, ?_⟩
        have xl : x ≠ l := fun z => by rw [z, hz1] at ob; cases ob
        have ql : q ≠ l := by
          obtain ⟨ps, p1, p2, p3⟩ := S2.li
          have ps0 : ps ≠ [] := fun z => S2.l0 (List.eq_nil_of_length_eq_zero (by rw [← p2, z]; rfl))
          exact row_ne p1 ps0 eq2
        have ob3 : (upd H2 l (.lst ((zs.set top z1b).set p0 z1a))) x = some (.ins t.a_Steps dx (stF l c)) := by rw [upd_ne xl]; exact ob
        have eq3 : (upd H2 l (.lst ((zs.set top z1b).set p0 z1a))) q = some (.lst (([(p0 : Int)] : List Int).map V.int)) := by rw [upd_ne ql]; exact eq2
        have co3 : MatL (upd H2 l (.lst ((zs.set top z1b).set p0 z1a))) c C' := by
          obtain ⟨ps, p1, p2, p3⟩ := S2.co
          obtain ⟨ps', p1', p2', p3'⟩ := S2.li
          have ps0 : ps' ≠ [] := fun z => S2.l0 (List.eq_nil_of_length_eq_zero (by rw [← p2', z]; rfl))
          refine ⟨ps, by rw [upd_ne (Ne.symm S2.ne)]; exact p1, p2, fun i p r q1 q2 => ?_⟩
          obtain ⟨m1, m2⟩ := p3 i p r q1 q2
          exact ⟨m1, by rw [upd_ne (row_ne p1' ps0 m2)]; exact m2⟩
        have b3 : Bt [l, c] H2 (upd H2 l (.lst ((zs.set top z1b).set p0 z1a))) := fun a o ha e => by rw [upd_ne (fun z => ha (by simp [z]))]; exact e
        generalize upd H2 l (.lst ((zs.set top z1b).set p0 z1a)) = H3 at *
        refine fld_at rfl ob3 T.cl_Steps T.no_columns (stF_columns l c) ?_
        refine ⟨false, q, _, _, _, rfl, rfl, SqB.lst eq3, atI_at (show (([(p0 : Int)] : List Int).map V.int)[0]? = some (.int p0) from rfl) rfl, ?_⟩
        obtain ⟨ws, w1a, w1b, hw1, hw2, hw3, hw4⟩ := matL_swap co3 eu ev'
        refine ⟨c, ws, top, p0, _, _, rfl, hw1, hw2, hw3, ?_⟩
        have xc : x ≠ c := fun z => by rw [z, hw1] at ob3; cases ob3
        have qc : q ≠ c := by
          obtain ⟨ps, p1, p2, p3⟩ := co3
          have ps0 : ps ≠ [] := fun z => S2.c0 (List.eq_nil_of_length_eq_zero (by rw [← p2, z]; rfl))
          exact row_ne p1 ps0 eq3
        have li4 : MatL (upd H3 c (.lst ((ws.set top w1b).set p0 w1a))) l ((L'.set top y).set p0 y0) := by
          obtain ⟨ps, p1, p2, p3⟩ := hz4
          obtain ⟨ps', p1', p2', p3'⟩ := co3
          have ps0 : ps' ≠ [] := fun z => S2.c0 (List.eq_nil_of_length_eq_zero (by rw [← p2', z]; rfl))
          refine ⟨ps, by rw [upd_ne S2.ne]; exact p1, p2, fun i p r q1 q2 => ?_⟩
          obtain ⟨m1, m2⟩ := p3 i p r q1 q2
          exact ⟨m1, by rw [upd_ne (row_ne p1' ps0 m2)]; exact m2⟩
        have b4 : Bt [l, c] H2 (upd H3 c (.lst ((ws.set top w1b).set p0 w1a))) := fun a o ha e => by rw [upd_ne (fun z => ha (by simp [z]))]; exact b3 a o ha e
        have S4 : StepsAt t (upd H3 c (.lst ((ws.set top w1b).set p0 w1a))) x l c ((L'.set top y).set p0 y0) ((C'.set top v).set p0 u) := by
          refine ⟨⟨dx, by rw [upd_ne xc]; exact ob3⟩, li4, hw4, S2.ne, fun z => ?_, fun z => ?_⟩
          · have := congrArg List.length z
            rw [List.length_set, List.length_set] at this
            exact S2.l0 (List.eq_nil_of_length_eq_zero this)
          · have := congrArg List.length z
            rw [List.length_set, List.length_set] at this
            exact S2.c0 (List.eq_nil_of_length_eq_zero this)
        have eq4 : (upd H3 c (.lst ((ws.set top w1b).set p0 w1a))) q = some (.lst (([(p0 : Int)] : List Int).map V.int)) := by rw [upd_ne qc]; exact eq3
        generalize upd H3 c (.lst ((ws.set top w1b).set p0 w1a)) = H4 at *
        have ev4 := S2.bt (K := K) b4
        subst e1
        show tRet _ _ [some (.ref x), some (.int top), some (.int k), some (.ref q), v4, v5] H4
        walk_at "r"
        refine ints_len (b := false) (SqB.lst eq4) ?_
        walk_at "r"
        refine hQ true F _ _ H4 (ev2.trans ev4) (ev4.2 tt2) S4 (md2.swap tb ey0 ey eu ev') po.end (.inl ⟨rfl, ⟨y, ?_, nz⟩, fun i r hi er => ?_⟩) (fun z => by cases z)
        · rw [swap_at ey0 ey]
          by_cases e : top = p0
          · rw [if_pos e, ← ey, ← e, ey0]
          · rw [if_neg e, if_pos rfl]
        · have only : ∀ (m : Nat) r', top ≤ m → L'[m]? = some r' → r'.getD k 0 ≠ 0 → m = p0 := fun m r' hm em hn => by
            have := perm.mem_iff.mpr (mem_stand hm em hn)
            have := List.mem_singleton.mp this
            omega
          rw [swap_at ey0 ey] at er
          by_cases e : i = p0
          · rw [if_pos e] at er
            cases er
            rcases Decidable.em (y0.getD k 0 = 0) with w | w
            · exact w
            · have := only top y0 (Nat.le_refl _) ey0 w
              omega
          · rw [if_neg e, if_neg (by omega)] at er
            rcases Decidable.em (r.getD k 0 = 0) with w | w
            · exact w
            · exact absurd (only i r (by omega) er w) e
      · have h0 : ns = [] := List.eq_nil_of_length_eq_zero (by
          have hz : ¬ (ns.length : Int) = 1 := fun w => z1 (decide_eq_true w)
          omega)
        subst h0
        show N1 [some (.ref x), some (.int top), some (.int k), some (.ref q), v4, v5] H2
        subst e1
        walk_at "r"
        refine ints_len (b := false) (SqB.lst eq2) ?_
        walk_at "r"
        refine hQ false F L' C' H2 ev2 tt2 S2 md2 po.end (.inr ⟨rfl, fun i r hi er => ?_⟩) (fun _ => sm rfl)
        rcases Decidable.em (r.getD k 0 = 0) with w | w
        · exact w
        · have := perm.mem_iff.mpr (mem_stand hi er w)
          cases this
noncomputable def SL (t : Adr) (H : Hp) (x l c : Addr) (d n k : Nat) (cs : LM) (ks : List Nat) (b u e : Nat) (i : Nat) (σ : St) (H2 : Hp) : Prop :=
  ∃ (v3 : Option V) (L' C' : LM), σ = [some (.ref x), some (.int ks.length), some (.int k), v3] ∧ Bt [l, c] H H2 ∧ StepsAt t H2 x l c L' C' ∧ Sl d n k cs ks b u e i L' C' ∧ ∀ r, L'[ks.length]? = some r → 0 < r.getD k 0
theorem ok_Steps_set_lead (T : Txt K mg t) (Gs : Gd P mg base) : FnOk P w K mg base CX0 33 t.a_Steps_set_lead t.d_Steps_set_lead ["self", "top", "k"] (sp_Steps_set_lead t) := by
  have G_Steps_take : FnOk P w K mg base CX0 2 t.a_Steps_take t.d_Steps_take ["self", "i", "j", "count"] (sp_Steps_take t) := ok_Steps_take T
  have G_turn_signs : FnOk P w K mg base CX0 1 t.a_turn_signs t.d_turn_signs ["table", "i"] sp_turn_signs := ok_turn_signs T
  refine T.F_Steps_set_lead.ok sc_Steps_set_lead (by walk_at "v") (fun cdv A outer s H vs Q E hr h => ?_)
  · obtain ⟨x, l, c, L, C, ks, k, d, n, cs, b, u, e, rfl, S, sl, n3, kd, d3, hb, hu, he, hQ⟩ := h
    have eS : bS = 33554432 := rfl
    refine ⟨_, (pss_cons (ps_if (pt_cmpR op_lt (px (px (pe_fld (pv 0) rfl) (pv 1)) (pv 2)) pe_int (nomark _))
      (pss_cons (ps_expr (pe_call G_turn_signs hr.mo rfl T.m_turn_signs T.F_turn_signs.kp T.b_turn_signs .nil pass0 (pa_cons (pe_fld (pv 0) rfl) (pa_cons (pv 1) pa_nil))))
      (pss_one (ps_expr (pe_call G_turn_signs hr.mo rfl T.m_turn_signs T.F_turn_signs.kp T.b_turn_signs .nil pass0 (pa_cons (pe_fld (pv 0) rfl) (pa_cons (pv 1) pa_nil))))))
      pss_nil)
      (pss_one (ps_for PassesOwn.never rfl (pi_range1 rfl T.z_range (pa_cons (pv 1) pa_nil)) (pg_name (i := 3) sc_Steps_set_lead.nd rfl (Or.inl rfl))
      (pss_one (ps_expr (pe_meth (C := t.a_Steps) (pv 0) T.cl_Steps T.me_Steps_take G_Steps_take hr.mo T.b_Steps_take .nil pass0 (pa_cons (pv 3) (pa_cons (pv 1) (pa_cons (pe_op (op_fdivP Gs (room_any hr (by decide))) (px (px (pe_fld (pv 0) rfl) (pv 3)) (pv 2)) (px (px (pe_fld (pv 0) rfl) (pv 1)) (pv 2))) pa_nil))))))))), ?_⟩
    show tSeq _ _ _ [some (.ref x), some (.int ks.length), some (.int k), none] H
    have lenL := sl.ln.len
    have lenC := sl.ln.clen
    have tn := sl.tn
    obtain ⟨r, er⟩ : ∃ r, L[ks.length]? = some r := ⟨_, List.getElem?_eq_getElem (by omega)⟩
    obtain ⟨s0, es⟩ : ∃ r, C[ks.length]? = some r := ⟨_, List.getElem?_eq_getElem (by omega)⟩
    have wr := sl.ln.wid r (List.mem_of_getElem? er)
    have wu := sl.ln.cwid s0 (List.mem_of_getElem? es)
    obtain ⟨dx, ob⟩ := S.ob
    refine st fun N1 e1 => ?_
    have key : ∀ L1 C1 H1, Bt [l, c] H H1 → StepsAt t H1 x l c L1 C1 → Sl d n k cs ks b u e 0 L1 C1 → (∀ r, L1[ks.length]? = some r → 0 < r.getD k 0) → N1 [some (.ref x), some (.int ks.length), some (.int k), none] H1 := by
      intro L1 C1 H1 b1 S1 ec1 po1
      subst e1
      refine for_st fun B' eB => ?_
      simp only [iRng1]
      walk_at "r"
      refine ⟨by omega, by omega, ?_⟩
      rw [Int.toNat_natCast]
      refine fr_range (g := gName 3) (tb := B') (SL t H x l c d n k cs ks b u e) ⟨_, L1, C1, rfl, b1, S1, ec1, po1⟩ ?_ ?_
      · rintro i σ H2 hi ⟨v3, L', C', rfl, b2, S2, ec2, po2⟩
        have l2 := ec2.ln.len
        have c2 := ec2.ln.clen
        obtain ⟨xi, exi⟩ : ∃ r, L'[i]? = some r := ⟨_, List.getElem?_eq_getElem (by omega)⟩
        obtain ⟨xj, exj⟩ : ∃ r, L'[ks.length]? = some r := ⟨_, List.getElem?_eq_getElem (by omega)⟩
        obtain ⟨ci, eci⟩ : ∃ r, C'[i]? = some r := ⟨_, List.getElem?_eq_getElem (by omega)⟩
        obtain ⟨cj, ecj⟩ : ∃ r, C'[ks.length]? = some r := ⟨_, List.getElem?_eq_getElem (by omega)⟩
        have wi := ec2.ln.wid xi (List.mem_of_getElem? exi)
        have wj := ec2.ln.wid xj (List.mem_of_getElem? exj)
        have wci := ec2.ln.cwid ci (List.mem_of_getElem? eci)
        have wcj := ec2.ln.cwid cj (List.mem_of_getElem? ecj)
        have ld := po2 xj exj
        have nx := ec2.take hi kd exi exj eci ecj ld
        obtain ⟨dx2, ob2⟩ := S2.ob
        have hM2 : MatB false false K H2 l L' := S2.li.b
        subst eB
        show tDrop _ _ [some (.ref x), some (.int ks.length), some (.int k), some (.int (0 + (i : Int)))] H2
        simp only [tDrop]
        refine meth_at rfl ob2 (stF_no l c (by decide) (by decide)) ?_
        walk_at "r"
        refine fld_at rfl ob2 T.cl_Steps T.no_lines (stF_lines l c) ?_
        refine mat_ix hM2 exi (getD_at (by omega)) (by omega) rfl ?_
        refine fld_at rfl ob2 T.cl_Steps T.no_lines (stF_lines l c) ?_
        refine mat_ix hM2 exj (getD_at (by omega)) rfl rfl ?_
        walk_at "r"
        refine ⟨by omega, ?_⟩
        have hqb : ((xi.getD k 0).fdiv (xj.getD k 0)).natAbs ≤ 2 ^ u := Nat.le_trans (nat_fdiv_le _ _ ld) (getD_le (ec2.bu i xi (Nat.le_refl _) hi exi))
        generalize (xi.getD k 0).fdiv (xj.getD k 0) = qq at *
        refine ⟨x, l, c, L', C', i, ks.length, qq, xi, xj, ci, cj, by simp, S2, exi, exj, eci, ecj, by omega, by omega, by omega, by omega, fun z hz => ?_, fun z hz => ?_, fun H3 b3 S3 => ?_⟩
        · exact PyProof.Rows.mulOk_of_bits (pow_abs hqb) (pow_abs (ec2.bs _ xj (Nat.le_refl _) exj z hz)) (by omega)
        · exact PyProof.Rows.mulOk_of_bits (pow_abs (by rw [Int.natAbs_neg]; exact hqb)) (pow_abs (ec2.bc i ci (by omega) eci z hz)) (by omega)
        · refine ⟨_, _, _, rfl, fun a o ha e => b3 a o ha (b2 a o ha e), S3, nx, fun r' er' => ?_⟩
          rw [List.getElem?_set_ne (by omega)] at er'
          exact po2 r' er'
      · rintro σ H2 ⟨v3, L', C', rfl, b2, S2, ec2, po2⟩
        exact hQ L' C' H2 b2 S2 (ec2.end n3 po2)
    walk_at "r"
    refine fld_at rfl ob T.cl_Steps T.no_lines (stF_lines l c) ?_
    refine mat_ix (S.li.b (K := K)) er (getD_at (by omega)) rfl rfl ?_
    walk_at "r"
    refine ite2 (fun z => ?_) (fun z => ?_)
    · have hz : r.getD k 0 < 0 := of_decide_eq_true z
      refine fld_at rfl ob T.cl_Steps T.no_lines (stF_lines l c) ?_
      refine ⟨l, L, ks.length, r, rfl, S.li, er, by omega, fun H1 b1 li1 => ?_⟩
      have ne1 : ∀ {a : Addr} {o : HO}, H a = some o → a ≠ l → H1 a = some o := fun e n => b1 _ _ (by simpa using n) e
      obtain ⟨ps, p1, p2, p3⟩ := id S.li
      have ps0 : ps ≠ [] := fun z => S.l0 (List.eq_nil_of_length_eq_zero (by rw [← p2, z]; rfl))
      have ob1 := ne1 ob (fun z => by rw [z, p1] at ob; cases ob)
      have co1 : MatL H1 c C := by
        obtain ⟨qs, q1, q2, q3⟩ := S.co
        refine ⟨qs, ne1 q1 (Ne.symm S.ne), q2, fun m p r' z1 z2 => ?_⟩
        obtain ⟨m1, m2⟩ := q3 m p r' z1 z2
        exact ⟨m1, ne1 m2 (row_ne p1 ps0 m2)⟩
      refine fld_at rfl ob1 T.cl_Steps T.no_columns (stF_columns l c) ?_
      refine ⟨c, C, ks.length, s0, rfl, co1, es, by omega, fun H2 b2 co2 => ?_⟩
      have ne2 : ∀ {a : Addr} {o : HO}, H1 a = some o → a ≠ c → H2 a = some o := fun e n => b2 _ _ (by simpa using n) e
      obtain ⟨qs, q1, q2, q3⟩ := id co1
      have qs0 : qs ≠ [] := fun z => S.c0 (List.eq_nil_of_length_eq_zero (by rw [← q2, z]; rfl))
      refine key (L.set ks.length (r.map fun z => -z)) (C.set ks.length (s0.map fun z => -z)) H2 (fun a o ha e => ?_) ⟨⟨dx, ne2 ob1 (fun z => by rw [z, q1] at ob1; cases ob1)⟩, ?_, co2, S.ne, fun z => ?_, fun z => ?_⟩ (sl.neg er es) (fun r' er' => ?_)
      · have ha' : a ≠ l ∧ a ≠ c := by simpa using ha
        exact ne2 (ne1 e ha'.1) ha'.2
      · obtain ⟨rs, r1, r2, r3⟩ := li1
        refine ⟨rs, ne2 r1 S.ne, r2, fun m p r' z1 z2 => ?_⟩
        obtain ⟨m1, m2⟩ := r3 m p r' z1 z2
        exact ⟨m1, ne2 m2 (row_ne q1 qs0 m2)⟩
      · have := congrArg List.length z
        rw [List.length_set] at this
        exact S.l0 (List.eq_nil_of_length_eq_zero this)
      · have := congrArg List.length z
        rw [List.length_set] at this
        exact S.c0 (List.eq_nil_of_length_eq_zero this)
      · rw [List.getElem?_set_self (by omega)] at er'
        cases er'
        rw [neg_at]
        omega
    · have hz : ¬ r.getD k 0 < 0 := fun w => z (decide_eq_true w)
      refine key L C H (fun a o _ e => e) S sl fun r' er' => ?_
      rw [er] at er'
      cases er'
      have := sl.topl r er
      omega
theorem rise_len : ∀ {ks : List Nat} {j : Nat}, ks.Pairwise (· < ·) → (∀ i ∈ ks, j ≤ i) → ∀ m, m < ks.length → ∃ i, ks[m]? = some i ∧ j + m ≤ i
  | [], _, _, _, m, h => by simp at h
  | a :: ks, j, hp, hj, 0, _ => ⟨a, rfl, hj a (List.mem_cons_self ..)⟩
  | a :: ks, j, hp, hj, m + 1, h => by
    obtain ⟨p1, p2⟩ := List.pairwise_cons.mp hp
    have ja := hj a (List.mem_cons_self ..)
    obtain ⟨i, e, hi⟩ := rise_len (j := j + 1) p2 (fun i hi => by have := p1 i hi; omega) m (by simpa using h)
    exact ⟨i, e, by omega⟩
theorem rise_le {ks : List Nat} {k : Nat} (h1 : ks.Pairwise (· < ·)) (h2 : ∀ j ∈ ks, j < k) : ks.length ≤ k := by
  rcases Nat.eq_zero_or_pos ks.length with z | z
  · omega
  · obtain ⟨i, e, hi⟩ := rise_len (j := 0) h1 (fun _ _ => Nat.zero_le _) (ks.length - 1) (by omega)
    have := h2 i (List.mem_of_getElem? e)
    omega
theorem Ec.le {d n k : Nat} {cs : LM} {ks : List Nat} {b u c : Nat} {L C : LM} (h : Ec d n k cs ks b u c L C) : ks.length ≤ k := rise_le h.ksS h.ksK
noncomputable def SR (K : Frag) (t : Adr) (H : Hp) (a x l c : Addr) (A : LM) (d n B : Nat) (k : Nat) (σ : St) (H2 : Hp) : Prop :=
  ∃ (vk : Option V) (ks : List Nat) (L C : LM), σ = [some (.ref a), some (.int d), some (.ref x), some (.int ks.length), vk, none, none] ∧ Ev K t [] H H2 ∧ TT K t H2 ∧ StepsAt t H2 x l c L C ∧ Ec d n k (colsM d A) ks (bR n B ks.length) (uR n B ks.length) (cR n B ks.length) L C
theorem ok_stairs (T : Txt K mg t) (Gs : Gd P mg base) : FnOk P w K mg base CX0 35 t.a_stairs t.d_stairs ["rows"] (sp_stairs K t) := by
  have G_Steps___init__ : FnOk P w K mg base CX0 2 t.a_Steps___init__ t.d_Steps___init__ ["self", "rows"] (sp_Steps_init K t) := ok_Steps___init__ T
  have G_Steps_gather : FnOk P w K mg base CX0 34 t.a_Steps_gather t.d_Steps_gather ["self", "top", "k"] (sp_Steps_gather K t) := ok_Steps_gather T Gs
  have G_Steps_set_lead : FnOk P w K mg base CX0 33 t.a_Steps_set_lead t.d_Steps_set_lead ["self", "top", "k"] (sp_Steps_set_lead t) := ok_Steps_set_lead T Gs
  have G_turned : FnOk P w K mg base CX0 1 t.a_turned t.d_turned ["rows"] (spN_turned K) := ok_turned T
  refine T.F_stairs.ok sc_stairs (by walk_at "v") (fun cdv A outer s H vs Q E hr h => ?_)
  · obtain ⟨b1, b2, a, MA, d, n, B, rfl, hM, sA, wA, n1, n63, d63, bA, hfit, tt, hQ⟩ := h
    have eS : bS = 33554432 := rfl
    have eU : uS = 1048576 := rfl
    refine ⟨_, (pss_cons (ps_set (i := 1) sc_stairs.nd rfl (Or.inr rfl) (pe_callB call_lenB rfl T.z_len (by decide +kernel) (pa_cons (px (pv 0) pe_int) pa_nil)))
      (pss_cons (ps_set (i := 2) sc_stairs.nd rfl (Or.inl rfl) (pe_make (C := t.a_Steps) (T.mk_Steps) G_Steps___init__ hr.mo rfl T.m_Steps T.b_Steps___init__ .nil pass0 (pa_cons (pv 0) pa_nil)))
      (pss_cons (ps_set (i := 3) sc_stairs.nd rfl (Or.inl rfl) pe_int)
      (pss_cons (ps_for PassesOwn.never rfl (pi_range1 rfl T.z_range (pa_cons (pv 1) pa_nil)) (pg_name (i := 4) sc_stairs.nd rfl (Or.inl rfl))
      (pss_one (ps_if (pt_val (pe_meth (C := t.a_Steps) (pv 2) T.cl_Steps T.me_Steps_gather G_Steps_gather hr.mo T.b_Steps_gather .nil pass0 (pa_cons (pv 3) (pa_cons (pv 4) pa_nil))))
      (pss_cons (ps_expr (pe_meth (C := t.a_Steps) (pv 2) T.cl_Steps T.me_Steps_set_lead G_Steps_set_lead hr.mo T.b_Steps_set_lead .nil pass0 (pa_cons (pv 3) (pa_cons (pv 4) pa_nil))))
      (pss_one (ps_aug (i := 3) sc_stairs.nd rfl (Or.inl rfl) pe_int ip_add)))
      pss_nil)))
      (pss_cons (ps_setCG (i := 5) (xs := ["line"]) (fr := [("width", 1)]) (g := (gName 0)) (tt := (tEl (tSl (rSlB K) (tVar 0) tNoPart (tPart (tVar 1))))) (compG_ok (sc := defScope s_stairs) (N := N_stairs) rfl rfl (by decide +kernel)) rfl sc_stairs.nd rfl rfl (pi_seq (pe_fld (pv 2) rfl)) (fun _ _ _ hE1 => (pg_own (N := ["line", "width"]) (i := 0) hE1 rfl (by decide +kernel))) (fun _ _ _ hE1 => (po_el (pe_slice sl_B (pv 0) po_none (po_some (pv 1))))))
      (pss_cons (ps_setCG (i := 6) (xs := ["line"]) (fr := [("width", 1)]) (g := (gName 0)) (tt := (tEl (tSl (rSlB K) (tVar 0) (tPart (tVar 1)) tNoPart))) (compG_ok (sc := defScope s_stairs) (N := N_stairs) rfl rfl (by decide +kernel)) rfl sc_stairs.nd rfl rfl (pi_seq (pe_fld (pv 2) rfl)) (fun _ _ _ hE1 => (pg_own (N := ["line", "width"]) (i := 0) hE1 rfl (by decide +kernel))) (fun _ _ _ hE1 => (po_el (pe_slice sl_B (pv 0) (po_some (pv 1)) po_none))))
      (pss_one (ps_ret (pe_tup (pa_cons (pv 5) (pa_cons (pv 6) (pa_cons (pe_call G_turned hr.mo rfl T.m_turned T.F_turned.kp T.b_turned .nil pass0 (pa_cons (pe_fld (pv 2) rfl) pa_nil)) pa_nil)))))))))))), ?_⟩
    show tSeq _ _ _ [some (.ref a), none, none, none, none, none, none] H
    obtain ⟨r0, e0⟩ : ∃ r0, MA[0]? = some r0 := ⟨_, List.getElem?_eq_getElem (by omega)⟩
    refine st fun N1 e1 => ?_
    walk_at "r"
    refine mat_row hM e0 rfl fun p hp => ?_
    refine ints_len hp ?_
    rw [wA r0 (List.mem_of_getElem? e0)]
    show N1 [some (.ref a), some (.int d), none, none, none, none, none] H
    subst e1
    refine st fun N1 e1 => ?_
    show tMake _ _ _ _ _ [some (.ref a), some (.int d), none, none, none, none, none] H _
    simp only [tMake]
    walk_at "r"
    intro x dx hx hdx hne
    have s1 : Same H (upd (upd H dx (.own x)) x (.ins t.a_Steps dx [])) := fun b o e => by rw [upd_ne (ne_of_none e hx), upd_ne (ne_of_none e hdx)]; exact e
    refine ⟨x, dx, a, b1, b2, MA, d, rfl, upd_same, hM.up s1, by omega, by omega, wA, by omega, fun l c H2 b2' S2 hl hc => ⟨rfl, ?_⟩⟩
    rw [sA] at S2
    have ev2 : Ev K t [] H H2 := Ev.new (same_ev s1) (Bt.ev b2' (fun y hy => by rw [List.mem_singleton.mp hy]; exact .inr (.inr ⟨_, _, _, upd_same⟩))) (fun y hy => by rw [List.mem_singleton.mp hy]; exact hx)
    have none_of : ∀ {y : Addr}, (upd (upd H dx (.own x)) x (.ins t.a_Steps dx [])) y = none → H y = none := fun {y} e => by
      cases w : H y with
      | none => rfl
      | some o => rw [s1 _ _ w] at e; cases e
    have hl0 := none_of hl
    have hc0 := none_of hc
    have tt2 := ev2.2 tt
    show N1 [some (.ref a), some (.int d), some (.ref x), none, none, none, none] H2
    subst e1
    refine st fun N1 e1 => ?_
    walk_at "r"
    subst e1
    refine st fun N1 e1 => for_st fun B' eB => ?_
    simp only [iRng1]
    walk_at "r"
    refine ⟨by omega, by omega, ?_⟩
    rw [Int.toNat_natCast]
    refine fr_range (g := gName 4) (tb := B') (SR K t H a x l c MA d n B) ⟨_, [], _, _, rfl, ev2, tt2, S2, ec_start sA wA bA⟩ ?_ ?_
    · rintro k σ H3 hk ⟨vk, ks, L, C, rfl, ev3, tt3, S3, ec⟩
      have kl : ks.length ≤ k := ec.le
      obtain ⟨fu, fc⟩ := hfit ks.length ec.kn (by omega)
      have fb := bR_le n B ks.length
      have fb4 : 4 * bR n B ks.length + 2 ≤ bS ∨ n ≤ ks.length := by
        rcases Nat.lt_or_ge ks.length n with q | q
        · have h1 := (hfit (ks.length + 1) q (by omega)).1
          have h2 := bR_le n B (ks.length + 1)
          have h3 : bR n B (ks.length + 1) = 4 * bR n B ks.length + 2 := rfl
          exact .inl (by omega)
        · exact .inr q
      have fg : (n - ks.length) * (bR n B ks.length + 1) ≤ bS := by
        rcases Nat.lt_or_ge ks.length n with q | q
        · have h1 := (hfit (ks.length + 1) q (by omega)).2
          have h2 : cR n B (ks.length + 1) = cR n B ks.length + (n - ks.length) * (bR n B ks.length + 1) + uR n B ks.length + 6 := rfl
          omega
        · rw [show n - ks.length = 0 by omega, Nat.zero_mul]
          exact Nat.zero_le _
      obtain ⟨dx3, ob3⟩ := S3.ob
      subst eB
      show tIfS _ _ _ _ [some (.ref a), some (.int d), some (.ref x), some (.int ks.length), some (.int (0 + (k : Int))), none, none] H3
      simp only [tIfS, tB]
      refine meth_at rfl ob3 (stF_no l c (by decide) (by decide)) ?_
      walk_at "r"
      refine ⟨x, l, c, L, C, ks.length, k, d, n, colsM d MA, bR n B ks.length, cR n B ks.length, by simp, S3, tt3, ec.gm, ec.bs, n63, hk, d63, ec.kn, fg, fb4, fc, fun b F L' C' H4 ev4 tt4 S4 md hF gat sm => ?_⟩
      have ev34 : Ev K t [] H H4 := Ev.new ev3 ev4 (fun y hy => by
        rcases List.mem_cons.mp hy with e | e
        · rw [e]; exact hl0
        · rw [List.mem_singleton.mp e]; exact hc0)
      rcases gat with ⟨rfl, ⟨r, er, nz⟩, g⟩ | ⟨rfl, g⟩
      · refine ⟨_, rfl, iteT ?_⟩
        obtain ⟨dx4, ob4⟩ := S4.ob
        have ln := md.ln.len
        have cn := md.ln.clen
        have tl := (List.getElem?_eq_some_iff.mp er).1
        refine meth_at rfl ob4 (stF_no l c (by decide) (by decide)) ?_
        walk_at "r"
        have sl := ec.yes md hF er nz g
        have tn := sl.tn
        have f1 := hfit (ks.length + 1) (by omega) (by omega)
        have f2 := bR_le n B (ks.length + 1)
        have h2 : cR n B (ks.length + 1) = cR n B ks.length + (n - ks.length) * (bR n B ks.length + 1) + uR n B ks.length + 6 := rfl
        have h3 : bR n B (ks.length + 1) = 4 * bR n B ks.length + 2 := rfl
        refine ⟨x, l, c, L', C', ks, k, d, n, colsM d MA, _, _, _, by simp, S4, sl, n63, hk, d63, by omega, by omega, by omega, fun L5 C5 H5 b5 S5 ec5 => ?_⟩
        have ev5 : Ev K t [] H H5 := Ev.new ev34 (S4.bt b5) (fun y hy => by
          rcases List.mem_cons.mp hy with e | e
          · rw [e]; exact hl0
          · rw [List.mem_singleton.mp e]; exact hc0)
        simp only [tAug, ipI]
        walk_at "r"
        refine ⟨some (.int (0 + (k : Int))), ks ++ [k], L5, C5, ?_⟩
        have el : (ks ++ [k]).length = ks.length + 1 := by simp
        rw [el]
        exact ⟨by simp, ev5, (S4.bt (K := K) b5).2 tt4, S5, ec5⟩
      · refine ⟨_, rfl, iteF ?_⟩
        obtain ⟨rfl, rfl⟩ := sm rfl
        exact ⟨_, ks, _, _, rfl, ev34, tt4, S4, ec.no g⟩
    · rintro σ H3 ⟨vk, ks, L, C, rfl, ev3, tt3, S3, ec⟩
      have kl : ks.length ≤ d := ec.le
      obtain ⟨fu, fc⟩ := hfit ks.length ec.kn kl
      have sta := ec_end ec fu fc
      obtain ⟨dx3, ob3⟩ := S3.ob
      have cwl := ec.ln.cwid
      have lw := ec.ln.wid
      obtain ⟨ps, p1, p2, p3⟩ := id S3.li
      have ln := ec.ln.len
      subst e1
      refine st fun N1 e1 => ?_
      show tSetC _ _ _ [some (.ref a), some (.int d), some (.ref x), some (.int ks.length), vk, none, none] H3
      simp only [tSetC]
      refine compE_st fun B' eB => ?_
      simp only [iSeq]
      refine fld_at rfl ob3 T.cl_Steps T.no_lines (stF_lines l c) ?_
      refine ⟨false, l, rfl, ⟨_, SqB.lst p1⟩, fun a1 ha1 => ?_⟩
      refine cg_seq (RowN H3 a1 fun i => (L.getD i []).take d) ha1 (SqB.lst p1) (by rw [List.length_map, p2, ln]; omega) (RowN.mono (a := a1)) ?_ ?_
      · intro i v H4 zs ev s4 ez Q' hQ'
        have hin : i < ps.length := by have := (List.getElem?_eq_some_iff.mp ev).1; simpa using this
        obtain ⟨p', hp'⟩ : ∃ p', ps[i]? = some p' := ⟨_, List.getElem?_eq_getElem hin⟩
        obtain ⟨r', er'⟩ : ∃ r', L[i]? = some r' := ⟨_, List.getElem?_eq_getElem (by omega)⟩
        rw [List.getElem?_map, hp'] at ev
        cases ev
        have hr4 := s4 _ _ (p3 i p' r' hp' er').2
        have wr := lw r' (List.mem_of_getElem? er')
        subst eB
        show tSl _ _ _ _ [some (.ref p'), some (.int d)] H4 Q'
        walk_at "r"
        refine ⟨false, p', _, rfl, SqB.lst hr4, (by intro e; cases e), fun c1 hc1 => ?_⟩
        rw [cut_to (by omega)]
        have ne1 : c1 ≠ a1 := fun z => by rw [z, ez] at hc1; cases hc1
        refine hQ' _ _ (Same.new hc1) ⟨c1, rfl, ne1, none_back s4 hc1, ?_⟩
        show (upd H4 c1 (.lst ((r'.take d).map V.int))) c1 = some (.lst (((L.getD i []).take d).map V.int))
        rw [upd_same, List.getD_eq_getElem?_getD, er']
        rfl
      · intro H4 zs s4 ez hlz hr4
        have hF : NewL H3 H4 a1 (L.map fun r => r.take d) := by
          have := NewL.of ez ha1 hr4
          rw [hlz, List.length_map, p2] at this
          have e : (List.range L.length).map (fun i => (L.getD i []).take d) = L.map fun r => r.take d := by
            refine List.ext_getElem (by simp) fun i h1 h2 => ?_
            have hi : i < L.length := by simpa using h1
            rw [List.getElem_map, List.getElem_range, List.getElem_map, List.getD_eq_getElem?_getD, List.getElem?_eq_getElem hi]
            rfl
          rw [e] at this
          exact this
        show N1 [some (.ref a), some (.int d), some (.ref x), some (.int ks.length), vk, some (.ref a1), none] H4
        have ob4 := s4 _ _ ob3
        have p14 := s4 _ _ p1
        subst e1
        refine st fun N1 e1 => ?_
        show tSetC _ _ _ [some (.ref a), some (.int d), some (.ref x), some (.int ks.length), vk, some (.ref a1), none] H4
        simp only [tSetC]
        refine compE_st fun B' eB => ?_
        simp only [iSeq]
        refine fld_at rfl ob4 T.cl_Steps T.no_lines (stF_lines l c) ?_
        refine ⟨false, l, rfl, ⟨_, SqB.lst p14⟩, fun a2 ha2 => ?_⟩
        refine cg_seq (RowN H4 a2 fun i => (L.getD i []).drop d) ha2 (SqB.lst p14) (by rw [List.length_map, p2, ln]; omega) (RowN.mono (a := a2)) ?_ ?_
        · intro i v H5 zs5 ev s5 ez5 Q' hQ'
          have hin : i < ps.length := by have := (List.getElem?_eq_some_iff.mp ev).1; simpa using this
          obtain ⟨p', hp'⟩ : ∃ p', ps[i]? = some p' := ⟨_, List.getElem?_eq_getElem hin⟩
          obtain ⟨r', er'⟩ : ∃ r', L[i]? = some r' := ⟨_, List.getElem?_eq_getElem (by omega)⟩
          rw [List.getElem?_map, hp'] at ev
          cases ev
          have hr5 := s5 _ _ (s4 _ _ (p3 i p' r' hp' er').2)
          have wr := lw r' (List.mem_of_getElem? er')
          subst eB
          show tSl _ _ _ _ [some (.ref p'), some (.int d)] H5 Q'
          walk_at "r"
          refine ⟨false, p', _, rfl, SqB.lst hr5, (by intro e; cases e), fun c1 hc1 => ?_⟩
          rw [cut_from (by omega)]
          have ne1 : c1 ≠ a2 := fun z => by rw [z, ez5] at hc1; cases hc1
          refine hQ' _ _ (Same.new hc1) ⟨c1, rfl, ne1, none_back s5 hc1, ?_⟩
          show (upd H5 c1 (.lst ((r'.drop d).map V.int))) c1 = some (.lst (((L.getD i []).drop d).map V.int))
          rw [upd_same, List.getD_eq_getElem?_getD, er']
          rfl
        · intro H5 zs5 s5 ez5 hlz5 hr5
          have hR : NewL H4 H5 a2 (L.map fun r => r.drop d) := by
            have := NewL.of ez5 ha2 hr5
            rw [hlz5, List.length_map, p2] at this
            have e : (List.range L.length).map (fun i => (L.getD i []).drop d) = L.map fun r => r.drop d := by
              refine List.ext_getElem (by simp) fun i h1 h2 => ?_
              have hi : i < L.length := by simpa using h1
              rw [List.getElem_map, List.getElem_range, List.getElem_map, List.getD_eq_getElem?_getD, List.getElem?_eq_getElem hi]
              rfl
            rw [e] at this
            exact this
          show N1 [some (.ref a), some (.int d), some (.ref x), some (.int ks.length), vk, some (.ref a1), some (.ref a2)] H5
          have ob5 := s5 _ _ ob4
          have co5 := (S3.co.up s4).up s5
          subst e1
          show tRet _ _ [some (.ref a), some (.int d), some (.ref x), some (.int ks.length), vk, some (.ref a1), some (.ref a2)] H5
          walk_at "r"
          refine fld_at rfl ob5 T.cl_Steps T.no_columns (stF_columns l c) ?_
          refine ⟨false, false, c, C, n, rfl, co5.b, S3.c0, cwl, by omega, by rw [ec.ln.clen]; omega, fun r H6 s6 hT => ?_⟩
          refine ⟨by show 3 ≤ sizeLine; decide, fun q hq => ?_⟩
          have s7 : Same H3 (upd H6 q (.tup [.ref a1, .ref a2, .ref r])) := (s4.trans (s5.trans s6)).trans (Same.new hq)
          refine hQ q a1 a2 r _ _ _ ks _ (ev3.trans (same_ev s7)) ((same_ev (S := []) s7).2 tt3) upd_same (told_of hF hR s5 hT s6 (Same.new hq)) sta fun x o ho hx z => by
            obtain ⟨_, _, n0⟩ := hF
            have h3 := ev3.1 x o (fun w => nomatch w) ho hx
            rw [n0 x (.inl z)] at h3
            cases h3
theorem ok_dot (T : Txt K mg t) : FnOk P w K mg base CX0 1 t.a_dot t.d_dot ["one", "other"] (sp_dot K) := by
  refine T.F_dot.ok sc_dot (by walk_at "v") (fun cdv A outer s H vs Q E hr h => ?_)
  · obtain ⟨b1, b2, p, q, ms, ns, rfl, h1, h2, hl, hz, hm, hQ⟩ := h
    refine ⟨_, (pss_one (ps_ret (pe_callB (call_sum rfl) rfl T.z_sum (by decide +kernel) (pa_cons (pe_compG (xs := ["left", "right"]) (fr := []) (g := (gTup K 2 (gCons (gName 0) (gCons (gName 1) gNil)))) (tt := (tEl (tOp (rI (fun i j => IntMulOk i j) fun i j => .int (i * j)) (tVar 0) (tVar 1)))) (compG_ok (sc := defScope s_dot) (N := N_dot) rfl rfl (by decide +kernel)) rfl (pi_zip rfl T.z_zip (pa_cons (pv 0) (pa_cons (pv 1) pa_nil))) (fun _ _ _ hE1 => (pg_tup rfl (pgs_cons (pg_own (N := ["left", "right"]) (i := 0) hE1 rfl (by decide +kernel)) (pgs_cons (pg_own (N := ["left", "right"]) (i := 1) hE1 rfl (by decide +kernel)) pgs_nil)))) (fun _ _ _ hE1 => (po_el (pe_op op_mulB (pv 0) (pv 1))))) pa_nil)))), ?_⟩
    show tRet _ _ [some (.ref p), some (.ref q)] H
    walk_at "r"
    refine compE_st fun B eB => ?_
    simp only [iZip]
    walk_at "r"
    refine ⟨b1, ⟨_, h1⟩, b2, ⟨_, h2⟩, fun a ha => ?_⟩
    refine cg_zip (fun j y _ => ∃ m n, ms[j]? = some m ∧ ns[j]? = some n ∧ y = .int (m * n)) ha h1 h2 (by simpa using hl) (by simpa using hz) (fun _ _ _ _ r _ => r) ?_ ?_
    · intro i x y H1 zs ex ey s1 ez Q' hQ'
      obtain ⟨m, em, rfl⟩ := ints_at ex
      obtain ⟨n, en, rfl⟩ := ints_at ey
      subst eB
      show tOp _ _ _ [some (.int m), some (.int n)] H1 Q'
      walk_at "r"
      exact ⟨hm i m n em en, hQ' _ _ (Same.refl _) ⟨m, n, em, en, rfl⟩⟩
    · intro H1 zs s1 ez hlz hr'
      have ey : zs = (List.zipWith (· * ·) ms ns).map V.int := by
        refine list_is (by simp at hlz ⊢; omega) fun j y e => ?_
        obtain ⟨m, n, em, en, rfl⟩ := hr' j y e
        exact ⟨m * n, by rw [List.getElem?_zipWith, em, en], rfl⟩
      subst ey
      exact ⟨_, rfl, _, SqL.of ez, hQ H1 s1⟩
theorem ok_place (T : Txt K mg t) (Gs : Gd P mg base) : FnOk P w K mg base (CX1 P w) 34 t.a_place t.d_place ["tops", "under"] (sp_place K t.a_NoPlace) := by
  have G_divisor : FnOk P w K mg base CX0 1 t.a_divisor t.d_divisor ["one", "other"] sp_divisor := ok_divisor T
  refine T.F_place.okX sc_place (fun vs H Q E h => ?_) (fun cdv A outer s H vs Q E hr h => ?_)
  · obtain ⟨b, a, ns, u, rfl, _⟩ := h
    rfl
  · obtain ⟨b, a, ns, u, rfl, hS, hl, hE, hQ⟩ := h
    refine ⟨_, (pss_cons (ps_if (pt_cmpR op_eqZ (pv 1) pe_int (nomark _))
      (pss_one (ps_raise rfl landsN_def rfl T.m_NoPlace T.x_NoPlace PySem.F.excBase_ValueError (pa_cons pe_str pa_nil)))
      pss_nil)
      (pss_cons (ps_if (pt_cmpR op_eqZ (pe_callB call_lenB rfl T.z_len (by decide +kernel) (pa_cons (pv 0) pa_nil)) pe_int (nomark _))
      (pss_one (ps_raise rfl landsN_def rfl T.m_NoPlace T.x_NoPlace PySem.F.excBase_ValueError (pa_cons pe_str pa_nil)))
      pss_nil)
      (pss_cons (ps_set (i := 2) sc_place.nd rfl (Or.inr rfl) (pe_callB call_abs rfl T.z_abs (by decide +kernel) (pa_cons (pv 1) pa_nil)))
      (pss_cons (PS.nox (ps_for PassesOwn.never rfl (pi_seq (pv 0)) (pg_name (i := 3) sc_place.nd rfl (Or.inl rfl))
      (pss_one (ps_set (i := 2) sc_place.nd rfl (Or.inr rfl) (pe_call G_divisor hr.mo rfl T.m_divisor T.F_divisor.kp T.b_divisor .nil pass0 (pa_cons (pv 2) (pa_cons (pv 3) pa_nil)))))))
      (pss_cons (ps_if (pt_cmpR op_lt (pv 1) pe_int (nomark _))
      (pss_one (ps_set (i := 2) sc_place.nd rfl (Or.inr rfl) (pe_un un_neg (pv 2))))
      pss_nil)
      (pss_one (ps_ret (pe_tup (pa_cons (pe_callTy call_tupB rfl T.z_tuple (by decide +kernel) (pa_cons (pe_compG (xs := ["top"]) (fr := [("common", 2)]) (g := (gName 0)) (tt := (tEl (tOp (rI (fun _ j => j ≠ 0) fun i j => .int (i.fdiv j)) (tVar 0) (tVar 1)))) (compG_ok (sc := defScope s_place) (N := N_place) rfl rfl (by decide +kernel)) rfl (pi_seq (pv 0)) (fun _ _ _ hE1 => (pg_own (N := ["top", "common"]) (i := 0) hE1 rfl (by decide +kernel))) (fun _ _ _ hE1 => (po_el (pe_op (op_fdivQ Gs (room_any hr (by decide)) rfl rfl rfl rfl rfl) (pv 0) (pv 1))))) pa_nil)) (pa_cons (pe_op (op_fdivP Gs (room_any hr (by decide))) (pv 1) (pv 2)) pa_nil)))))))))), ?_⟩
    show tSeq _ _ _ [some (.ref a), some (.int u), none, none] H
    refine st fun N1 e1 => ?_
    simp only [tRaise]
    walk_at "r"
    refine ite2 (fun z => ⟨by decide, hE (.inl (of_decide_eq_true z))⟩) (fun z => ?_)
    have hu : u ≠ 0 := fun q => z (decide_eq_true q)
    subst e1
    refine st fun N1 e1 => ?_
    simp only [tRaise]
    walk_at "r"
    refine ints_len hS ?_
    walk_at "r"
    refine ite2 (fun z => ⟨by decide, hE (.inr ?_)⟩) (fun z => ?_)
    · have := of_decide_eq_true z
      exact List.eq_nil_of_length_eq_zero (by omega)
    have hne : ns ≠ [] := fun q => z (decide_eq_true (by rw [q]; rfl))
    subst e1
    refine st fun N1 e1 => ?_
    walk_at "r"
    subst e1
    refine st fun N1 e1 => for_st fun B eB => ?_
    simp only [iSeq]
    walk_at "r"
    refine ⟨b, ⟨_, hS⟩, ?_⟩
    refine fr_seq (g := gName 3) (tb := B) (fun i σ H1 => ∃ v3, σ = [some (.ref a), some (.int u), some (.int (gl u (ns.take i))), v3] ∧ H1 = H) ⟨_, rfl, rfl⟩ (fun i σ H1 _ ⟨_, _, e⟩ => e ▸ hS) ?_ ?_
    · rintro i x σ H1 hi ⟨v3, rfl, rfl⟩
      obtain ⟨n, hn, rfl⟩ := ints_at hi
      subst eB
      walk_at "r"
      simp only [rd_gcd]
      rw [take_snoc hn, gl_snoc]
      first | trivial | exact ⟨_, rfl, rfl⟩
    · rintro σ H1 ⟨v3, rfl, rfl⟩
      rw [List.length_map, List.take_length]
      subst e1
      refine st fun N2 e2 => ?_
      have key2 : N2 [some (.ref a), some (.int u), some (.int (cs u ns)), v3] H1 := by
        subst e2
        have hd : cs u ns ≠ 0 := cs_ne ns hu
        walk_at "r"
        refine compE_st fun B eB => ?_
        simp only [iSeq]
        walk_at "r"
        refine ⟨b, ⟨_, hS⟩, fun a1 ha1 => cg_seq (fun j y _ => ∃ n, ns[j]? = some n ∧ y = .int (n.fdiv (cs u ns))) ha1 hS (by rw [List.length_map]; omega) (fun _ _ _ _ r _ => r) ?_ ?_⟩
        · intro i x H2 zs hx _ _ Q' hQ'
          obtain ⟨n, hn, rfl⟩ := ints_at hx
          subst eB
          show tOp _ _ _ [some (.int n), some (.int (cs u ns))] H2 Q'
          walk_at "r"
          exact ⟨hd, hQ' _ H2 (Same.refl _) ⟨n, hn, rfl⟩⟩
        · intro H2 ys s1 e1 hly hr2
          have ey : ys = (redT u ns).map V.int := by
            unfold redT
            rw [List.map_map]
            exact list_is (by simpa using hly) hr2
          subst ey
          refine ⟨a1, _, rfl, .inl ⟨SqL.of e1, fun l hl1 => ?_⟩⟩
          walk_at "r"
          refine ⟨hd, (by show 2 ≤ sizeLine; decide), fun p hp => hQ hu hne p _ ((s1.trans (Same.new hl1)).trans (Same.new hp)) ⟨l, upd_same, ?_⟩⟩
          rw [upd_ne (ne_of_none upd_same hp)]
          exact upd_same
      walk_at "r"
      unfold cs at key2
      refine ite2 (fun z => ?_) (fun z => ?_)
      · rw [if_pos (of_decide_eq_true z)] at key2
        exact key2
      · rw [if_neg (fun q => z (decide_eq_true q))] at key2
        exact key2
theorem place_ix0 {H : Hp} {p : Addr} {ns : List Int} {u : Int} {Q : VK} (h : PlaceAt H p ns u) (q : ∀ x, H x = some (.tup (ns.map V.int)) → Q (.ref x) H) : rIxB K (.ref p) (.int 0) H Q := let ⟨x, h1, h2⟩ := h; ⟨true, p, _, _, _, rfl, rfl, SqB.tup h1, rfl, q x h2⟩
theorem place_ix1 {H : Hp} {p : Addr} {ns : List Int} {u : Int} {Q : VK} (h : PlaceAt H p ns u) (q : Q (.int u) H) : rIxB K (.ref p) (.int 1) H Q := let ⟨x, h1, h2⟩ := h; ⟨true, p, _, _, _, rfl, rfl, SqB.tup h1, rfl, q⟩
theorem cg_enumJ {a : Addr} {H : Hp} {tt : St → Hp → (Option V → Hp → Prop) → Prop} {fr : List (Str × Nat)} {σ : St} {Q : VK} {b : Bool} {l : Addr} {xs : List V} (P : Nat → List V → Prop) (ha : H a = none) (hS : SqB b K H l xs) (hz : xs.length ≤ 1000) (h0 : P 0 [])
    (hl : ∀ i zs, P i zs → zs.length ≤ i)
    (he : ∀ i x H1 zs, xs[i]? = some x → Same H H1 → P i zs → ∀ C : Option V → Hp → Prop,
      (∀ y H2, Same H1 H2 → P (i + 1) (zs ++ [y]) → C (some y) H2) → (∀ H2, Same H1 H2 → P (i + 1) zs → C none H2) → tt (some (.int i) :: some x :: frees fr σ) H1 C)
    (hd : ∀ H1 ys, Same H H1 → H1 a = some (.lst ys) → P xs.length ys → Q (.ref a) H1) : CompWG (Ite K b l) (gTup K 2 (gCons (gName 0) (gCons (gName 1) gNil))) tt 2 fr σ a H Q := by
  refine cg_inv xs.length (fun i zs _ => P i zs) ha hz h0 (fun i zs _ p => hl i zs p) (fun _ _ _ _ p _ => p) (fun i H1 hi s => ⟨xs, xs[i], hS.up s, by simp [hi]⟩) (fun H1 s => ⟨xs, hS.up s, rfl⟩) ?_ hd
  intro i H1 zs hi s1 ez pz os x H3 hos hy C hC1 hC2
  obtain ⟨p, x, rfl, hp, rfl, hx⟩ := hy
  refine ⟨p, [.int i, x], rfl, SqT.of upd_same, rfl, _, [x], rfl, x, [], rfl, rfl, ?_⟩
  match os, hos with
  | [o, o'], _ =>
    exact ⟨⟨[some (.int i), some x], rfl, rfl⟩, he i x _ zs (hx xs (hS.up s1)) (s1.trans (Same.new hp)) pz C (fun y H2 s2 r => hC1 y H2 ((Same.new hp).trans s2) r) fun H2 s2 r => hC2 H2 ((Same.new hp).trans s2) r⟩
noncomputable def FirstN (r : List Int) (i : Nat) (zs : List V) : Prop := zs.length ≤ i ∧ ((zs = [] ∧ ∀ m, m < i → r.getD m 0 = 0) ∨ ∃ j : Nat, j < i ∧ r.getD j 0 ≠ 0 ∧ (∀ m, m < j → r.getD m 0 = 0) ∧ zs[0]? = some (.int (j : Int)))
noncomputable def LI (H : Hp) (f q : Addr) (ks : List Nat) (i : Nat) (σ : St) (H2 : Hp) : Prop := ∃ (v2 v3 v4 : Option V) (ps : List Addr), σ = [some (.ref f), some (.ref q), v2, v3, v4] ∧ Same H H2 ∧ H2 q = some (.lst (ps.map V.ref)) ∧ ps.length = min i ks.length ∧
  ∀ (m : Nat) p j, ps[m]? = some p → ks[m]? = some j → p ≠ q ∧ H2 p = some (.tup [.int m, .int j])
theorem ok_leads_of (T : Txt K mg t) : FnOk P w K mg base CX0 1 t.a_leads_of t.d_leads_of ["form"] (sp_leads_of K) := by
  refine T.F_leads_of.ok sc_leads_of (by walk_at "v") (fun cdv A outer s H vs Q E hr h => ?_)
  · obtain ⟨b1, b2, f, F, d, ks, rfl, hM, hF4, hw, hd4, ⟨hkl, hL⟩, hQ⟩ := h
    refine ⟨_, (pss_cons (ps_set (i := 1) sc_leads_of.nd rfl (Or.inl rfl) (pe_lst pa_nil))
      (pss_cons (ps_for PassesOwn.never rfl (pi_enum rfl T.z_enumerate (pa_cons (pv 0) pa_nil)) (pg_tup rfl (pgs_cons (pg_name (i := 2) sc_leads_of.nd rfl (Or.inl rfl)) (pgs_cons (pg_name (i := 3) sc_leads_of.nd rfl (Or.inl rfl)) pgs_nil)))
      (pss_cons (ps_setCG (i := 4) (xs := ["k", "number"]) (fr := []) (g := (gTup K 2 (gCons (gName 0) (gCons (gName 1) gNil)))) (tt := (tElIf (tTest (tOp (rI0 fun i j => .bl (!decide (i = j))) (tVar 1) (tC (.int 0)))) (tVar 0))) (compG_ok (sc := defScope s_leads_of) (N := N_leads_of) rfl rfl (by decide +kernel)) rfl sc_leads_of.nd rfl rfl (pi_enum rfl T.z_enumerate (pa_cons (pv 3) pa_nil)) (fun _ _ _ hE1 => (pg_tup rfl (pgs_cons (pg_own (N := ["k", "number"]) (i := 0) hE1 rfl (by decide +kernel)) (pgs_cons (pg_own (N := ["k", "number"]) (i := 1) hE1 rfl (by decide +kernel)) pgs_nil)))) (fun _ _ _ hE1 => (po_if (pt_cmpR op_neZ (pv 1) pe_int (nomark _)) (pv 0))))
      (pss_one (ps_if (pt_cmpR op_gt (pe_callB call_lenB rfl T.z_len (by decide +kernel) (pa_cons (pv 4) pa_nil)) pe_int (nomark _))
      (pss_one (ps_expr (pe_bm PySem.F.plainAttrs_list PySem.F.slot_list_append PySem.F.type_list_append mt_append (pv 1) (pa_cons (pe_tup (pa_cons (pv 2) (pa_cons (px (pv 4) pe_int) pa_nil))) pa_nil))))
      pss_nil))))
      (pss_one (ps_ret (pv 1))))), ?_⟩
    show tSeq _ _ _ [some (.ref f), none, none, none, none] H
    refine st fun N1 e1 => ?_
    walk_at "r"
    refine ⟨Nat.zero_le _, fun q hq => ?_⟩
    have s1 : Same H (upd H q (.lst [])) := Same.new hq
    have eq1 : (upd H q (.lst [])) q = some (.lst []) := upd_same
    generalize upd H q (.lst []) = H1 at *
    subst e1
    refine st fun N1 e1 => for_st fun B' eB => ?_
    simp only [iEnum]
    walk_at "r"
    obtain ⟨xs, x1, x2, x3⟩ := hM.walk
    refine ⟨b1, ⟨_, x1.up s1⟩, ?_⟩
    refine fr_enum (g := gTup K 2 (gCons (gName 2) (gCons (gName 3) gNil))) (tb := B') (LI H f q ks) ⟨none, none, none, [], rfl, s1, eq1, by simp, fun m p j e => by simp at e⟩ (fun i σ H2 _ ⟨_, _, _, _, _, s2, _⟩ => x1.up s2) ?_ ?_
    · rintro i x p σ H2 ex ⟨v2, v3, v4, ps, rfl, s2, eq2, pl, hps⟩ hp
      obtain ⟨pr, r, rfl, er, hr2⟩ := x3 i x ex
      have wr := hw r (List.mem_of_getElem? er)
      obtain ⟨hl1, hl2⟩ := hL i r er
      have sp := Same.new (o := .tup [.int (i : Int), .ref pr]) hp
      refine ⟨p, [.int i, .ref pr], rfl, SqT.of upd_same, rfl, _, [.ref pr], rfl, _, [], rfl, rfl, ?_⟩
      have eq3 := sp _ _ eq2
      have hps3 : ∀ (m : Nat) p' j, ps[m]? = some p' → ks[m]? = some j → p' ≠ q ∧ (upd H2 p (.tup [.int (i : Int), .ref pr])) p' = some (.tup [.int m, .int j]) := fun m p' j a b => ⟨(hps m p' j a b).1, sp _ _ (hps m p' j a b).2⟩
      have s3 := s2.trans sp
      generalize upd H2 p (.tup [.int (i : Int), .ref pr]) = H3 at *
      subst eB
      show tSeq _ _ _ [some (.ref f), some (.ref q), some (.int i), some (.ref pr), v4] H3
      refine st fun N2 e2 => ?_
      simp only [tSetC]
      refine compI_st fun C0 B0 eC eB0 => ?_
      simp only [iEnum]
      walk_at "r"
      refine ⟨b2, ⟨_, hr2.up s3⟩, fun a1 ha1 => ?_⟩
      refine cg_enumJ (K := K) (FirstN r) ha1 (hr2.up s3) (by rw [List.length_map]; omega) ⟨Nat.le_refl _, .inl ⟨rfl, fun m hm => by omega⟩⟩ (fun _ _ h => h.1) ?_ ?_
      · intro m y H4 zs ey s4 hf C' hC1 hC2
        obtain ⟨n, en, rfl⟩ := ints_at ey
        have gn : r.getD m 0 = n := by rw [List.getD_eq_getElem?_getD, en]; rfl
        subst eC
        subst eB0
        show tElIf _ _ [some (.int m), some (.int n)] H4 C'
        simp only [tElIf]
        walk_at "r"
        obtain ⟨zl, hf⟩ := hf
        refine ite2 (fun z => hC1 _ _ (Same.refl _) ⟨by simp; omega, .inr ?_⟩) (fun z => hC2 _ (Same.refl _) ⟨by omega, ?_⟩)
        · have zn : n ≠ 0 := by simpa using z
          rcases hf with ⟨rfl, h0⟩ | ⟨j, h1, h2, h3, h4⟩
          · exact ⟨m, by omega, by rw [gn]; exact zn, h0, by simp⟩
          · refine ⟨j, by omega, h2, h3, ?_⟩
            have := (List.getElem?_eq_some_iff.mp h4).1
            rw [List.getElem?_append_left this]; exact h4
        · have zn : n = 0 := by simpa using z
          rcases hf with ⟨rfl, h0⟩ | ⟨j, h1, h2, h3, h4⟩
          · refine .inl ⟨rfl, fun m' hm' => ?_⟩
            rcases Nat.lt_or_ge m' m with u | u
            · exact h0 m' u
            · rw [show m' = m by omega, gn]; exact zn
          · exact .inr ⟨j, by omega, h2, h3, h4⟩
      · intro H4 ys s4 ey hf
        rw [List.length_map, wr] at hf
        obtain ⟨_, hf⟩ := hf
        show N2 [some (.ref f), some (.ref q), some (.int i), some (.ref pr), some (.ref a1)] H4
        have eq4 := s4 _ _ eq3
        have s04 := s3.trans s4
        subst e2
        walk_at "r"
        refine ⟨false, a1, ys, rfl, SqB.lst ey, ?_⟩
        walk_at "r"
        rcases hf with ⟨rfl, h0⟩ | ⟨j, h1, h2, h3, h4⟩
        · have hno : ks.length ≤ i := by
            rcases Nat.lt_or_ge i ks.length with u | u
            · obtain ⟨w1, w2, _⟩ := hl1 ks[i] (List.getElem?_eq_getElem u)
              exact absurd (h0 _ w1) w2
            · exact u
          refine iteF ?_
          exact ⟨_, _, _, ps, rfl, s04, eq4, by omega, fun m p' j a b => ⟨(hps3 m p' j a b).1, s4 _ _ (hps3 m p' j a b).2⟩⟩
        · have hyes : ks[i]? = some j := by
            rcases Nat.lt_or_ge i ks.length with u | u
            · have e := List.getElem?_eq_getElem u
              obtain ⟨w1, w2, w3⟩ := hl1 ks[i] e
              rcases Nat.lt_trichotomy j ks[i] with v | v | v
              · exact absurd (w3 j v) h2
              · rw [e, v]
              · exact absurd (h3 _ v) w2
            · exact absurd (hl2 u j) h2
          have ik := (List.getElem?_eq_some_iff.mp hyes).1
          have yl := (List.getElem?_eq_some_iff.mp h4).1
          refine ite2 (fun _ => ?_) (fun z => absurd (decide_eq_true (by omega)) z)
          refine ⟨.inl ⟨rfl, _, SqL.of eq4⟩, false, a1, _, _, _, rfl, rfl, SqB.lst ey, atI_at h4 rfl, by show 2 ≤ sizeLine; decide, fun pp hpp => ?_⟩
          have s5 := Same.new (o := .tup [.int (i : Int), .int (j : Int)]) hpp
          have e5 : (upd H4 pp (.tup [.int (i : Int), .int (j : Int)])) pp = some (.tup [.int (i : Int), .int (j : Int)]) := upd_same
          have eq5 := s5 _ _ eq4
          have ppq : pp ≠ q := fun z => by rw [z, eq4] at hpp; cases hpp
          generalize upd H4 pp (.tup [.int (i : Int), .int (j : Int)]) = H5 at *
          refine ⟨q, _, _, rfl, rfl, eq5, by rw [List.length_map]; exact Nat.le_of_lt (small1000 (by omega)), ?_⟩
          refine ⟨_, _, _, ps ++ [pp], rfl, fun b o e => ?_, by rw [upd_same]; simp, by simp; omega, fun m p' j' a b => ?_⟩
          · have : b ≠ q := ne_of_none e hq
            rw [upd_ne this]; exact s5 _ _ (s04 _ _ e)
          · by_cases hm : m < ps.length
            · rw [List.getElem?_append_left hm] at a
              obtain ⟨n1, n2⟩ := hps3 m p' j' a b
              exact ⟨n1, by rw [upd_ne n1]; exact s5 _ _ (s4 _ _ n2)⟩
            · have hml := (List.getElem?_eq_some_iff.mp a).1
              have hmi : m = i := by simp at hml; omega
              subst hmi
              have e6 : (ps ++ [pp])[m]? = some pp := by rw [List.getElem?_append_right (by omega)]; simp [show m - ps.length = 0 by omega]
              rw [e6] at a
              cases a
              rw [hyes] at b
              cases b
              exact ⟨ppq, by rw [upd_ne ppq]; exact e5⟩
    · rintro σ H2 ⟨v2, v3, v4, ps, rfl, s2, eq2, pl, hps⟩
      subst e1
      walk_at "r"
      refine hQ q H2 s2 hq ⟨ps, eq2, by rw [pl, x2]; omega, fun m p j a b => (hps m p j a b).2⟩
theorem abs_fdiv {c t : Int} (h : c ∣ t) : (t.fdiv c).natAbs ≤ t.natAbs := by
  by_cases hc : c = 0
  · subst hc; simp
  · have e := fdiv_exact hc h
    have e2 : t.natAbs = (t.fdiv c).natAbs * c.natAbs := by rw [← Int.natAbs_mul, e]
    rw [e2]
    exact Nat.le_mul_of_pos_right _ (by omega)
theorem red_cross {u : Int} {ns : List Int} (h : u ≠ 0) {i : Nat} {x y : Int} (e1 : ns[i]? = some x) (e2 : (redT u ns)[i]? = some y) : x * redU u ns = y * u := by
  unfold redT at e2
  rw [List.getElem?_map, e1] at e2
  cases e2
  exact cross h (List.mem_of_getElem? e1)
theorem redU_le {w : Int} (ts : List Int) (hw : 0 < w) : 0 < redU w ts ∧ redU w ts ≤ w := by
  have h1 : 0 < redU w ts := under_pos ts (by omega)
  have h2 := abs_fdiv (cs_dvd (gl_u w ts))
  have h3 : (redU w ts).natAbs ≤ w.natAbs := h2
  exact ⟨h1, by omega⟩
theorem redU_abs {u : Int} (ts : List Int) (h : u ≠ 0) : 0 < redU u ts ∧ (redU u ts).natAbs ≤ u.natAbs := ⟨under_pos ts h, abs_fdiv (cs_dvd (gl_u u ts))⟩
theorem rep_flat : ∀ d : Nat, (List.replicate d [V.int 0]).flatten = (List.replicate d (0 : Int)).map V.int
  | 0 => rfl
  | d + 1 => by
    rw [List.replicate_succ, List.replicate_succ, List.flatten_cons, rep_flat d]
    rfl
noncomputable def CI (H : Hp) (f q tp nm : Addr) (u : Int) (d : Nat) (F : LM) (ks : List Nat) (ts : List Int) (W : Nat) (i : Nat) (σ : St) (H2 : Hp) : Prop := ∃ (v5 v7 v8 : Option V) (ns : List Int),
  σ = [some (.ref f), some (.ref q), some (.ref tp), some (.int u), some (.int (scl F ks ks.length)), v5, some (.ref nm), v7, v8] ∧ Same H H2 ∧ H2 nm = some (.lst (ns.map V.int)) ∧ Cl d F ks ts W (ks.length - i) ns
theorem ok_climbed (T : Txt K mg t) (Gs : Gd P mg base) : FnOk P w K mg base CX0 36 t.a_climbed t.d_climbed ["form", "leads", "tops", "under"] (sp_climbed K) := by
  have G_dot : FnOk P w K mg base CX0 1 t.a_dot t.d_dot ["one", "other"] (sp_dot K) := ok_dot T
  have G_place : FnOk P w K mg base (CX1 P w) 34 t.a_place t.d_place ["tops", "under"] (sp_place K t.a_NoPlace) := ok_place T Gs
  refine T.F_climbed.ok sc_climbed (by walk_at "v") (fun cdv A outer s H vs Q E hr h => ?_)
  · obtain ⟨b1, b2, b3, f, q, tp, F, d, n, ks, ts, u, rfl, hM, ⟨ps, hq1, hq2, hq3⟩, hT, fl, fw, tl, n1, n63, d1, d12, kd, ksS, ksK, hld, u0, ub, bF', bT, hQ⟩ := h
    have eW : wB = 4194304 := rfl
    have kl : ks.length ≤ d := rise_le ksS ksK
    have k12 : ∀ {i : Nat}, i ≤ 12 → i * wB ≤ 50331648 := fun {i} hi => Nat.le_trans (Nat.mul_le_mul_right _ hi) (by omega)
    have bts : ∀ z ∈ ts, z.natAbs ≤ 2 ^ wB := fun z hz => bT ts List.mem_cons_self z hz
    refine ⟨_, (pss_cons (ps_set (i := 4) sc_climbed.nd rfl (Or.inl rfl) pe_int)
      (pss_cons (ps_for PassesOwn.never rfl (pi_seq (pv 1)) (pg_name (i := 5) sc_climbed.nd rfl (Or.inl rfl))
      (pss_one (ps_set (i := 4) sc_climbed.nd rfl (Or.inl rfl) (pe_op op_mulB (pv 4) (px (px (pv 0) (px (pv 5) pe_int)) (px (pv 5) pe_int))))))
      (pss_cons (ps_set (i := 6) sc_climbed.nd rfl (Or.inl rfl) (pe_op op_rep (pe_lst (pa_cons pe_int pa_nil)) (pe_callB call_lenB rfl T.z_len (by decide +kernel) (pa_cons (px (pv 0) pe_int) pa_nil))))
      (pss_cons (ps_for PassesOwn.never rfl (pi_rev rfl T.z_reversed (pa_cons (pv 1) pa_nil)) (pg_name (i := 5) sc_climbed.nd rfl (Or.inl rfl))
      (pss_cons (ps_set (i := 7) sc_climbed.nd rfl (Or.inl rfl) (px (pv 0) (px (pv 5) pe_int)))
      (pss_cons (ps_set (i := 8) sc_climbed.nd rfl (Or.inl rfl) (pe_op op_sub (pe_op op_mulB (px (pv 2) (px (pv 5) pe_int)) (pv 4)) (pe_call G_dot hr.mo rfl T.m_dot T.F_dot.kp T.b_dot .nil pass0 (pa_cons (pv 7) (pa_cons (pv 6) pa_nil)))))
      (pss_one (ps_asg (pe_op (op_fdivP Gs (room_any hr (by decide))) (pv 8) (px (pv 7) (px (pv 5) pe_int))) (pg_sub (pv 6) (px (pv 5) pe_int) set_list))))))
      (pss_one (ps_ret (pe_call G_place hr.mo rfl T.m_place T.F_place.kp T.b_place .nil passes1 (pa_cons (pv 6) (pa_cons (pe_op op_mulB (pv 3) (pv 4)) pa_nil))))))))), ?_⟩
    show tSeq _ _ _ [some (.ref f), some (.ref q), some (.ref tp), some (.int u), none, none, none, none, none] H
    have mref : ∀ {m : Nat} {p : Addr}, ps[m]? = some p → (ps.map V.ref)[m]? = some (.ref p) := fun e => by rw [List.getElem?_map, e]; rfl
    have pair : ∀ {i : Nat} {x : V}, (ps.map V.ref)[i]? = some x → ∃ p j r, x = .ref p ∧ i < ks.length ∧ ps[i]? = some p ∧ ks[i]? = some j ∧ H p = some (.tup [.int i, .int j]) ∧ F[i]? = some r ∧ r.length = d ∧ j < d := fun {i x} e => by
      have hi : i < ps.length := by have := (List.getElem?_eq_some_iff.mp e).1; simpa using this
      obtain ⟨p, hp⟩ : ∃ p, ps[i]? = some p := ⟨_, List.getElem?_eq_getElem hi⟩
      obtain ⟨j, hj⟩ : ∃ j, ks[i]? = some j := ⟨_, List.getElem?_eq_getElem (by omega)⟩
      obtain ⟨r, hr⟩ : ∃ r, F[i]? = some r := ⟨_, List.getElem?_eq_getElem (by omega)⟩
      rw [mref hp] at e
      cases e
      exact ⟨p, j, r, rfl, by omega, hp, hj, hq3 i p j hp hj, hr, fw r (List.mem_of_getElem? hr), ksK j (List.mem_of_getElem? hj)⟩
    have ix0 : ∀ {H2 : Hp} {p : Addr} {i j : Nat} {Q' : VK}, H2 p = some (.tup [.int i, .int j]) → Q' (.int i) H2 → rIxB K (.ref p) (.int 0) H2 Q' := fun e q => ⟨true, _, _, _, _, rfl, rfl, SqB.tup e, rfl, q⟩
    have ix1 : ∀ {H2 : Hp} {p : Addr} {i j : Nat} {Q' : VK}, H2 p = some (.tup [.int i, .int j]) → Q' (.int j) H2 → rIxB K (.ref p) (.int 1) H2 Q' := fun e q => ⟨true, _, _, _, _, rfl, rfl, SqB.tup e, rfl, q⟩
    have lv : ∀ {i j : Nat} {r : List Int}, F[i]? = some r → ks[i]? = some j → leadV F ks i = r.getD j 0 := fun {i j r} e1 e2 => by
      unfold leadV
      rw [List.getD_eq_getElem?_getD (l := F), e1, List.getD_eq_getElem?_getD (l := ks), e2]
      rfl
    refine st fun N1 e1 => ?_
    walk_at "r"
    subst e1
    refine st fun N1 e1 => for_st fun B' eB => ?_
    simp only [iSeq]
    walk_at "r"
    refine ⟨false, ⟨_, SqB.lst hq1⟩, ?_⟩
    refine fr_seq (g := gName 5) (tb := B') (fun i σ H2 => ∃ v5, σ = [some (.ref f), some (.ref q), some (.ref tp), some (.int u), some (.int (scl F ks i)), v5, none, none, none] ∧ H2 = H) ⟨none, rfl, rfl⟩ (fun i σ H2 _ ⟨_, _, e⟩ => e ▸ SqB.lst hq1) ?_ ?_
    · rintro i x σ H2 ex ⟨v5, rfl, rfl⟩
      obtain ⟨p, j, r, rfl, hi, hp, hj, hpt, hr', wr, jd⟩ := pair ex
      subst eB
      show tAsg _ _ _ [some (.ref f), some (.ref q), some (.ref tp), some (.int u), some (.int (scl F ks i)), some (.ref p), none, none, none] H2
      walk_at "r"
      refine ix0 hpt ?_
      refine mat_row hM hr' rfl fun pr hpr => ?_
      refine ix1 hpt ?_
      refine ix_at hpr (show (r.map V.int)[j]? = some (.int (r.getD j 0)) from int_at (getD_at (by omega))) ?_
      walk_at "r"
      refine ⟨PyProof.Rows.mulOk_of_bits (pow_abs (scl_bd bF' i)) (pow_abs (bF' r (List.mem_of_getElem? hr') _ (L2.getD_mem (by omega)))) (by have := k12 (i := i) (by omega); omega), ?_⟩
      show _ = scl F ks i * leadV F ks i
      rw [lv hr' hj]
    · rintro σ H2 ⟨v5, rfl, rfl⟩
      rw [List.length_map, hq2]
      have bS := scl_bd (ks := ks) bF' ks.length
      obtain ⟨r0, e0⟩ : ∃ r, F[0]? = some r := ⟨_, List.getElem?_eq_getElem (by omega)⟩
      subst e1
      refine st fun N1 e1 => ?_
      walk_at "r"
      refine ⟨by show 1 ≤ sizeLine; decide, fun z1 hz1 => ?_⟩
      have s1 := Same.new (o := .lst [.int 0]) hz1
      have ez1 : (upd H2 z1 (.lst [.int 0])) z1 = some (.lst [.int 0]) := upd_same
      generalize upd H2 z1 (.lst [.int 0]) = H3 at *
      refine mat_row (hM.up s1) e0 rfl fun p0 hp0 => ?_
      refine ints_len hp0 ?_
      rw [fw r0 (List.mem_of_getElem? e0)]
      refine ⟨z1, (d : Int), _, rfl, rfl, ez1, by omega, by omega, by show 1 * _ ≤ _; rw [Int.toNat_natCast]; exact Nat.le_of_lt (small1000 (by omega)), fun nm hnm => ?_⟩
      have er : (List.replicate (d : Int).toNat [V.int 0]).flatten = (List.replicate d (0 : Int)).map V.int := by
        rw [Int.toNat_natCast]
        exact rep_flat d
      rw [er]
      have s2 := s1.trans (Same.new (o := .lst ((List.replicate d (0 : Int)).map V.int)) hnm)
      have enm : (upd H3 nm (.lst ((List.replicate d (0 : Int)).map V.int))) nm = some (.lst ((List.replicate d (0 : Int)).map V.int)) := upd_same
      have nm0 : H2 nm = none := by
        cases w : H2 nm with
        | none => rfl
        | some o => rw [s1 _ _ w] at hnm; cases hnm
      generalize upd H3 nm (.lst ((List.replicate d (0 : Int)).map V.int)) = H4 at *
      show N1 [some (.ref f), some (.ref q), some (.ref tp), some (.int u), some (.int (scl F ks ks.length)), v5, some (.ref nm), none, none] H4
      subst e1
      refine st fun N1 e1 => for_st fun B' eB => ?_
      simp only [iRev]
      walk_at "r"
      refine ⟨_, SqL.of (s2 _ _ hq1), ?_⟩
      rw [List.length_map, hq2]
      have start : Cl d F ks ts wB (ks.length - 0) (List.replicate d 0) := by
        refine ⟨by simp, fun i r x h1 h2 => by omega, fun i j _ hj => ?_, fun z hz => ?_, fun z hz => ?_⟩
        · rw [List.getD_eq_getElem?_getD, List.getElem?_replicate]; split <;> rfl
        · rw [List.eq_of_mem_replicate hz]; exact Int.dvd_zero _
        · rw [List.eq_of_mem_replicate hz]; exact Nat.zero_le _
      refine fr_rev (xs := ps.map V.ref) (g := gName 5) (tb := B') (CI H2 f q tp nm u d F ks ts wB) ⟨_, _, _, _, rfl, s2, enm, start⟩ (by rw [List.length_map, hq2]) (fun i σ H5 _ ⟨_, _, _, _, _, s5, _⟩ => SqL.of (s5 _ _ hq1)) ?_ ?_
      · rintro i x σ H5 ex hi ⟨v5', v7, v8, ns, rfl, s5, en5, cl⟩
        obtain ⟨p, j, r, rfl, him, hp, hj, hpt, hr', wr, jd⟩ := pair ex
        have hpt5 := s5 _ _ hpt
        obtain ⟨lp, _⟩ := hld _ r j hr' hj
        obtain ⟨xt, ext⟩ : ∃ xt, ts[ks.length - 1 - i]? = some xt := ⟨_, List.getElem?_eq_getElem (by omega)⟩
        have jl : j < ns.length := by rw [cl.len]; exact jd
        subst eB
        show tSeq _ _ _ [some (.ref f), some (.ref q), some (.ref tp), some (.int u), some (.int (scl F ks ks.length)), some (.ref p), some (.ref nm), v7, v8] H5
        refine st fun N2 e2 => ?_
        walk_at "r"
        refine ix0 hpt5 ?_
        refine mat_row (hM.up s5) hr' rfl fun pr hpr => ?_
        show N2 [some (.ref f), some (.ref q), some (.ref tp), some (.int u), some (.int (scl F ks ks.length)), some (.ref p), some (.ref nm), some (.ref pr), v8] H5
        subst e2
        refine st fun N2 e2 => ?_
        walk_at "r"
        refine ix0 hpt5 ?_
        refine ix_at (hT.up s5) (int_at ext) ?_
        walk_at "r"
        have bx := bts xt (List.mem_of_getElem? ext)
        have b4 : ∀ z ∈ ns, z.natAbs ≤ 2 ^ (25 * wB + 48) := fun z hz => Nat.le_trans (cl.bd z hz) (Nat.pow_le_pow_right (by decide) (by
          have h1 : (ks.length + 1) * wB ≤ 13 * wB := Nat.mul_le_mul_right _ (by omega)
          have h2 : (ks.length - (ks.length - i)) * (wB + 4) ≤ 12 * (wB + 4) := Nat.mul_le_mul_right _ (by omega)
          omega))
        refine ⟨PyProof.Rows.mulOk_of_bits (pow_abs bx) (pow_abs bS) (by have := k12 (i := ks.length) (by omega); omega), ?_⟩
        refine ⟨b2, false, pr, nm, r, ns, rfl, hpr, SqB.lst en5, by rw [wr, cl.len], by omega, fun i' m' n' e1' e2' => PyProof.Rows.mulOk_of_bits (pow_abs (bF' r (List.mem_of_getElem? hr') m' (List.mem_of_getElem? e1'))) (pow_abs (b4 n' (List.mem_of_getElem? e2'))) (by omega), fun H6 s6 => ?_⟩
        subst e2
        simp only [tAsg, gSub, rSetL]
        walk_at "r"
        refine ix1 (s6 _ _ hpt5) ?_
        refine ix_at (hpr.up s6) (show (r.map V.int)[j]? = some (.int (r.getD j 0)) from int_at (getD_at (by omega))) ?_
        walk_at "r"
        refine ⟨by omega, ?_⟩
        refine ix1 (s6 _ _ hpt5) ?_
        refine ⟨_, _, rfl, s6 _ _ en5, j, ixN_nat (by rw [List.length_map]; exact jl), ?_⟩
        have e3 : ks.length - i = (ks.length - 1 - i) + 1 := by omega
        rw [e3] at cl
        have st' := cl.step (by omega) d12 ksS hj jd hr' ext hld wr bF' bx
        rw [show ks.length - 1 - i = ks.length - (i + 1) by omega] at st'
        refine ⟨_, _, _, _, rfl, fun b o e => ?_, ?_, st'⟩
        · rw [upd_ne (ne_of_none e nm0)]; exact s6 _ _ (s5 _ _ e)
        · rw [upd_same, List.map_set]
      · rintro σ H5 ⟨v5', v7, v8, ns, rfl, s5, en5, cl⟩
        rw [Nat.sub_self] at cl
        subst e1
        walk_at "r"
        have sc0 : scl F ks ks.length ≠ 0 := by
          have go : ∀ m, m ≤ ks.length → scl F ks m ≠ 0 := by
            intro m
            induction m with
            | zero => intro _; show (1 : Int) ≠ 0; decide
            | succ m ih =>
              intro hm
              obtain ⟨j, hj⟩ : ∃ j, ks[m]? = some j := ⟨_, List.getElem?_eq_getElem (by omega)⟩
              obtain ⟨r, hr⟩ : ∃ r, F[m]? = some r := ⟨_, List.getElem?_eq_getElem (by omega)⟩
              show scl F ks m * leadV F ks m ≠ 0
              rw [lv hr hj]
              have := (hld m r j hr hj).1
              exact Int.mul_ne_zero (ih (by omega)) (by omega)
          exact go _ (Nat.le_refl _)
        refine ⟨PyProof.Rows.mulOk_of_bits (pow_abs ub) (pow_abs bS) (by have := k12 (i := ks.length) (by omega); omega), ?_⟩
        have un : u * scl F ks ks.length ≠ 0 := Int.mul_ne_zero u0 sc0
        have nn : ns ≠ [] := fun z => by have := cl.len; rw [z] at this; simp at this; omega
        refine ⟨false, nm, ns, _, rfl, SqB.lst en5, by rw [cl.len]; omega, fun z => ?_, fun _ _ p H6 s6 hp => ?_⟩
        · rcases z with z | z
          · exact absurd z un
          · exact absurd z nn
        · refine hQ p H6 ns (s5.trans s6) hp cl.len (fun z hz => Nat.le_trans (cl.bd z hz) (Nat.pow_le_pow_right (by decide) ?_)) fun i r x hi er ex => cl.eq i r x (Nat.zero_le _) hi er ex
          have h1 : (ks.length + 1) * wB ≤ 13 * wB := Nat.mul_le_mul_right _ (by omega)
          have h2 : (ks.length - 0) * (wB + 4) ≤ 12 * (wB + 4) := Nat.mul_le_mul_right _ (by omega)
          omega
theorem redT_le {c : Int} {ns : List Int} {M : Nat} (h : c ≠ 0) (hb : ∀ z ∈ ns, z.natAbs ≤ M) : ∀ z ∈ redT c ns, z.natAbs ≤ M := fun z hz => by
  unfold redT at hz
  obtain ⟨x, hx, rfl⟩ := List.mem_map.mp hz
  exact Nat.le_trans (abs_fdiv (cs_dvd (gl_mem hx))) (hb x hx)
theorem ok_meeting (T : Txt K mg t) (Gs : Gd P mg base) : FnOk P w K mg base CX0 37 t.a_meeting t.d_meeting ["rows", "spot", "fits"] (sp_meeting K t) := by
  have G_stairs : FnOk P w K mg base CX0 35 t.a_stairs t.d_stairs ["rows"] (sp_stairs K t) := ok_stairs T Gs
  have G_leads_of : FnOk P w K mg base CX0 1 t.a_leads_of t.d_leads_of ["form"] (sp_leads_of K) := ok_leads_of T
  have G_dot : FnOk P w K mg base CX0 1 t.a_dot t.d_dot ["one", "other"] (sp_dot K) := ok_dot T
  have G_climbed : FnOk P w K mg base CX0 36 t.a_climbed t.d_climbed ["form", "leads", "tops", "under"] (sp_climbed K) := ok_climbed T Gs
  refine T.F_meeting.ok sc_meeting (by walk_at "v") (fun cdv A outer s H vs Q E hr h => ?_)
  · obtain ⟨b1, b2, a, sp, f, c, cc, ob, pm, ctv, MA, ts, u, d, n, B, rfl, hM, mn, mw, n1, n63, d1, d12, bA, hfit, hP, u0, u90, tl, bts, tt, ef, ec, eo, od, hQ⟩ := h
    have eW : wB = 4194304 := rfl
    have eU : uS = 1048576 := rfl
    have hB : B ≤ uS := (hfit 0 (by omega) (by omega)).1
    refine ⟨_, (pss_cons (ps_set (i := 3) sc_meeting.nd rfl (Or.inl rfl) (pe_call G_stairs hr.mo rfl T.m_stairs T.F_stairs.kp T.b_stairs .nil pass0 (pa_cons (pv 0) pa_nil)))
      (pss_cons (ps_set (i := 4) sc_meeting.nd rfl (Or.inl rfl) (px (pv 3) pe_int))
      (pss_cons (ps_set (i := 5) sc_meeting.nd rfl (Or.inl rfl) (px (pv 3) pe_int))
      (pss_cons (ps_set (i := 6) sc_meeting.nd rfl (Or.inl rfl) (pe_call G_leads_of hr.mo rfl T.m_leads_of T.F_leads_of.kp T.b_leads_of .nil pass0 (pa_cons (pv 4) pa_nil)))
      (pss_cons (ps_setCG (i := 7) (xs := ["line"]) (fr := [("spot", 1)]) (g := (gName 0)) (tt := (tEl (tCall (sp_dot K) [] E0 (tCons (tVar 0) (tCons (tOp (rIxB K) (tVar 1) (tC (.int 0))) tNil))))) (compG_ok (sc := defScope s_meeting) (N := N_meeting) rfl rfl (by decide +kernel)) rfl sc_meeting.nd rfl rfl (pi_seq (pv 5)) (fun _ _ _ hE1 => (pg_own (N := ["line", "spot"]) (i := 0) hE1 rfl (by decide +kernel))) (fun _ _ _ hE1 => (po_el (pe_call G_dot hr.mo rfl T.m_dot T.F_dot.kp T.b_dot .nil pass0 (pa_cons (pv 0) (pa_cons (px (pv 1) pe_int) pa_nil))))))
      (pss_cons (ps_for PassesOwn.never rfl (pi_range2 rfl T.z_range (pa_cons (pe_callB call_lenB rfl T.z_len (by decide +kernel) (pa_cons (pv 6) pa_nil)) (pa_cons (pe_callB call_lenB rfl T.z_len (by decide +kernel) (pa_cons (pv 4) pa_nil)) pa_nil))) (pg_name (i := 8) sc_meeting.nd rfl (Or.inl rfl))
      (pss_one (ps_if (pt_not (pt_val (pe_callLC (x := "top") (z := "spot") (qual := "whole_met.<locals>.<lambda>") (params := lamP lam_whole_met) (body := lamB lam_whole_met) (scope := lamS lam_whole_met) (i := 2) lc_lam_whole_met ⟨rfl, rfl, fun _ _ _ _ _ _ _ _ => rfl⟩ hr.depth rfl (Or.inl rfl) (px (pv 7) (pv 8)) (te := (tOp (rI0 fun i j => .bl (decide (i = j))) (tOp (rI (fun _ j => j ≠ 0) fun i j => .int (i.fmod j)) (tVar 0) (tOp (rIxB K) (tVar 1) (tC (.int 1)))) (tC (.int 0)))) (fun _ _ _ _ _ => (pe_cmpR op_eqZ (pe_op op_modN (pv 0) (px (pv 1) pe_int)) pe_int (nomark _))))))
      (pss_one (ps_ret (pe_tup (pa_cons pe_str (pa_cons (pe_callTy call_tupB rfl T.z_tuple (by decide +kernel) (pa_cons (px (pv 5) (pv 8)) pa_nil)) pa_nil)))))
      pss_nil)))
      (pss_one (ps_ret (pe_tup (pa_cons pe_str (pa_cons (pe_call G_climbed hr.mo rfl T.m_climbed T.F_climbed.kp T.b_climbed .nil pass0 (pa_cons (pv 4) (pa_cons (pv 6) (pa_cons (pv 7) (pa_cons (px (pv 1) pe_int) pa_nil))))) pa_nil))))))))))), ?_⟩
    show tSeq _ _ _ [some (.ref a), some (.ref sp), some (.ref f), none, none, none, none, none, none] H
    refine st fun N1 e1 => ?_
    walk_at "r"
    refine ⟨b1, b2, a, MA, d, n, B, rfl, hM, mn, mw, n1, n63, by omega, bA, hfit, tt, fun r fo re h3 F R C ks H1 ev1 tt1 er told sta nf => ?_⟩
    obtain ⟨psF, qsR, usC, mfF, mgR, _, _⟩ := told
    have hF := mfF.l
    have hR := mgR.l
    have hP1 := place_ev hP ev1
    have ef1 : H1 f = some (lamO f c "whole_met.<locals>.<lambda>" (lamP lam_whole_met) (lamB lam_whole_met) (lamS lam_whole_met) [("spot", cc)] pm ctv) := ev1.1 _ _ (fun z => nomatch z) (fun _ z => by unfold lamO at z; cases z) ef
    have ec1 : H1 c = some (codeO c "whole_met.<locals>.<lambda>") := ev1.1 _ _ (fun z => nomatch z) (fun _ z => by unfold codeO at z; cases z) ec
    have eo1 : H1 cc = some (cellO cc ob) := ev1.1 _ _ (fun z => nomatch z) (fun _ z => by unfold cellO at z; cases z) eo
    subst e1
    refine st fun N1 e1 => ?_
    walk_at "r"
    refine ⟨true, r, _, _, _, rfl, rfl, SqB.tup er, rfl, ?_⟩
    subst e1
    refine st fun N1 e1 => ?_
    walk_at "r"
    refine ⟨true, r, _, _, _, rfl, rfl, SqB.tup er, rfl, ?_⟩
    subst e1
    refine st fun N1 e1 => ?_
    walk_at "r"
    have fl := sta.fl
    have rl := sta.rl
    refine ⟨false, false, fo, F, d, ks, rfl, hF.b, by omega, sta.fw, by omega, ⟨by rw [fl]; exact sta.kn, fun i r' e => ⟨fun j ej => ⟨sta.ksK j (List.mem_of_getElem? ej), by have := (sta.lead i r' j e ej).1; omega, (sta.lead i r' j e ej).2⟩, fun hi => sta.zero i r' hi e⟩⟩, fun q H2 s2 hq0 hq => ?_⟩
    show N1 [some (.ref a), some (.ref sp), some (.ref f), some (.ref r), some (.ref fo), some (.ref re), some (.ref q), none, none] H2
    subst e1
    refine st fun N1 e1 => ?_
    show tSetC _ _ _ [some (.ref a), some (.ref sp), some (.ref f), some (.ref r), some (.ref fo), some (.ref re), some (.ref q), none, none] H2
    simp only [tSetC]
    refine compE_st fun B' eB => ?_
    simp only [iSeq]
    walk_at "r"
    obtain ⟨ps, p1, p2, p3⟩ := hR.up s2
    obtain ⟨pt, hP1a, hP1b⟩ := hP1
    refine ⟨false, ⟨_, SqB.lst p1⟩, fun tp htp => ?_⟩
    refine cg_seq (fun j y _ => ∃ s', R[j]? = some s' ∧ y = .int (dotI s' ts)) htp (SqB.lst p1) (by rw [List.length_map, p2, rl]; omega) (fun _ _ _ _ h _ => h) ?_ ?_
    · intro i v H3 zs ev s3 ez Q' hQ'
      have hin : i < ps.length := by have := (List.getElem?_eq_some_iff.mp ev).1; simpa using this
      obtain ⟨p', hp'⟩ : ∃ p', ps[i]? = some p' := ⟨_, List.getElem?_eq_getElem hin⟩
      obtain ⟨r', er'⟩ : ∃ r', R[i]? = some r' := ⟨_, List.getElem?_eq_getElem (by omega)⟩
      rw [List.getElem?_map, hp'] at ev
      cases ev
      subst eB
      show tCall _ _ _ _ [some (.ref p'), some (.ref sp)] H3 Q'
      walk_at "r"
      refine ⟨true, sp, _, _, _, rfl, rfl, SqB.tup (s3 _ _ (s2 _ _ hP1a)), rfl, ?_⟩
      refine ⟨false, true, p', pt, r', ts, rfl, SqB.lst (s3 _ _ (p3 i p' r' hp' er').2), SqB.tup (s3 _ _ (s2 _ _ hP1b)), by rw [sta.rw r' (List.mem_of_getElem? er'), tl], by rw [sta.rw r' (List.mem_of_getElem? er')]; omega, fun _ m n e1 e2 => PyProof.Rows.mulOk_of_bits (pow_abs (sta.br r' (List.mem_of_getElem? er') m (List.mem_of_getElem? e1))) (pow_abs (bts n (List.mem_of_getElem? e2))) (by omega), fun H4 s4 => ?_⟩
      exact hQ' _ _ s4 ⟨r', er', rfl⟩
    · intro H3 zs s3 ez hlz hr3
      have ey : zs = (R.map fun s' => dotI s' ts).map V.int := by
        refine list_is (by rw [hlz, List.length_map, List.length_map, p2]) fun j y e => ?_
        obtain ⟨s', es, rfl⟩ := hr3 j y e
        exact ⟨_, by rw [List.getElem?_map, es]; rfl, rfl⟩
      subst ey
      have sam := s2.trans s3
      have hF3 := hF.up sam
      have hR3 := hR.up sam
      have tt3 : TT K t H3 := (same_ev (S := []) sam).2 tt1
      have ev3 : Ev K t [] H H3 := ev1.trans (same_ev sam)
      have ef3 := sam _ _ ef1
      have ec3 := sam _ _ ec1
      have eo3 := sam _ _ eo1
      have hsp3 := sam _ _ hP1a
      obtain ⟨qs, hq1, hq2, hq3⟩ := hq
      have hqS : SqB false K H3 q (qs.map V.ref) := SqB.lst (s3 _ _ hq1)
      show N1 [some (.ref a), some (.ref sp), some (.ref f), some (.ref r), some (.ref fo), some (.ref re), some (.ref q), some (.ref tp), none] H3
      subst e1
      refine st fun N1 e1 => for_st fun B' eB => ?_
      simp only [iRng2]
      walk_at "r"
      refine ⟨false, q, _, rfl, hqS, ?_⟩
      rw [List.length_map, hq2]
      refine mat_len (hF3.b (K := K)) ?_
      rw [fl]
      have kn := sta.kn
      walk_at "r"
      refine ⟨by omega, by omega, by omega, by omega, ?_⟩
      refine fr_range (g := gName 8) (tb := B') (fun i σ H4 => ∃ v8, σ = [some (.ref a), some (.ref sp), some (.ref f), some (.ref r), some (.ref fo), some (.ref re), some (.ref q), some (.ref tp), v8] ∧ H4 = H3 ∧ ∀ (m : Nat) s', ks.length ≤ m → m < ks.length + i → R[m]? = some s' → u ∣ dotI s' ts) ⟨none, rfl, rfl, fun m _ h1 h2 => by omega⟩ ?_ ?_
      · rintro i σ H4 hi ⟨v8, rfl, rfl, hz⟩
        obtain ⟨s', es⟩ : ∃ s', R[ks.length + i]? = some s' := ⟨_, List.getElem?_eq_getElem (by omega)⟩
        subst eB
        show tIfS _ _ _ _ [some (.ref a), some (.ref sp), some (.ref f), some (.ref r), some (.ref fo), some (.ref re), some (.ref q), some (.ref tp), some (.int ((ks.length : Int) + i))] H4
        simp only [tIfS, tNot, tB, tCallLC]
        refine ⟨f, c, pm, ctv, cc, ob, sp, rfl, od, ?_⟩
        walk_at "r"
        refine ⟨false, tp, _, _, _, rfl, rfl, SqB.lst ez, atI_at (k := ks.length + i) (show ((R.map fun s' => dotI s' ts).map V.int)[ks.length + i]? = some (.int (dotI s' ts)) by rw [List.getElem?_map, List.getElem?_map, es]; rfl) (by omega), ef3, ec3, eo3, ?_⟩
        refine ⟨true, sp, _, _, _, rfl, rfl, SqB.tup (show offC H4 cc sp = some (.tup [.ref pt, .int u]) by rw [offC_ne (fun z => by rw [z, eo3] at hsp3; unfold cellO at hsp3; cases hsp3)]; exact hsp3), rfl, _, _, rfl, rfl, (show u ≠ 0 by omega), ?_⟩
        walk_at "r"
        rw [offC_upd eo3]
        by_cases h0 : u ∣ dotI s' ts
        · rw [decide_eq_true (Int.fmod_eq_zero_of_dvd h0)]
          refine iteF ?_
          refine ⟨rfl, fun m s'' h1 h2 e => ?_⟩
          rcases Nat.lt_or_ge m (ks.length + i) with w1 | w1
          · exact hz m s'' h1 w1 e
          · rw [show m = ks.length + i by omega, es] at e; cases e; exact h0
        · rw [decide_eq_false (fun z => h0 (Int.dvd_of_fmod_eq_zero z))]
          refine iteT ?_
          obtain ⟨rs, r1, r2, r3⟩ := id hR3
          obtain ⟨p', hp'⟩ : ∃ p', rs[ks.length + i]? = some p' := ⟨_, List.getElem?_eq_getElem (by omega)⟩
          refine ⟨false, re, _, _, _, rfl, rfl, SqB.lst r1, atI_at (k := ks.length + i) (show (rs.map V.ref)[ks.length + i]? = some (.ref p') by rw [List.getElem?_map, hp']; rfl) (by omega), p', _, rfl, .inl ⟨SqL.of (r3 _ p' s' hp' es).2, fun tu htu => ?_⟩⟩
          have s5 := Same.new (o := .tup (s'.map V.int)) htu
          refine ⟨by show 2 ≤ sizeLine; decide, fun z hz' => ?_⟩
          have s6 := s5.trans (Same.new (o := .tup [.str "row", .ref tu]) hz')
          have eF' : F[ks.length + i]? = some F[ks.length + i] := List.getElem?_eq_getElem (by omega)
          refine hQ _ _ (ev3.trans (same_ev s6)) ((same_ev (S := []) s6).2 tt3) ⟨z, rfl, .inr ⟨tu, s', upd_same, ?_, sta.rw s' (List.mem_of_getElem? es), fun x hx => Nat.le_trans (sta.br s' (List.mem_of_getElem? es) x hx) (Nat.pow_le_pow_right (by decide) (by omega)), fun k hk => ?_, h0⟩⟩
          · rw [upd_ne (ne_of_none upd_same hz'), upd_same]
          · have e := sta.lin _ _ _ eF' es
            have zk := sta.zero _ _ (Nat.le_add_right _ _) eF' k
            rw [e] at zk
            unfold rowT colsM at zk
            rw [List.map_map, List.getD_eq_getElem?_getD, List.getElem?_map, List.getElem?_range hk] at zk
            exact zk
      · rintro σ H4 ⟨v8, rfl, rfl, hz⟩
        subst e1
        walk_at "r"
        have lead3 : ∀ (i : Nat) r j, F[i]? = some r → ks[i]? = some j → 0 < r.getD j 0 := fun i r j h1 h2 => (sta.lead i r j h1 h2).1
        have sp0 := scl_pos lead3 (by rw [fl]; exact kn) ks.length (Nat.le_refl _)
        refine ⟨true, sp, _, _, _, rfl, rfl, SqB.tup hsp3, rfl, ?_⟩
        have wF : BdM (2 ^ wB) F := fun r' hr' z hz' => Nat.le_trans (sta.bf r' hr' z hz') (Nat.pow_le_pow_right (by decide) (by omega))
        have wT : BdM (2 ^ wB) [R.map fun s' => dotI s' ts] := fun r' hr' z hz' => by
          rw [List.mem_singleton.mp hr'] at hz'
          obtain ⟨s', hs', rfl⟩ := List.mem_map.mp hz'
          have b := dot_bd s' ts (sta.br s' hs') bts
          refine Nat.le_trans b ?_
          rw [sta.rw s' hs', ← Nat.pow_add]
          refine Nat.le_trans (Nat.mul_le_mul_right _ (show n ≤ 2 ^ 6 by omega)) ?_
          rw [← Nat.pow_add]
          exact Nat.pow_le_pow_right (by decide) (by omega)
        refine ⟨false, false, false, fo, q, tp, F, d, n, ks, R.map fun s' => dotI s' ts, u, rfl, hF3.b, ⟨qs, s3 _ _ hq1, hq2, fun i p j h1 h2 => s3 _ _ (hq3 i p j h1 h2)⟩, SqB.lst ez, fl, sta.fw, by rw [List.length_map]; exact rl, n1, n63, d1, d12, kn, sta.ksS, sta.ksK, sta.lead, by omega, Nat.le_trans u90 (Nat.pow_le_pow_right (by decide) (by omega)), wF, wT, fun p H5 ns s5 hp nl nb neq => ?_⟩
        · refine ⟨by show 2 ≤ sizeLine; decide, fun z hz' => ?_⟩
          have s6 := s5.trans (Same.new (o := .tup [.str "place", .ref p]) hz')
          have pos : 0 < u * scl F ks ks.length := Int.mul_pos u0 sp0
          have rle := redU_le ns pos
          have key := met_placeM (mm := u) mn mw sta tl nl (S := scl F ks ks.length) (fun i r' s' hi h1 h2 => neq i r' _ hi h1 (by rw [List.getElem?_map, h2]; rfl)) fun i s' hi h2 => hz i s' hi (by have := (List.getElem?_eq_some_iff.mp h2).1; omega) h2
          refine hQ _ _ (ev3.trans (same_ev s6)) ((same_ev (S := []) s6).2 tt3) ⟨z, rfl, .inl ⟨p, _, _, upd_same, hp.up (Same.new hz'), rle.1, ?_, gl_red (by omega), by unfold redT; rw [List.length_map]; exact nl, redT_le (by omega) nb, fun i row x h1 h2 => ?_⟩⟩
          · have h1 : (u * scl F ks ks.length).natAbs ≤ 2 ^ (13 * wB) := by
              rw [Int.natAbs_mul]
              have kl : ks.length ≤ d := rise_le sta.ksS sta.ksK
              have h2 := scl_bd (ks := ks) wF ks.length
              have h3 : ks.length * wB ≤ 12 * wB := Nat.mul_le_mul_right _ (by omega)
              refine Nat.le_trans (Nat.mul_le_mul (Nat.le_trans u90 (Nat.pow_le_pow_right (by decide) (show 90 ≤ wB by omega))) (Nat.le_trans h2 (Nat.pow_le_pow_right (by decide) h3))) ?_
              rw [← Nat.pow_add]
              exact Nat.pow_le_pow_right (by decide) (by omega)
            have h2 : (redU (u * scl F ks ks.length) ns).natAbs ≤ (u * scl F ks ks.length).natAbs := by omega
            exact Nat.le_trans h2 h1
          · exact met_low (S := scl F ks ks.length) (ns := ns) (by unfold redT; rw [List.length_map]) (by omega) (key i row x h1 h2) fun i a b h3 h4 => red_cross (by omega) h3 h4
theorem ok_rest_place (T : Txt K mg t) : FnOk P w K mg base CX0 1 t.a_rest_place t.d_rest_place ["one"] (sp_rest_place K) := by
  refine T.F_rest_place.ok sc_rest_place (by walk_at "v") (fun cdv A outer s H vs Q E hr h => ?_)
  · obtain ⟨p, ns, u, rfl, hP, hl, hu, hQ⟩ := h
    refine ⟨_, (pss_cons (ps_set (i := 1) sc_rest_place.nd rfl (Or.inr rfl) (px (pv 0) pe_int))
      (pss_one (ps_ret (pe_tup (pa_cons (pe_callTy call_tupB rfl T.z_tuple (by decide +kernel) (pa_cons (pe_compG (xs := ["top"]) (fr := [("under", 1)]) (g := (gName 0)) (tt := (tEl (tOp (rI (fun _ j => j ≠ 0) fun i j => .int (i.fmod j)) (tVar 0) (tVar 1)))) (compG_ok (sc := defScope s_rest_place) (N := N_rest_place) rfl rfl (by decide +kernel)) rfl (pi_seq (px (pv 0) pe_int)) (fun _ _ _ hE1 => (pg_own (N := ["top", "under"]) (i := 0) hE1 rfl (by decide +kernel))) (fun _ _ _ hE1 => (po_el (pe_op op_modN (pv 0) (pv 1))))) pa_nil)) (pa_cons (pv 1) pa_nil)))))), ?_⟩
    show tSeq _ _ _ [some (.ref p), none] H
    refine st fun N1 e1 => ?_
    walk_at "r"
    refine place_ix1 hP ?_
    subst e1
    walk_at "r"
    refine compE_st fun B eB => ?_
    simp only [iSeq]
    walk_at "r"
    refine place_ix0 hP fun x hx => ⟨true, x, rfl, ⟨_, SqB.tup hx⟩, fun a1 ha1 => cg_seq (fun j y _ => ∃ n, ns[j]? = some n ∧ y = .int (n.fmod u)) ha1 (SqB.tup hx) (by rw [List.length_map]; omega) (fun _ _ _ _ r _ => r) ?_ ?_⟩
    · intro i x H1 zs hx _ _ Q' hQ'
      obtain ⟨n, hn, rfl⟩ := ints_at hx
      subst eB
      show tOp _ _ _ [some (.int n), some (.int u)] H1 Q'
      walk_at "r"
      exact ⟨by omega, hQ' _ H1 (Same.refl _) ⟨n, hn, rfl⟩⟩
    · intro H1 ys s1 e1 hly hr2
      have ey : ys = (restT u ns).map V.int := by
        unfold restT
        rw [List.map_map]
        exact list_is (by simpa using hly) hr2
      subst ey
      refine ⟨a1, _, rfl, .inl ⟨SqL.of e1, fun l hl1 => ?_⟩⟩
      refine ⟨(by show 2 ≤ sizeLine; decide), fun p' hp' => hQ p' _ ((s1.trans (Same.new hl1)).trans (Same.new hp')) ⟨l, upd_same, ?_⟩⟩
      rw [upd_ne (ne_of_none upd_same hp')]
      exact upd_same
theorem off_keep {H : Hp} {b c : Addr} {o : HO} {ob : Obj} (n : H c = some (cellO c ob)) (e : H b = some o) (h : ∀ x y, o ≠ .frz x y) : offC H c b = some o := by
  rw [offC_ne (fun z => by rw [z, n] at e; cases e; exact h _ _ rfl)]; exact e
theorem TT.off {K : Frag} {t : Adr} {H : Hp} {c : Addr} {ob : Obj} (T : TT K t H) (n : H c = some (cellO c ob)) : TT K t (offC H c) := by
  have one : ∀ {P : Addr} {pos : Pos} {q : Str}, TabAt H P pos q → TabAt (offC H c) P pos q := fun {P pos q} h => by
    rcases h with h | ⟨d, h1, h2⟩
    · exact .inl (off_keep n h (fun _ _ z => by cases z))
    · exact .inr ⟨d, off_keep n h1 (fun _ _ z => by cases z), off_keep n h2 (fun _ _ z => by unfold codeO at z; cases z)⟩
  exact ⟨one T.r, one T.m, T.ne⟩
theorem MetAt.off {H : Hp} {c : Addr} {ob : Obj} {v : V} {A : LM} {ts : List Int} {u mm : Int} {d n : Nat} (h : MetAt H v A ts u mm d n) (hc : H c = some (cellO c ob)) : MetAt (offC H c) v A ts u mm d n := by
  obtain ⟨r, rfl, h⟩ := h
  refine ⟨r, rfl, ?_⟩
  rcases h with ⟨p, ns, w, h1, ⟨x, h2, h3⟩, h4⟩ | ⟨p, ns, h1, h2, h4⟩
  · exact .inl ⟨p, ns, w, off_keep hc h1 (fun _ _ z => by cases z), ⟨x, off_keep hc h2 (fun _ _ z => by cases z), off_keep hc h3 (fun _ _ z => by cases z)⟩, h4⟩
  · exact .inr ⟨p, ns, off_keep hc h1 (fun _ _ z => by cases z), off_keep hc h2 (fun _ _ z => by cases z), h4⟩
theorem ok_whole_met (T : Txt K mg t) (Gs : Gd P mg base) : FnOk P w K mg base CX0 38 t.a_whole_met t.d_whole_met ["rows", "tops", "under"] (sp_whole_met K t) := by
  have G_meeting : FnOk P w K mg base CX0 37 t.a_meeting t.d_meeting ["rows", "spot", "fits"] (sp_meeting K t) := ok_meeting T Gs
  have G_place : FnOk P w K mg base (CX1 P w) 34 t.a_place t.d_place ["tops", "under"] (sp_place K t.a_NoPlace) := ok_place T Gs
  have G_rest_place : FnOk P w K mg base CX0 1 t.a_rest_place t.d_rest_place ["one"] (sp_rest_place K) := ok_rest_place T
  have Bm := Gs.bm
  refine T.F_whole_met.okL T.tb_whole_met sc_whole_met (fun vs H Q E h => ?_) (fun A outer s H vs Q E hr h => ?_)
  · obtain ⟨b1, b2, b3, a, tp, A, ts, u, d, n, B, rfl, _⟩ := h
    rfl
  · obtain ⟨b1, b2, b3, a, tp, MA, ts, u, d, n, B, rfl, hM, hT, mn, mw, n1, n63, d1, d12, bA, hfit, u0, u90, tl, bts, tt, hQ⟩ := h
    refine ⟨_, (pss_cons (ps_set (i := 3) sc_whole_met.nd rfl (Or.inr rfl) (pe_call G_place hr.mo rfl T.m_place T.F_place.kp T.b_place .nil passes1 (pa_cons (pv 1) (pa_cons (pv 2) pa_nil))))
      (pss_cons (ps_set (i := 4) sc_whole_met.nd rfl (Or.inl rfl) (pe_callC (E := E0) (i := 3) (y := "spot") (names := (lamS lam_whole_met).names) rfl (Or.inr (Or.inl rfl)) rfl rfl rfl G_meeting hr.mo rfl T.m_meeting T.F_meeting.kp T.b_meeting (pa_cons (pv 0) (pa_cons (pv 3) (pa_cons (pe_lam (x := "top") (fr := [("spot", 3)]) (qual := "whole_met.<locals>.<lambda>") (f0 := t.a_whole_met) (comp_ok (sc := defScope s_whole_met) (N := N_whole_met) rfl rfl (by decide +kernel)) T.tb_whole_met rfl Bm) pa_nil)))))
      (pss_cons (ps_if (pt_cmpR op_eq (px (pv 4) pe_int) pe_str (nomark _))
      (pss_one (ps_ret (pv 4)))
      pss_nil)
      (pss_one (ps_ret (pe_tup (pa_cons pe_str (pa_cons (pe_call G_rest_place hr.mo rfl T.m_rest_place T.F_rest_place.kp T.b_rest_place .nil pass0 (pa_cons (px (pv 4) pe_int) pa_nil)) pa_nil)))))))), ?_⟩
    show tSeq _ _ _ [some (.ref a), some (.ref tp), some (.int u), none, none] H
    refine st fun N1 e1 => ?_
    walk_at "r"
    obtain ⟨r1, r2⟩ := redU_abs ts u0
    refine ⟨b3, tp, ts, u, rfl, hT, by omega, fun z => ?_, fun _ _ p H1 s1 hp => ?_⟩
    · rcases z with z | z
      · exact absurd z u0
      · rw [z] at tl; simp at tl; omega
    · have tt1 := (same_ev (K := K) (t := t) (S := []) s1).2 tt
      show N1 [some (.ref a), some (.ref tp), some (.int u), some (.ref p), none] H1
      subst e1
      refine st fun N1 e1 => ?_
      walk_at "r"
      simp only [tCallC]
      walk_at "r"
      refine ⟨tt1.m, fun f c pm ctv H2 sp hf g1 g2 g3 cc ob od ecl hcc => ?_⟩
      have e1' : H2 f = some (lamO f c "whole_met.<locals>.<lambda>" (lamP lam_whole_met) (lamB lam_whole_met) (lamS lam_whole_met) [("spot", cc)] pm ctv) := g1.trans (congrArg (fun cl => some (lamO f c "whole_met.<locals>.<lambda>" (lamP lam_whole_met) (lamB lam_whole_met) (lamS lam_whole_met) cl pm ctv)) ecl)
      obtain ⟨ev2, tt2⟩ := tt1.meet sp (.inr ⟨c, g3, g2⟩)
      have s3 : Same H2 (upd H2 cc (cellO cc ob)) := Same.new hcc
      have ev : Ev K t [] H (upd H2 cc (cellO cc ob)) := ((same_ev s1).trans ev2).trans (same_ev s3)
      have tt3 : TT K t (upd H2 cc (cellO cc ob)) := (same_ev (S := []) s3).2 tt2
      refine ⟨b1, b2, a, p, f, c, cc, ob, pm, ctv, MA, redT u ts, redU u ts, d, n, B, rfl, matB_ev hM ev, mn, mw, n1, n63, d1, d12, bA, hfit, place_ev hp (ev2.trans (same_ev s3)), r1, Nat.le_trans r2 u90, by unfold redT; rw [List.length_map]; exact tl, redT_le u0 bts, tt3, s3 _ _ e1', s3 _ _ g2, upd_same, od, fun v H3 ev3 tt4 hm => ?_⟩
      have ec3 : H3 cc = some (cellO cc ob) := ev3.1 _ _ (fun z => nomatch z) (fun _ z => by unfold cellO at z; cases z) upd_same
      refine ⟨ec3, ?_⟩
      have tt5 := tt4.off ec3
      have hm5 := hm.off ec3
      have ev5 : Ev K t [] H (offC H3 cc) := ((same_ev s1).trans ev2).trans ⟨fun b o _ h2 e => by
        rw [offC_ne (ne_of_none e hcc)]
        exact ev3.1 _ _ (fun z => nomatch z) h2 (s3 _ _ e), fun _ => tt5⟩
      clear hm tt4 ec3 ev3
      generalize offC H3 cc = H4 at tt5 hm5 ev5 ⊢
      obtain ⟨r, rfl, hm5⟩ := hm5
      subst e1
      refine st fun N1 e1 => ?_
      walk_at "r"
      rcases hm5 with ⟨pp, ns, w, h1, h2, w0, wb, hg, nl, nb, heq⟩ | ⟨pp, ns, h1, h2, nl, nb, hz, hn⟩
      · refine ⟨true, r, _, _, _, rfl, rfl, SqB.tup h1, rfl, rfl, ?_⟩
        refine ⟨_, rfl, iteF ?_⟩
        subst e1
        walk_at "r"
        refine ⟨true, r, _, _, _, rfl, rfl, SqB.tup h1, rfl, ?_⟩
        refine ⟨pp, ns, w, rfl, h2, by omega, w0, fun p' H5 s5 hp' => ?_⟩
        refine ⟨by show 2 ≤ sizeLine; decide, fun z hz' => ?_⟩
        have s6 := s5.trans (Same.new (o := .tup [.str "place", .ref p']) hz')
        refine hQ _ _ (ev5.trans (same_ev s6)) ((same_ev (S := []) s6).2 tt5) ⟨z, rfl, .inl ⟨p', restT w ns, w, upd_same, hp'.up (Same.new hz'), w0, wb, (gl_rest w ns).trans hg, by unfold restT; rw [List.length_map]; exact nl, fun z hz => ?_, fun i row x er ex => ?_⟩⟩
        · unfold restT at hz
          obtain ⟨x, _, rfl⟩ := List.mem_map.mp hz
          have f2 := Int.fmod_nonneg_of_pos x w0
          have f3 := Int.fmod_lt_of_pos x w0
          exact Nat.le_trans (show (x.fmod w).natAbs ≤ w.natAbs by omega) (Nat.le_trans wb (Nat.pow_le_pow_right (by decide) (by decide)))
        · obtain ⟨y, hy⟩ := heq i row x er ex
          obtain ⟨y2, hy2⟩ := met_rest (w := w) row ns
          have e5 : dotI row (restT w ns) = dotI row ns - w * y2 := by omega
          exact ⟨y - y2, by rw [e5]; grind⟩
      · refine ⟨true, r, _, _, _, rfl, rfl, SqB.tup h1, rfl, rfl, ?_⟩
        refine ⟨_, rfl, iteT ?_⟩
        exact hQ _ _ ev5 tt5 ⟨r, rfl, .inr ⟨pp, ns, h1, h2, nl, nb, hz, hn⟩⟩
theorem few_mul {a b : Int} (h : -100000 ≤ a) (h' : a ≤ 100000) : IntMulOk a b := IntMulOk.of_left (intBits_le_64 (by omega) (by omega))
theorem few_mulR {a b : Int} (h : -100000 ≤ b) (h' : b ≤ 100000) : IntMulOk a b := IntMulOk.of_right (intBits_le_64 (by omega) (by omega))
theorem dv_ok {x y : Int} (h1 : y ≠ 0) (h2 : y.natAbs < 2 ^ 8990) : CDivB x y := ⟨h1, Nat.lt_of_lt_of_le ((Nat.log2_lt (by omega)).mpr h2) (by decide)⟩
theorem dv_s {x y : Int} (h1 : 0 < y) (h2 : y < 10000000000) : CDivB x y := dv_ok (by omega) (Nat.lt_of_lt_of_le (show y.natAbs < 2 ^ 40 by omega) (Nat.pow_le_pow_right (by decide) (by decide)))
theorem atI_ints {ns : List Int} {k : Int} (h0 : 0 ≤ k) (h1 : k < ns.length) : atI (ns.map V.int) k = some (.int (ns.getD k.toNat 0)) := by
  obtain ⟨j, rfl⟩ := Int.eq_ofNat_of_zero_le h0
  exact atI_at (int_at (getD_at (by omega))) rfl
noncomputable def sp_law_cell (K : Frag) : Sp := fun vs H Q _ => ∃ (p : Addr) (ns : List Int) (k : Int), vs = [.ref p, .int k] ∧ SqL K H p (ns.map V.int) ∧ 0 ≤ k ∧ Q (.int (ns.getD k.toNat 0)) H
noncomputable def sp_law_int : Sp := fun vs H Q _ => ∃ i, vs = [.int i] ∧ Q (.bl true) H
noncomputable def nbW : Nat → Nat
  | 0 => 1
  | 1 => 4
  | 2 => 30
  | 3 => 200
  | _ => 4
noncomputable def moW : Nat → Int
  | 0 => 2
  | 1 => 9
  | 2 => 10 ^ 9
  | 3 => 10 ^ 60
  | _ => 2
noncomputable def faW : Nat → Int
  | 4 => 6
  | _ => 1
noncomputable def sp_law_number : Sp := fun vs H Q _ => ∃ (c : Int) (w : Nat), vs = [.int c, .int w] ∧ w < 5 ∧ ∀ z H', Same H H' → z.natAbs ≤ 2 ^ nbW w → Q (.int z) H'
theorem ok_law_cell (T : Txt K mg t) : FnOk P w K mg base CX0 1 t.a_law_cell t.d_law_cell ["_law_script", "_law_k"] (sp_law_cell K) := by
  refine T.F_law_cell.ok sc_law_cell (by walk_at "v") (fun cdv A outer s H vs Q E hr h => ?_)
  · obtain ⟨p, ns, k, rfl, hS, h0, q⟩ := h
    refine ⟨_, (pss_one (ps_ret (pe_ifExp (pt_cmpR op_lt (pv 1) (pe_callB call_lenB rfl T.z_len (by decide +kernel) (pa_cons (pv 0) pa_nil)) (nomark _)) (px (pv 0) (pv 1)) pe_int))), ?_⟩
    show tRet _ _ [some (.ref p), some (.int k)] H
    walk_at "r"
    refine ⟨false, p, _, rfl, hS, ?_⟩
    rw [List.length_map]
    walk_at "r"
    by_cases z : k < ns.length
    · rw [decide_eq_true z]
      exact iteT ⟨false, p, _, _, _, rfl, rfl, hS, atI_ints h0 z, q⟩
    · rw [decide_eq_false z]
      refine iteF ?_
      have e : ns.getD k.toNat 0 = 0 := by
        rw [List.getD_eq_getElem?_getD, List.getElem?_eq_none (by omega)]
        rfl
      rw [e] at q
      exact q
theorem ok_law_int (T : Txt K mg t) : FnOk P w K mg base CX0 1 t.a_law_int t.d_law_int ["_law_thing"] sp_law_int := by
  refine T.F_law_int.ok sc_law_int (by walk_at "v") (fun cdv A outer s H vs Q E hr h => ?_)
  · obtain ⟨i, rfl, q⟩ := h
    refine ⟨_, (pss_one (ps_ret (pe_and (pe_not (pe_callB call_isi rfl T.z_isinstance (by decide +kernel) (pa_cons (pv 0) (pa_cons (pe_bltn (v := .ty "bool") rfl T.z_bool (by decide +kernel) rfl) pa_nil)))) (pe_one (pe_callB call_isi rfl T.z_isinstance (by decide +kernel) (pa_cons (pv 0) (pa_cons (pe_bltn (v := .ty "int") rfl T.z_int (by decide +kernel) rfl) pa_nil))))))), ?_⟩
    show tRet _ _ [some (.int i)] H
    walk_at "r"
    refine ⟨_, _, _, _, rfl, .ty (.int i), rfl, T.k_ib, ?_⟩
    walk_at "r"
    exact ⟨_, _, _, _, rfl, .ty (.int i), rfl, T.k_int, q⟩
theorem num_le {c : Int} {w : Nat} (h : w < 5) : (((c + moW w).fmod (2 * moW w + 1) - moW w) * faW w).natAbs ≤ 2 ^ nbW w ∧ 0 < 2 * moW w + 1 := by
  have key : ∀ (m f : Int) (B : Nat), 0 < m → 0 < f → (m * f).natAbs ≤ 2 ^ B → (((c + m).fmod (2 * m + 1) - m) * f).natAbs ≤ 2 ^ B ∧ 0 < 2 * m + 1 := fun m f B hm hf hB => by
    have f2 := Int.fmod_nonneg_of_pos (c + m) (show 0 < 2 * m + 1 by omega)
    have f3 := Int.fmod_lt_of_pos (c + m) (show 0 < 2 * m + 1 by omega)
    refine ⟨?_, by omega⟩
    rw [Int.natAbs_mul] at hB ⊢
    exact Nat.le_trans (Nat.mul_le_mul_right _ (by omega)) hB
  match w, h with
  | 0, _ => exact key 2 1 1 (by decide) (by decide) (by decide)
  | 1, _ => exact key 9 1 4 (by decide) (by decide) (by decide)
  | 2, _ => exact key (10 ^ 9) 1 30 (by decide) (by decide) (by decide)
  | 3, _ => exact key (10 ^ 60) 1 200 (by decide +kernel) (by decide) (by decide +kernel)
  | 4, _ => exact key 2 6 4 (by decide) (by decide) (by decide)
theorem ok_law_number (T : Txt K mg t) : FnOk P w K mg base CX0 1 t.a_law_number t.d_law_number ["_law_cell_here", "_law_way_here"] sp_law_number := by
  refine T.F_law_number.ok sc_law_number (by walk_at "v") (fun cdv A outer s H vs Q E hr h => ?_)
  · obtain ⟨c, w, rfl, hw, q⟩ := h
    refine ⟨_, (pss_cons (ps_set (i := 2) sc_law_number.nd rfl (Or.inl rfl) (px (pe_lst (pa_cons pe_int (pa_cons pe_int (pa_cons (pe_op op_pow pe_int pe_int) (pa_cons (pe_op op_pow pe_int pe_int) (pa_cons pe_int pa_nil)))))) (pv 1)))
      (pss_cons (ps_set (i := 3) sc_law_number.nd rfl (Or.inl rfl) (pe_op op_sub (pe_op op_modN (pe_op op_add (pv 0) (pv 2)) (pe_op op_add (pe_op op_mulB pe_int (pv 2)) pe_int)) (pv 2)))
      (pss_one (ps_ret (pe_op op_mulB (pv 3) (px (pe_lst (pa_cons pe_int (pa_cons pe_int (pa_cons pe_int (pa_cons pe_int (pa_cons pe_int pa_nil)))))) (pv 1))))))), ?_⟩
    show tSeq _ _ _ [some (.int c), some (.int w), none, none] H
    obtain ⟨n1, n2⟩ := num_le (c := c) hw
    refine st fun N1 e1 => ?_
    walk_at "r"
    refine ⟨⟨by decide, by decide, by decide⟩, ⟨by decide, by decide, by decide⟩, (by show 5 ≤ sizeLine; decide), fun l hl1 => ?_⟩
    have ix : ∀ {k : Nat}, k < 5 → atI [V.int 2, .int 9, .int (10 ^ Int.toNat 9), .int (10 ^ Int.toNat 60), .int 2] (k : Int) = some (.int (moW k)) := fun {k} hk => match k, hk with
      | 0, _ => rfl
      | 1, _ => rfl
      | 2, _ => rfl
      | 3, _ => rfl
      | 4, _ => rfl
    have ix2 : ∀ {k : Nat}, k < 5 → atI [V.int 1, .int 1, .int 1, .int 1, .int 6] (k : Int) = some (.int (faW k)) := fun {k} hk => match k, hk with
      | 0, _ => rfl
      | 1, _ => rfl
      | 2, _ => rfl
      | 3, _ => rfl
      | 4, _ => rfl
    have fa : -100000 ≤ faW w ∧ faW w ≤ 100000 := by unfold faW; split <;> omega
    have s1 : Same H (upd H l (.lst [V.int 2, .int 9, .int (10 ^ Int.toNat 9), .int (10 ^ Int.toNat 60), .int 2])) := Same.new hl1
    refine ⟨false, l, _, _, _, rfl, rfl, SqB.lst upd_same, ix hw, ?_⟩
    generalize upd H l (.lst [V.int 2, .int 9, .int (10 ^ Int.toNat 9), .int (10 ^ Int.toNat 60), .int 2]) = H1 at s1
    generalize moW w = m at *
    subst e1
    refine st fun N1 e1 => ?_
    walk_at "r"
    refine ⟨IntMulOk.of_left (by decide), by omega, ?_⟩
    subst e1
    walk_at "r"
    refine ⟨(by show 5 ≤ sizeLine; decide), fun l2 hl2 => ?_⟩
    refine ⟨false, l2, _, _, _, rfl, rfl, SqB.lst upd_same, ix2 hw, _, _, rfl, rfl, few_mulR fa.1 fa.2, ?_⟩
    exact q _ _ (s1.trans (Same.new hl2)) n1
theorem MatL.nil {H : Hp} {l : Addr} (h : H l = some (.lst [])) : MatL H l [] := ⟨[], h, rfl, fun i p r e => by simp at e⟩
noncomputable def Rws (n d B : Nat) (M : LM) : Prop := M.length = n ∧ (∀ r ∈ M, r.length = d) ∧ BdM (2 ^ B) M
theorem Rws.app {n d B : Nat} {M : LM} {r : List Int} (h : Rws n d B M) (hl : r.length = d) (hb : ∀ z ∈ r, z.natAbs ≤ 2 ^ B) : Rws (n + 1) d B (M ++ [r]) := by
  obtain ⟨h1, h2, h3⟩ := h
  refine ⟨by simp [h1], fun r' hr => ?_, fun r' hr => ?_⟩
  · rcases List.mem_append.mp hr with e | e
    · exact h2 r' e
    · rw [List.mem_singleton.mp e]; exact hl
  · rcases List.mem_append.mp hr with e | e
    · exact h3 r' e
    · rw [List.mem_singleton.mp e]; exact hb
theorem cut_lenC (ns : List Int) (j : Nat) : ∃ ms : List Int, cutV (ns.map V.int) (some 1) (some (1 + (j : Int))) = ms.map V.int ∧ ms.length ≤ j ∧ ms.length ≤ ns.length - 1 := by
  refine ⟨_, cut_ints ns _ _, ?_⟩
  have e0 : HT.sIx ns.length 0 (some 1) = min 1 ns.length := HT.sIx_nat ns.length 0 1
  have e1 : HT.sIx ns.length ns.length (some (1 + (j : Int))) = min (1 + j) ns.length := by
    rw [show (1 + (j : Int)) = ((1 + j : Nat) : Int) by omega]
    exact HT.sIx_nat ns.length ns.length (1 + j)
  rw [List.length_take, List.length_drop, e0, e1]
  omega
noncomputable def moN : Nat → Nat
  | 2 => 4
  | 3 => 3
  | _ => 40
noncomputable def fitB (n d B : Nat) : Bool := (List.range (min n d + 1)).all fun t => decide (uR n B t ≤ uS) && decide (cR n B t ≤ bS)
theorem fit_of {n d B : Nat} (h : fitB n d B = true) : FitS n d B := fun t h1 h2 => by
  have := List.all_eq_true.mp h t (List.mem_range.mpr (by omega))
  have := Bool.and_eq_true_iff.mp this
  exact ⟨of_decide_eq_true this.1, of_decide_eq_true this.2⟩
theorem fit_drawn : (List.range 5).all (fun w => (List.range (moN w + 1)).all fun n => (List.range 13).all fun d => !(decide (n * d ≤ 62) || n == 1) || fitB n d (nbW w + 3 * n)) = true := by decide +kernel
theorem fit_d {n d w : Nat} (hw : w < 5) (hn : n ≤ moN w) (hd : d ≤ 12) (h : n * d ≤ 62 ∨ n = 1) : FitS n d (nbW w + 3 * n) := by
  have := List.all_eq_true.mp (List.all_eq_true.mp (List.all_eq_true.mp fit_drawn w (List.mem_range.mpr hw)) n (List.mem_range.mpr (by omega))) d (List.mem_range.mpr (by omega))
  rcases Bool.or_eq_true_iff.mp this with q | q
  · refine False.elim ?_
    have : (decide (n * d ≤ 62) || n == 1) = true := by
      rcases h with h | h
      · rw [decide_eq_true h]; rfl
      · rw [h]; simp
    rw [this] at q
    cases q
  · exact fit_of q
noncomputable def sp_law_rows (K : Frag) : Sp := fun vs H Q _ => ∃ (a : Addr) (ns : List Int), vs = [.ref a] ∧ SqL K H a (ns.map V.int) ∧ ns.length ≤ 63 ∧
  ∀ r H' A n d B, Same H H' → MatL H' r A → Rws n d B A → FitS n d B → 1 ≤ n → n ≤ 40 → 1 ≤ d → d ≤ 12 → Q (.ref r) H'
noncomputable def Drw (d nb : Nat) (M : LM) : Prop := ∀ (i : Nat) r, M[i]? = some r → r.length = d ∧ ∀ z ∈ r, z.natAbs ≤ 2 ^ (nb + 3 * i)
theorem Drw.app {d nb : Nat} {M : LM} {r : List Int} (h : Drw d nb M) (hl : r.length = d) (hb : ∀ z ∈ r, z.natAbs ≤ 2 ^ (nb + 3 * M.length)) : Drw d nb (M ++ [r]) := fun i r' e => by
  by_cases hi : i < M.length
  · rw [List.getElem?_append_left hi] at e
    exact h i r' e
  · have := (List.getElem?_eq_some_iff.mp e).1
    have hi2 : i = M.length := by simp at this; omega
    subst hi2
    rw [List.getElem?_append_right (Nat.le_refl _), Nat.sub_self] at e
    cases e
    exact ⟨hl, hb⟩
theorem Drw.rws {d nb n : Nat} {M : LM} (h : Drw d nb M) (hn : M.length = n) : Rws n d (nb + 3 * n) M := by
  refine ⟨hn, fun r hr => ?_, fun r hr z hz => ?_⟩
  · obtain ⟨i, hi, rfl⟩ := List.getElem_of_mem hr
    exact (h i _ (List.getElem?_eq_getElem hi)).1
  · obtain ⟨i, hi, rfl⟩ := List.getElem_of_mem hr
    exact Nat.le_trans ((h i _ (List.getElem?_eq_getElem hi)).2 z hz) (Nat.pow_le_pow_right (by decide) (by omega))
theorem mix_le {E : Nat} {x y m : Int} (hx : x.natAbs ≤ 2 ^ (E + 3)) (hy : y.natAbs ≤ 2 ^ E) (hm : m.natAbs ≤ 3) : (2 * x + m * y).natAbs ≤ 2 ^ (E + 3 + 3) := by
  have h1 := Nat.mul_le_mul hm hy
  have h2 := Int.natAbs_mul m y
  have h3 := Int.natAbs_add_le (2 * x) (m * y)
  have e1 : 2 ^ (E + 3) = 8 * 2 ^ E := by rw [Nat.pow_add]; omega
  have e2 : 2 ^ (E + 3 + 3) = 64 * 2 ^ E := by rw [Nat.pow_add, e1]; omega
  omega
noncomputable def RL (H : Hp) (a cl l : Addr) (s d w m : Int) (nb : Nat) (i : Nat) (σ : St) (H2 : Hp) : Prop := ∃ (v7 v8 v9 : Option V) (M : LM), σ = [some (.ref a), some (.int s), some (.int d), some (.int w), some (.int m), some (.ref cl), some (.ref l), v7, v8, v9] ∧ Same H H2 ∧ MatL H2 l M ∧ M.length = i ∧ Drw d.toNat nb M
noncomputable def sp_law_told_rows : Sp := fun vs H Q _ => ∃ z : Int, vs = [.int z] ∧ ∀ r H' A n d, Same H H' → MatL H' r A → Rws n d 30 A → 1 ≤ n → n ≤ 8 → 1 ≤ d → d ≤ 5 → Q (.ref r) H'
noncomputable def TR (H : Hp) (l : Addr) (D N : Nat) (mo : Int) (i : Nat) (σ : St) (H2 : Hp) : Prop := ∃ (z : Int) (v5 v6 v7 : Option V) (M : LM), σ = [some (.int z), some (.int D), some (.int N), some (.int mo), some (.ref l), v5, v6, v7] ∧ Same H H2 ∧ MatL H2 l M ∧ Rws i D 30 M
noncomputable def TRi (H : Hp) (l p : Addr) (D N : Nat) (mo : Int) (v5 : Option V) (k : Nat) (σ : St) (H2 : Hp) : Prop := ∃ (z : Int) (v7 : Option V) (xs : List Int), σ = [some (.int z), some (.int D), some (.int N), some (.int mo), some (.ref l), v5, some (.ref p), v7] ∧ Same H H2 ∧ H2 p = some (.lst (xs.map V.int)) ∧ xs.length = k ∧ ∀ x ∈ xs, x.natAbs ≤ 2 ^ 30
theorem ok_law_told_rows (T : Txt K mg t) : FnOk P w K mg base CX0 1 t.a_law_told_rows t.d_law_told_rows ["_law_left"] sp_law_told_rows := by
  refine T.F_law_told_rows.ok sc_law_told_rows (by walk_at "v") (fun cdv A outer s H vs Q E hr h => ?_)
  · obtain ⟨z, rfl, hQ⟩ := h
    refine ⟨_, (pss_cons (ps_set (i := 1) sc_law_told_rows.nd rfl (Or.inl rfl) (pe_op op_add pe_int (pe_op op_modN (pv 0) pe_int)))
      (pss_cons (ps_set (i := 2) sc_law_told_rows.nd rfl (Or.inl rfl) (pe_op op_add pe_int (pe_op op_modN (pe_op op_fdivB (pv 0) pe_int) pe_int)))
      (pss_cons (ps_set (i := 3) sc_law_told_rows.nd rfl (Or.inl rfl) (px (pe_lst (pa_cons pe_int (pa_cons (pe_op op_pow pe_int pe_int) pa_nil))) (pe_op op_modN (pe_op op_fdivB (pv 0) pe_int) pe_int)))
      (pss_cons (ps_set (i := 0) sc_law_told_rows.nd rfl (Or.inl rfl) (pe_op op_fdivB (pv 0) pe_int))
      (pss_cons (ps_set (i := 4) sc_law_told_rows.nd rfl (Or.inl rfl) (pe_lst pa_nil))
      (pss_cons (ps_for PassesOwn.never rfl (pi_range1 rfl T.z_range (pa_cons (pv 2) pa_nil)) (pg_name (i := 5) sc_law_told_rows.nd rfl (Or.inl rfl))
      (pss_cons (ps_set (i := 6) sc_law_told_rows.nd rfl (Or.inl rfl) (pe_lst pa_nil))
      (pss_cons (ps_for PassesOwn.never rfl (pi_range1 rfl T.z_range (pa_cons (pv 1) pa_nil)) (pg_name (i := 7) sc_law_told_rows.nd rfl (Or.inl rfl))
      (pss_cons (ps_expr (pe_bm PySem.F.plainAttrs_list PySem.F.slot_list_append PySem.F.type_list_append mt_append (pv 6) (pa_cons (pe_op op_sub (pe_op op_modN (pv 0) (pe_op op_add (pe_op op_mulB pe_int (pv 3)) pe_int)) (pv 3)) pa_nil)))
      (pss_one (ps_set (i := 0) sc_law_told_rows.nd rfl (Or.inl rfl) (pe_op op_fdivB (pv 0) (pe_op op_add (pe_op op_mulB pe_int (pv 3)) pe_int))))))
      (pss_one (ps_expr (pe_bm PySem.F.plainAttrs_list PySem.F.slot_list_append PySem.F.type_list_append mt_append (pv 4) (pa_cons (pv 6) pa_nil)))))))
      (pss_one (ps_ret (pv 4))))))))), ?_⟩
    show tSeq _ _ _ [some (.int z), none, none, none, none, none, none, none] H
    refine st fun N1 e1 => ?_
    walk_at "r"
    refine ⟨by decide, ?_⟩
    have d0 := Int.fmod_nonneg_of_pos z (show (0 : Int) < 5 by decide)
    have d1 := Int.fmod_lt_of_pos z (show (0 : Int) < 5 by decide)
    obtain ⟨D, eD⟩ := Int.eq_ofNat_of_zero_le (show 0 ≤ 1 + z.fmod 5 by omega)
    rw [eD]
    subst e1
    refine st fun N1 e1 => ?_
    walk_at "r"
    refine ⟨dv_s (by decide) (by decide), by decide, ?_⟩
    have n0 := Int.fmod_nonneg_of_pos (z.fdiv 5) (show (0 : Int) < 8 by decide)
    have n1 := Int.fmod_lt_of_pos (z.fdiv 5) (show (0 : Int) < 8 by decide)
    obtain ⟨n, en⟩ := Int.eq_ofNat_of_zero_le (show 0 ≤ 1 + (z.fdiv 5).fmod 8 by omega)
    rw [en]
    subst e1
    refine st fun N1 e1 => ?_
    walk_at "r"
    refine ⟨⟨by decide, by decide, by decide⟩, (by show 2 ≤ sizeLine; decide), fun l0 hl0 => ⟨dv_s (by decide) (by decide), by decide, ?_⟩⟩
    have b0 := Int.fmod_nonneg_of_pos (z.fdiv 40) (show (0 : Int) < 2 by decide)
    have b1 := Int.fmod_lt_of_pos (z.fdiv 40) (show (0 : Int) < 2 by decide)
    generalize (z.fdiv 40).fmod 2 = bb at b0 b1
    have s1 : Same H (upd H l0 (.lst [V.int 9, .int (10 ^ Int.toNat 9)])) := Same.new hl0
    have el0 : (upd H l0 (.lst [V.int 9, .int (10 ^ Int.toNat 9)])) l0 = some (.lst [V.int 9, .int (10 ^ Int.toNat 9)]) := upd_same
    generalize upd H l0 (.lst [V.int 9, .int (10 ^ Int.toNat 9)]) = H1 at s1 el0
    have key : ∀ mo : Int, 1 ≤ mo → mo ≤ 1000000000 → N1 [some (.int z), some (.int D), some (.int n), some (.int mo), none, none, none, none] H1 := by
      intro mo m0 m1
      subst e1
      refine st fun N1 e1 => ?_
      walk_at "r"
      refine ⟨dv_s (by decide) (by decide), ?_⟩
      generalize z.fdiv 80 = z2
      subst e1
      refine st fun N1 e1 => ?_
      walk_at "r"
      refine ⟨Nat.zero_le _, fun l hl => ?_⟩
      have s2 : Same H1 (upd H1 l (.lst [])) := Same.new hl
      have el : (upd H1 l (.lst [])) l = some (.lst []) := upd_same
      generalize upd H1 l (.lst []) = H2 at s2 el
      subst e1
      refine st fun N1 e1 => for_st fun B eB => ?_
      simp only [iRng1]
      walk_at "r"
      refine ⟨by omega, by omega, ?_⟩
      rw [Int.toNat_natCast]
      refine fr_range (g := gName 5) (tb := B) (TR H1 l D n mo) ⟨z2, none, none, none, [], rfl, s2, MatL.nil el, rfl, (fun r hr => by cases hr), (fun r hr => by cases hr)⟩ ?_ ?_
      · rintro i σ H3 hi ⟨z3, v5, v6, v7, M, rfl, s3, hM, hR⟩
        obtain ⟨mn, _, _⟩ := id hR
        subst eB
        show tSeq _ _ _ [some (.int z3), some (.int D), some (.int n), some (.int mo), some (.ref l), some (.int (0 + (i : Int))), v6, v7] H3
        refine st fun N2 e2 => ?_
        walk_at "r"
        refine ⟨Nat.zero_le _, fun p hp => ?_⟩
        subst e2
        refine st fun N2 e2 => for_st fun B2 eB2 => ?_
        simp only [iRng1]
        walk_at "r"
        refine ⟨by omega, by omega, ?_⟩
        rw [Int.toNat_natCast]
        obtain ⟨ps0, hl0', _⟩ := id hM
        have np : p ≠ l := Ne.symm (ne_of_none hl0' hp)
        refine fr_range (g := gName 7) (tb := B2) (TRi H3 l p D n mo (some (.int (0 + (i : Int))))) ⟨z3, v7, [], rfl, Same.new hp, upd_same, rfl, (fun x hx => by cases hx)⟩ ?_ ?_
        · rintro k σ H4 hk ⟨z4, v7, xs, rfl, s4, ep, xl, xb⟩
          subst eB2
          show tSeq _ _ _ [some (.int z4), some (.int D), some (.int n), some (.int mo), some (.ref l), some (.int (0 + (i : Int))), some (.ref p), some (.int (0 + (k : Int)))] H4
          refine st fun N3 e3 => ?_
          walk_at "r"
          have f2 := Int.fmod_nonneg_of_pos z4 (show 0 < 2 * mo + 1 by omega)
          have f3 := Int.fmod_lt_of_pos z4 (show 0 < 2 * mo + 1 by omega)
          refine ⟨.inl ⟨rfl, _, SqL.of ep⟩, IntMulOk.of_left (by decide), (show ¬ 2 * mo + 1 = 0 by omega), p, _, _, rfl, rfl, ep, small1000 (by rw [List.length_map]; omega), ?_⟩
          subst e3
          walk_at "r"
          refine ⟨IntMulOk.of_left (by decide), dv_s (by omega) (by omega), ?_⟩
          refine ⟨_, _, xs ++ [z4.fmod (2 * mo + 1) - mo], rfl, Same.over hp s4, ?_, by simp [xl], fun x hx => ?_⟩
          · rw [upd_same, List.map_append]; rfl
          · rcases List.mem_append.mp hx with e | e
            · exact xb x e
            · rw [List.mem_singleton.mp e]
              omega
        · rintro σ H4 ⟨z4, v7, xs, rfl, s4, ep, xl, xb⟩
          subst e2
          walk_at "r"
          obtain ⟨zs, q1, q2, q3⟩ := (hM.up s4).app ep np
          refine ⟨.inl ⟨rfl, _, SqL.of q1⟩, l, zs, _, rfl, rfl, q1, small1000 (by rw [q2]; omega), ?_⟩
          exact ⟨_, _, _, _, _, rfl, Same.over hl (s3.trans s4), q3, hR.app xl xb⟩
      · rintro σ H3 ⟨z3, v5, v6, v7, M, rfl, s3, hM, hR⟩
        subst e1
        walk_at "r"
        exact hQ l H3 M n D (s1.trans s3) hM hR (by omega) (by omega) (by omega) (by omega)
    have e01 : bb = 0 ∨ bb = 1 := by omega
    rcases e01 with rfl | rfl
    · exact ⟨false, l0, _, _, _, rfl, rfl, SqB.lst el0, rfl, key 9 (by omega) (by omega)⟩
    · exact ⟨false, l0, _, _, _, rfl, rfl, SqB.lst el0, rfl, key _ (by decide) (by decide)⟩
theorem fit_told : (List.range 9).all (fun n => (List.range 6).all fun d => fitB n d 30) = true := by decide +kernel
theorem fit_t {n d : Nat} (hn : n ≤ 8) (hd : d ≤ 5) : FitS n d 30 :=
  fit_of (List.all_eq_true.mp (List.all_eq_true.mp fit_told n (List.mem_range.mpr (by omega))) d (List.mem_range.mpr (by omega)))
theorem ok_law_rows (T : Txt K mg t) : FnOk P w K mg base CX0 2 t.a_law_rows t.d_law_rows ["_law_script"] (sp_law_rows K) := by
  have G_law_told_rows : FnOk P w K mg base CX0 1 t.a_law_told_rows t.d_law_told_rows ["_law_left"] sp_law_told_rows := ok_law_told_rows T
  have G_law_cell : FnOk P w K mg base CX0 1 t.a_law_cell t.d_law_cell ["_law_script", "_law_k"] (sp_law_cell K) := ok_law_cell T
  have G_law_number : FnOk P w K mg base CX0 1 t.a_law_number t.d_law_number ["_law_cell_here", "_law_way_here"] sp_law_number := ok_law_number T
  refine T.F_law_rows.ok sc_law_rows (by walk_at "v") (fun cdv A outer s H vs Q E hr h => ?_)
  · obtain ⟨a, ns, rfl, hS, n63, hQ⟩ := h
    refine ⟨_, (pss_cons (ps_set (i := 1) sc_law_rows.nd rfl (Or.inl rfl) (pe_call G_law_cell hr.mo rfl T.m_law_cell T.F_law_cell.kp T.b_law_cell .nil pass0 (pa_cons (pv 0) (pa_cons pe_int pa_nil))))
      (pss_cons (ps_if (pt_cmpR op_ge (pv 1) (pe_op op_pow pe_int pe_int) (nomark _))
      (pss_one (ps_ret (pe_call G_law_told_rows hr.mo rfl T.m_law_told_rows T.F_law_told_rows.kp T.b_law_told_rows .nil pass0 (pa_cons (pe_op op_sub (pv 1) (pe_op op_pow pe_int pe_int)) pa_nil))))
      pss_nil)
      (pss_cons (ps_set (i := 2) sc_law_rows.nd rfl (Or.inr rfl) (pe_op op_add pe_int (pe_op op_modN (pv 1) pe_int)))
      (pss_cons (ps_if (pt_cmpR op_eqZ (pe_op op_modN (pe_op op_fdivB (pv 1) pe_int) pe_int) pe_int (nomark _))
      (pss_one (ps_set (i := 2) sc_law_rows.nd rfl (Or.inr rfl) (pe_op op_add pe_int (pe_op op_modN (pe_op op_fdivB (pv 1) pe_int) pe_int))))
      pss_nil)
      (pss_cons (ps_set (i := 3) sc_law_rows.nd rfl (Or.inr rfl) (pe_op op_modN (pe_op op_fdivB (pv 1) pe_int) pe_int))
      (pss_cons (ps_set (i := 4) sc_law_rows.nd rfl (Or.inl rfl) (px (pe_lst (pa_cons pe_int (pa_cons pe_int (pa_cons pe_int (pa_cons pe_int (pa_cons pe_int pa_nil)))))) (pv 3)))
      (pss_cons (ps_if (PW.pt (pw_and (pt_cmpR op_eqZ (pe_op op_modN (pe_op op_fdivB (pv 1) pe_int) pe_int) pe_int (nomark _)) (pw_and1 (pt_cmpR op_lt (pe_op op_modN (pv 3) pe_int) pe_int (nomark _)))))
      (pss_one (ps_set (i := 4) sc_law_rows.nd rfl (Or.inl rfl) pe_int))
      pss_nil)
      (pss_cons (ps_set (i := 5) sc_law_rows.nd rfl (Or.inr rfl) (pe_slice sl_B (pv 0) (po_some pe_int) (po_some (pe_op op_add pe_int (pe_op op_mulB (pv 2) (pv 4))))))
      (pss_cons (ps_set (i := 6) sc_law_rows.nd rfl (Or.inl rfl) (pe_lst pa_nil))
      (pss_cons (ps_for PassesOwn.never rfl (pi_range1 rfl T.z_range (pa_cons (pe_callB (call_max2 rfl) rfl T.z_max (by decide +kernel) (pa_cons pe_int (pa_cons (pe_op op_fdivB (pe_callB call_lenB rfl T.z_len (by decide +kernel) (pa_cons (pv 5) pa_nil)) (pv 2)) pa_nil))) pa_nil)) (pg_name (i := 7) sc_law_rows.nd rfl (Or.inr rfl))
      (pss_cons (ps_setCG (i := 8) (xs := ["_law_k"]) (fr := [("_law_many", 2), ("_law_way_here", 3), ("_law_cells", 5), ("_law_i", 7)]) (g := (gName 0)) (tt := (tEl (tCall (sp_law_number) [] E0 (tCons (tCall (sp_law_cell K) [] E0 (tCons (tVar 3) (tCons (tOp (rI0 fun i j => .int (i + j)) (tOp (rI (fun i j => IntMulOk i j) fun i j => .int (i * j)) (tVar 4) (tVar 1)) (tVar 0)) tNil))) (tCons (tVar 2) tNil))))) (compG_ok (sc := defScope s_law_rows) (N := N_law_rows) rfl rfl (by decide +kernel)) rfl sc_law_rows.nd rfl rfl (pi_range1 rfl T.z_range (pa_cons (pv 2) pa_nil)) (fun _ _ _ hE1 => (pg_own (N := ["_law_k", "_law_many", "_law_way_here", "_law_cells", "_law_i"]) (i := 0) hE1 rfl (by decide +kernel))) (fun _ _ _ hE1 => (po_el (pe_call G_law_number hr.mo rfl T.m_law_number T.F_law_number.kp T.b_law_number .nil pass0 (pa_cons (pe_call G_law_cell hr.mo rfl T.m_law_cell T.F_law_cell.kp T.b_law_cell .nil pass0 (pa_cons (pv 3) (pa_cons (pe_op op_add (pe_op op_mulB (pv 4) (pv 1)) (pv 0)) pa_nil))) (pa_cons (pv 2) pa_nil))))))
      (pss_cons (ps_if (PW.pt (pw_and (pt_cmpR op_gt (pv 7) pe_int (nomark _)) (pw_and1 (pt_cmpR op_eqZ (pe_op op_modN (px (pv 8) pe_int) pe_int) pe_int (nomark _)))))
      (pss_cons (ps_set (i := 9) sc_law_rows.nd rfl (Or.inr rfl) (pe_op op_sub (pe_op op_modN (px (pv 8) (pe_un un_neg pe_int)) pe_int) pe_int))
      (pss_one (ps_setCG (i := 8) (xs := ["_law_one", "_law_other"]) (fr := [("_law_by", 9)]) (g := (gTup K 2 (gCons (gName 0) (gCons (gName 1) gNil)))) (tt := (tEl (tOp (rI0 fun i j => .int (i + j)) (tOp (rI (fun i j => IntMulOk i j) fun i j => .int (i * j)) (tC (.int 2)) (tVar 0)) (tOp (rI (fun i j => IntMulOk i j) fun i j => .int (i * j)) (tVar 2) (tVar 1))))) (compG_ok (sc := defScope s_law_rows) (N := N_law_rows) rfl rfl (by decide +kernel)) rfl sc_law_rows.nd rfl rfl (pi_zip rfl T.z_zip (pa_cons (px (pv 6) (pe_op op_sub (pv 7) pe_int)) (pa_cons (px (pv 6) (pe_op op_sub (pv 7) pe_int)) pa_nil))) (fun _ _ _ hE1 => (pg_tup rfl (pgs_cons (pg_own (N := ["_law_one", "_law_other", "_law_by"]) (i := 0) hE1 rfl (by decide +kernel)) (pgs_cons (pg_own (N := ["_law_one", "_law_other", "_law_by"]) (i := 1) hE1 rfl (by decide +kernel)) pgs_nil)))) (fun _ _ _ hE1 => (po_el (pe_op op_add (pe_op op_mulB pe_int (pv 0)) (pe_op op_mulB (pv 2) (pv 1))))))))
      pss_nil)
      (pss_one (ps_expr (pe_bm PySem.F.plainAttrs_list PySem.F.slot_list_append PySem.F.type_list_append mt_append (pv 6) (pa_cons (pv 8) pa_nil)))))))
      (pss_one (ps_ret (pv 6))))))))))))), ?_⟩
    show tSeq _ _ _ [some (.ref a), none, none, none, none, none, none, none, none, none] H
    refine st fun N1 e1 => ?_
    walk_at "r"
    refine ⟨a, ns, 0, rfl, hS, by decide, ?_⟩
    generalize ns.getD (0 : Int).toNat 0 = s0
    · subst e1
      refine st fun N1 e1 => ?_
      walk_at "r"
      refine ⟨⟨by decide, by decide, by decide⟩, ite2 (fun _ => ⟨⟨by decide, by decide, by decide⟩, _, rfl, fun r H' A n d s hM hR n1 n8 d1 d5 => hQ r H' A n d 30 s hM hR (fit_t n8 d5) n1 (by omega) d1 (by omega)⟩) (fun _ => ?_)⟩
      subst e1
      refine st fun N1 e1 => ?_
      walk_at "r"
      refine ⟨by decide, ?_⟩
      have d0 := Int.fmod_nonneg_of_pos s0 (show (0 : Int) < 5 by decide)
      have d1 := Int.fmod_lt_of_pos s0 (show (0 : Int) < 5 by decide)
      generalize s0.fmod 5 = dd at d0 d1
      subst e1
      refine st fun N1 e1 => ?_
      have key : ∀ dm : Int, 1 ≤ dm → dm ≤ 12 → N1 [some (.ref a), some (.int s0), some (.int dm), none, none, none, none, none, none, none] H := by
        intro dm dm1 dm12
        subst e1
        refine st fun N1 e1 => ?_
        walk_at "r"
        refine ⟨dv_s (by decide) (by decide), by decide, ?_⟩
        have w0 := Int.fmod_nonneg_of_pos (s0.fdiv 280) (show (0 : Int) < 5 by decide)
        have w1 := Int.fmod_lt_of_pos (s0.fdiv 280) (show (0 : Int) < 5 by decide)
        obtain ⟨w, ew⟩ := Int.eq_ofNat_of_zero_le w0
        rw [ew] at w1 ⊢
        have w5 : w < 5 := by omega
        subst e1
        refine st fun N1 e1 => ?_
        walk_at "r"
        refine ⟨(by show 5 ≤ sizeLine; decide), fun l0 hl0 => ?_⟩
        have s1 : Same H (upd H l0 (.lst [V.int 14, .int 10, .int 4, .int 3, .int 8])) := Same.new hl0
        have el0 : (upd H l0 (.lst [V.int 14, .int 10, .int 4, .int 3, .int 8])) l0 = some (.lst [V.int 14, .int 10, .int 4, .int 3, .int 8]) := upd_same
        generalize upd H l0 (.lst [V.int 14, .int 10, .int 4, .int 3, .int 8]) = H1 at s1 el0
        obtain ⟨mo, emo, hmo⟩ : ∃ mo : Nat, atI [V.int 14, .int 10, .int 4, .int 3, .int 8] (w : Int) = some (.int mo) ∧ mo ≤ moN w := match w, w5 with
          | 0, _ => ⟨14, rfl, by decide⟩
          | 1, _ => ⟨10, rfl, by decide⟩
          | 2, _ => ⟨4, rfl, by decide⟩
          | 3, _ => ⟨3, rfl, by decide⟩
          | 4, _ => ⟨8, rfl, by decide⟩
        refine ⟨false, l0, _, _, _, rfl, rfl, SqB.lst el0, emo, ?_⟩
        clear el0 emo
        subst e1
        refine st fun N1 e1 => ?_
        have key2 : ∀ m2 : Nat, m2 ≤ moN w → N1 [some (.ref a), some (.int s0), some (.int dm), some (.int (w : Int)), some (.int (m2 : Int)), none, none, none, none, none] H1 := by
          intro m2 hm2
          obtain ⟨D, rfl⟩ := Int.eq_ofNat_of_zero_le (show 0 ≤ dm by omega)
          have moN40 : moN w ≤ 40 := by unfold moN; split <;> omega
          subst e1
          refine st fun N1 e1 => ?_
          walk_at "r"
          refine ⟨few_mul (by omega) (by omega), false, a, _, rfl, s1.seq hS, (fun z => by cases z), fun cl hcl => ?_⟩
          have eDm : 1 + (D : Int) * (m2 : Int) = 1 + ((D * m2 : Nat) : Int) := by rw [Int.natCast_mul]
          rw [eDm]
          obtain ⟨cs, ecs, hc1, hc2⟩ := cut_lenC ns (D * m2)
          rw [ecs]
          have s2 : Same H1 (upd H1 cl (.lst (cs.map V.int))) := Same.new hcl
          have el : (upd H1 cl (seqO false (cs.map V.int))) cl = some (.lst (cs.map V.int)) := upd_same
          change N1 _ (upd H1 cl (.lst (cs.map V.int)))
          change (upd H1 cl (.lst (cs.map V.int))) cl = _ at el
          generalize upd H1 cl (.lst (cs.map V.int)) = H2 at s2 el
          subst e1
          refine st fun N1 e1 => ?_
          walk_at "r"
          refine ⟨Nat.zero_le _, fun l hl => ?_⟩
          subst e1
          refine st fun N1 e1 => for_st fun B eB => ?_
          simp only [iRng1]
          walk_at "r"
          have el2 := Same.new (o := .lst []) hl _ _ el
          refine ints_len (b := false) (SqB.lst el2) ?_
          have hq : ((cs.length : Int).fdiv (D : Int)) = ((cs.length / D : Nat) : Int) := by
            rw [Int.fdiv_eq_ediv_of_nonneg _ (by omega)]
            exact (Int.natCast_ediv _ _).symm
          refine ⟨_, _, rfl, rfl, dv_s (by omega) (by omega), ?_⟩
          have hqm : cs.length / D ≤ m2 := by
            refine Nat.div_le_of_le_mul ?_
            omega
          have hqd : cs.length / D * D ≤ 62 := Nat.le_trans (Nat.div_mul_le_self _ _) (by omega)
          obtain ⟨n, en, n1, nm, nd⟩ : ∃ n : Nat, (if ((cs.length / D : Nat) : Int) > 1 then ((cs.length / D : Nat) : Int) else 1) = (n : Int) ∧ 1 ≤ n ∧ n ≤ moN w ∧ (n * D ≤ 62 ∨ n = 1) := by
            by_cases z : ((cs.length / D : Nat) : Int) > 1
            · exact ⟨cs.length / D, if_pos z, by omega, by omega, .inl hqd⟩
            · exact ⟨1, if_neg z, by omega, by unfold moN; split <;> omega, .inr rfl⟩
          refine ⟨_, rfl, ?_⟩
          rw [hq, en]
          refine ⟨by omega, by omega, ?_⟩
          rw [Int.toNat_natCast]
          refine fr_range (g := gName 7) (tb := B) (RL H2 a cl l s0 D w m2 (nbW w)) ⟨none, none, none, [], rfl, Same.new hl, MatL.nil upd_same, rfl, fun i r e => by simp at e⟩ ?_ ?_
          · rintro i σ H3 hi ⟨v7, v8, v9, M, rfl, s3, hM, ml, hD⟩
            have el3 := s3 _ _ el
            subst eB
            show tSeq _ _ _ [some (.ref a), some (.int s0), some (.int (D : Int)), some (.int (w : Int)), some (.int (m2 : Int)), some (.ref cl), some (.ref l), some (.int (0 + (i : Int))), v8, v9] H3
            refine st fun N2 e2 => ?_
            show tSetC _ _ _ [some (.ref a), some (.int s0), some (.int (D : Int)), some (.int (w : Int)), some (.int (m2 : Int)), some (.ref cl), some (.ref l), some (.int (0 + (i : Int))), v8, v9] H3
            simp only [tSetC]
            refine compE_st fun B' eB' => ?_
            simp only [iRng1]
            walk_at "r"
            refine ⟨by omega, by omega, fun p hp => ?_⟩
            rw [Int.toNat_natCast]
            refine cg_range (fun _ y _ => ∃ x, y = .int x ∧ x.natAbs ≤ 2 ^ nbW w) hp (by omega) (fun _ _ _ _ r _ => r) ?_ ?_
            · intro k H4 zs hk s4 ez Q' hQ'
              subst eB'
              show tCall _ _ _ _ [some (.int (0 + (k : Int))), some (.int (D : Int)), some (.int (w : Int)), some (.ref cl), some (.int (0 + (i : Int)))] H4 Q'
              walk_at "r"
              refine ⟨few_mul (by omega) (by omega), cl, cs, _, rfl, SqL.of (s4 _ _ el3), ?_, ?_⟩
              · have : (0 : Int) ≤ (0 + (i : Int)) * (D : Int) := Int.mul_nonneg (by omega) (by omega)
                omega
              · exact ⟨_, w, rfl, w5, fun z H5 s5 hz => hQ' _ _ s5 ⟨z, rfl, hz⟩⟩
            · intro H4 ys s4 e4 hly hr4
              obtain ⟨xs, rfl, hxs⟩ : ∃ xs : List Int, ys = xs.map V.int ∧ ∀ x ∈ xs, x.natAbs ≤ 2 ^ nbW w := by
                clear e4 hly
                induction ys with
                | nil => exact ⟨[], rfl, fun x hx => by simp at hx⟩
                | cons y r ih =>
                  obtain ⟨x, rfl, sx⟩ := hr4 0 y rfl
                  obtain ⟨xs, rfl, hs⟩ := ih fun j z e => hr4 (j + 1) z (by simpa using e)
                  exact ⟨x :: xs, rfl, fun z hz => (List.mem_cons.mp hz).elim (fun e => e ▸ sx) (hs z)⟩
              have xl : xs.length = D := by simpa using hly
              obtain ⟨ps0, hl0', _⟩ := id hM
              have np : p ≠ l := Ne.symm (ne_of_none hl0' hp)
              have hM4 := hM.up s4
              show N2 [some (.ref a), some (.int s0), some (.int (D : Int)), some (.int (w : Int)), some (.int (m2 : Int)), some (.ref cl), some (.ref l), some (.int (0 + (i : Int))), some (.ref p), v9] H4
              subst e2
              refine st fun N2 e2 => ?_
              have fin : ∀ (v9 : Option V) (p : Addr) (H5 : Hp) (xs : List Int), Same H4 H5 → H5 p = some (.lst (xs.map V.int)) → p ≠ l → xs.length = D → (∀ z ∈ xs, z.natAbs ≤ 2 ^ (nbW w + 3 * i)) →
                  N2 [some (.ref a), some (.int s0), some (.int (D : Int)), some (.int (w : Int)), some (.int (m2 : Int)), some (.ref cl), some (.ref l), some (.int (0 + (i : Int))), some (.ref p), v9] H5 := by
                intro v9 p H5 xs s5 ep np xl xb
                subst e2
                walk_at "r"
                obtain ⟨zs, z1, z2, z3⟩ := (hM4.up s5).app ep np
                refine ⟨.inl ⟨rfl, _, SqL.of z1⟩, l, zs, _, rfl, rfl, z1, small1000 (by rw [z2, ml]; omega), ?_⟩
                exact ⟨_, _, _, _, rfl, Same.over hl (s3.trans (s4.trans s5)), z3, by simp [ml], hD.app xl (by rw [ml]; exact xb)⟩
              have plain : ∀ z ∈ xs, z.natAbs ≤ 2 ^ (nbW w + 3 * i) := fun z hz => Nat.le_trans (hxs z hz) (Nat.pow_le_pow_right (by decide) (by omega))
              walk_at "r"
              refine ite2 (fun z1 => ?_) (fun _ => fin v9 p H4 xs (Same.refl _) e4 np xl plain)
              have hi1 : (1 : Int) < 0 + (i : Int) := of_decide_eq_true z1
              refine ⟨false, p, _, _, _, rfl, rfl, SqB.lst e4, atI_at (int_at (getD_at (show 0 < xs.length by omega))) rfl, _, _, rfl, rfl, (show ¬ (4 : Int) = 0 by decide), ?_⟩
              walk_at "r"
              refine ite2 (fun z2 => ?_) (fun _ => fin v9 p H4 xs (Same.refl _) e4 np xl plain)
              refine ⟨false, p, _, _, _, rfl, rfl, SqB.lst e4, atI_back (int_at (getD_at (show xs.length - 1 < xs.length by omega))) (by simp; omega), _, _, rfl, rfl, (show ¬ (7 : Int) = 0 by decide), ?_⟩
              have b0 := Int.fmod_nonneg_of_pos (xs.getD (xs.length - 1) 0) (show (0 : Int) < 7 by decide)
              have b1 := Int.fmod_lt_of_pos (xs.getD (xs.length - 1) 0) (show (0 : Int) < 7 by decide)
              walk_at "r"
              generalize (xs.getD (xs.length - 1) 0).fmod 7 = bb at b0 b1 ⊢
              obtain ⟨i2, rfl⟩ : ∃ i2, i = i2 + 2 := ⟨i - 2, by omega⟩
              obtain ⟨r1, er1⟩ : ∃ r, M[i2 + 1]? = some r := ⟨_, List.getElem?_eq_getElem (by omega)⟩
              obtain ⟨r2, er2⟩ : ∃ r, M[i2]? = some r := ⟨_, List.getElem?_eq_getElem (by omega)⟩
              obtain ⟨q1, q2⟩ := hD _ r1 er1
              obtain ⟨q3, q4⟩ := hD _ r2 er2
              rw [Int.toNat_natCast] at q1 q3
              refine compE_st fun B' eB' => ?_
              simp only [iZip]
              walk_at "r"
              refine mat_row (hM4.b (K := K)) er1 (by omega) fun p1 hp1 => ?_
              refine mat_row (hM4.b (K := K)) er2 (by omega) fun p2 hp2 => ?_
              refine ⟨false, false, p1, rfl, p2, rfl, ⟨_, hp1⟩, ⟨_, hp2⟩, fun c1 hc1 => ?_⟩
              refine cg_zip (fun j y _ => ∃ m n, r1[j]? = some m ∧ r2[j]? = some n ∧ y = .int (2 * m + (bb - 3) * n)) hc1 hp1 hp2 (by simp; omega) (by simp; omega) (fun _ _ _ _ r _ => r) ?_ ?_
              · intro j x y H5 zs ex ey s5 ez Q' hQ'
                obtain ⟨m, em, rfl⟩ := ints_at ex
                obtain ⟨nn, en', rfl⟩ := ints_at ey
                subst eB'
                show tOp _ _ _ [some (.int m), some (.int nn), some (.int (bb - 3))] H5 Q'
                walk_at "r"
                exact ⟨IntMulOk.of_left (by decide), few_mul (by omega) (by omega), hQ' _ _ (Same.refl _) ⟨m, nn, em, en', rfl⟩⟩
              · intro H5 zs s5 ez hlz hr'
                have ey : zs = (List.zipWith (fun m n => 2 * m + (bb - 3) * n) r1 r2).map V.int := by
                  refine list_is (by simp at hlz ⊢; omega) fun j y e => ?_
                  obtain ⟨m, nn, em, en', rfl⟩ := hr' j y e
                  exact ⟨2 * m + (bb - 3) * nn, by rw [List.getElem?_zipWith, em, en'], rfl⟩
                subst ey
                refine fin _ c1 H5 _ s5 ez (Ne.symm (ne_of_none (s4 _ _ hl0') hc1)) (by simp; omega) fun z hz => ?_
                obtain ⟨j, hj, rfl⟩ := List.getElem_of_mem hz
                rw [List.length_zipWith] at hj
                rw [List.getElem_zipWith]
                have := mix_le (E := nbW w + 3 * i2) (m := bb - 3) (q2 _ (List.getElem_mem (show j < r1.length by omega))) (q4 _ (List.getElem_mem (show j < r2.length by omega))) (by omega)
                exact Nat.le_trans this (Nat.pow_le_pow_right (by decide) (by omega))
          · rintro σ H3 ⟨v7, v8, v9, M, rfl, s3, hM, ml, hD⟩
            subst e1
            walk_at "r"
            rw [Int.toNat_natCast] at hD
            exact hQ l H3 M n D _ (s1.trans (s2.trans s3)) hM (hD.rws ml) (fit_d w5 nm (by omega) nd) n1 (by omega) (by omega) (by omega)
        walk_at "r"
        refine ⟨dv_s (by decide) (by decide), by decide, ite2 (fun _ => ?_) (fun _ => key2 mo hmo)⟩
        refine ⟨by decide, ite2 (fun z => ?_) (fun _ => key2 mo hmo)⟩
        refine key2 40 ?_
        have hz : ((w : Int).fmod 4) < 2 := of_decide_eq_true z
        have : w ≠ 2 ∧ w ≠ 3 := ⟨fun e => by rw [e] at hz; revert hz; decide, fun e => by rw [e] at hz; revert hz; decide⟩
        unfold moN
        split <;> omega
      walk_at "r"
      refine ⟨dv_s (by decide) (by decide), by decide, ite2 (fun _ => ?_) (fun _ => key (1 + dd) (by omega) (by omega))⟩
      have m0 := Int.fmod_nonneg_of_pos (s0.fdiv 40) (show (0 : Int) < 7 by decide)
      have m1 := Int.fmod_lt_of_pos (s0.fdiv 40) (show (0 : Int) < 7 by decide)
      exact ⟨dv_s (by decide) (by decide), by decide, key _ (by omega) (by omega)⟩
theorem matL_wk {H : Hp} {a : Addr} {A : LM} (h : MatL H a A) : ∃ ps : List Addr, H a = some (.lst (ps.map V.ref)) ∧ ps.length = A.length ∧ ∀ (i : Nat) x, (ps.map V.ref)[i]? = some x → ∃ p r, x = .ref p ∧ ps[i]? = some p ∧ A[i]? = some r ∧ p ≠ a ∧ H p = some (.lst (r.map V.int)) := by
  obtain ⟨ps, h1, h2, h3⟩ := h
  refine ⟨ps, h1, h2, fun i x e => ?_⟩
  rw [List.getElem?_map] at e
  cases ep : ps[i]? with
  | none => rw [ep] at e; cases e
  | some p =>
    rw [ep] at e
    cases e
    have hi := (List.getElem?_eq_some_iff.mp ep).1
    have er : A[i]? = some A[i] := List.getElem?_eq_getElem (by omega)
    exact ⟨p, _, rfl, rfl, er, h3 i p _ ep er⟩
noncomputable abbrev sp_law_dot (K : Frag) : Sp := sp_dot K
theorem ok_law_dot (T : Txt K mg t) : FnOk P w K mg base CX0 1 t.a_law_dot t.d_law_dot ["_law_one", "_law_other"] (sp_law_dot K) := by
  refine T.F_law_dot.ok sc_law_dot (by walk_at "v") (fun cdv A outer s H vs Q E hr h => ?_)
  · obtain ⟨b1, b2, p, q, ms, ns, rfl, h1, h2, hl, hz, hm, hQ⟩ := h
    refine ⟨_, (pss_one (ps_ret (pe_callB (call_sum rfl) rfl T.z_sum (by decide +kernel) (pa_cons (pe_compG (xs := ["_law_number_here", "_law_more"]) (fr := []) (g := (gTup K 2 (gCons (gName 0) (gCons (gName 1) gNil)))) (tt := (tEl (tOp (rI (fun i j => IntMulOk i j) fun i j => .int (i * j)) (tVar 0) (tVar 1)))) (compG_ok (sc := defScope s_law_dot) (N := N_law_dot) rfl rfl (by decide +kernel)) rfl (pi_zip rfl T.z_zip (pa_cons (pv 0) (pa_cons (pv 1) pa_nil))) (fun _ _ _ hE1 => (pg_tup rfl (pgs_cons (pg_own (N := ["_law_number_here", "_law_more"]) (i := 0) hE1 rfl (by decide +kernel)) (pgs_cons (pg_own (N := ["_law_number_here", "_law_more"]) (i := 1) hE1 rfl (by decide +kernel)) pgs_nil)))) (fun _ _ _ hE1 => (po_el (pe_op op_mulB (pv 0) (pv 1))))) pa_nil)))), ?_⟩
    show tRet _ _ [some (.ref p), some (.ref q)] H
    walk_at "r"
    refine compE_st fun B eB => ?_
    simp only [iZip]
    walk_at "r"
    refine ⟨b1, ⟨_, h1⟩, b2, ⟨_, h2⟩, fun a ha => ?_⟩
    refine cg_zip (fun j y _ => ∃ m n, ms[j]? = some m ∧ ns[j]? = some n ∧ y = .int (m * n)) ha h1 h2 (by simpa using hl) (by simpa using hz) (fun _ _ _ _ r _ => r) ?_ ?_
    · intro i x y H1 zs ex ey s1 ez Q' hQ'
      obtain ⟨m, em, rfl⟩ := ints_at ex
      obtain ⟨n, en, rfl⟩ := ints_at ey
      subst eB
      show tOp _ _ _ [some (.int m), some (.int n)] H1 Q'
      walk_at "r"
      exact ⟨hm i m n em en, hQ' _ _ (Same.refl _) ⟨m, n, em, en, rfl⟩⟩
    · intro H1 zs s1 ez hlz hr'
      have ey : zs = (List.zipWith (· * ·) ms ns).map V.int := by
        refine list_is (by simp at hlz ⊢; omega) fun j y e => ?_
        obtain ⟨m, n, em, en, rfl⟩ := hr' j y e
        exact ⟨m * n, by rw [List.getElem?_zipWith, em, en], rfl⟩
      subst ey
      exact ⟨_, rfl, _, SqL.of ez, hQ H1 s1⟩
noncomputable def sp_law_from_end (K : Frag) : Sp := fun vs H Q _ => ∃ (a : Addr) (ns : List Int) (k : Int), vs = [.ref a, .int k] ∧ SqL K H a (ns.map V.int) ∧ 0 ≤ k ∧ ∀ z : Int, Q (.int z) H
theorem ok_law_from_end (T : Txt K mg t) : FnOk P w K mg base CX0 1 t.a_law_from_end t.d_law_from_end ["_law_script", "_law_k"] (sp_law_from_end K) := by
  refine T.F_law_from_end.ok sc_law_from_end (by walk_at "v") (fun cdv A outer s H vs Q E hr h => ?_)
  · obtain ⟨a, ns, k, rfl, hS, k0, q⟩ := h
    refine ⟨_, (pss_cons (ps_if (pt_cmpR op_lt (pv 1) (pe_callB call_lenB rfl T.z_len (by decide +kernel) (pa_cons (pv 0) pa_nil)) (nomark _))
      (pss_one (ps_ret (px (pv 0) (pe_op op_sub (pe_op op_sub (pe_callB call_lenB rfl T.z_len (by decide +kernel) (pa_cons (pv 0) pa_nil)) pe_int) (pv 1)))))
      pss_nil)
      (pss_one (ps_ret (pv 1)))), ?_⟩
    show tSeq _ _ _ [some (.ref a), some (.int k)] H
    refine st fun N1 e1 => ?_
    walk_at "r"
    refine ⟨false, a, _, rfl, hS, ?_⟩
    rw [List.length_map]
    walk_at "r"
    refine ite2 (fun z => ?_) (fun _ => ?_)
    · have hk : k < ns.length := of_decide_eq_true z
      refine ⟨false, a, _, rfl, hS, ?_⟩
      rw [List.length_map]
      walk_at "r"
      exact ⟨false, a, _, _, _, rfl, rfl, hS, atI_ints (by omega) (by omega), q _⟩
    · subst e1
      walk_at "r"
      exact q _
noncomputable def sp_law_some (K : Frag) : Sp := fun vs H Q _ => ∃ (a : Addr) (ns : List Int) (f m : Nat), vs = [.ref a, .int f, .int m] ∧ SqL K H a (ns.map V.int) ∧ m ≤ 63 ∧ ∀ (r : Addr) (H' : Hp) (xs : List Int), Same H H' → H' r = some (.lst (xs.map V.int)) → xs.length = m → (∀ z ∈ xs, z.natAbs ≤ 2 ^ 67) → Q (.ref r) H'
theorem ok_law_some (T : Txt K mg t) : FnOk P w K mg base CX0 2 t.a_law_some t.d_law_some ["_law_script", "_law_first", "_law_many"] (sp_law_some K) := by
  have G_law_cell : FnOk P w K mg base CX0 1 t.a_law_cell t.d_law_cell ["_law_script", "_law_k"] (sp_law_cell K) := ok_law_cell T
  have G_law_from_end : FnOk P w K mg base CX0 1 t.a_law_from_end t.d_law_from_end ["_law_script", "_law_k"] (sp_law_from_end K) := ok_law_from_end T
  refine T.F_law_some.ok sc_law_some (by walk_at "v") (fun cdv A outer s H vs Q E hr h => ?_)
  · obtain ⟨a, ns, f, m, rfl, hS, m63, q⟩ := h
    refine ⟨_, (pss_cons (ps_set (i := 3) sc_law_some.nd rfl (Or.inl rfl) (pe_op op_fdivB (pe_call G_law_cell hr.mo rfl T.m_law_cell T.F_law_cell.kp T.b_law_cell .nil pass0 (pa_cons (pv 0) (pa_cons pe_int pa_nil))) pe_int))
      (pss_cons (ps_set (i := 4) sc_law_some.nd rfl (Or.inr rfl) (px (pe_lst (pa_cons pe_int (pa_cons (pe_op op_pow pe_int pe_int) pa_nil))) (pe_op op_modN (pv 3) pe_int)))
      (pss_one (ps_ret (pe_compG (xs := ["_law_k"]) (fr := [("_law_script", 0), ("_law_first", 1), ("_law_most", 4)]) (g := (gName 0)) (tt := (tEl (tOp (rI0 fun i j => .int (i - j)) (tOp (rI (fun _ j => j ≠ 0) fun i j => .int (i.fmod j)) (tOp (rI0 fun i j => .int (i + j)) (tCall (sp_law_from_end K) [] E0 (tCons (tVar 1) (tCons (tOp (rI0 fun i j => .int (i + j)) (tVar 2) (tVar 0)) tNil))) (tVar 3)) (tOp (rI0 fun i j => .int (i + j)) (tOp (rI (fun i j => IntMulOk i j) fun i j => .int (i * j)) (tC (.int 2)) (tVar 3)) (tC (.int 1)))) (tVar 3)))) (compG_ok (sc := defScope s_law_some) (N := N_law_some) rfl rfl (by decide +kernel)) rfl (pi_range1 rfl T.z_range (pa_cons (pv 2) pa_nil)) (fun _ _ _ hE1 => (pg_own (N := ["_law_k", "_law_script", "_law_first", "_law_most"]) (i := 0) hE1 rfl (by decide +kernel))) (fun _ _ _ hE1 => (po_el (pe_op op_sub (pe_op op_modN (pe_op op_add (pe_call G_law_from_end hr.mo rfl T.m_law_from_end T.F_law_from_end.kp T.b_law_from_end .nil pass0 (pa_cons (pv 1) (pa_cons (pe_op op_add (pv 2) (pv 0)) pa_nil))) (pv 3)) (pe_op op_add (pe_op op_mulB pe_int (pv 3)) pe_int)) (pv 3))))))))), ?_⟩
    show tSeq _ _ _ [some (.ref a), some (.int f), some (.int m), none, none] H
    refine st fun N1 e1 => ?_
    walk_at "r"
    refine ⟨a, ns, 0, rfl, hS, by decide, _, _, rfl, rfl, dv_s (by decide) (by decide), ?_⟩
    dsimp only
    generalize (ns.getD (0 : Int).toNat 0).fdiv 22400 = s0
    subst e1
    refine st fun N1 e1 => ?_
    walk_at "r"
    refine ⟨⟨by decide, by decide, by decide⟩, (by show 2 ≤ sizeLine; decide), fun l hl => ⟨by decide, ?_⟩⟩
    have b0 := Int.fmod_nonneg_of_pos s0 (show (0 : Int) < 2 by decide)
    have b1 := Int.fmod_lt_of_pos s0 (show (0 : Int) < 2 by decide)
    generalize s0.fmod 2 = bb at b0 b1
    have s1 : Same H (upd H l (.lst [V.int 20, .int (10 ^ Int.toNat 20)])) := Same.new hl
    have el : (upd H l (.lst [V.int 20, .int (10 ^ Int.toNat 20)])) l = some (.lst [V.int 20, .int (10 ^ Int.toNat 20)]) := upd_same
    generalize upd H l (.lst [V.int 20, .int (10 ^ Int.toNat 20)]) = H1 at s1 el
    have key : ∀ mo : Int, 20 ≤ mo → mo ≤ 100000000000000000000 → N1 [some (.ref a), some (.int f), some (.int m), some (.int s0), some (.int mo)] H1 := by
      intro mo m0 m1
      subst e1
      walk_at "r"
      refine compE_st fun B eB => ?_
      simp only [iRng1]
      walk_at "r"
      refine ⟨by omega, by omega, fun p hp => ?_⟩
      rw [Int.toNat_natCast]
      refine cg_range (fun _ y _ => ∃ x, y = .int x ∧ x.natAbs ≤ 2 ^ 67) hp (by omega) (fun _ _ _ _ r _ => r) ?_ ?_
      · intro k H2 zs hk s2 ez Q' hQ'
        subst eB
        show tOp _ _ _ [some (.int (0 + (k : Int))), some (.ref a), some (.int f), some (.int mo)] H2 Q'
        walk_at "r"
        refine ⟨a, ns, _, rfl, s2.seq (s1.seq hS), by omega, fun z => ?_⟩
        walk_at "r"
        have f2 := Int.fmod_nonneg_of_pos (z + mo) (show 0 < 2 * mo + 1 by omega)
        have f3 := Int.fmod_lt_of_pos (z + mo) (show 0 < 2 * mo + 1 by omega)
        exact ⟨IntMulOk.of_left (by decide), by omega, hQ' _ _ (Same.refl _) ⟨_, rfl, by omega⟩⟩
      · intro H2 ys s2 e2 hly hr2
        obtain ⟨xs, rfl, hxs⟩ : ∃ xs : List Int, ys = xs.map V.int ∧ ∀ x ∈ xs, x.natAbs ≤ 2 ^ 67 := by
          clear e2 hly
          induction ys with
          | nil => exact ⟨[], rfl, fun x hx => by simp at hx⟩
          | cons y r ih =>
            obtain ⟨x, rfl, sx⟩ := hr2 0 y rfl
            obtain ⟨xs, rfl, hs⟩ := ih fun j z e => hr2 (j + 1) z (by simpa using e)
            exact ⟨x :: xs, rfl, fun z hz => (List.mem_cons.mp hz).elim (fun e => e ▸ sx) (hs z)⟩
        exact q p H2 xs (s1.trans s2) e2 (by simpa using hly) hxs
    have e01 : bb = 0 ∨ bb = 1 := by omega
    rcases e01 with rfl | rfl
    · exact ⟨false, l, _, _, _, rfl, rfl, SqB.lst el, rfl, key 20 (by omega) (by omega)⟩
    · exact ⟨false, l, _, _, _, rfl, rfl, SqB.lst el, rfl, key _ (by decide) (by decide)⟩
theorem gcd_fmod (x y : Int) : gcdI y (x.fmod y) = gcdI x y := by
  unfold gcdI
  refine Int.dvd_antisymm (Int.natCast_nonneg _) (Int.natCast_nonneg _) ?_ ?_
  · rw [Int.dvd_coe_gcd_iff]
    have := Int.dvd_coe_gcd_iff.mp (Int.dvd_refl (Int.gcd y (x.fmod y) : Int))
    exact ⟨(fmod_dvd this.1).mp this.2, this.1⟩
  · rw [Int.dvd_coe_gcd_iff]
    have := Int.dvd_coe_gcd_iff.mp (Int.dvd_refl (Int.gcd x y : Int))
    exact ⟨this.2, (fmod_dvd this.2).mpr this.1⟩
noncomputable def sp_law_divides : Sp := fun vs H Q _ => ∃ a b : Int, vs = [.int a, .int b] ∧ ∀ H', Same H H' → Q (.int (gcdI a b)) H'
noncomputable def GD (H : Hp) (a b : Int) (m : Nat) (σ : St) (H2 : Hp) : Prop := ∃ (l : Addr) (x y : Int), σ = [some (.int a), some (.int b), some (.ref l)] ∧ Same H H2 ∧ H2 l = some (.lst [.int x, .int y]) ∧ 0 ≤ x ∧ 0 ≤ y ∧ gcdI x y = gcdI a b ∧ m = y.toNat
theorem ok_law_divides (T : Txt K mg t) : FnOk P w K mg base CX0 1 t.a_law_divides t.d_law_divides ["_law_one", "_law_other"] sp_law_divides := by
  refine T.F_law_divides.ok sc_law_divides (by walk_at "v") (fun cdv A outer s H vs Q E hr h => ?_)
  · obtain ⟨a, b, rfl, q⟩ := h
    refine ⟨_, (pss_cons (ps_set (i := 2) sc_law_divides.nd rfl (Or.inl rfl) (pe_lst (pa_cons (pe_callB call_abs rfl T.z_abs (by decide +kernel) (pa_cons (pv 0) pa_nil)) (pa_cons (pe_callB call_abs rfl T.z_abs (by decide +kernel) (pa_cons (pv 1) pa_nil)) pa_nil))))
      (pss_cons (ps_while PassesOwn.never (pt_cmpR op_neZ (px (pv 2) pe_int) pe_int (nomark _))
      (pss_one (ps_set (i := 2) sc_law_divides.nd rfl (Or.inl rfl) (pe_lst (pa_cons (px (pv 2) pe_int) (pa_cons (pe_op op_modN (px (pv 2) pe_int) (px (pv 2) pe_int)) pa_nil))))))
      (pss_one (ps_ret (px (pv 2) pe_int))))), ?_⟩
    show tSeq _ _ _ [some (.int a), some (.int b), none] H
    refine st fun N1 e1 => ?_
    walk_at "r"
    refine ⟨(by show 2 ≤ sizeLine; decide), fun l hl => ?_⟩
    subst e1
    refine st fun N1 e1 => while_st fun B eB => ?_
    refine ⟨GD H a b, ⟨_, l, _, _, rfl, Same.new hl, upd_same, by split <;> omega, by split <;> omega, ?_, rfl⟩, ?_⟩
    · unfold gcdI
      congr 1
      unfold Int.gcd
      congr 1 <;> (split <;> omega)
    rintro m σ H2 ⟨l2, x, y, rfl, s2, el, x0, y0, eg, rfl⟩
    have i0 : atI [V.int x, .int y] 0 = some (.int x) := rfl
    have i1 : atI [V.int x, .int y] 1 = some (.int y) := rfl
    walk_at "r"
    refine ⟨false, l2, _, _, _, rfl, rfl, SqB.lst el, i1, ?_⟩
    walk_at "r"
    refine ite2 (fun z => ?_) (fun z => ?_)
    · have yn : y ≠ 0 := by simpa using z
      refine ⟨fun σ' H' => ∃ m', m' < y.toNat ∧ GD H a b m' σ' H', fun σ' H' h => h, ?_⟩
      subst eB
      walk_at "r"
      refine ⟨false, l2, _, _, _, rfl, rfl, SqB.lst el, i1, false, l2, _, _, _, rfl, rfl, SqB.lst el, i0, false, l2, _, _, _, rfl, rfl, SqB.lst el, i1, _, _, rfl, rfl, yn, (by show 2 ≤ sizeLine; decide), fun l3 hl3 => ?_⟩
      have f2 := Int.fmod_nonneg_of_pos x (show 0 < y by omega)
      have f3 := Int.fmod_lt_of_pos x (show 0 < y by omega)
      refine ⟨_, ?_, l3, _, _, rfl, s2.trans (Same.new hl3), upd_same, y0, f2, ?_, rfl⟩
      · omega
      · rw [← eg]
        exact gcd_fmod x y
    · have yz : y = 0 := by simpa using z
      subst e1
      walk_at "r"
      refine ⟨false, l2, _, _, _, rfl, rfl, SqB.lst el, i0, ?_⟩
      have : x = gcdI a b := by
        rw [← eg, yz]
        unfold gcdI
        rw [Int.gcd_zero_right]
        omega
      rw [this]
      exact q H2 s2
noncomputable def sp_law_spot (K : Frag) : Sp := fun vs H Q _ => ∃ (a ar : Addr) (ns : List Int) (A : LM) (n d B : Nat), vs = [.ref a, .ref ar] ∧ SqL K H a (ns.map V.int) ∧ MatL H ar A ∧ Rws n d B A ∧ 1 ≤ n ∧ n ≤ 40 ∧ 1 ≤ d ∧ d ≤ 12 ∧ B ≤ uS ∧
  ∀ (r l : Addr) (xs : List Int) (low : Int) (H' : Hp), Same H H' → H' r = some (.lst [.ref l, .int low]) → H' l = some (.lst (xs.map V.int)) → xs.length = n → (∀ z ∈ xs, z.natAbs ≤ 2 ^ (B + 89)) → 1 ≤ low → low ≤ 1000000 → Q (.ref r) H'
theorem ok_law_spot (T : Txt K mg t) : FnOk P w K mg base CX0 3 t.a_law_spot t.d_law_spot ["_law_script", "_law_rows_here"] (sp_law_spot K) := by
  have G_law_cell : FnOk P w K mg base CX0 1 t.a_law_cell t.d_law_cell ["_law_script", "_law_k"] (sp_law_cell K) := ok_law_cell T
  have G_law_from_end : FnOk P w K mg base CX0 1 t.a_law_from_end t.d_law_from_end ["_law_script", "_law_k"] (sp_law_from_end K) := ok_law_from_end T
  have G_law_some : FnOk P w K mg base CX0 2 t.a_law_some t.d_law_some ["_law_script", "_law_first", "_law_many"] (sp_law_some K) := ok_law_some T
  have G_law_dot : FnOk P w K mg base CX0 1 t.a_law_dot t.d_law_dot ["_law_one", "_law_other"] (sp_law_dot K) := ok_law_dot T
  refine T.F_law_spot.ok sc_law_spot (by walk_at "v") (fun cdv A outer s H vs Q E hr h => ?_)
  · obtain ⟨a, ar, ns, MA, n, d, B, rfl, hS, hM, ⟨mn, mw, mb⟩, n1, n40, d1, d12, hB, hQ⟩ := h
    have eU : uS = 1048576 := rfl
    refine ⟨_, (pss_cons (ps_set (i := 2) sc_law_spot.nd rfl (Or.inl rfl) (pe_op op_fdivB (pe_call G_law_cell hr.mo rfl T.m_law_cell T.F_law_cell.kp T.b_law_cell .nil pass0 (pa_cons (pv 0) (pa_cons pe_int pa_nil))) pe_int))
      (pss_cons (ps_set (i := 3) sc_law_spot.nd rfl (Or.inl rfl) (pe_op op_modN (pv 2) pe_int))
      (pss_cons (ps_set (i := 4) sc_law_spot.nd rfl (Or.inr rfl) (pe_op op_add pe_int (pe_op op_modN (pe_call G_law_from_end hr.mo rfl T.m_law_from_end T.F_law_from_end.kp T.b_law_from_end .nil pass0 (pa_cons (pv 0) (pa_cons pe_int pa_nil))) (px (pe_lst (pa_cons pe_int (pa_cons (pe_op op_pow pe_int pe_int) pa_nil))) (pe_op op_modN (pe_op op_fdivB (pv 2) pe_int) pe_int)))))
      (pss_cons (ps_if (pt_cmpR op_eqZ (pv 3) pe_int (nomark _))
      (pss_one (ps_ret (pe_lst (pa_cons (pe_call G_law_some hr.mo rfl T.m_law_some T.F_law_some.kp T.b_law_some .nil pass0 (pa_cons (pv 0) (pa_cons pe_int (pa_cons (pe_callB call_lenB rfl T.z_len (by decide +kernel) (pa_cons (pv 1) pa_nil)) pa_nil)))) (pa_cons (pv 4) pa_nil)))))
      pss_nil)
      (pss_cons (ps_set (i := 5) sc_law_spot.nd rfl (Or.inr rfl) (pe_call G_law_some hr.mo rfl T.m_law_some T.F_law_some.kp T.b_law_some .nil pass0 (pa_cons (pv 0) (pa_cons pe_int (pa_cons (pe_callB call_lenB rfl T.z_len (by decide +kernel) (pa_cons (px (pv 1) pe_int) pa_nil)) pa_nil)))))
      (pss_cons (ps_set (i := 6) sc_law_spot.nd rfl (Or.inl rfl) (pe_call G_law_some hr.mo rfl T.m_law_some T.F_law_some.kp T.b_law_some .nil pass0 (pa_cons (pv 0) (pa_cons (pe_op op_add pe_int (pe_callB call_lenB rfl T.z_len (by decide +kernel) (pa_cons (px (pv 1) pe_int) pa_nil))) (pa_cons (pe_callB call_lenB rfl T.z_len (by decide +kernel) (pa_cons (pv 1) pa_nil)) pa_nil)))))
      (pss_cons (ps_setCG (i := 7) (xs := ["_law_row", "_law_far"]) (fr := [("_law_low", 4), ("_law_drawn", 5)]) (g := (gTup K 2 (gCons (gName 0) (gCons (gName 1) gNil)))) (tt := (tEl (tOp (rI0 fun i j => .int (i + j)) (tCall (sp_law_dot K) [] E0 (tCons (tVar 0) (tCons (tVar 3) tNil))) (tOp (rI (fun i j => IntMulOk i j) fun i j => .int (i * j)) (tVar 2) (tVar 1))))) (compG_ok (sc := defScope s_law_spot) (N := N_law_spot) rfl rfl (by decide +kernel)) rfl sc_law_spot.nd rfl rfl (pi_zip rfl T.z_zip (pa_cons (pv 1) (pa_cons (pv 6) pa_nil))) (fun _ _ _ hE1 => (pg_tup rfl (pgs_cons (pg_own (N := ["_law_row", "_law_far", "_law_low", "_law_drawn"]) (i := 0) hE1 rfl (by decide +kernel)) (pgs_cons (pg_own (N := ["_law_row", "_law_far", "_law_low", "_law_drawn"]) (i := 1) hE1 rfl (by decide +kernel)) pgs_nil)))) (fun _ _ _ hE1 => (po_el (pe_op op_add (pe_call G_law_dot hr.mo rfl T.m_law_dot T.F_law_dot.kp T.b_law_dot .nil pass0 (pa_cons (pv 0) (pa_cons (pv 3) pa_nil))) (pe_op op_mulB (pv 2) (pv 1))))))
      (pss_cons (ps_if (pt_cmpR op_eqZ (pv 3) pe_int (nomark _))
      (pss_one (ps_augS (pv 7) (pe_op op_modN (pe_op op_fdivB (pv 2) pe_int) (pe_callB call_lenB rfl T.z_len (by decide +kernel) (pa_cons (pv 1) pa_nil))) get_listL pe_int ip_add set_list))
      pss_nil)
      (pss_one (ps_ret (pe_lst (pa_cons (pv 7) (pa_cons (pv 4) pa_nil))))))))))))), ?_⟩
    show tSeq _ _ _ [some (.ref a), some (.ref ar), none, none, none, none, none, none] H
    refine st fun N1 e1 => ?_
    walk_at "r"
    refine ⟨a, ns, 0, rfl, hS, by decide, _, _, rfl, rfl, dv_s (by decide) (by decide), ?_⟩
    dsimp only
    generalize (ns.getD (0 : Int).toNat 0).fdiv 44800 = s0
    subst e1
    refine st fun N1 e1 => ?_
    walk_at "r"
    refine ⟨by decide, ?_⟩
    generalize s0.fmod 3 = wy
    subst e1
    refine st fun N1 e1 => ?_
    walk_at "r"
    refine ⟨a, ns, 0, rfl, hS, by decide, fun z0 => ?_⟩
    walk_at "r"
    refine ⟨⟨by decide, by decide, by decide⟩, (by show 2 ≤ sizeLine; decide), fun l0 hl0 => ⟨dv_s (by decide) (by decide), by decide, ?_⟩⟩
    have b0 := Int.fmod_nonneg_of_pos (s0.fdiv 3) (show (0 : Int) < 2 by decide)
    have b1 := Int.fmod_lt_of_pos (s0.fdiv 3) (show (0 : Int) < 2 by decide)
    generalize (s0.fdiv 3).fmod 2 = bb at b0 b1
    have s1 : Same H (upd H l0 (.lst [V.int 12, .int (10 ^ Int.toNat 6)])) := Same.new hl0
    have el0 : (upd H l0 (.lst [V.int 12, .int (10 ^ Int.toNat 6)])) l0 = some (.lst [V.int 12, .int (10 ^ Int.toNat 6)]) := upd_same
    generalize upd H l0 (.lst [V.int 12, .int (10 ^ Int.toNat 6)]) = H1 at s1 el0
    have hM1 := hM.up s1
    obtain ⟨r0, e0⟩ : ∃ r0, MA[0]? = some r0 := ⟨_, List.getElem?_eq_getElem (by omega)⟩
    have wr0 := mw r0 (List.mem_of_getElem? e0)
    have key : ∀ low : Int, 1 ≤ low → low ≤ 1000000 → N1 [some (.ref a), some (.ref ar), some (.int s0), some (.int wy), some (.int low), none, none, none] H1 := by
      intro low lo0 lo1
      subst e1
      refine st fun N1 e1 => ?_
      walk_at "r"
      refine ite2 (fun _ => ?_) (fun _ => ?_)
      · refine mat_len (hM1.b (K := K)) ?_
        rw [mn]
        refine ⟨a, ns, 1, n, rfl, s1.seq hS, by omega, fun r H2 xs s2 er xl xb => ?_⟩
        refine ⟨(by show 2 ≤ sizeLine; decide), fun p hp => ?_⟩
        exact hQ p r xs low _ (s1.trans (s2.trans (Same.new hp))) upd_same (Same.new hp _ _ er) xl (fun z hz => Nat.le_trans (xb z hz) (Nat.pow_le_pow_right (by decide) (by omega))) lo0 lo1
      · subst e1
        refine st fun N1 e1 => ?_
        walk_at "r"
        refine mat_row (hM1.b (K := K)) e0 rfl fun p0 hp0 => ints_len hp0 ?_
        rw [wr0]
        refine ⟨a, ns, 1, d, rfl, s1.seq hS, by omega, fun r H2 ds s2 er dl db => ?_⟩
        have hM2 := hM1.up s2
        show N1 [some (.ref a), some (.ref ar), some (.int s0), some (.int wy), some (.int low), some (.ref r), none, none] H2
        subst e1
        refine st fun N1 e1 => ?_
        walk_at "r"
        refine mat_row (hM2.b (K := K)) e0 rfl fun p0' hp0' => ints_len hp0' ?_
        rw [wr0]
        refine ⟨_, _, rfl, rfl, ?_⟩
        dsimp only
        rw [show (1 : Int) + (d : Int) = ((1 + d : Nat) : Int) by omega]
        refine mat_len (hM2.b (K := K)) ?_
        rw [mn]
        refine ⟨a, ns, 1 + d, n, rfl, (s1.trans s2).seq hS, by omega, fun rm H2' ms s2' erm ml mb2 => ?_⟩
        have hM2' := hM2.up s2'
        have er' := s2' _ _ er
        show N1 [some (.ref a), some (.ref ar), some (.int s0), some (.int wy), some (.int low), some (.ref r), some (.ref rm), none] H2'
        subst e1
        refine st fun N1 e1 => ?_
        simp only [tSetC]
        refine compE_st fun B' eB => ?_
        simp only [iZip]
        walk_at "r"
        obtain ⟨ps, h1, h2, h3⟩ := matL_wk hM2'
        refine ⟨false, ⟨_, SqB.lst h1⟩, false, ⟨_, SqB.lst erm⟩, fun tp htp => ?_⟩
        refine cg_zip (fun j y _ => ∃ row m, MA[j]? = some row ∧ ms[j]? = some m ∧ y = .int (dotI row ds + low * m)) htp (SqB.lst h1) (SqB.lst erm) (by rw [List.length_map, List.length_map, h2, mn, ml]) (by rw [List.length_map, h2]; omega) (fun _ _ _ _ h _ => h) ?_ ?_
        · intro i x y H3 zs ex ey s3 ez Q' hQ'
          obtain ⟨p, row, rfl, _, er2, _, hp⟩ := h3 i x ex
          obtain ⟨m, em, rfl⟩ := ints_at ey
          have wr := mw row (List.mem_of_getElem? er2)
          subst eB
          show tOp _ _ _ [some (.ref p), some (.int m), some (.int low), some (.ref r)] H3 Q'
          walk_at "r"
          refine ⟨false, false, p, r, row, ds, rfl, SqB.lst (s3 _ _ hp), SqB.lst (s3 _ _ er'), by omega, by omega, fun _ m' n' q1 q2 => PyProof.Rows.mulOk_of_bits (pow_abs (mb row (List.mem_of_getElem? er2) m' (List.mem_of_getElem? q1))) (pow_abs (db n' (List.mem_of_getElem? q2))) (by omega), fun H4 s4 => ?_⟩
          walk_at "r"
          exact ⟨IntMulOk.of_left (intBits_le_64 (by omega) (by omega)), hQ' _ _ s4 ⟨row, m, er2, em, rfl⟩⟩
        · intro H3 zs s3' ez hlz hr3
          have hzl : zs.length = n := by rw [hlz, List.length_map, h2, mn]
          obtain ⟨ts, rfl, bd⟩ : ∃ ts : List Int, zs = ts.map V.int ∧ ∀ z ∈ ts, z.natAbs ≤ 2 ^ (B + 88) := by
            have one : ∀ y ∈ zs, ∃ x, y = .int x ∧ x.natAbs ≤ 2 ^ (B + 88) := fun y hy => by
              obtain ⟨j, hj, rfl⟩ := List.getElem_of_mem hy
              obtain ⟨row, m, h5, h6, h7⟩ := hr3 j _ (List.getElem?_eq_getElem hj)
              refine ⟨_, h7, ?_⟩
              have hrow := List.mem_of_getElem? h5
              have b := dot_bd row ds (mb row hrow) db
              rw [mw row hrow, ← Nat.pow_add] at b
              have b2 : (dotI row ds).natAbs ≤ 2 ^ (B + 74) := Nat.le_trans b (Nat.le_trans (Nat.mul_le_mul_right _ (show d ≤ 2 ^ 4 by omega)) (by rw [← Nat.pow_add]; exact Nat.pow_le_pow_right (by decide) (by omega)))
              have b3 : (low * m).natAbs ≤ 2 ^ (B + 87) := by
                rw [Int.natAbs_mul]
                refine Nat.le_trans (Nat.mul_le_mul (show low.natAbs ≤ 2 ^ 20 by omega) (mb2 m (List.mem_of_getElem? h6))) ?_
                rw [← Nat.pow_add]
                exact Nat.pow_le_pow_right (by decide) (by omega)
              have b4 : 2 ^ (B + 74) ≤ 2 ^ (B + 87) := Nat.pow_le_pow_right (by decide) (by omega)
              have b5 : 2 ^ (B + 88) = 2 * 2 ^ (B + 87) := by rw [show B + 88 = (B + 87) + 1 by omega, Nat.pow_succ]; omega
              have b6 := Int.natAbs_add_le (dotI row ds) (low * m)
              omega
            clear hr3 ez hlz hzl
            induction zs with
            | nil => exact ⟨[], rfl, fun z hz => by simp at hz⟩
            | cons y q ih =>
              obtain ⟨x, rfl, sx⟩ := one y List.mem_cons_self
              obtain ⟨xs, rfl, hs⟩ := ih fun z hz => one z (List.mem_cons_of_mem _ hz)
              exact ⟨x :: xs, rfl, fun z hz => (List.mem_cons.mp hz).elim (fun e => e ▸ sx) (hs z)⟩
          have s3 := s2'.trans s3'
          have sam := s1.trans (s2.trans s3)
          have hM3 := hM2.up s3
          have tl : ts.length = n := by rw [List.length_map] at hzl; exact hzl
          show N1 [some (.ref a), some (.ref ar), some (.int s0), some (.int wy), some (.int low), some (.ref r), some (.ref rm), some (.ref tp)] H3
          clear hr3 hlz hzl
          subst e1
          refine st fun N1 e1 => ?_
          have fin : ∀ H4 (xs : List Int), Same H H4 → H4 tp = some (.lst (xs.map V.int)) → xs.length = n → (∀ z ∈ xs, z.natAbs ≤ 2 ^ (B + 89)) → N1 [some (.ref a), some (.ref ar), some (.int s0), some (.int wy), some (.int low), some (.ref r), some (.ref rm), some (.ref tp)] H4 := by
            intro H4 xs s4 e4 xl xb
            subst e1
            walk_at "r"
            refine ⟨(by show 2 ≤ sizeLine; decide), fun p hp => ?_⟩
            exact hQ p tp xs low _ (s4.trans (Same.new hp)) upd_same (Same.new hp _ _ e4) xl xb lo0 lo1
          have up : ∀ z ∈ ts, z.natAbs ≤ 2 ^ (B + 89) := fun z hz => Nat.le_trans (bd z hz) (Nat.pow_le_pow_right (by decide) (by omega))
          walk_at "r"
          refine ite2 (fun _ => ?_) (fun _ => fin H3 ts sam ez tl up)
          simp only [tAugS]
          walk_at "r"
          refine ⟨dv_s (by decide) (by decide), ?_⟩
          refine mat_len (hM3.b (K := K)) ?_
          rw [mn]
          refine ⟨_, _, rfl, rfl, (show ¬ (n : Int) = 0 by omega), ?_⟩
          have k0 := Int.fmod_nonneg_of_pos (s0.fdiv 6) (show (0 : Int) < n by omega)
          have k1 := Int.fmod_lt_of_pos (s0.fdiv 6) (show (0 : Int) < n by omega)
          obtain ⟨k, ek⟩ := Int.eq_ofNat_of_zero_le k0
          dsimp only
          rw [ek] at k1 ⊢
          have kl : k < ts.length := by omega
          refine ⟨tp, _, k, _, rfl, rfl, SqL.of ez, int_at (getD_at kl), _, _, rfl, rfl, ?_⟩
          refine ⟨tp, _, _, k, rfl, rfl, ez, ixN_nat (by rw [List.length_map]; exact kl), ?_⟩
          have tn : H tp = none := none_back (s1.trans (s2.trans s2')) htp
          refine fin _ (ts.set k (ts.getD k 0 + 1)) (Same.over tn sam) (by rw [upd_same, List.map_set]) (by rw [List.length_set]; exact tl) fun z hz => ?_
          rcases mem_set' hz with e | e
          · have b1 := bd _ (L2.getD_mem kl)
            have e2 : 2 ^ (B + 89) = 2 * 2 ^ (B + 88) := by rw [show B + 89 = (B + 88) + 1 by omega, Nat.pow_succ]; omega
            have p1 : 1 ≤ 2 ^ (B + 88) := Nat.two_pow_pos _
            rw [e]
            omega
          · exact up z e
    have e01 : bb = 0 ∨ bb = 1 := by omega
    have hl : ∀ m : Int, 0 < m → m ≤ 1000000 → 1 ≤ 1 + z0.fmod m ∧ 1 + z0.fmod m ≤ 1000000 := fun m h1 h2 => by
      have f2 := Int.fmod_nonneg_of_pos z0 h1
      have f3 := Int.fmod_lt_of_pos z0 h1
      omega
    rcases e01 with rfl | rfl
    · have := hl 12 (by decide) (by decide)
      exact ⟨false, l0, _, _, _, rfl, rfl, SqB.lst el0, rfl, _, _, rfl, rfl, (show ¬ (12 : Int) = 0 by decide), _, _, rfl, rfl, key _ this.1 this.2⟩
    · have := hl (10 ^ Int.toNat 6) (by decide) (by decide)
      exact ⟨false, l0, _, _, _, rfl, rfl, SqB.lst el0, rfl, _, _, rfl, rfl, (show ¬ ((10 : Int) ^ Int.toNat 6) = 0 by decide), _, _, rfl, rfl, key _ this.1 this.2⟩
theorem iteF' {b : Bool} {p q : Prop} (h : b = false) (hq : q) : if b = true then p else q := by subst h; exact hq
noncomputable def sp_law_is_place (K : Frag) : Sp := fun vs H Q _ => ∃ (p : Addr) (ns : List Int) (w : Int), vs = [.ref p, .int ns.length] ∧ PlaceAt H p ns w ∧ 0 < w ∧ gl w ns = 1 ∧ ∀ H', Same H H' → Q (.bl true) H'
noncomputable def IP (H : Hp) (p : Addr) (m : Int) (ns : List Int) (w : Int) (i : Nat) (σ : St) (H2 : Hp) : Prop := ∃ v3, σ = [some (.ref p), some (.int m), some (.int (gl w (ns.take i))), v3] ∧ Same H H2
theorem ok_law_is_place (T : Txt K mg t) : FnOk P w K mg base CX0 2 t.a_law_is_place t.d_law_is_place ["_law_found", "_law_m"] (sp_law_is_place K) := by
  have G_law_int : FnOk P w K mg base CX0 1 t.a_law_int t.d_law_int ["_law_thing"] sp_law_int := ok_law_int T
  have G_law_divides : FnOk P w K mg base CX0 1 t.a_law_divides t.d_law_divides ["_law_one", "_law_other"] sp_law_divides := ok_law_divides T
  refine T.F_law_is_place.ok sc_law_is_place (by walk_at "v") (fun cdv A outer s H vs Q E hr h => ?_)
  · obtain ⟨p, ns, w, rfl, hP, w0, hg, hQ⟩ := h
    have isT : ∀ (a : Addr) (xs : List V) (Q' : VK) (H : Hp), H a = some (.tup xs) → Q' (.bl true) H → rIsi K [.ref a, .ty "tuple"] H Q' := fun a xs Q' H h1 h2 => ⟨_, _, _, _, rfl, .ty (.tup h1), rfl, T.k_tt, h2⟩
    obtain ⟨x, h1, h2⟩ := id hP
    refine ⟨_, (pss_cons (ps_if (PW.pt (pw_or (pt_not (pt_val (pe_callB call_isi rfl T.z_isinstance (by decide +kernel) (pa_cons (pv 0) (pa_cons (pe_bltn (v := .ty "tuple") rfl T.z_tuple (by decide +kernel) rfl) pa_nil))))) (pw_or (pt_cmpR op_neZ (pe_callB call_lenB rfl T.z_len (by decide +kernel) (pa_cons (pv 0) pa_nil)) pe_int (nomark _)) (pw_or (pt_not (pt_val (pe_callB call_isi rfl T.z_isinstance (by decide +kernel) (pa_cons (px (pv 0) pe_int) (pa_cons (pe_bltn (v := .ty "tuple") rfl T.z_tuple (by decide +kernel) rfl) pa_nil))))) (pw_or1 (pt_cmpR op_neZ (pe_callB call_lenB rfl T.z_len (by decide +kernel) (pa_cons (px (pv 0) pe_int) pa_nil)) (pv 1) (nomark _)))))))
      (pss_one (ps_ret pe_bl))
      pss_nil)
      (pss_cons (ps_if (PW.pt (pw_or (pt_not (pt_val (pe_call G_law_int hr.mo rfl T.m_law_int T.F_law_int.kp T.b_law_int .nil pass0 (pa_cons (px (pv 0) pe_int) pa_nil)))) (pw_or1 (pt_cmpR op_lt (px (pv 0) pe_int) pe_int (nomark _)))))
      (pss_one (ps_ret pe_bl))
      pss_nil)
      (pss_cons (ps_set (i := 2) sc_law_is_place.nd rfl (Or.inl rfl) (px (pv 0) pe_int))
      (pss_cons (ps_for PassesOwn.never rfl (pi_seq (px (pv 0) pe_int)) (pg_name (i := 3) sc_law_is_place.nd rfl (Or.inl rfl))
      (pss_cons (ps_if (pt_not (pt_val (pe_call G_law_int hr.mo rfl T.m_law_int T.F_law_int.kp T.b_law_int .nil pass0 (pa_cons (pv 3) pa_nil))))
      (pss_one (ps_ret pe_bl))
      pss_nil)
      (pss_one (ps_set (i := 2) sc_law_is_place.nd rfl (Or.inl rfl) (pe_call G_law_divides hr.mo rfl T.m_law_divides T.F_law_divides.kp T.b_law_divides .nil pass0 (pa_cons (pv 2) (pa_cons (pv 3) pa_nil)))))))
      (pss_one (ps_ret (pe_cmpR op_eqZ (pv 2) pe_int (nomark _)))))))), ?_⟩
    show tSeq _ _ _ [some (.ref p), some (.int ns.length), none, none] H
    refine st fun N1 e1 => ?_
    walk_at "r"
    refine isT _ _ _ _ h1 ?_
    walk_at "r"
    refine ⟨true, p, _, rfl, SqB.tup h1, ?_⟩
    walk_at "r"
    refine iteF' (by simp) ?_
    refine place_ix0 hP fun x hx => ?_
    refine isT _ _ _ _ hx ?_
    walk_at "r"
    refine place_ix0 hP fun x hx => ints_len (b := true) (SqB.tup hx) ?_
    walk_at "r"
    refine iteF' (by simp) ?_
    subst e1
    refine st fun N1 e1 => ?_
    walk_at "r"
    refine place_ix1 hP ⟨w, rfl, ?_⟩
    walk_at "r"
    refine place_ix1 hP ?_
    refine ⟨_, _, rfl, rfl, _, rfl, ?_⟩
    rw [decide_eq_false (by omega)]
    refine iteF ?_
    subst e1
    refine st fun N1 e1 => ?_
    walk_at "r"
    refine place_ix1 hP ?_
    subst e1
    refine st fun N1 e1 => for_st fun B eB => ?_
    simp only [iSeq]
    walk_at "r"
    refine place_ix0 hP fun x hx => ?_
    refine ⟨true, x, rfl, ⟨_, SqB.tup hx⟩, ?_⟩
    have g0 : w = gl w (ns.take 0) := by
      rw [List.take_zero]
      show w = absI w
      unfold absI
      rw [if_neg (by omega)]
    refine fr_seq (b := true) (xs := ns.map V.int) (g := gName 3) (tb := B) (IP H p ns.length ns w) ⟨none, by rw [← g0], Same.refl _⟩ (fun i σ H2 _ ⟨_, _, s2⟩ => SqB.tup (s2 _ _ hx)) ?_ ?_
    · rintro i y σ H2 hy ⟨v3, rfl, s2⟩
      obtain ⟨n, hn, rfl⟩ := ints_at hy
      subst eB
      show tSeq _ _ _ [some (.ref p), some (.int ns.length), some (.int (gl w (ns.take i))), some (.int n)] H2
      refine st fun N2 e2 => ?_
      walk_at "r"
      refine ⟨n, rfl, ?_⟩
      walk_at "r"
      subst e2
      walk_at "r"
      refine ⟨_, _, rfl, fun H3 s3 => ?_⟩
      refine ⟨some (.int n), ?_, s2.trans s3⟩
      rw [take_snoc hn, gl_snoc]
    · rintro σ H2 ⟨v3, rfl, s2⟩
      rw [List.length_map, List.take_length, hg]
      subst e1
      walk_at "r"
      exact hQ H2 s2
noncomputable def sp_law_is_row (K : Frag) : Sp := fun vs H Q _ => ∃ (p : Addr) (ns : List Int), vs = [.ref p, .int ns.length] ∧ H p = some (.tup (ns.map V.int)) ∧ ns.length ≤ 100 ∧ ∀ H', Same H H' → Q (.bl true) H'
section
variable {a : Addr} {H : Hp} {tt : St → Hp → (Option V → Hp → Prop) → Prop} {fr : List (Str × Nat)} {σ : St} {Q : VK}
theorem cg_seqI {b : Bool} {l : Addr} {xs : List V} (P : Nat → List V → Hp → Prop) (ha : H a = none) (hS : SqB b K H l xs) (hz : xs.length ≤ 1000) (h0 : P 0 [] (upd H a (.lst [])))
    (hl : ∀ i zs H1, P i zs H1 → zs.length ≤ i) (mono : ∀ i zs H1 H2, P i zs H1 → SameX a H1 H2 → P i zs H2)
    (he : ∀ i x H1 zs, xs[i]? = some x → Same H H1 → H1 a = some (.lst zs) → P i zs H1 → ∀ C : Option V → Hp → Prop,
      (∀ y H2, Same H1 H2 → P (i + 1) (zs ++ [y]) H2 → C (some y) H2) → (∀ H2, Same H1 H2 → P (i + 1) zs H2 → C none H2) → tt (some x :: frees fr σ) H1 C)
    (hd : ∀ H1 ys, Same H H1 → H1 a = some (.lst ys) → P xs.length ys H1 → Q (.ref a) H1) : CompWG (Its K b l) (gName 0) tt 1 fr σ a H Q := by
  refine cg_inv xs.length P ha hz h0 hl mono (fun i H1 hi s => Its.go (hS.up s) (x := xs[i]) (by simp [hi])) (fun H1 s => Its.stop (hS.up s) (Nat.le_refl _)) ?_ hd
  intro i H1 zs hi s1 ez p ys x H3 hys hy C hC1 hC2
  obtain ⟨e1, e2⟩ := Its.yld (hS.up s1) hy
  subst e1
  match ys, hys with
  | [o], _ => exact ⟨⟨[some x], rfl, rfl⟩, he i x H3 zs e2 s1 ez p C hC1 hC2⟩
end
theorem ok_law_is_row (T : Txt K mg t) : FnOk P w K mg base CX0 2 t.a_law_is_row t.d_law_is_row ["_law_found", "_law_n"] (sp_law_is_row K) := by
  have G_law_int : FnOk P w K mg base CX0 1 t.a_law_int t.d_law_int ["_law_thing"] sp_law_int := ok_law_int T
  refine T.F_law_is_row.ok sc_law_is_row (by walk_at "v") (fun cdv A outer s H vs Q E hr h => ?_)
  · obtain ⟨p, ns, rfl, hp, hl, hQ⟩ := h
    have hu := hr.units
    have isT : ∀ (a : Addr) (xs : List V) (Q' : VK) (H : Hp), H a = some (.tup xs) → Q' (.bl true) H → rIsi K [.ref a, .ty "tuple"] H Q' := fun a xs Q' H h1 h2 => ⟨_, _, _, _, rfl, .ty (.tup h1), rfl, T.k_tt, h2⟩
    refine ⟨_, (pss_cons (ps_if (PW.pt (pw_or (pt_not (pt_val (pe_callB call_isi rfl T.z_isinstance (by decide +kernel) (pa_cons (pv 0) (pa_cons (pe_bltn (v := .ty "tuple") rfl T.z_tuple (by decide +kernel) rfl) pa_nil))))) (pw_or1 (pt_cmpR op_neZ (pe_callB call_lenB rfl T.z_len (by decide +kernel) (pa_cons (pv 0) pa_nil)) (pv 1) (nomark _)))))
      (pss_one (ps_ret pe_bl))
      pss_nil)
      (pss_one (ps_ret (pe_cmpR (op_eqD hu) (pe_compG (xs := ["_law_number_here"]) (fr := []) (g := (gName 0)) (tt := (tElIf (tNot (tB (tCall (sp_law_int) [] E0 (tCons (tVar 0) tNil)))) (tVar 0))) (compG_ok (sc := defScope s_law_is_row) (N := N_law_is_row) rfl rfl (by decide +kernel)) rfl (pi_seq (pv 0)) (fun _ _ _ hE1 => (pg_own (N := ["_law_number_here"]) (i := 0) hE1 rfl (by decide +kernel))) (fun _ _ _ hE1 => (po_if (pt_not (pt_val (pe_call G_law_int hr.mo rfl T.m_law_int T.F_law_int.kp T.b_law_int .nil pass0 (pa_cons (pv 0) pa_nil)))) (pv 0)))) (pe_lst pa_nil) (nomark _))))), ?_⟩
    show tSeq _ _ _ [some (.ref p), some (.int ns.length)] H
    refine st fun N1 e1 => ?_
    walk_at "r"
    refine isT _ _ _ _ hp ?_
    walk_at "r"
    refine ints_len (b := true) (SqB.tup hp) ?_
    walk_at "r"
    refine iteF' (by simp) ?_
    subst e1
    walk_at "r"
    refine compI_st fun C0 B0 eC eB0 => ?_
    simp only [iSeq]
    walk_at "r"
    refine ⟨true, ⟨_, SqB.tup hp⟩, fun a1 ha1 => ?_⟩
    refine cg_seqI (K := K) (fun _ zs _ => zs = []) ha1 (SqB.tup hp) (by rw [List.length_map]; omega) rfl (fun i zs H1 e => by rw [e]; exact Nat.zero_le _) (fun _ _ _ _ e _ => e) ?_ ?_
    · intro m x H4 zs ex s4 ez eP C' hC1 hC2
      obtain ⟨n, _, rfl⟩ := ints_at ex
      subst eC
      subst eB0
      show tElIf _ _ [some (.int n)] H4 C'
      simp only [tElIf]
      walk_at "r"
      refine ⟨n, rfl, ?_⟩
      walk_at "r"
      exact hC2 _ (Same.refl _) eP
    · intro H4 ys s4 ey eP
      subst eP
      refine ⟨Nat.zero_le _, fun p5 hp5 => ?_⟩
      have s5 : Same H4 (upd H4 p5 (.lst [])) := Same.new hp5
      have e5 : (upd H4 p5 (.lst [])) p5 = some (.lst []) := upd_same
      generalize upd H4 p5 (.lst []) = H5 at s5 e5
      exact eqD_of 1 (by decide) (Dt.lst (ds := []) (SqL.of (s5 _ _ ey)) .nil) (Dt.lst (ds := []) (SqL.of e5) .nil) rfl rfl (b := true) (by simp) (hQ H5 (s4.trans s5))
theorem dot_muls {ns ts : List Int} {a b : Nat} (hn : ∀ z ∈ ns, z.natAbs ≤ 2 ^ a) (ht : ∀ z ∈ ts, z.natAbs ≤ 2 ^ b) (h : a + b ≤ 134217700) : ∀ (i : Nat) m n, ns[i]? = some m → ts[i]? = some n → IntMulOk m n :=
  fun _ m n e1 e2 => PyProof.Rows.mulOk_of_bits (pow_abs (hn m (List.mem_of_getElem? e1))) (pow_abs (ht n (List.mem_of_getElem? e2))) (by omega)
noncomputable def sp_law_no_way (K : Frag) : Sp := fun vs H Q _ => ∃ (p ar tp : Addr) (ns ts : List Int) (low : Int) (A : LM) (n d B : Nat), vs = [.ref p, .ref ar, .ref tp, .int low] ∧ 1 ≤ low ∧ H p = some (.tup (ns.map V.int)) ∧ MatL H ar A ∧ H tp = some (.lst (ts.map V.int)) ∧ Rws n d B A ∧ 1 ≤ n ∧ n ≤ 40 ∧ 1 ≤ d ∧ d ≤ 12 ∧ B ≤ uS ∧
  ns.length = n ∧ ts.length = n ∧ (∀ z ∈ ns, z.natAbs ≤ 2 ^ wB) ∧ (∀ z ∈ ts, z.natAbs ≤ 2 ^ (B + 89)) ∧ (∀ k, k < d → dotI ns (colI k A) = 0) ∧ ¬ low ∣ dotI ns ts ∧ ∀ H', Same H H' → Q (.bl true) H'
theorem ok_law_no_way (T : Txt K mg t) : FnOk P w K mg base CX0 3 t.a_law_no_way t.d_law_no_way ["_law_found", "_law_rows_here", "_law_tops", "_law_low"] (sp_law_no_way K) := by
  have G_law_is_row : FnOk P w K mg base CX0 2 t.a_law_is_row t.d_law_is_row ["_law_found", "_law_n"] (sp_law_is_row K) := ok_law_is_row T
  have G_law_dot : FnOk P w K mg base CX0 1 t.a_law_dot t.d_law_dot ["_law_one", "_law_other"] (sp_law_dot K) := ok_law_dot T
  refine T.F_law_no_way.ok sc_law_no_way (by walk_at "v") (fun cdv A outer s H vs Q E hr h => ?_)
  · obtain ⟨p, ar, tp, ns, ts, low, MA, n, d, B, rfl, l0, hp, hM, hT, ⟨mn, mw, mb⟩, n1, n40, d1, d12, hB, nl, tl, nb, tb, hz, hn, hQ⟩ := h
    have eU : uS = 1048576 := rfl
    have eW : wB = 4194304 := rfl
    obtain ⟨r0, e0⟩ : ∃ r0, MA[0]? = some r0 := ⟨_, List.getElem?_eq_getElem (by omega)⟩
    have wr0 := mw r0 (List.mem_of_getElem? e0)
    refine ⟨_, (pss_cons (ps_if (pt_not (pt_val (pe_call G_law_is_row hr.mo rfl T.m_law_is_row T.F_law_is_row.kp T.b_law_is_row .nil pass0 (pa_cons (pv 0) (pa_cons (pe_callB call_lenB rfl T.z_len (by decide +kernel) (pa_cons (pv 1) pa_nil)) pa_nil)))))
      (pss_one (ps_ret pe_bl))
      pss_nil)
      (pss_cons (ps_for PassesOwn.never rfl (pi_range1 rfl T.z_range (pa_cons (pe_callB call_lenB rfl T.z_len (by decide +kernel) (pa_cons (px (pv 1) pe_int) pa_nil)) pa_nil)) (pg_name (i := 4) sc_law_no_way.nd rfl (Or.inr rfl))
      (pss_one (ps_if (pt_cmpR op_neZ (pe_call G_law_dot hr.mo rfl T.m_law_dot T.F_law_dot.kp T.b_law_dot .nil pass0 (pa_cons (pv 0) (pa_cons (pe_compG (xs := ["_law_row"]) (fr := [("_law_k", 4)]) (g := (gName 0)) (tt := (tEl (tOp (rIxB K) (tVar 0) (tVar 1)))) (compG_ok (sc := defScope s_law_no_way) (N := N_law_no_way) rfl rfl (by decide +kernel)) rfl (pi_seq (pv 1)) (fun _ _ _ hE1 => (pg_own (N := ["_law_row", "_law_k"]) (i := 0) hE1 rfl (by decide +kernel))) (fun _ _ _ hE1 => (po_el (px (pv 0) (pv 1))))) pa_nil))) pe_int (nomark _))
      (pss_one (ps_ret pe_bl))
      pss_nil)))
      (pss_one (ps_ret (pe_cmpR op_neZ (pe_op op_modN (pe_call G_law_dot hr.mo rfl T.m_law_dot T.F_law_dot.kp T.b_law_dot .nil pass0 (pa_cons (pv 0) (pa_cons (pv 2) pa_nil))) (pv 3)) pe_int (nomark _)))))), ?_⟩
    show tSeq _ _ _ [some (.ref p), some (.ref ar), some (.ref tp), some (.int low), none] H
    refine st fun N1 e1 => ?_
    walk_at "r"
    refine mat_len (hM.b (K := K)) ?_
    rw [mn, ← nl]
    refine ⟨p, ns, rfl, hp, by omega, fun H1 s1 => ?_⟩
    walk_at "r"
    subst e1
    refine st fun N1 e1 => for_st fun B' eB => ?_
    simp only [iRng1]
    walk_at "r"
    refine mat_row ((hM.up s1).b (K := K)) e0 rfl fun p0 hp0 => ints_len hp0 ?_
    rw [wr0]
    refine ⟨_, rfl, by omega, by omega, ?_⟩
    rw [Int.toNat_natCast]
    refine fr_range (g := gName 4) (tb := B') (fun i σ H2 => (∃ v3, σ = [some (.ref p), some (.ref ar), some (.ref tp), some (.int low), v3]) ∧ Same H H2) ⟨⟨_, rfl⟩, s1⟩ ?_ ?_
    · rintro k σ H2 hk ⟨⟨v3, rfl⟩, s2⟩
      subst eB
      show tIfS _ _ _ _ [some (.ref p), some (.ref ar), some (.ref tp), some (.int low), some (.int (0 + (k : Int)))] H2
      walk_at "r"
      refine compE_st fun B2 eB2 => ?_
      simp only [iSeq]
      walk_at "r"
      obtain ⟨ps, h1, h2, h3⟩ := matL_wk (hM.up s2)
      refine ⟨false, ⟨_, SqB.lst h1⟩, fun a1 ha1 => ?_⟩
      refine cg_seq (fun j y _ => ∃ row, MA[j]? = some row ∧ y = .int (row.getD k 0)) ha1 (SqB.lst h1) (by rw [List.length_map, h2]; omega) (fun _ _ _ _ h _ => h) ?_ ?_
      · intro i x H3 zs ex s3 ez Q' hQ'
        obtain ⟨p', row, rfl, _, er', _, hp'⟩ := h3 i x ex
        have wr := mw row (List.mem_of_getElem? er')
        subst eB2
        show tOp _ _ _ [some (.ref p'), some (.int (0 + (k : Int)))] H3 Q'
        walk_at "r"
        exact ⟨false, p', _, _, _, rfl, rfl, SqB.lst (s3 _ _ hp'), atI_at (int_at (getD_at (show k < row.length by omega))) (by omega), hQ' _ _ (Same.refl _) ⟨row, er', rfl⟩⟩
      · intro H3 zs s3 ez hlz hr3
        have ey : zs = (colI k MA).map V.int := by
          refine list_is (by rw [hlz, List.length_map, colI_len, h2]) fun j y e => ?_
          obtain ⟨row, es, rfl⟩ := hr3 j y e
          exact ⟨_, by unfold colI; rw [List.getElem?_map, es]; rfl, rfl⟩
        subst ey
        have s23 := s2.trans s3
        have cb : ∀ z ∈ colI k MA, z.natAbs ≤ 2 ^ B := fun z hz' => by
          unfold colI at hz'
          obtain ⟨row, hr', rfl⟩ := List.mem_map.mp hz'
          exact getD_le (mb row hr')
        refine ⟨true, false, p, a1, ns, colI k MA, rfl, SqB.tup (s23 _ _ hp), SqB.lst ez, by rw [colI_len]; omega, by omega, dot_muls nb cb (by omega), fun H4 s4 => ?_⟩
        rw [hz k hk]
        walk_at "r"
        exact iteF' (by simp) ⟨⟨_, rfl⟩, s23.trans s4⟩
    · rintro σ H2 ⟨⟨v3, rfl⟩, s2⟩
      subst e1
      walk_at "r"
      refine ⟨true, false, p, tp, ns, ts, rfl, SqB.tup (s2 _ _ hp), SqB.lst (s2 _ _ hT), by omega, by omega, dot_muls nb tb (by omega), fun H4 s4 => ?_⟩
      walk_at "r"
      refine ⟨by omega, ?_⟩
      rw [decide_eq_false (fun z => hn (Int.dvd_of_fmod_eq_zero z))]
      exact hQ H4 (s2.trans s4)
theorem few_mulR' {a b : Int} (h : 1 ≤ b) (h' : b ≤ 1000000) : IntMulOk a b := IntMulOk.of_right (intBits_le_64 (by omega) (by omega))
theorem fr_zip {K : Frag} {b1 b2 : Bool} {a1 a2 : Addr} {xs ys : List V} {g : TG} {tb : TS} {nx : St → Hp → Prop} {rt : VK} {σ : St} {H : Hp} (Pv : Nat → St → Hp → Prop) (h0 : Pv 0 σ H) (hlen : xs.length = ys.length) (hl : ∀ i σ H, i ≤ xs.length → Pv i σ H → SqB b1 K H a1 xs ∧ SqB b2 K H a2 ys)
    (hs : ∀ i x y p σ H, xs[i]? = some x → ys[i]? = some y → Pv i σ H → H p = none → g (.ref p) σ (upd H p (.tup [x, y])) fun σ2 H2 => tb { nx := Pv (i + 1), rt := rt, bk := nx, ct := Pv (i + 1) } σ2 H2) (hd : ∀ σ H, Pv xs.length σ H → nx σ H) : LoopW (Itz K b1 a1 b2 a2) g tb nx rt σ H :=
  for_zip (D := { nx := nx, rt := rt, bk := nx, ct := nx }) Pv h0 hlen hl hs hd
noncomputable def sp_law_way (K : Frag) : Sp := fun vs H Q _ => ∃ (p ar tp : Addr) (ns ts : List Int) (w low : Int) (A : LM) (n d B : Nat), vs = [.ref p, .ref ar, .ref tp, .int low] ∧ PlaceAt H p ns w ∧ MatL H ar A ∧ H tp = some (.lst (ts.map V.int)) ∧ Rws n d B A ∧ 1 ≤ n ∧ n ≤ 40 ∧ 1 ≤ d ∧ d ≤ 12 ∧ B ≤ uS ∧ 1 ≤ low ∧ low ≤ 1000000 ∧
  ns.length = d ∧ ts.length = n ∧ 0 < w ∧ w.natAbs ≤ 2 ^ (13 * wB) ∧ gl w ns = 1 ∧ (∀ z ∈ ns, z.natAbs ≤ 2 ^ (25 * wB + 48)) ∧ (∀ z ∈ ts, z.natAbs ≤ 2 ^ (B + 89)) ∧ (∀ (i : Nat) row x, A[i]? = some row → ts[i]? = some x → low * w ∣ dotI row ns * low - x * w) ∧ ∀ H', Same H H' → Q (.bl true) H'
theorem ok_law_way (T : Txt K mg t) : FnOk P w K mg base CX0 3 t.a_law_way t.d_law_way ["_law_found", "_law_rows_here", "_law_tops", "_law_low"] (sp_law_way K) := by
  have G_law_is_place : FnOk P w K mg base CX0 2 t.a_law_is_place t.d_law_is_place ["_law_found", "_law_m"] (sp_law_is_place K) := ok_law_is_place T
  have G_law_dot : FnOk P w K mg base CX0 1 t.a_law_dot t.d_law_dot ["_law_one", "_law_other"] (sp_law_dot K) := ok_law_dot T
  refine T.F_law_way.ok sc_law_way (by walk_at "v") (fun cdv A outer s H vs Q E hr h => ?_)
  · obtain ⟨p, ar, tp, ns, ts, w, low, MA, n, d, B, rfl, hP, hM, hT, ⟨mn, mw, mb⟩, n1, n40, d1, d12, hB, l0, l1, nl, tl, w0, wb, hg, nb, tb, heq, hQ⟩ := h
    have eU : uS = 1048576 := rfl
    have eW : wB = 4194304 := rfl
    obtain ⟨r0, e0⟩ : ∃ r0, MA[0]? = some r0 := ⟨_, List.getElem?_eq_getElem (by omega)⟩
    have wr0 := mw r0 (List.mem_of_getElem? e0)
    refine ⟨_, (pss_cons (ps_if (pt_not (pt_val (pe_call G_law_is_place hr.mo rfl T.m_law_is_place T.F_law_is_place.kp T.b_law_is_place .nil pass0 (pa_cons (pv 0) (pa_cons (pe_callB call_lenB rfl T.z_len (by decide +kernel) (pa_cons (px (pv 1) pe_int) pa_nil)) pa_nil)))))
      (pss_one (ps_ret pe_bl))
      pss_nil)
      (pss_cons (ps_for PassesOwn.never rfl (pi_zip rfl T.z_zip (pa_cons (pv 1) (pa_cons (pv 2) pa_nil))) (pg_tup rfl (pgs_cons (pg_name (i := 4) sc_law_way.nd rfl (Or.inl rfl)) (pgs_cons (pg_name (i := 5) sc_law_way.nd rfl (Or.inl rfl)) pgs_nil)))
      (pss_one (ps_if (pt_cmpR op_neZ (pe_op op_modN (pe_op op_sub (pe_op op_mulB (pe_call G_law_dot hr.mo rfl T.m_law_dot T.F_law_dot.kp T.b_law_dot .nil pass0 (pa_cons (pv 4) (pa_cons (px (pv 0) pe_int) pa_nil))) (pv 3)) (pe_op op_mulB (pv 5) (px (pv 0) pe_int))) (pe_op op_mulB (pv 3) (px (pv 0) pe_int))) pe_int (nomark _))
      (pss_one (ps_ret pe_bl))
      pss_nil)))
      (pss_one (ps_ret pe_bl)))), ?_⟩
    show tSeq _ _ _ [some (.ref p), some (.ref ar), some (.ref tp), some (.int low), none, none] H
    refine st fun N1 e1 => ?_
    walk_at "r"
    refine mat_row (hM.b (K := K)) e0 rfl fun p0 hp0 => ints_len hp0 ?_
    rw [wr0, ← nl]
    refine ⟨p, ns, w, rfl, hP, w0, hg, fun H1 s1 => ?_⟩
    walk_at "r"
    subst e1
    refine st fun N1 e1 => for_st fun B' eB => ?_
    simp only [iZip]
    walk_at "r"
    obtain ⟨ps, h1, h2, h3⟩ := matL_wk (hM.up s1)
    refine ⟨false, ⟨_, SqB.lst h1⟩, false, ⟨_, SqB.lst (s1 _ _ hT)⟩, ?_⟩
    refine fr_zip (K := K) (b1 := false) (b2 := false) (a1 := ar) (a2 := tp) (xs := ps.map V.ref) (ys := ts.map V.int) (g := gTup K 2 (gCons (gName 4) (gCons (gName 5) gNil))) (tb := B') (fun i σ H2 => (∃ v4 v5, σ = [some (.ref p), some (.ref ar), some (.ref tp), some (.int low), v4, v5]) ∧ Same H1 H2) ⟨⟨_, _, rfl⟩, Same.refl _⟩ (by rw [List.length_map, List.length_map, h2]; omega) (fun i σ H2 _ h => ⟨SqB.lst (h.2 _ _ h1), SqB.lst (h.2 _ _ (s1 _ _ hT))⟩) ?_ ?_
    · rintro i x y q σ H2 ex ey ⟨⟨v4, v5, rfl⟩, s2⟩ hq
      obtain ⟨px, row, rfl, _, er, _, hpx⟩ := h3 i x ex
      obtain ⟨tz, et, rfl⟩ := ints_at ey
      have wr := mw row (List.mem_of_getElem? er)
      have sq := Same.new (o := .tup [.ref px, .int tz]) hq
      refine ⟨q, [.ref px, .int tz], rfl, SqT.of upd_same, rfl, _, [.int tz], rfl, _, [], rfl, rfl, ?_⟩
      have s3 := s2.trans sq
      generalize upd H2 q (.tup [.ref px, .int tz]) = H3 at s3
      have hP3 := (hP.up s1).up s3
      subst eB
      show tIfS _ _ _ _ [some (.ref p), some (.ref ar), some (.ref tp), some (.int low), some (.ref px), some (.int tz)] H3
      walk_at "r"
      refine place_ix0 hP3 fun x0 hx0 => ?_
      refine ⟨false, true, px, x0, row, ns, rfl, SqB.lst (s3 _ _ hpx), SqB.tup hx0, by omega, by omega, dot_muls (mb row (List.mem_of_getElem? er)) nb (by omega), fun H4 s4 => ?_⟩
      walk_at "r"
      refine ⟨few_mulR' l0 l1, ?_⟩
      refine place_ix1 (hP3.up s4) ⟨_, _, rfl, rfl, PyProof.Rows.mulOk_of_bits (pow_abs (tb tz (List.mem_of_getElem? et))) (pow_abs wb) (by omega), ?_⟩
      have := heq i row tz er et
      walk_at "r"
      refine place_ix1 (hP3.up s4) ⟨_, _, rfl, rfl, IntMulOk.of_left (intBits_le_64 (by omega) (by omega)), ?_⟩
      walk_at "r"
      refine ⟨Int.mul_ne_zero (by omega) (by omega), ?_⟩
      exact iteF' (by rw [Int.fmod_eq_zero_of_dvd this]; rfl) ⟨⟨_, rfl⟩, s3.trans s4⟩
    · rintro σ H2 ⟨⟨v4, v5, rfl⟩, s2⟩
      subst e1
      walk_at "r"
      exact hQ H2 (s1.trans s2)
noncomputable def sp_law_handed (K : Frag) : Sp := fun vs H Q _ => ∃ (ar : Addr) (z : Int) (A : LM), vs = [.ref ar, .int z] ∧ MatL H ar A ∧ A.length ≤ 1000 ∧ ∀ (b1 b2 : Bool) r H', Same H H' → MatB b1 b2 K H' r A → Q (.ref r) H'
theorem ok_law_handed (T : Txt K mg t) : FnOk P w K mg base CX0 1 t.a_law_handed t.d_law_handed ["_law_rows_here", "_law_way_here"] (sp_law_handed K) := by
  refine T.F_law_handed.ok sc_law_handed (by walk_at "v") (fun cdv A outer s H vs Q E hr h => ?_)
  · obtain ⟨ar, z, MA, rfl, hM, hl, hQ⟩ := h
    refine ⟨_, (pss_cons (ps_setCG (i := 2) (xs := ["_law_row"]) (fr := []) (g := (gName 0)) (tt := (tEl (tCB (rListB K) (tCons (tVar 0) tNil)))) (compG_ok (sc := defScope s_law_handed) (N := N_law_handed) rfl rfl (by decide +kernel)) rfl sc_law_handed.nd rfl rfl (pi_seq (pv 0)) (fun _ _ _ hE1 => (pg_own (N := ["_law_row"]) (i := 0) hE1 rfl (by decide +kernel))) (fun _ _ _ hE1 => (po_el (pe_callTy call_listB rfl T.z_list (by decide +kernel) (pa_cons (pv 0) pa_nil)))))
      (pss_cons (ps_if (PW.pt (pw_or (pt_cmpR op_eqZ (pe_op op_modN (pv 1) pe_int) pe_int (nomark _)) (pw_or1 (pt_cmpR op_eqZ (pe_op op_modN (pv 1) pe_int) pe_int (nomark _)))))
      (pss_one (ps_setCG (i := 2) (xs := ["_law_row"]) (fr := []) (g := (gName 0)) (tt := (tEl (tCB (rTupB K) (tCons (tVar 0) tNil)))) (compG_ok (sc := defScope s_law_handed) (N := N_law_handed) rfl rfl (by decide +kernel)) rfl sc_law_handed.nd rfl rfl (pi_seq (pv 0)) (fun _ _ _ hE1 => (pg_own (N := ["_law_row"]) (i := 0) hE1 rfl (by decide +kernel))) (fun _ _ _ hE1 => (po_el (pe_callTy call_tupB rfl T.z_tuple (by decide +kernel) (pa_cons (pv 0) pa_nil))))))
      pss_nil)
      (pss_cons (ps_if (PW.pt (pw_or (pt_cmpR op_eqZ (pe_op op_modN (pv 1) pe_int) pe_int (nomark _)) (pw_or1 (pt_cmpR op_eqZ (pe_op op_modN (pv 1) pe_int) pe_int (nomark _)))))
      (pss_one (ps_set (i := 2) sc_law_handed.nd rfl (Or.inl rfl) (pe_callTy call_tupB rfl T.z_tuple (by decide +kernel) (pa_cons (pv 2) pa_nil))))
      pss_nil)
      (pss_one (ps_ret (pv 2)))))), ?_⟩
    show tSeq _ _ _ [some (.ref ar), some (.int z), none] H
    obtain ⟨ps0, p0, _⟩ := id hM
    refine st fun N1 e1 => ?_
    simp only [tSetC]
    refine compE_st fun B1 eB1 => ?_
    simp only [iSeq]
    walk_at "r"
    refine ⟨false, ⟨_, SqB.lst p0⟩, fun c1 hc1 => ?_⟩
    subst eB1
    refine copy_list (hM.b (K := K)) hl hc1 fun H1 s1 hC => ?_
    show N1 [some (.ref ar), some (.int z), some (.ref c1)] H1
    subst e1
    refine st fun N1 e1 => ?_
    have mid : ∀ (b2 : Bool) (r : Addr) (H2 : Hp), Same H H2 → MatB false b2 K H2 r MA → N1 [some (.ref ar), some (.int z), some (.ref r)] H2 := by
      intro b2 r H2 s2 hB
      subst e1
      refine st fun N1 e1 => ?_
      have fin : ∀ (b1 b2 : Bool) (r : Addr) (H2 : Hp), Same H H2 → MatB b1 b2 K H2 r MA → N1 [some (.ref ar), some (.int z), some (.ref r)] H2 := by
        intro b1 b2 r H2 s2 hB
        subst e1
        walk_at "r"
        exact hQ b1 b2 r H2 s2 hB
      have tup : rTupB K [.ref r] H2 fun x H3 => N1 [some (.ref ar), some (.int z), some x] H3 := by
        obtain ⟨ps, h1, h2, h3⟩ := id hB
        refine ⟨r, _, rfl, .inl ⟨h1, fun l hl => ?_⟩⟩
        exact fin true b2 l _ (s2.trans (Same.new hl)) ⟨ps, SqB.tup upd_same, h2, fun i p x e1 e2 => (h3 i p x e1 e2).up (Same.new hl)⟩
      walk_at "r"
      refine ⟨by decide, ite2 (fun _ => tup) (fun _ => ⟨by decide, ite2 (fun _ => tup) (fun _ => fin false b2 r H2 s2 hB)⟩)⟩
    have tups : tCompG (iSeq K (tVar 0)) (gName 0) (tEl (tCB (rTupB K) (tCons (tVar 0) tNil))) 1 [] [some (.ref ar), some (.int z), some (.ref c1)] H1 fun v H2 => N1 [some (.ref ar), some (.int z), some v] H2 := by
      refine compE_st fun B1 eB1 => ?_
      simp only [iSeq]
      walk_at "r"
      refine ⟨false, ⟨_, SqB.lst (s1 _ _ p0)⟩, fun a1 ha1 => ?_⟩
      subst eB1
      refine copy_tup ((hM.up s1).b (K := K)) hl ha1 fun H2 s2 hT => ?_
      obtain ⟨ps, h1, h2, h3⟩ := hT
      exact mid true a1 H2 (s1.trans s2) ⟨ps, SqB.lst h1, h2, fun i p x e1 e2 => SqB.tup (h3 i p x e1 e2)⟩
    walk_at "r"
    exact ⟨by decide, ite2 (fun _ => tups) fun _ => ⟨by decide, ite2 (fun _ => tups) fun _ => mid false c1 H1 s1 hC.b⟩⟩
theorem ok_law (T : Txt K mg t) (Gs : Gd P mg base) : FnOk P w K mg base CX0 46 t.a_law t.d_law ["_law_script"] (spLawT K [t.a_Steps_rising, t.a_whole_met]) := by
  have G_law_rows : FnOk P w K mg base CX0 2 t.a_law_rows t.d_law_rows ["_law_script"] (sp_law_rows K) := ok_law_rows T
  have G_law_spot : FnOk P w K mg base CX0 3 t.a_law_spot t.d_law_spot ["_law_script", "_law_rows_here"] (sp_law_spot K) := ok_law_spot T
  have G_law_from_end : FnOk P w K mg base CX0 1 t.a_law_from_end t.d_law_from_end ["_law_script", "_law_k"] (sp_law_from_end K) := ok_law_from_end T
  have G_whole_met : FnOk P w K mg base CX0 38 t.a_whole_met t.d_whole_met ["rows", "tops", "under"] (sp_whole_met K t) := ok_whole_met T Gs
  have G_law_way : FnOk P w K mg base CX0 3 t.a_law_way t.d_law_way ["_law_found", "_law_rows_here", "_law_tops", "_law_low"] (sp_law_way K) := ok_law_way T
  have G_law_no_way : FnOk P w K mg base CX0 3 t.a_law_no_way t.d_law_no_way ["_law_found", "_law_rows_here", "_law_tops", "_law_low"] (sp_law_no_way K) := ok_law_no_way T
  have G_law_handed : FnOk P w K mg base CX0 1 t.a_law_handed t.d_law_handed ["_law_rows_here", "_law_way_here"] (sp_law_handed K) := ok_law_handed T
  refine T.F_law.ok sc_law (by walk_at "v") (fun cdv A outer s H vs Q E hr h => ?_)
  · obtain ⟨a, ns, rfl, hS, hl, hb, htb, hQ⟩ := h
    have hu := hr.units
    refine ⟨_, (pss_cons (ps_set (i := 1) sc_law.nd rfl (Or.inl rfl) (pe_call G_law_rows hr.mo rfl T.m_law_rows T.F_law_rows.kp T.b_law_rows .nil pass0 (pa_cons (pv 0) pa_nil)))
      (pss_cons (ps_asg (pe_call G_law_spot hr.mo rfl T.m_law_spot T.F_law_spot.kp T.b_law_spot .nil pass0 (pa_cons (pv 0) (pa_cons (pv 1) pa_nil))) (pg_tupB rfl (pgs_cons (pg_name (i := 2) sc_law.nd rfl (Or.inl rfl)) (pgs_cons (pg_name (i := 3) sc_law.nd rfl (Or.inl rfl)) pgs_nil))))
      (pss_cons (ps_set (i := 4) sc_law.nd rfl (Or.inr rfl) pe_int)
      (pss_cons (ps_if (pt_cmpR op_eqZ (pe_op op_modN (pe_call G_law_from_end hr.mo rfl T.m_law_from_end T.F_law_from_end.kp T.b_law_from_end .nil pass0 (pa_cons (pv 0) (pa_cons pe_int pa_nil))) pe_int) pe_int (nomark _))
      (pss_one (ps_set (i := 4) sc_law.nd rfl (Or.inr rfl) (pe_un un_neg pe_int)))
      pss_nil)
      (pss_cons (ps_set (i := 5) sc_law.nd rfl (Or.inl rfl) (pe_lst (pa_cons (pe_call G_law_handed hr.mo rfl T.m_law_handed T.F_law_handed.kp T.b_law_handed .nil pass0 (pa_cons (pv 1) (pa_cons (pe_call G_law_from_end hr.mo rfl T.m_law_from_end T.F_law_from_end.kp T.b_law_from_end .nil pass0 (pa_cons (pv 0) (pa_cons pe_int pa_nil))) pa_nil))) (pa_cons (pe_callTy call_tupB rfl T.z_tuple (by decide +kernel) (pa_cons (pe_compG (xs := ["_law_top"]) (fr := [("_law_by", 4)]) (g := (gName 0)) (tt := (tEl (tOp (rI (fun i j => IntMulOk i j) fun i j => .int (i * j)) (tVar 0) (tVar 1)))) (compG_ok (sc := defScope s_law) (N := N_law) rfl rfl (by decide +kernel)) rfl (pi_seq (pv 2)) (fun _ _ _ hE1 => (pg_own (N := ["_law_top", "_law_by"]) (i := 0) hE1 rfl (by decide +kernel))) (fun _ _ _ hE1 => (po_el (pe_op op_mulB (pv 0) (pv 1))))) pa_nil)) pa_nil))))
      (pss_cons (ps_set (i := 6) sc_law.nd rfl (Or.inl rfl) (pe_call G_whole_met hr.mo rfl T.m_whole_met T.F_whole_met.kp T.b_whole_met .nil pass0 (pa_cons (px (pv 5) pe_int) (pa_cons (px (pv 5) pe_int) (pa_cons (pe_op op_mulB (pv 3) (pv 4)) pa_nil)))))
      (pss_cons (ps_if (PW.pt (pw_or (pt_cmpR (op_neD hu) (pe_compG (xs := ["_law_row"]) (fr := []) (g := (gName 0)) (tt := (tEl (tCB (rListB K) (tCons (tVar 0) tNil)))) (compG_ok (sc := defScope s_law) (N := N_law) rfl rfl (by decide +kernel)) rfl (pi_seq (px (pv 5) pe_int)) (fun _ _ _ hE1 => (pg_own (N := ["_law_row"]) (i := 0) hE1 rfl (by decide +kernel))) (fun _ _ _ hE1 => (po_el (pe_callTy call_listB rfl T.z_list (by decide +kernel) (pa_cons (pv 0) pa_nil))))) (pv 1) (nomark _)) (pw_or1 (pt_cmpR (op_neD hu) (px (pv 5) pe_int) (pe_callTy call_tupB rfl T.z_tuple (by decide +kernel) (pa_cons (pe_compG (xs := ["_law_top"]) (fr := [("_law_by", 4)]) (g := (gName 0)) (tt := (tEl (tOp (rI (fun i j => IntMulOk i j) fun i j => .int (i * j)) (tVar 0) (tVar 1)))) (compG_ok (sc := defScope s_law) (N := N_law) rfl rfl (by decide +kernel)) rfl (pi_seq (pv 2)) (fun _ _ _ hE1 => (pg_own (N := ["_law_top", "_law_by"]) (i := 0) hE1 rfl (by decide +kernel))) (fun _ _ _ hE1 => (po_el (pe_op op_mulB (pv 0) (pv 1))))) pa_nil)) (nomark _)))))
      (pss_one (ps_ret pe_bl))
      pss_nil)
      (pss_cons (ps_if (PW.pt (pw_or (pt_not (pt_val (pe_callB call_isi rfl T.z_isinstance (by decide +kernel) (pa_cons (pv 6) (pa_cons (pe_bltn (v := .ty "tuple") rfl T.z_tuple (by decide +kernel) rfl) pa_nil))))) (pw_or (pt_cmpR op_neZ (pe_callB call_lenB rfl T.z_len (by decide +kernel) (pa_cons (pv 6) pa_nil)) pe_int (nomark _)) (pw_or1 (pt_not (pt_val (pe_callB call_isi rfl T.z_isinstance (by decide +kernel) (pa_cons (px (pv 6) pe_int) (pa_cons (pe_bltn (v := .ty "str") rfl T.z_str (by decide +kernel) rfl) pa_nil)))))))))
      (pss_one (ps_ret pe_bl))
      pss_nil)
      (pss_cons (ps_if (pt_cmpR op_eq (px (pv 6) pe_int) pe_str (nomark _))
      (pss_one (ps_ret (pe_call G_law_way hr.mo rfl T.m_law_way T.F_law_way.kp T.b_law_way .nil pass0 (pa_cons (px (pv 6) pe_int) (pa_cons (pv 1) (pa_cons (pv 2) (pa_cons (pv 3) pa_nil)))))))
      pss_nil)
      (pss_one (ps_ret (pe_and (pe_cmpR op_eq (px (pv 6) pe_int) pe_str (nomark _)) (pe_one (pe_call G_law_no_way hr.mo rfl T.m_law_no_way T.F_law_no_way.kp T.b_law_no_way .nil pass0 (pa_cons (px (pv 6) pe_int) (pa_cons (pv 1) (pa_cons (pv 2) (pa_cons (pv 3) pa_nil)))))))))))))))))), ?_⟩
    show tSeq _ _ _ [some (.ref a), none, none, none, none, none, none] H
    have tt : TT K t H := ⟨.inl (htb _ (by simp)), .inl (htb _ (by simp)), fun z => by
      have := T.tb_ne
      rw [z] at this
      simp at this⟩
    have eU : uS = 1048576 := rfl
    have eW : wB = 4194304 := rfl
    refine st fun N1 e1 => ?_
    walk_at "r"
    refine ⟨a, ns, rfl, hS, hl, fun ar H1 MA n d B s1 hM hR hfit n1 n40 d1 d12 => ?_⟩
    obtain ⟨mn, mw, mb⟩ := id hR
    have hB : B ≤ uS := (hfit 0 (by omega) (by omega)).1
    subst e1
    refine st fun N1 e1 => ?_
    walk_at "r"
    refine ⟨a, ar, ns, MA, n, d, B, rfl, s1.seq hS, hM, hR, n1, n40, d1, d12, hB, fun r l ts low H2 s2 er el tl tb l0 l1 => ?_⟩
    refine ⟨false, r, _, rfl, SqB.lst er, rfl, _, _, rfl, _, _, rfl, rfl, ?_⟩
    show N1 [some (.ref a), some (.ref ar), some (.ref l), some (.int low), none, none, none] H2
    have hM2 := hM.up s2
    have hS2 := (s1.trans s2).seq hS
    have tt2 : TT K t H2 := (same_ev (S := []) (s1.trans s2)).2 tt
    subst e1
    refine st fun N1 e1 => ?_
    walk_at "r"
    subst e1
    refine st fun N1 e1 => ?_
    have key : ∀ yb : Int, (yb = 1 ∨ yb = -1) → N1 [some (.ref a), some (.ref ar), some (.ref l), some (.int low), some (.int yb), none, none] H2 := by
      intro yb yv
      have yn : yb ≠ 0 := by omega
      have ym : -3 ≤ yb := by omega
      have yp : yb ≤ 3 := by omega
      have fy : ∀ z : Int, IntMulOk z yb := fun z => few_mulR (by omega) (by omega)
      have tyb : ∀ z ∈ ts.map (· * yb), z.natAbs ≤ 2 ^ (B + 90) := fun z hz => by
        obtain ⟨x, hx, rfl⟩ := List.mem_map.mp hz
        have h1 := tb x hx
        rw [Int.natAbs_mul]
        refine Nat.le_trans (Nat.mul_le_mul h1 (show yb.natAbs ≤ 1 by omega)) ?_
        rw [Nat.mul_one]
        exact Nat.pow_le_pow_right (by decide) (by omega)
      have u0 : low * yb ≠ 0 := Int.mul_ne_zero (by omega) yn
      have u90 : (low * yb).natAbs ≤ 2 ^ 90 := by
        rw [Int.natAbs_mul]
        refine Nat.le_trans (Nat.mul_le_mul (show low.natAbs ≤ 2 ^ 20 by omega) (show yb.natAbs ≤ 2 ^ 2 by omega)) ?_
        decide +kernel
      have yy : yb * yb = 1 := by rcases yv with e | e <;> rw [e] <;> rfl
      obtain ⟨c, cn, cg, cross⟩ : ∃ c : Int, c * yb ≠ 0 ∧ redU (low * yb) (ts.map (· * yb)) * (c * yb) = low ∧ ∀ (i : Nat) x y, ts[i]? = some x → (redT (low * yb) (ts.map (· * yb)))[i]? = some y → x = y * (c * yb) := by
        refine ⟨cs (low * yb) (ts.map (· * yb)), Int.mul_ne_zero (cs_ne _ u0) yn, ?_, fun i x y ex ey => ?_⟩
        · have := fdiv_exact (cs_ne _ u0) (cs_dvd (gl_u (low * yb) (ts.map (· * yb))))
          have e : redU (low * yb) (ts.map (· * yb)) * cs (low * yb) (ts.map (· * yb)) = low * yb := this
          rw [← Int.mul_assoc, e, Int.mul_assoc, yy, Int.mul_one]
        · unfold redT at ey
          rw [List.getElem?_map, List.getElem?_map, ex] at ey
          cases ey
          have hm : x * yb ∈ ts.map (· * yb) := List.mem_map_of_mem (List.mem_of_getElem? ex)
          have := fdiv_exact (cs_ne _ u0) (cs_dvd (gl_mem (u := low * yb) hm))
          rw [← Int.mul_assoc, this, Int.mul_assoc, yy, Int.mul_one]
      have rl : (redT (low * yb) (ts.map (· * yb))).length = n := by unfold redT; rw [List.length_map, List.length_map]; exact tl
      obtain ⟨ru, _⟩ := redU_abs (ts.map (· * yb)) u0
      subst e1
      refine st fun N1 e1 => ?_
      have tops : ∀ (v5 v6 : Option V) (H3 : Hp) (Q' : VK), H3 l = some (.lst (ts.map V.int)) → (∀ tp H4, Same H3 H4 → H4 tp = some (.lst ((ts.map (· * yb)).map V.int)) → Q' (.ref tp) H4) → ∀ a1, H3 a1 = none → CompWG (Its K false l) (gName 0) (tEl (tOp (rI (fun i j => IntMulOk i j) fun i j => V.int (i * j)) (tVar 0) (tVar 1))) 1 [("_law_by", 4)] [some (.ref a), some (.ref ar), some (.ref l), some (.int low), some (.int yb), v5, v6] a1 H3 Q' := by
        intro v5 v6 H3 Q' s3 hq a1 ha1
        refine cg_seq (fun j y _ => ∃ x, ts[j]? = some x ∧ y = .int (x * yb)) ha1 (SqB.lst s3) (by rw [List.length_map]; omega) (fun _ _ _ _ h _ => h) ?_ ?_
        · intro i x H4 zs ex s4 ez Q2 hQ2
          obtain ⟨m, em, rfl⟩ := ints_at ex
          show tOp _ _ _ [some (.int m), some (.int yb)] H4 Q2
          walk_at "r"
          exact ⟨fy m, hQ2 _ _ (Same.refl _) ⟨m, em, rfl⟩⟩
        · intro H4 zs s4 ez hlz hr4
          have ey : zs = (ts.map (· * yb)).map V.int := by
            refine list_is (by rw [hlz, List.length_map, List.length_map]) fun j y e => ?_
            obtain ⟨x, ex, rfl⟩ := hr4 j y e
            exact ⟨_, by rw [List.getElem?_map, ex]; rfl, rfl⟩
          subst ey
          exact hq a1 H4 s4 ez
      walk_at "r"
      refine ⟨a, ns, 3, rfl, hS2, by decide, fun z3 => ?_⟩
      refine ⟨ar, z3, MA, rfl, hM2, by omega, fun b1 b2 c1 H3 s3 hC => ?_⟩
      refine compE_st fun B2 eB2 => ?_
      simp only [iSeq]
      walk_at "r"
      refine ⟨false, ⟨_, SqB.lst (s3 _ _ el)⟩, fun c2 hc2 => ?_⟩
      subst eB2
      refine tops none none H3 _ (s3 _ _ el) (fun tp H4 s4 etp => ?_) c2 hc2
      refine ⟨tp, _, rfl, .inl ⟨SqL.of etp, fun l3 hl3 => ?_⟩⟩
      have s5 : Same H4 (upd H4 l3 (.tup ((ts.map (· * yb)).map V.int))) := Same.new hl3
      have e5 : (upd H4 l3 (.tup ((ts.map (· * yb)).map V.int))) l3 = some (.tup ((ts.map (· * yb)).map V.int)) := upd_same
      generalize upd H4 l3 (.tup ((ts.map (· * yb)).map V.int)) = H5 at s5 e5
      refine ⟨(by show 2 ≤ sizeLine; decide), fun hd hhd => ?_⟩
      have s6 : Same H5 (upd H5 hd (.lst [.ref c1, .ref l3])) := Same.new hhd
      have e6 : (upd H5 hd (.lst [.ref c1, .ref l3])) hd = some (.lst [.ref c1, .ref l3]) := upd_same
      generalize upd H5 hd (.lst [.ref c1, .ref l3]) = H6 at s6 e6
      have s26 := s3.trans (s4.trans (s5.trans s6))
      have m6 := hC.up (s4.trans (s5.trans s6))
      have t6 : SqB true K H6 l3 ((ts.map (· * yb)).map V.int) := SqB.tup (s6 _ _ e5)
      clear hC etp s5 s6 s3 s4 e5
      subst e1
      refine st fun N1 e1 => ?_
      walk_at "r"
      refine ⟨false, hd, _, _, _, rfl, rfl, SqB.lst e6, rfl, false, hd, _, _, _, rfl, rfl, SqB.lst e6, rfl, fy low, ?_⟩
      refine ⟨b1, b2, true, c1, l3, MA, _, _, d, n, B, rfl, m6, t6, mn, mw, n1, by omega, d1, d12, mb, hfit, u0, u90, by rw [List.length_map]; exact tl, tyb, (same_ev (S := []) s26).2 tt2, fun v H7 ev tt7 hm => ?_⟩
      have ev2 : Ev K t [] H2 H7 := (same_ev s26).trans ev
      have hM7 : MatL H7 ar MA := matL_ev hM2 ev2 (fun z => nomatch z) (fun _ z => nomatch z)
      have el7 : H7 l = some (.lst (ts.map V.int)) := ev2.1 _ _ (fun z => nomatch z) (fun _ z => by cases z) el
      have e7 : H7 hd = some (.lst [.ref c1, .ref l3]) := ev.1 _ _ (fun z => nomatch z) (fun _ z => by cases z) e6
      have m7 := matB_ev m6 ev
      have t7 := sqB_ev t6 ev
      clear ev2 ev tt7 e6 m6 t6 s26
      subst e1
      refine st fun N1 e1 => ?_
      walk_at "r"
      refine compE_st fun B1 eB1 => ?_
      simp only [iSeq]
      walk_at "r"
      obtain ⟨psM4, pm4, _⟩ := id m7
      refine ⟨false, hd, _, _, _, rfl, rfl, SqB.lst e7, rfl, b1, c1, rfl, ⟨_, pm4⟩, fun c5 hc5 => ?_⟩
      subst eB1
      refine copy_list (b1 := b1) (b2 := b2) m7 (by omega) hc5 fun H8 s8 hD => ?_
      refine neD_of 2 (by decide) (Dt.matB (hD.b (K := K))) (Dt.matB ((hM7.up s8).b (K := K))) (iT_mat _ _ 0 _) (iT_mat _ _ 0 _) (b := true) (by simp) ?_
      refine ⟨_, rfl, ?_⟩
      refine iteF' (by decide) ?_
      refine ⟨false, hd, _, _, _, rfl, rfl, SqB.lst (s8 _ _ e7), rfl, ?_⟩
      refine compE_st fun B2 eB2 => ?_
      simp only [iSeq]
      walk_at "r"
      have el8 := s8 _ _ el7
      refine ⟨false, ⟨_, SqB.lst el8⟩, fun c7 hc7 => ?_⟩
      subst eB2
      refine tops (some (.ref hd)) (some v) H8 _ el8 (fun tp2 H9 s9 etp2 => ?_) c7 hc7
      refine ⟨tp2, _, rfl, .inl ⟨SqL.of etp2, fun l9 hl9 => ?_⟩⟩
      have s10 : Same H9 (upd H9 l9 (.tup ((ts.map (· * yb)).map V.int))) := Same.new hl9
      have e10 : (upd H9 l9 (.tup ((ts.map (· * yb)).map V.int))) l9 = some (.tup ((ts.map (· * yb)).map V.int)) := upd_same
      generalize upd H9 l9 (.tup ((ts.map (· * yb)).map V.int)) = H10 at s10 e10
      have s710 := s8.trans (s9.trans s10)
      refine neD_of 1 (by decide) (Dt.intsB (t7.up s710)) (Dt.intsB (SqB.tup e10)) (iT_ints _ 0 _) (iT_ints _ 0 _) (b := true) (by simp) ?_
      refine ⟨_, rfl, ?_⟩
      refine iteF' (by decide) ?_
      obtain ⟨r7, rfl, hm7⟩ := hm
      have hM10 := hM7.up s710
      have el10 := s710 _ _ el7
      have isT : ∀ (a : Addr) (xs : List V) (Q' : VK) (H : Hp), H a = some (.tup xs) → Q' (.bl true) H → rIsi K [.ref a, .ty "tuple"] H Q' := fun a xs Q' H h1 h2 => ⟨_, _, _, _, rfl, .ty (.tup h1), rfl, T.k_tt, h2⟩
      have isS : ∀ (x : Str) (Q' : VK) (H : Hp), Q' (.bl true) H → rIsi K [.str x, .ty "str"] H Q' := fun x Q' H h2 => ⟨_, _, _, _, rfl, .ty (.str x), rfl, T.k_ss, h2⟩
      subst e1
      refine st fun N1 e1 => ?_
      walk_at "r"
      rcases hm7 with ⟨pp, ps, pw, hr7, hP, w0, wb, hg, pl, pb, peq⟩ | ⟨pp, ps, hr7, hP, pl, pb, pz, pn⟩
      · have hr8 := s710 _ _ hr7
        refine isT _ _ _ _ hr8 ⟨_, rfl, iteF' (by decide) ?_⟩
        refine ⟨true, r7, _, rfl, SqB.tup hr8, ?_⟩
        walk_at "r"
        refine iteF' rfl ?_
        refine ⟨true, r7, _, _, _, rfl, rfl, SqB.tup hr8, rfl, isS _ _ _ ⟨_, rfl, iteF' (by decide) ?_⟩⟩
        subst e1
        refine st fun N1 e1 => ?_
        walk_at "r"
        refine ⟨true, r7, _, _, _, rfl, rfl, SqB.tup hr8, rfl, ⟨rfl, ?_⟩⟩
        refine ⟨_, rfl, iteT ?_⟩
        refine ⟨true, r7, _, _, _, rfl, rfl, SqB.tup hr8, rfl, ?_⟩
        refine ⟨pp, ar, l, ps, ts, pw, low, MA, n, d, B, rfl, hP.up s710, hM10, el10, hR, n1, n40, d1, d12, hB, l0, l1, pl, tl, w0, wb, hg, pb, tb, fun i row x er ex => ?_, fun H8 s8 => hQ H8⟩
        have hi := (List.getElem?_eq_some_iff.mp ex).1
        obtain ⟨y, ey⟩ : ∃ y, (redT (low * yb) (ts.map (· * yb)))[i]? = some y := ⟨_, List.getElem?_eq_getElem (by omega)⟩
        have c1 := cross i x y ex ey
        obtain ⟨m, hm⟩ := peq i row y er ey
        refine ⟨m, ?_⟩
        generalize c * yb = k at *
        generalize redU (low * yb) (ts.map (· * yb)) = g at *
        rw [← cg, c1]
        have e5 : dotI row ps * (g * k) - y * k * pw = k * (dotI row ps * g - y * pw) := by grind
        rw [e5, hm]
        grind
      · have hr8 := s710 _ _ hr7
        refine isT _ _ _ _ hr8 ⟨_, rfl, iteF' (by decide) ?_⟩
        refine ⟨true, r7, _, rfl, SqB.tup hr8, ?_⟩
        walk_at "r"
        refine iteF' rfl ?_
        refine ⟨true, r7, _, _, _, rfl, rfl, SqB.tup hr8, rfl, isS _ _ _ ⟨_, rfl, iteF' (by decide) ?_⟩⟩
        subst e1
        refine st fun N1 e1 => ?_
        walk_at "r"
        refine ⟨true, r7, _, _, _, rfl, rfl, SqB.tup hr8, rfl, ⟨rfl, ?_⟩⟩
        refine ⟨_, rfl, iteF ?_⟩
        subst e1
        walk_at "r"
        refine ⟨true, r7, _, _, _, rfl, rfl, SqB.tup hr8, rfl, ⟨rfl, ?_⟩⟩
        show ∃ c, V.bl (decide (V.str (Str.ofString "row") = V.str (Str.ofString "row"))) = V.bl c ∧ _
        refine ⟨_, rfl, ?_⟩
        rw [decide_eq_true rfl]
        refine iteT ?_
        refine ⟨true, r7, _, _, _, rfl, rfl, SqB.tup hr8, rfl, ?_⟩
        refine ⟨pp, ar, l, ps, ts, low, MA, n, d, B, rfl, l0, s710 _ _ hP, hM10, el10, hR, n1, n40, d1, d12, hB, pl, tl, pb, tb, pz, fun z => pn ?_, fun H8 s8 => hQ H8⟩
        have c3 := dot_scaleW (w := 1) (c := c * yb) ps ts (redT (low * yb) (ts.map (· * yb))) (by omega) fun i x y ex ey => by rw [Int.mul_one]; exact cross i x y ex ey
        obtain ⟨m, hm⟩ := z
        refine ⟨m, Int.eq_of_mul_eq_mul_right cn ?_⟩
        rw [← c3, Int.mul_one, hm]
        generalize c * yb = k at *
        generalize redU (low * yb) (ts.map (· * yb)) = g at *
        rw [← cg, Int.mul_assoc, Int.mul_assoc, Int.mul_comm k m]
    walk_at "r"
    refine ⟨a, ns, 2, rfl, hS2, by decide, fun z2 => ?_⟩
    walk_at "r"
    exact ⟨by decide, ite2 (fun _ => key _ (.inr rfl)) (fun _ => key _ (.inl rfl))⟩

end
theorem us1 {α : Type} {us : List α} (h : us.length = 1) : ∃ a0, us = [a0] := match us, h with | [a0], _ => ⟨a0, rfl⟩
theorem us2 {α : Type} {us : List α} (h : us.length = 2) : ∃ a0 a1, us = [a0, a1] := match us, h with | [a0, a1], _ => ⟨a0, a1, rfl⟩
theorem us3 {α : Type} {us : List α} (h : us.length = 3) : ∃ a0 a1 a2, us = [a0, a1, a2] := match us, h with | [a0, a1, a2], _ => ⟨a0, a1, a2, rfl⟩
theorem us4 {α : Type} {us : List α} (h : us.length = 4) : ∃ a0 a1 a2 a3, us = [a0, a1, a2, a3] := match us, h with | [a0, a1, a2, a3], _ => ⟨a0, a1, a2, a3, rfl⟩
abbrev caG (K : Frag) (C : Addr) : Prop := PySem.W.findIn K (.ref C) "__class__" = some (some (.builtin "object.__class__"))
abbrev nG (K : Frag) (x : Str) (f : Addr) : Prop := PySem.W.nsIn K mainGlobals x = some (some (.ref f))
local macro_rules | `(tactic| walk_at "1") => `(tactic| (intro _ _ _ _ _ _ us hl; obtain ⟨_, hh⟩ := us1 hl; subst hh; rfl))
local macro_rules | `(tactic| walk_at "2") => `(tactic| (intro _ _ _ _ _ _ us hl; obtain ⟨_, _, hh⟩ := us2 hl; subst hh; rfl))
local macro_rules | `(tactic| walk_at "3") => `(tactic| (intro _ _ _ _ _ _ us hl; obtain ⟨_, _, _, hh⟩ := us3 hl; subst hh; rfl))
local macro_rules | `(tactic| walk_at "4") => `(tactic| (intro _ _ _ _ _ _ us hl; obtain ⟨_, _, _, _, hh⟩ := us4 hl; subst hh; rfl))
theorem txt_mk {K : Frag} {h : Heap} {mg : Str → Option Value} (X : K.In h) (G : h.Ns mainGlobals mg)
    {C_CrystalError C_NoPlace C_Steps f_divisor f_nearest f_place f_rest_place f_still_rows f_dot f_turned f_less f_exchange f_turn_signs f_Steps___init__ f_Steps_take f_Steps_rising f_Steps_gather f_Steps_set_lead f_stairs f_leads_of f_climbed f_meeting f_whole_met f_law_cell f_law_int f_law_number f_law_told_rows f_law_rows f_law_from_end f_law_some f_law_dot f_law_spot f_law_divides f_law_is_place f_law_is_row f_law_no_way f_law_way f_law_handed f_law : Addr} {d_divisor d_nearest d_place d_rest_place d_still_rows d_dot d_turned d_less d_exchange d_turn_signs d_Steps___init__ d_Steps_take d_Steps_rising d_Steps_gather d_Steps_set_lead d_stairs d_leads_of d_climbed d_meeting d_whole_met d_law_cell d_law_int d_law_number d_law_told_rows d_law_rows d_law_from_end d_law_some d_law_dot d_law_spot d_law_divides d_law_is_place d_law_is_row d_law_no_way d_law_way d_law_handed d_law : FuncData}
    {ts : List Addr}
    (n_CrystalError : nG K "CrystalError" C_CrystalError)
    (n_NoPlace : nG K "NoPlace" C_NoPlace)
    (n_Steps : nG K "Steps" C_Steps)
    (n_divisor : nG K "divisor" f_divisor)
    (F_divisor : Fun K "divisor" "divisor" s_divisor f_divisor d_divisor)
    (n_nearest : nG K "nearest" f_nearest)
    (F_nearest : Fun K "nearest" "nearest" s_nearest f_nearest d_nearest)
    (n_place : nG K "place" f_place)
    (F_place : Fun K "place" "place" s_place f_place d_place)
    (n_rest_place : nG K "rest_place" f_rest_place)
    (F_rest_place : Fun K "rest_place" "rest_place" s_rest_place f_rest_place d_rest_place)
    (n_still_rows : nG K "still_rows" f_still_rows)
    (F_still_rows : Fun K "still_rows" "still_rows" s_still_rows f_still_rows d_still_rows)
    (n_dot : nG K "dot" f_dot)
    (F_dot : Fun K "dot" "dot" s_dot f_dot d_dot)
    (n_turned : nG K "turned" f_turned)
    (F_turned : Fun K "turned" "turned" s_turned f_turned d_turned)
    (n_less : nG K "less" f_less)
    (F_less : Fun K "less" "less" s_less f_less d_less)
    (n_exchange : nG K "exchange" f_exchange)
    (F_exchange : Fun K "exchange" "exchange" s_exchange f_exchange d_exchange)
    (n_turn_signs : nG K "turn_signs" f_turn_signs)
    (F_turn_signs : Fun K "turn_signs" "turn_signs" s_turn_signs f_turn_signs d_turn_signs)
    (n_Steps___init__ : PySem.W.findIn K (.ref C_Steps) "__init__" = some (some (.ref f_Steps___init__)))
    (F_Steps___init__ : Fun K "__init__" "Steps.__init__" s_Steps___init__ f_Steps___init__ d_Steps___init__)
    (n_Steps_take : PySem.W.findIn K (.ref C_Steps) "take" = some (some (.ref f_Steps_take)))
    (F_Steps_take : Fun K "take" "Steps.take" s_Steps_take f_Steps_take d_Steps_take)
    (n_Steps_rising : PySem.W.findIn K (.ref C_Steps) "rising" = some (some (.ref f_Steps_rising)))
    (F_Steps_rising : Fun K "rising" "Steps.rising" s_Steps_rising f_Steps_rising d_Steps_rising)
    (n_Steps_gather : PySem.W.findIn K (.ref C_Steps) "gather" = some (some (.ref f_Steps_gather)))
    (F_Steps_gather : Fun K "gather" "Steps.gather" s_Steps_gather f_Steps_gather d_Steps_gather)
    (n_Steps_set_lead : PySem.W.findIn K (.ref C_Steps) "set_lead" = some (some (.ref f_Steps_set_lead)))
    (F_Steps_set_lead : Fun K "set_lead" "Steps.set_lead" s_Steps_set_lead f_Steps_set_lead d_Steps_set_lead)
    (n_stairs : nG K "stairs" f_stairs)
    (F_stairs : Fun K "stairs" "stairs" s_stairs f_stairs d_stairs)
    (n_leads_of : nG K "leads_of" f_leads_of)
    (F_leads_of : Fun K "leads_of" "leads_of" s_leads_of f_leads_of d_leads_of)
    (n_climbed : nG K "climbed" f_climbed)
    (F_climbed : Fun K "climbed" "climbed" s_climbed f_climbed d_climbed)
    (n_meeting : nG K "meeting" f_meeting)
    (F_meeting : Fun K "meeting" "meeting" s_meeting f_meeting d_meeting)
    (n_whole_met : nG K "whole_met" f_whole_met)
    (F_whole_met : Fun K "whole_met" "whole_met" s_whole_met f_whole_met d_whole_met)
    (n_law_cell : nG K "_law_cell" f_law_cell)
    (F_law_cell : Fun K "_law_cell" "_law_cell" s_law_cell f_law_cell d_law_cell)
    (n_law_int : nG K "_law_int" f_law_int)
    (F_law_int : Fun K "_law_int" "_law_int" s_law_int f_law_int d_law_int)
    (n_law_number : nG K "_law_number" f_law_number)
    (F_law_number : Fun K "_law_number" "_law_number" s_law_number f_law_number d_law_number)
    (n_law_told_rows : nG K "_law_told_rows" f_law_told_rows)
    (F_law_told_rows : Fun K "_law_told_rows" "_law_told_rows" s_law_told_rows f_law_told_rows d_law_told_rows)
    (n_law_rows : nG K "_law_rows" f_law_rows)
    (F_law_rows : Fun K "_law_rows" "_law_rows" s_law_rows f_law_rows d_law_rows)
    (n_law_from_end : nG K "_law_from_end" f_law_from_end)
    (F_law_from_end : Fun K "_law_from_end" "_law_from_end" s_law_from_end f_law_from_end d_law_from_end)
    (n_law_some : nG K "_law_some" f_law_some)
    (F_law_some : Fun K "_law_some" "_law_some" s_law_some f_law_some d_law_some)
    (n_law_dot : nG K "_law_dot" f_law_dot)
    (F_law_dot : Fun K "_law_dot" "_law_dot" s_law_dot f_law_dot d_law_dot)
    (n_law_spot : nG K "_law_spot" f_law_spot)
    (F_law_spot : Fun K "_law_spot" "_law_spot" s_law_spot f_law_spot d_law_spot)
    (n_law_divides : nG K "_law_divides" f_law_divides)
    (F_law_divides : Fun K "_law_divides" "_law_divides" s_law_divides f_law_divides d_law_divides)
    (n_law_is_place : nG K "_law_is_place" f_law_is_place)
    (F_law_is_place : Fun K "_law_is_place" "_law_is_place" s_law_is_place f_law_is_place d_law_is_place)
    (n_law_is_row : nG K "_law_is_row" f_law_is_row)
    (F_law_is_row : Fun K "_law_is_row" "_law_is_row" s_law_is_row f_law_is_row d_law_is_row)
    (n_law_no_way : nG K "_law_no_way" f_law_no_way)
    (F_law_no_way : Fun K "_law_no_way" "_law_no_way" s_law_no_way f_law_no_way d_law_no_way)
    (n_law_way : nG K "_law_way" f_law_way)
    (F_law_way : Fun K "_law_way" "_law_way" s_law_way f_law_way d_law_way)
    (n_law_handed : nG K "_law_handed" f_law_handed)
    (F_law_handed : Fun K "_law_handed" "_law_handed" s_law_handed f_law_handed d_law_handed)
    (n_law : nG K "law" f_law)
    (F_law : Fun K "law" "law" s_law f_law d_law)
    (y_abs : PySem.W.nsIn K mainGlobals "abs" = some none)
    (y_bool : PySem.W.nsIn K mainGlobals "bool" = some none)
    (y_enumerate : PySem.W.nsIn K mainGlobals "enumerate" = some none)
    (y_int : PySem.W.nsIn K mainGlobals "int" = some none)
    (y_isinstance : PySem.W.nsIn K mainGlobals "isinstance" = some none)
    (y_len : PySem.W.nsIn K mainGlobals "len" = some none)
    (y_list : PySem.W.nsIn K mainGlobals "list" = some none)
    (y_max : PySem.W.nsIn K mainGlobals "max" = some none)
    (y_range : PySem.W.nsIn K mainGlobals "range" = some none)
    (y_reversed : PySem.W.nsIn K mainGlobals "reversed" = some none)
    (y_sorted : PySem.W.nsIn K mainGlobals "sorted" = some none)
    (y_str : PySem.W.nsIn K mainGlobals "str" = some none)
    (y_sum : PySem.W.nsIn K mainGlobals "sum" = some none)
    (y_tuple : PySem.W.nsIn K mainGlobals "tuple" = some none)
    (y_zip : PySem.W.nsIn K mainGlobals "zip" = some none)
    (q_k_int : PySem.W.kitOne K (.type "int") (.type "int") = some true)
    (q_k_ib : PySem.W.kitOne K (.type "int") (.type "bool") = some false)
    (q_k_tt : PySem.W.kitOne K (.type "tuple") (.type "tuple") = some true)
    (q_k_ll : PySem.W.kitOne K (.type "list") (.type "list") = some true)
    (q_cl_Steps : L2.Cls K C_Steps)
    (q_mk_Steps : L2.Mk K C_Steps f_Steps___init__)
    (q_no_lines : PySem.W.findIn K (.ref C_Steps) "lines" = some none)
    (q_no_columns : PySem.W.findIn K (.ref C_Steps) "columns" = some none)
    (q_me_Steps_take : L2.Meth K C_Steps "take" f_Steps_take)
    (q_me_Steps_rising : L2.Meth K C_Steps "rising" f_Steps_rising)
    (q_me_Steps_gather : L2.Meth K C_Steps "gather" f_Steps_gather)
    (q_me_Steps_set_lead : L2.Meth K C_Steps "set_lead" f_Steps_set_lead)
    (q_tb_Steps_rising : L2.tabOk K f_Steps_rising = true)
    (q_k_ss : PySem.W.kitOne K (.type "str") (.type "str") = some true)
    (q_x_NoPlace : PySem.W.excIn K C_NoPlace [.type "ValueError", .type "Exception", .type "BaseException", .type "object"] "ValueError.__new__" = true)
    (q_tb_whole_met : L2.tabOk K f_whole_met = true)
    (q_tb_ne : (L2.tabP K f_Steps_rising == L2.tabP K f_whole_met) = false)
    (w_Steps_rising : ts.contains (L2.tabP K f_Steps_rising) = true)
    (w_whole_met : ts.contains (L2.tabP K f_whole_met) = true)
    : ∃ t, Txt K mg t ∧ ∀ f ∈ [Adr.a_Steps_rising t, Adr.a_whole_met t], L2.tabP K f ∈ ts := by
  have b_divisor := F_divisor.binds (ps := ["one", "other"]) (by walk_at "2")
  have b_nearest := F_nearest.binds (ps := ["one", "other"]) (by walk_at "2")
  have b_place := F_place.binds (ps := ["tops", "under"]) (by walk_at "2")
  have b_rest_place := F_rest_place.binds (ps := ["one"]) (by walk_at "1")
  have b_still_rows := F_still_rows.binds (ps := ["size"]) (by walk_at "1")
  have b_dot := F_dot.binds (ps := ["one", "other"]) (by walk_at "2")
  have b_turned := F_turned.binds (ps := ["rows"]) (by walk_at "1")
  have b_less := F_less.binds (ps := ["one", "other", "count"]) (by walk_at "3")
  have b_exchange := F_exchange.binds (ps := ["table", "i", "j"]) (by walk_at "3")
  have b_turn_signs := F_turn_signs.binds (ps := ["table", "i"]) (by walk_at "2")
  have b_Steps___init__ := F_Steps___init__.binds (ps := ["self", "rows"]) (by walk_at "2")
  have b_Steps_take := F_Steps_take.binds (ps := ["self", "i", "j", "count"]) (by walk_at "4")
  have b_Steps_rising := F_Steps_rising.binds (ps := ["self", "top", "k"]) (by walk_at "3")
  have b_Steps_gather := F_Steps_gather.binds (ps := ["self", "top", "k"]) (by walk_at "3")
  have b_Steps_set_lead := F_Steps_set_lead.binds (ps := ["self", "top", "k"]) (by walk_at "3")
  have b_stairs := F_stairs.binds (ps := ["rows"]) (by walk_at "1")
  have b_leads_of := F_leads_of.binds (ps := ["form"]) (by walk_at "1")
  have b_climbed := F_climbed.binds (ps := ["form", "leads", "tops", "under"]) (by walk_at "4")
  have b_meeting := F_meeting.binds (ps := ["rows", "spot", "fits"]) (by walk_at "3")
  have b_whole_met := F_whole_met.binds (ps := ["rows", "tops", "under"]) (by walk_at "3")
  have b_law_cell := F_law_cell.binds (ps := ["_law_script", "_law_k"]) (by walk_at "2")
  have b_law_int := F_law_int.binds (ps := ["_law_thing"]) (by walk_at "1")
  have b_law_number := F_law_number.binds (ps := ["_law_cell_here", "_law_way_here"]) (by walk_at "2")
  have b_law_told_rows := F_law_told_rows.binds (ps := ["_law_left"]) (by walk_at "1")
  have b_law_rows := F_law_rows.binds (ps := ["_law_script"]) (by walk_at "1")
  have b_law_from_end := F_law_from_end.binds (ps := ["_law_script", "_law_k"]) (by walk_at "2")
  have b_law_some := F_law_some.binds (ps := ["_law_script", "_law_first", "_law_many"]) (by walk_at "3")
  have b_law_dot := F_law_dot.binds (ps := ["_law_one", "_law_other"]) (by walk_at "2")
  have b_law_spot := F_law_spot.binds (ps := ["_law_script", "_law_rows_here"]) (by walk_at "2")
  have b_law_divides := F_law_divides.binds (ps := ["_law_one", "_law_other"]) (by walk_at "2")
  have b_law_is_place := F_law_is_place.binds (ps := ["_law_found", "_law_m"]) (by walk_at "2")
  have b_law_is_row := F_law_is_row.binds (ps := ["_law_found", "_law_n"]) (by walk_at "2")
  have b_law_no_way := F_law_no_way.binds (ps := ["_law_found", "_law_rows_here", "_law_tops", "_law_low"]) (by walk_at "4")
  have b_law_way := F_law_way.binds (ps := ["_law_found", "_law_rows_here", "_law_tops", "_law_low"]) (by walk_at "4")
  have b_law_handed := F_law_handed.binds (ps := ["_law_rows_here", "_law_way_here"]) (by walk_at "2")
  have b_law := F_law.binds (ps := ["_law_script"]) (by walk_at "1")
  obtain ⟨_, _, _, _, _, _, _, _, _, rfl, _, _⟩ := id F_law.ex
  exact ⟨⟨f_divisor, _, f_nearest, _, f_place, _, f_rest_place, _, f_still_rows, _, f_dot, _, f_turned, _, f_less, _, f_exchange, _, f_turn_signs, _, f_Steps___init__, _, f_Steps_take, _, f_Steps_rising, _, f_Steps_gather, _, f_Steps_set_lead, _, f_stairs, _, f_leads_of, _, f_climbed, _, f_meeting, _, f_whole_met, _, f_law_cell, _, f_law_int, _, f_law_number, _, f_law_told_rows, _, f_law_rows, _, f_law_from_end, _, f_law_some, _, f_law_dot, _, f_law_spot, _, f_law_divides, _, f_law_is_place, _, f_law_is_row, _, f_law_no_way, _, f_law_way, _, f_law_handed, _, f_law, _, C_CrystalError, C_NoPlace, C_Steps⟩, ⟨F_divisor, PySem.W.mg_of X G n_divisor, b_divisor, F_nearest, PySem.W.mg_of X G n_nearest, b_nearest, F_place, PySem.W.mg_of X G n_place, b_place, F_rest_place, PySem.W.mg_of X G n_rest_place, b_rest_place, F_still_rows, PySem.W.mg_of X G n_still_rows, b_still_rows, F_dot, PySem.W.mg_of X G n_dot, b_dot, F_turned, PySem.W.mg_of X G n_turned, b_turned, F_less, PySem.W.mg_of X G n_less, b_less, F_exchange, PySem.W.mg_of X G n_exchange, b_exchange, F_turn_signs, PySem.W.mg_of X G n_turn_signs, b_turn_signs, F_Steps___init__, b_Steps___init__, F_Steps_take, b_Steps_take, F_Steps_rising, b_Steps_rising, F_Steps_gather, b_Steps_gather, F_Steps_set_lead, b_Steps_set_lead, F_stairs, PySem.W.mg_of X G n_stairs, b_stairs, F_leads_of, PySem.W.mg_of X G n_leads_of, b_leads_of, F_climbed, PySem.W.mg_of X G n_climbed, b_climbed, F_meeting, PySem.W.mg_of X G n_meeting, b_meeting, F_whole_met, PySem.W.mg_of X G n_whole_met, b_whole_met, F_law_cell, PySem.W.mg_of X G n_law_cell, b_law_cell, F_law_int, PySem.W.mg_of X G n_law_int, b_law_int, F_law_number, PySem.W.mg_of X G n_law_number, b_law_number, F_law_told_rows, PySem.W.mg_of X G n_law_told_rows, b_law_told_rows, F_law_rows, PySem.W.mg_of X G n_law_rows, b_law_rows, F_law_from_end, PySem.W.mg_of X G n_law_from_end, b_law_from_end, F_law_some, PySem.W.mg_of X G n_law_some, b_law_some, F_law_dot, PySem.W.mg_of X G n_law_dot, b_law_dot, F_law_spot, PySem.W.mg_of X G n_law_spot, b_law_spot, F_law_divides, PySem.W.mg_of X G n_law_divides, b_law_divides, F_law_is_place, PySem.W.mg_of X G n_law_is_place, b_law_is_place, F_law_is_row, PySem.W.mg_of X G n_law_is_row, b_law_is_row, F_law_no_way, PySem.W.mg_of X G n_law_no_way, b_law_no_way, F_law_way, PySem.W.mg_of X G n_law_way, b_law_way, F_law_handed, PySem.W.mg_of X G n_law_handed, b_law_handed, F_law, PySem.W.mg_of X G n_law, b_law, PySem.W.mg_none_of X G y_abs, PySem.W.mg_none_of X G y_bool, PySem.W.mg_none_of X G y_enumerate, PySem.W.mg_none_of X G y_int, PySem.W.mg_none_of X G y_isinstance, PySem.W.mg_none_of X G y_len, PySem.W.mg_none_of X G y_list, PySem.W.mg_none_of X G y_max, PySem.W.mg_none_of X G y_range, PySem.W.mg_none_of X G y_reversed, PySem.W.mg_none_of X G y_sorted, PySem.W.mg_none_of X G y_str, PySem.W.mg_none_of X G y_sum, PySem.W.mg_none_of X G y_tuple, PySem.W.mg_none_of X G y_zip, PySem.W.mg_of X G n_CrystalError, PySem.W.mg_of X G n_NoPlace, PySem.W.mg_of X G n_Steps, q_k_int, q_k_ib, q_k_tt, q_k_ll, q_cl_Steps, q_mk_Steps, q_no_lines, q_no_columns, q_me_Steps_take, q_me_Steps_rising, q_me_Steps_gather, q_me_Steps_set_lead, q_tb_Steps_rising, q_k_ss, q_x_NoPlace, q_tb_whole_met, q_tb_ne, fun s v => .of_eq rfl⟩, List.forall_mem_cons.mpr ⟨by simpa using w_Steps_rising, List.forall_mem_cons.mpr ⟨by simpa using w_whole_met, fun _ h => nomatch h⟩⟩⟩
theorem head_mk {P : Program} {w : World} {K : Frag} {mg : Str → Option Value} {fa : Addr} {ts : List Addr} (tr : P.given.tree = none) (h : ∃ t, Txt K mg t ∧ ∀ f ∈ [Adr.a_Steps_rising t, Adr.a_whole_met t], L2.tabP K f ∈ ts) (hmg : mg "law" = some (.ref fa)) :
    ∃ (fd : FuncData) (fl : List Addr), (∀ f ∈ fl, tabOk K f = true ∧ tabP K f ∈ ts) ∧ (∀ (s : Shared) (u : Value), BindsTo s fd ⟨[u], []⟩ [("_law_script", u)]) ∧ ∀ base : Heap, K.In base → base.Ns mainGlobals mg → BMain mg base → base.NoSeer → FnOk P w K mg base CX0 46 fa fd ["_law_script"] (spLawT K fl) := by
  obtain ⟨t, T, W⟩ := h
  have e0 := hmg.symm.trans T.m_law
  cases e0
  have W1 := List.forall_mem_cons.mp W
  have W2 := List.forall_mem_cons.mp W1.2
  exact ⟨t.d_law, [t.a_Steps_rising, t.a_whole_met], List.forall_mem_cons.mpr ⟨⟨T.tb_Steps_rising, W1.1⟩, List.forall_mem_cons.mpr ⟨⟨T.tb_whole_met, W2.1⟩, fun _ h => nomatch h⟩⟩, T.bl, fun base _ _ bm se => ok_law T ⟨bm, se, tr⟩⟩
end Cw
open PySem PySem.W PyProof.Rows
/-! Names that the head would else lay equations under (of whole heaps and of their trees): the proof wants none of them. -/
namespace PySem.W.Fast
def tw4474908644815764572:=Nat
def tw1835631733374080458:=Nat
def tw2673124451018473556:=Nat
def tw237487097710936481:=Nat
def tw6995009715743081287:=Nat
def tw8552349473902000287:=Nat
def tw16242531614870544224:=Nat
def tw110809063786618838:=Nat
def tw16578492966162601675:=Nat
def tw13093055796291700983:=Nat
def tw16795908616720137237:=Nat
def tw106503424026862030:=Nat
def tw7802764427453966056:=Nat
def tw10309581470545092655:=Nat
def tw343250882537679436:=Nat
def tw2841124296760518256:=Nat
def tw15835877399635789809:=Nat
def tw5023291577808023975:=Nat
def tw5016187779719106249:=Nat
def tw2985179003260165616:=Nat
def tw17197095448419126755:=Nat
def tw1267390827056027410:=Nat
def tw8545321051858302371:=Nat
def tw10481544312911435346:=Nat
def tw6220710000175397056:=Nat
def tw2419797030394473158:=Nat
def tw15835544682020521283:=Nat
def tw1696892684668658143:=Nat
def tw3281868964959385405:=Nat
def tw16315519766467583986:=Nat
def tw13152932159021962073:=Nat
def tw5547330092901032347:=Nat
def tw5537855993671372071:=Nat
def tw5508793509987422269:=Nat
def tw879283023315433987:=Nat
def tw6466041798448921623:=Nat
def tw7332981875242314592:=Nat
def tw12509231600498502804:=Nat
def tw1739521203503177425:=Nat
def tw5550401647736409982:=Nat
def tw4300889728481835575:=Nat
def tw12578787923436560459:=Nat
def tw8241082848496353868:=Nat
def tw18256562431236433937:=Nat
def tw14303094473428073614:=Nat
def tw2576557931750374909:=Nat
def tw9673379930581773023:=Nat
def tw15900612489906330903:=Nat
def tw3935765882787059888:=Nat
def tw6993934728680139949:=Nat
def tw16765364584530789750:=Nat
def tw13324105900446663568:=Nat
def tw15120058949437617383:=Nat
def tw382831973089360299:=Nat
def tw14292858007423128162:=Nat
def tw14020843809572310871:=Nat
def tw12079128961049368002:=Nat
def tw12182380351824358853:=Nat
def tw15361064322742928885:=Nat
def tw17798815577427622408:=Nat
def tw749968619342450070:=Nat
def tw13076947867272408985:=Nat
def tw12038082511724924600:=Nat
def tw17083782760078741938:=Nat
def tw5746679950144478633:=Nat
def tw290681315546192634:=Nat
def tw9398230710663239481:=Nat
def tw17288587875640314768:=Nat
def tw4885774419071782751:=Nat
def tw1819638359831468781:=Nat
def tw1865227956730743872:=Nat
def tw3850276477219901707:=Nat
def tw15583159426438429994:=Nat
def tw1031634568784292923:=Nat
def tw2195747672750546583:=Nat
def tw12325581755979920344:=Nat
def tw4744644925498147919:=Nat
def tw3559891166721409597:=Nat
def tw2949824530752778530:=Nat
def tw5647256474277136811:=Nat
def tw11713075777148073745:=Nat
def tw8089772921523140459:=Nat
def tw1668510871822959380:=Nat
def tw14278401776760509331:=Nat
def tw11607572589438557587:=Nat
def tw1817173720354639747:=Nat
def tw4588082350741211593:=Nat
def tw10350544838011617462:=Nat
def tw15266654611500556658:=Nat
def tw5642529305239403994:=Nat
def tw5204989050174949723:=Nat
def tw1805250830255384413:=Nat
def tw7119544505945810898:=Nat
def tw11163645834075554119:=Nat
def tw12465426422629792623:=Nat
def tw4118105301307111281:=Nat
def tw8588800105903257225:=Nat
def tw2587933132912273544:=Nat
def tw14253937981211623322:=Nat
def tw6705186312893617623:=Nat
def tw10037217003655371846:=Nat
def tw17493635226981617473:=Nat
def tw8721640427089773191:=Nat
def tw12388678957555181:=Nat
def tw11117167924530940128:=Nat
def tw11798714841640618038:=Nat
def tw18139695163618924189:=Nat
def tw17320296540153456645:=Nat
def tw2286717581609386679:=Nat
def tw16732904299819952197:=Nat
def tw269285626683006034:=Nat
def tw1435624291812217924:=Nat
def tw2055957547080824825:=Nat
def tw13035126046180200608:=Nat
def tw7946141947508249458:=Nat
def tw14385296527714000272:=Nat
def tw557244990507630380:=Nat
def tw14260456494312082513:=Nat
def tw1786926705807129002:=Nat
def tw2965238142014075160:=Nat
def tw13488901124979043972:=Nat
def tw9117822979286213364:=Nat
def tw12344271412076896131:=Nat
def tw16506437672066479827:=Nat
def tw9762942246402495996:=Nat
def tw4745488021708867488:=Nat
def tw8350044607292805009:=Nat
def tw16818794115584582332:=Nat
def tw1724051723990936108:=Nat
def tw4592838938462273036:=Nat
def tw11912657179799415723:=Nat
def tw1541116544189009408:=Nat
def tw11651081806241935001:=Nat
def tw14959296415819128138:=Nat
def tw4383495030155776017:=Nat
def tw1260969422243251851:=Nat
def tw17206047640946472022:=Nat
def tw11688466447690110310:=Nat
def tw10723592784157529073:=Nat
def tw15789178358544923508:=Nat
def tw17410163714181187747:=Nat
def tw14579919566384345949:=Nat
def tw13206021155177128394:=Nat
def tw14450000396100472169:=Nat
def tw3061007484570006691:=Nat
def tw16380439460098258037:=Nat
def tw11545508319475619848:=Nat
def tw18275603202784668203:=Nat
def tw7894168222422934547:=Nat
def tw10978682209348106215:=Nat
def tw2678983128205289097:=Nat
def tw7367954213323369443:=Nat
def tw17829345192064924425:=Nat
def tw4856913991325930378:=Nat
def tw2946161062243226621:=Nat
def tw15927256801511076611:=Nat
def tw17889239213792863684:=Nat
def tw2617115966949876767:=Nat
def tw7281238938052535866:=Nat
def tw578759467475782606:=Nat
def tw10569799165392961694:=Nat
def tw200750565801368716:=Nat
def tw11264756548491307737:=Nat
def tw3865449979420591756:=Nat
def tw17643922179543571356:=Nat
def tw15743910351951727178:=Nat
def tw529985874271228337:=Nat
def tw8646987818234342298:=Nat
def tw8466992146233630300:=Nat
def tw5059463335876669864:=Nat
def tw3881358354918404390:=Nat
def tw7466981041290587580:=Nat
def tw8916417492175932138:=Nat
def tw3146310604647621865:=Nat
def tw3509565097103561921:=Nat
def tw1812695650114113034:=Nat
end PySem.W.Fast
set_option maxRecDepth 100000 in
set_option maxHeartbeats 0 in
theorem PySem.Challenge.cw_crystalwords_k26_whole_met_holds : PySem.Challenge.rw_crystalwords_k26_whole_met.Holds := by
  w_on; o_law; k_head; (case hw => w_witness2)
  k_fill
  refine L2.walkT (l := PySem.Challenge.rw_crystalwords_k26_whole_met) (k := 46) (x := "_law_script") rfl rfl (by decide +kernel) ⟨rfl, by decide, by decide⟩ (fun w h Y => ⟨PySem.W.km_in_of Y, PySem.W.km_tabs_of Y⟩) ?F
  case F =>
    intro w mg fa h KX G hmg
    refine Cw.head_mk (K := L2.KOf KX) (by rfl) ?T hmg
    dsimp only [L2.KOf]
    refine' Cw.txt_mk KX G ?n_CrystalError ?n_NoPlace ?n_Steps ?n_divisor ?F_divisor ?n_nearest ?F_nearest ?n_place ?F_place ?n_rest_place ?F_rest_place ?n_still_rows ?F_still_rows ?n_dot ?F_dot ?n_turned ?F_turned ?n_less ?F_less ?n_exchange ?F_exchange ?n_turn_signs ?F_turn_signs ?n_Steps___init__ ?F_Steps___init__ ?n_Steps_take ?F_Steps_take ?n_Steps_rising ?F_Steps_rising ?n_Steps_gather ?F_Steps_gather ?n_Steps_set_lead ?F_Steps_set_lead ?n_stairs ?F_stairs ?n_leads_of ?F_leads_of ?n_climbed ?F_climbed ?n_meeting ?F_meeting ?n_whole_met ?F_whole_met ?n_law_cell ?F_law_cell ?n_law_int ?F_law_int ?n_law_number ?F_law_number ?n_law_told_rows ?F_law_told_rows ?n_law_rows ?F_law_rows ?n_law_from_end ?F_law_from_end ?n_law_some ?F_law_some ?n_law_dot ?F_law_dot ?n_law_spot ?F_law_spot ?n_law_divides ?F_law_divides ?n_law_is_place ?F_law_is_place ?n_law_is_row ?F_law_is_row ?n_law_no_way ?F_law_no_way ?n_law_way ?F_law_way ?n_law_handed ?F_law_handed ?n_law ?F_law ?y_abs ?y_bool ?y_enumerate ?y_int ?y_isinstance ?y_len ?y_list ?y_max ?y_range ?y_reversed ?y_sorted ?y_str ?y_sum ?y_tuple ?y_zip ?q_k_int ?q_k_ib ?q_k_tt ?q_k_ll ?q_cl_Steps ?q_mk_Steps ?q_no_lines ?q_no_columns ?q_me_Steps_take ?q_me_Steps_rising ?q_me_Steps_gather ?q_me_Steps_set_lead ?q_tb_Steps_rising ?q_k_ss ?q_x_NoPlace ?q_tb_whole_met ?q_tb_ne ?w_Steps_rising ?w_whole_met
    (case n_CrystalError | n_NoPlace | n_Steps | n_divisor | n_nearest | n_place | n_rest_place | n_still_rows | n_dot | n_turned | n_less | n_exchange | n_turn_signs | n_stairs | n_leads_of | n_climbed | n_meeting | n_whole_met | n_law_cell | n_law_int | n_law_number | n_law_told_rows | n_law_rows | n_law_from_end | n_law_some | n_law_dot | n_law_spot | n_law_divides | n_law_is_place | n_law_is_row | n_law_no_way | n_law_way | n_law_handed | n_law => show _ = _; k_is)
    (case n_Steps___init__ | n_Steps_take | n_Steps_rising | n_Steps_gather | n_Steps_set_lead | y_abs | y_bool | y_enumerate | y_int | y_isinstance | y_len | y_list | y_max | y_range | y_reversed | y_sorted | y_str | y_sum | y_tuple | y_zip | q_no_lines | q_no_columns => k_is)
    (case F_divisor | F_nearest | F_place | F_rest_place | F_still_rows | F_dot | F_turned | F_less | F_exchange | F_turn_signs | F_Steps___init__ | F_Steps_take | F_Steps_rising | F_Steps_gather | F_Steps_set_lead | F_stairs | F_leads_of | F_climbed | F_meeting | F_whole_met | F_law_cell | F_law_int | F_law_number | F_law_told_rows | F_law_rows | F_law_from_end | F_law_some | F_law_dot | F_law_spot | F_law_divides | F_law_is_place | F_law_is_row | F_law_no_way | F_law_way | F_law_handed | F_law => refine' L2.fun_mk ?l ?c ?k; (case l => k_is); (case c => k_is); (case k => k_is))
    (case q_k_int | q_k_ib | q_k_tt | q_k_ll | q_k_ss => kit_is)
    (case q_cl_Steps | q_mk_Steps => exact ⟨by k_is, by k_is, by k_is, by k_is⟩)
    (case q_me_Steps_take | q_me_Steps_rising | q_me_Steps_gather | q_me_Steps_set_lead => exact ⟨by k_is, by k_is, by k_is⟩)
    (case q_tb_Steps_rising | q_tb_whole_met | q_tb_ne | w_Steps_rising | w_whole_met => kernel_rfl)
    (case q_x_NoPlace => k_exc)
#print axioms PySem.Challenge.cw_crystalwords_k26_whole_met_holds
