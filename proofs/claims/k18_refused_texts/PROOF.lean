import PyProof.Rows.All
import Wide.All
import OpenK.AllK
import Wide.FinOn
import Lean
import PyProof.EqAt
import PyProof.EqKinds
import PyProof.TupleCall
import PySem.Challenge.RW_crystalwords_k18_refused_texts
set_option Elab.async false
set_option linter.all false
set_option compiler.extract_closed false
set_option genSizeOf false
set_option bootstrap.genMatcherCode false
set_option maxRecDepth 100000
namespace L2
open PySem PySem.Spec PyProof.Rows

noncomputable abbrev Key := Sum Int Str
noncomputable def keyIs : Key → Value → Bool
  | .inl k, v => Value.isInt k v
  | .inr x, v => Value.isStrOf x v
noncomputable def keyH (w : World) : Key → Int
  | .inl k => hashInt k
  | .inr x => hashStr w x
theorem keyIs_shape : ∀ {k : Key} {v : Value}, keyIs k v = true → (∃ i t, k = Sum.inl i ∧ v = Value.int i t) ∨ (∃ x t, k = Sum.inr x ∧ v = Value.str x t)
  | .inl i, v, h => by
    obtain ⟨t, e⟩ := Value.isInt_shape (k := i) (v := v) h
    exact .inl ⟨i, t, rfl, e⟩
  | .inr x, v, h => by
    obtain ⟨t, e⟩ := Value.isStrOf_shape (x := x) (v := v) h
    exact .inr ⟨x, t, rfl, e⟩
theorem keyIs_int (i : Int) (t : Tok) : keyIs (.inl i) (.int i t) = true := by simp [keyIs, Value.isInt]
theorem keyIs_str (x : Str) (t : Tok) : keyIs (.inr x) (.str x t) = true := by simp [keyIs, Value.isStrOf]
theorem key_ll (a b : Int) : decide ((Sum.inl a : Key) = Sum.inl b) = (a == b) := by
  by_cases e : a = b
  · subst e; simp
  · have h : ¬ (Sum.inl a : Key) = Sum.inl b := fun q => e (Sum.inl.inj q)
    rw [decide_eq_false h]
    exact (beq_eq_false_iff_ne.mpr e).symm
theorem key_rr (a b : Str) : decide ((Sum.inr a : Key) = Sum.inr b) = decide (a = b) := by
  by_cases e : a = b
  · subst e; simp
  · have h : ¬ (Sum.inr a : Key) = Sum.inr b := fun q => e (Sum.inr.inj q)
    rw [decide_eq_false h, decide_eq_false e]
theorem key_lr (a : Int) (b : Str) : decide ((Sum.inl a : Key) = Sum.inr b) = false := decide_eq_false (fun q => nomatch q)
theorem key_rl (a : Str) (b : Int) : decide ((Sum.inr a : Key) = Sum.inl b) = false := decide_eq_false (fun q => nomatch q)

noncomputable def mixKind (prog : Program) (w : World) : PySem.KeyKind prog w Key where
  is := keyIs
  hash := keyH w
  inj := fun v a b ha hb => by
    rcases keyIs_shape ha with ⟨i, t, rfl, rfl⟩ | ⟨x, t, rfl, rfl⟩
    · rcases keyIs_shape hb with ⟨j, u, rfl, e⟩ | ⟨y, u, rfl, e⟩
      · injection e with e1 _; rw [e1]
      · exact nomatch e
    · rcases keyIs_shape hb with ⟨j, u, rfl, e⟩ | ⟨y, u, rfl, e⟩
      · exact nomatch e
      · injection e with e1 _; rw [e1]
  byValue := fun k v h => by
    rcases keyIs_shape h with ⟨i, t, rfl, rfl⟩ | ⟨x, t, rfl, rfl⟩ <;> rfl
  pyHash := fun hv h => by
    rcases keyIs_shape hv with ⟨i, t, rfl, rfl⟩ | ⟨x, t, rfl, rfl⟩
    · exact wpAny_pyHash_int h
    · exact wpAny_pyHash_str h
  eqBool := fun hu hv h => by
    rcases keyIs_shape hu with ⟨i, t, rfl, rfl⟩ | ⟨x, t, rfl, rfl⟩
    · rcases keyIs_shape hv with ⟨j, u, rfl, rfl⟩ | ⟨y, u, rfl, rfl⟩
      · rw [key_ll] at h; exact wpAny_eqBool_int h
      · rw [key_lr] at h; exact SeqAt.EqAt.int_str i t y u _ _ _ _ h
    · rcases keyIs_shape hv with ⟨j, u, rfl, rfl⟩ | ⟨y, u, rfl, rfl⟩
      · rw [key_rl] at h; exact SeqAt.EqAt.str_int x t j u _ _ _ _ h
      · rw [key_rr] at h; exact wpAny_eqBool_str h
  «strs» := fun k x t v h => by
    rcases keyIs_shape h with ⟨i, u, rfl, e⟩ | ⟨y, u, rfl, e⟩
    · exact nomatch e
    · injection e with e1 _
      subst e1
      cases v <;> rfl

theorem mixKind_int (prog : Program) (w : World) (i : Int) (t : Tok) : (mixKind prog w).is (.inl i) (.int i t) = true := keyIs_int i t
theorem mixKind_str (prog : Program) (w : World) (x : Str) (t : Tok) : (mixKind prog w).is (.inr x) (.str x t) = true := keyIs_str x t
end L2

namespace L2
open PySem PySem.Spec PyProof.Rows

inductive V where
  | non | bl (b : Bool) | int (i : Int) | str (x : Str) | byt (b : Array UInt8) | flt (b : UInt64) | ref (a : Addr) | ty (n : String)
  deriving DecidableEq

noncomputable def RelV : V → Value → Prop
  | .non, u => u = Value.none
  | .bl b, u => u = Value.bool b
  | .int i, u => ∃ t, u = Value.int i t
  | .str x, u => ∃ t, u = Value.str x t
  | .byt b, u => ∃ t, u = Value.bytes b t
  | .flt b, u => ∃ t, u = Value.float b t
  | .ref a, u => u = Value.ref a
  | .ty n, u => u = Value.type n

noncomputable abbrev Vals : List V → List Value → Prop := Paired RelV
theorem Vals.length {xs : List V} {us : List Value} (r : Vals xs us) : xs.length = us.length := Paired.length r
theorem Vals.get : ∀ {xs : List V} {us : List Value} {i : Nat} {x : V}, Vals xs us → xs[i]? = some x → ∃ u, us[i]? = some u ∧ RelV x u
  | _, _, _, _, .nil, e => by simp at e
  | _, _, 0, _, .cons r _, e => by simp at e; subst e; exact ⟨_, rfl, r⟩
  | _, _, i + 1, x, .cons _ t, e => by
    obtain ⟨u, h1, h2⟩ := Vals.get (i := i) (x := x) t (by simpa using e)
    exact ⟨u, by simpa using h1, h2⟩
theorem Vals.set {x : V} {u : Value} (r : RelV x u) : ∀ {xs : List V} {us : List Value} (i : Nat), Vals xs us → Vals (xs.set i x) (us.set i u)
  | _, _, _, .nil => .nil
  | _, _, 0, .cons _ t => .cons r t
  | _, _, i + 1, .cons q t => .cons q (Vals.set r i t)
theorem Vals.append : ∀ {xs ys : List V} {us ws : List Value}, Vals xs us → Vals ys ws → Vals (xs ++ ys) (us ++ ws)
  | _, _, _, _, .nil, s => s
  | _, _, _, _, .cons r t, s => .cons r (Vals.append t s)
theorem Vals.take : ∀ {xs : List V} {us : List Value} (n : Nat), Vals xs us → Vals (xs.take n) (us.take n)
  | _, _, 0, _ => .nil
  | _, _, _ + 1, .nil => .nil
  | _, _, n + 1, .cons r t => .cons r (Vals.take n t)
theorem Vals.drop : ∀ {xs : List V} {us : List Value} (n : Nat), Vals xs us → Vals (xs.drop n) (us.drop n)
  | _, _, 0, r => r
  | _, _, _ + 1, .nil => .nil
  | _, _, n + 1, .cons _ t => Vals.drop n t
noncomputable def RelO : Option V → Option Value → Prop
  | some v, some u => RelV v u
  | none, none => True
  | _, _ => False
noncomputable def KV {κ : Type} : List (κ × V) → List (κ × Value) → Prop := Paired fun (p : κ × V) (q : κ × Value) => p.1 = q.1 ∧ RelV p.2 q.2

noncomputable def kV : Key → V
  | .inl i => .int i
  | .inr x => .str x

inductive HO where
    | lst (xs : List V)
    | tup (xs : List V)
    | dK (kvs : List (Key × V)) | dT (kvs : List (List Key × V))
    | set (S : Int → Bool) (n : Nat)
    | ins (C dx : Addr) (fs : List (Str × V))
    | own (x : Addr)
    | xd (fs : List (Str × V))
    | met (f x : Addr)
    | rng (lo hi : Int)
    | frz (o : Obj) (u : HO)
    | tbl (ps : Array Value)
    | ext (φ : Heap → Prop)

noncomputable abbrev Hp := Addr → Option HO
noncomputable def upd (H : Hp) (a : Addr) (o : HO) : Hp := fun b => if b = a then some o else H b
theorem upd_same {H : Hp} {a : Addr} {o : HO} : upd H a o a = some o := by unfold upd; rw [if_pos rfl]
theorem upd_ne {H : Hp} {a b : Addr} {o : HO} (h : b ≠ a) : upd H a o b = H b := by unfold upd; rw [if_neg h]
theorem ne_of {H : Hp} {a b : Addr} {o u : HO} (h : H a = some o) (h' : H b = some u) (d : o ≠ u) : a ≠ b := by
  intro e; subst e; rw [h] at h'; exact d (Option.some.inj h')
theorem ne_of_none {H : Hp} {a b : Addr} {o : HO} (h : H a = some o) (h' : H b = none) : a ≠ b := by
  intro e; subst e; rw [h] at h'; cases h'

section
variable (P : Program) (w : World)
noncomputable def ObjOk (H : Hp) (h : Heap) (a : Addr) : HO → Prop
  | .lst xs => xs.length ≤ sizeLine ∧ ∃ (its : List Value) (n : Nat), Vals xs its ∧ h.get? a = some { cls := .type "list", data := .seq its.toArray n }
  | .tup xs => xs.length ≤ sizeLine ∧ ∃ its : List Value, Vals xs its ∧ IsTup h a its.toArray
  | .dK kvs => kvs.length ≤ sizeLine ∧ (a == sysModules) = false ∧ ∃ vs, KV kvs vs ∧ h.DictOf (mixKind P w) a vs
  | .dT kvs => kvs.length ≤ sizeLine ∧ (a == sysModules) = false ∧ ∃ xs : List (List Key × Addr × Value),
      Paired (fun (p : List Key × V) (q : List Key × Addr × Value) => p.1 = q.1 ∧ H q.2.1 = some (.tup (p.1.map kV)) ∧ RelV p.2 q.2.2) kvs xs ∧
      ∃ o es ep, h.get? a = some o ∧ o.ExactDict ∧ o.data = .dict es ep ∧ es.toList = xs.map (entryOfKey (tupleKind (mixKind P w))) ∧ (xs.map (·.1)).Nodup
  | .set S n => h.SetOf (intKind P w) a S n
  | .ins C dx fs => H dx = some (.own a) ∧ fs.length ≤ 1000 ∧ dx ≠ a ∧ h.get? a = some (PySem.W.instObj C dx) ∧
      ∃ mA, h.Ns1 dx mA ∧ (∀ f, RelO (fs.lookup f) (mA f)) ∧ PySem.Within mA (fs.map (·.1))
  | .own _ => ∃ o, h.get? a = some o
  | .xd fs => ∃ mA, h.Ns1 a mA ∧ ∀ f, RelO (fs.lookup f) (mA f)
  | .rng lo hi => ∃ t u v, h.get? a = some { cls := .type "range", data := .fields #[.int lo t, .int hi u, .int 1 v] }
  | .frz o u => h.get? a = some o ∧ ObjOk H h a u
  | .tbl ps => h.get? a = some { cls := .none, data := .fields ps }
  | .met f x => h.get? a = some (PySem.W.methodObj (.ref f) (.ref x))
  | .ext φ => φ h ∧ (∃ o, h.get? a = some o) ∧ ∀ h1 h2 : Heap, φ h1 → (∀ o, h1.get? a = some o → h2.get? a = some o) → φ h2
noncomputable def HOk (H : Hp) (h : Heap) : Prop := ∀ a o, H a = some o → ObjOk P w H h a o
end

section
variable {P : Program} {w : World} {H H' : Hp} {h h' : Heap} {a : Addr} {o : HO}
theorem ObjOk.lt (x : ObjOk P w H h a o) : a < h.objs.size := by
  cases o with
  | lst xs => obtain ⟨_, _, _, _, e⟩ := x; exact Heap.lt_size e
  | tup xs => obtain ⟨_, _, _, p⟩ := x; exact p.lt
  | dK kvs => obtain ⟨_, _, _, _, o, _, _, e, _⟩ := x; exact Heap.lt_size e
  | dT kvs => obtain ⟨_, _, _, _, o, _, _, e, _⟩ := x; exact Heap.lt_size e
  | set S n => obtain ⟨o, _, _, _, e, _⟩ := x; exact Heap.lt_size e
  | ins C dx fs => obtain ⟨_, _, _, e, _⟩ := x; exact Heap.lt_size e
  | own y => obtain ⟨_, e⟩ := x; exact Heap.lt_size e
  | xd fs => obtain ⟨_, ⟨_, _, _, e, _⟩, _⟩ := x; exact Heap.lt_size e
  | rng lo hi => obtain ⟨_, _, _, e⟩ := x; exact Heap.lt_size e
  | frz ob u => obtain ⟨e, _⟩ := x; exact Heap.lt_size e
  | tbl ps => exact Heap.lt_size (show h.get? a = some _ from x)
  | met f y => exact Heap.lt_size (show h.get? a = some _ from x)
  | ext φ => obtain ⟨_, ⟨_, e⟩, _⟩ := x; exact Heap.lt_size e
theorem Paired.mapP {α β : Type} {F G : α → β → Prop} : ∀ {l₁ : List α} {l₂ : List β}, Paired F l₁ l₂ → (∀ a b, F a b → G a b) → Paired G l₁ l₂
  | _, _, .nil, _ => .nil
  | _, _, .cons r t, f => .cons (f _ _ r) (Paired.mapP t f)
theorem ObjOk.stay (x : ObjOk P w H h a o) (k : ∀ b u, (b = a ∨ H b = some (.own a)) → h.get? b = some u → h'.get? b = some u)
    (ho : ∀ b, H b = some (.own a) → H' b = some (.own a)) (ht : ∀ b xs, H b = some (.tup xs) → H' b = some (.tup xs)) : ObjOk P w H' h' a o := by
  induction o with
  | lst xs => obtain ⟨z, its, n, r, e⟩ := x; exact ⟨z, its, n, r, k _ _ (.inl rfl) e⟩
  | tup xs => obtain ⟨z, its, r, ob, e, c⟩ := x; exact ⟨z, its, r, ob, k _ _ (.inl rfl) e, c⟩
  | dK kvs => obtain ⟨z, y, vs, r, ob, es, ep, e, c⟩ := x; exact ⟨z, y, vs, r, ob, es, ep, k _ _ (.inl rfl) e, c⟩
  | dT kvs =>
    obtain ⟨z, y, xs, r, ob, es, ep, e, c⟩ := x
    exact ⟨z, y, xs, Paired.mapP r fun p q z => ⟨z.1, ht _ _ z.2.1, z.2.2⟩, ob, es, ep, k _ _ (.inl rfl) e, c⟩
  | set S n => obtain ⟨ob, es, ep, t, e, c⟩ := x; exact ⟨ob, es, ep, t, k _ _ (.inl rfl) e, c⟩
  | ins C dx fs =>
    obtain ⟨d, z, ne, e, mA, ⟨od, es, ep, e2, c⟩, r⟩ := x
    exact ⟨ho _ d, z, ne, k _ _ (.inl rfl) e, mA, ⟨od, es, ep, k _ _ (.inr d) e2, c⟩, r⟩
  | own y => obtain ⟨ob, e⟩ := x; exact ⟨ob, k _ _ (.inl rfl) e⟩
  | xd fs => obtain ⟨mA, ⟨od, es, ep, e, c⟩, r⟩ := x; exact ⟨mA, ⟨od, es, ep, k _ _ (.inl rfl) e, c⟩, r⟩
  | rng lo hi => obtain ⟨t, u, v, e⟩ := x; exact ⟨t, u, v, k _ _ (.inl rfl) e⟩
  | frz ob u ih => obtain ⟨e, q⟩ := x; exact ⟨k _ _ (.inl rfl) e, ih q⟩
  | tbl ps =>
    have e : h.get? a = some { cls := .none, data := .fields ps } := x
    show h'.get? a = some { cls := .none, data := .fields ps }
    exact k a _ (.inl rfl) e
  | met f y =>
    have e : h.get? a = some (PySem.W.methodObj (.ref f) (.ref y)) := x
    show h'.get? a = some (PySem.W.methodObj (.ref f) (.ref y))
    exact k a _ (.inl rfl) e
  | ext φ => obtain ⟨p, ⟨o, e⟩, st⟩ := x; exact ⟨st _ _ p fun o q => k _ _ (.inl rfl) q, ⟨o, k _ _ (.inl rfl) e⟩, st⟩
theorem HOk.lt (x : HOk P w H h) (e : H a = some o) : a < h.objs.size := (x a o e).lt
theorem HOk.fresh (x : HOk P w H h) (e : h.objs.size ≤ a) : H a = none := by
  cases q : H a with
  | none => rfl
  | some u => exact absurd (Nat.lt_of_lt_of_le (x.lt q) e) (Nat.lt_irrefl _)
theorem HOk.kept (x : HOk P w H h) (k : ∀ b u, h.get? b = some u → h'.get? b = some u) : HOk P w H h' := fun a o e =>
  (x a o e).stay (fun b u _ q => k b u q) (fun _ q => q) fun _ _ q => q
theorem HOk.laid (x : HOk P w H h) (k : ∀ b u, h.get? b = some u → h'.get? b = some u) (hp : h.objs.size ≤ a) (new : ObjOk P w (upd H a o) h' a o) : HOk P w (upd H a o) h' := fun b u e => by
  have hn := x.fresh hp
  by_cases hb : b = a
  · subst hb; rw [upd_same] at e; cases e; exact new
  · rw [upd_ne hb] at e
    exact (x b u e).stay (fun c v _ q => k c v q) (fun c q => by rw [upd_ne (ne_of_none q hn)]; exact q) fun c xs q => by rw [upd_ne (ne_of_none q hn)]; exact q
end

noncomputable def Rd (H : Hp) (a : Addr) (u : HO) : Prop := H a = some u ∨ ∃ o, H a = some (.frz o u)
theorem Rd.ok {P : Program} {w : World} {H : Hp} {h : Heap} {a : Addr} {u : HO} (r : Rd H a u) (x : HOk P w H h) : ObjOk P w H h a u := by
  rcases r with r | ⟨o, r⟩
  · exact x a u r
  · obtain ⟨_, q⟩ := x a _ r
    exact q
noncomputable def Mut : Option HO → Prop
  | some (.lst _) => True
  | some (.dK _) => True
  | some (.dT _) => True
  | some (.set _ _) => True
  | some (.ins _ _ _) => True
  | some (.ext _) => True
  | _ => False
section
variable {P : Program} {w : World} {H : Hp} {h h' : Heap} {x e : Addr} {o' : HO}
theorem HOk.write (ok : HOk P w H h) (mu : Mut (H x)) (he : e = x ∨ H e = some (.own x)) (k : ∀ b u, b ≠ e → h.get? b = some u → h'.get? b = some u) (heo : ∃ u, h'.get? e = some u)
    (new : ObjOk P w (upd H x o') h' x o') : HOk P w (upd H x o') h' := fun b u q => by
  have nown : ∀ c y, H c = some (.own y) → c ≠ x := fun c y r z => by subst z; rw [r] at mu; exact mu
  have ntup : ∀ c xs, H c = some (.tup xs) → c ≠ x := fun c xs r z => by subst z; rw [r] at mu; exact mu
  by_cases hb : b = x
  · subst hb; rw [upd_same] at q; cases q; exact new
  · rw [upd_ne hb] at q
    by_cases hbe : b = e
    · have q' : H b = some (.own x) := by
        rcases he with z | z
        · exact absurd (hbe.trans z) hb
        · rw [hbe]; exact z
      rw [q] at q'; cases q'
      obtain ⟨v, hv⟩ := heo
      exact ⟨v, by rw [hbe]; exact hv⟩
    · refine (ok b u q).stay (fun c v hc r => k c v ?_ r) (fun c r => by rw [upd_ne (nown c b r)]; exact r) fun c xs r => by rw [upd_ne (ntup c xs r)]; exact r
      rcases hc with rfl | hc
      · exact hbe
      · rintro rfl
        rcases he with z | z
        · exact nown c b hc z
        · rw [hc] at z; cases z; exact hb rfl
end

structure Un (fs ex : List Addr) (H H' : Hp) (h h' : Heap) : Prop where
  keep : ∀ b o, h.get? b = some o → H b = none → b ∉ fs → b ∉ ex → h'.get? b = some o
  slot : ∀ b o, h.get? b = some o → H b = none → b ∈ fs → b ∉ ex → ∃ sl, h'.get? b = some { o with slots := sl }
  free : ∀ b o, h.get? b = some o → H b = none → b ∉ ex → H' b = none
  there : ∀ b o, h.get? b = some o → b ∉ ex → ∃ o', h'.get? b = some o'
  tups : ∀ b xs, H b = some (.tup xs) → H' b = some (.tup xs)
  frzs : ∀ b o u, H b = some (.frz o u) → H' b = some (.frz o u)
  tbls : ∀ b ps, H b = some (.tbl ps) → ∃ more, H' b = some (.tbl (ps ++ more))
section
variable {fs fs' ex ex' : List Addr} {H H1 H2 : Hp} {h h1 h2 h' : Heap} {a x e : Addr} {o : HO}
theorem Un.any (u : Un fs ex H H1 h h1) {b : Addr} {ob : Obj} (q : h.get? b = some ob) (n : H b = none) (hx : b ∉ ex) : ∃ sl, h1.get? b = some { ob with slots := sl } := by
  by_cases hb : b ∈ fs
  · exact u.slot b ob q n hb hx
  · exact ⟨ob.slots, u.keep b ob q n hb hx⟩
theorem Un.trans (a : Un fs ex H H1 h h1) (b : Un fs ex H1 H2 h1 h2) : Un fs ex H H2 h h2 where
  keep := fun c ob q n hc hx => b.keep c ob (a.keep c ob q n hc hx) (a.free c ob q n hx) hc hx
  slot := fun c ob q n hc hx => by
    obtain ⟨sl, e1⟩ := a.slot c ob q n hc hx
    obtain ⟨sl', e2⟩ := b.slot c _ e1 (a.free c ob q n hx) hc hx
    exact ⟨sl', e2⟩
  free := fun c ob q n hx => by
    obtain ⟨o', e1⟩ := a.there c ob q hx
    exact b.free c o' e1 (a.free c ob q n hx) hx
  there := fun c ob q hx => by
    obtain ⟨o', e1⟩ := a.there c ob q hx
    exact b.there c o' e1 hx
  tups := fun c xs q => b.tups c xs (a.tups c xs q)
  frzs := fun c ob xs q => b.frzs c ob xs (a.frzs c ob xs q)
  tbls := fun c ps q => by
    obtain ⟨m1, e1⟩ := a.tbls c ps q
    obtain ⟨m2, e2⟩ := b.tbls c _ e1
    exact ⟨m1 ++ m2, by rw [e2, Array.append_assoc]⟩
theorem Un.kept (k : ∀ b u, h.get? b = some u → h'.get? b = some u) : Un fs ex H H h h' :=
  ⟨fun b ob q _ _ _ => k b ob q, fun b ob q _ _ _ => ⟨ob.slots, k b ob q⟩, fun _ _ _ n _ => n, fun b ob q _ => ⟨ob, k b ob q⟩, fun _ _ q => q, fun _ _ _ q => q, fun _ ps q => ⟨#[], by rw [q]; simp⟩⟩
theorem Un.refl : Un fs ex H H h h := Un.kept fun _ _ q => q
theorem Un.laid (k : ∀ b u, h.get? b = some u → h'.get? b = some u) (hp : h.objs.size ≤ a) (hn : H a = none) : Un fs ex H (upd H a o) h h' where
  keep := fun b u q _ _ _ => k b u q
  slot := fun b u q _ _ _ => ⟨u.slots, k b u q⟩
  free := fun b u q n _ => by rw [upd_ne (Nat.ne_of_lt (Nat.lt_of_lt_of_le (Heap.lt_size q) hp))]; exact n
  there := fun b u q _ => ⟨u, k b u q⟩
  tups := fun b xs q => by rw [upd_ne (ne_of_none q hn)]; exact q
  frzs := fun b u xs q => by rw [upd_ne (ne_of_none q hn)]; exact q
  tbls := fun b ps q => ⟨#[], by rw [upd_ne (ne_of_none q hn), q]; simp⟩
theorem Un.write (mu : Mut (H x)) (he : e = x ∨ H e = some (.own x)) (k : ∀ b u, b ≠ e → h.get? b = some u → h'.get? b = some u) (heo : ∃ u, h'.get? e = some u) : Un fs ex H (upd H x o) h h' := by
  have hx : ∀ b, H b = none → b ≠ x := fun b n z => by subst z; rw [n] at mu; exact mu
  have hb : ∀ b, H b = none → b ≠ e := fun b n z => by
    subst z
    rcases he with r | r
    · exact hx b n r
    · rw [n] at r; cases r
  have hm : ∀ b u, H b = some u → ¬ Mut (some u) → b ≠ x := fun b u q nm z => by subst z; rw [q] at mu; exact nm mu
  refine ⟨fun b u q n _ _ => k b u (hb b n) q, fun b u q n _ _ => ⟨u.slots, k b u (hb b n) q⟩, fun b u q n _ => by rw [upd_ne (hx b n)]; exact n, fun b u q _ => ?_,
    fun b xs q => by rw [upd_ne (hm b _ q fun z => z)]; exact q, fun b u xs q => by rw [upd_ne (hm b _ q fun z => z)]; exact q, fun b ps q => ⟨#[], by rw [upd_ne (hm b _ q fun z => z), q]; simp⟩⟩
  by_cases hbe : b = e
  · subst hbe; exact heo
  · exact ⟨u, k b u hbe q⟩
theorem Un.mono (u : Un fs ex H H1 h h1) (hs : ∀ b ∈ fs, b ∈ fs') (hx : ∀ b ∈ ex, b ∈ ex') : Un fs' ex' H H1 h h1 :=
  ⟨fun b ob q n hb he => u.keep b ob q n (fun z => hb (hs b z)) fun z => he (hx b z), fun _ _ q n _ he => u.any q n fun z => he (hx _ z), fun b ob q n he => u.free b ob q n fun z => he (hx b z), fun b ob q he => u.there b ob q fun z => he (hx b z), u.tups, u.frzs, u.tbls⟩
end

noncomputable def trk (h : Heap) (H : Hp) : List Addr := (List.range h.objs.size).filter fun a => (H a).isSome
noncomputable def hidT (h : Heap) (H : Hp) : Heap := PySem.W.hideAll h (trk h H)
theorem hidT_size (h : Heap) (H : Hp) : (hidT h H).objs.size = h.objs.size := PySem.W.hideAll_size _ _
theorem hidT_get {h : Heap} {H : Hp} {b : Addr} {o : Obj} (e : h.get? b = some o) (n : H b = none) : (hidT h H).get? b = some o :=
  PySem.W.hideAll_get _ e fun hm => by
    have q : (H b).isSome = true := (List.mem_filter.mp hm).2
    rw [n] at q; simp at q
theorem of_hidT {h : Heap} {H : Hp} {b : Addr} {o : Obj} (e : (hidT h H).get? b = some o) : h.get? b = some o ∧ H b = none := by
  have e' : h.get? b = some o := PySem.W.of_hideAll (trk h H) e
  refine ⟨e', ?_⟩
  cases q : H b with
  | none => rfl
  | some x =>
    have hm : b ∈ trk h H := List.mem_filter.mpr ⟨List.mem_range.mpr (Heap.lt_size e'), by simp [q]⟩
    have z : (hidT h H).get? b = none := PySem.W.hideAll_none (trk h H) hm
    rw [z] at e; cases e

noncomputable def allNews (g h : Heap) (L : Addr) : List (Addr × Obj) := (List.range h.objs.size).filterMap fun a => if a = L ∨ (g.get? a).isSome = true then none else (h.get? a).map fun o => (a, o)
noncomputable def rest (g h : Heap) (L d : Addr) : List (Addr × Obj) := (allNews g h L).filter fun p => decide (p.1 ≠ d)
end L2

namespace L2
open PySem PySem.Spec PyProof.Rows

structure Mod (K : PySem.W.Frag) (mg : Str → Option Value) (base : Heap) : Prop where
  kin : K.In base
  glob : base.Ns mainGlobals mg
  blt : ∃ mb, base.Ns builtinsNs mb ∧ ∀ x : Str, x ≠ "__name__" → mb x = bootBuiltins x
  nolimit : base.NoLimit

structure Cx where
  prog : Program
  w : World
  K : PySem.W.Frag
  mg : Str → Option Value
  base : Heap
  A : Around
  N : List Str
  s₀ : Shared
  H₀ : Hp
  env : Env
  outer : List Env
  stack : List Env
  ex : List Addr
  fn : Str → Bool
  calm : Bool
  pn : List (Addr × Obj)
  xe : Value → Shared → Prop
noncomputable def frs (l : List Env) : List Addr := l.filterMap (·.frame)
noncomputable abbrev Cx.fs (X : Cx) : List Addr := frs X.outer

noncomputable def Vis (sc : Scope) (x : Str) : Prop := sc.names.lookup x = some .local ∨ sc.names.lookup x = some .cell ∨ sc.names.lookup x = some .free
noncomputable def Loc (sc : Scope) (x : Str) : Prop := sc.names.lookup x = some .local ∨ sc.names.lookup x = some .cell
noncomputable def Look (env : Env) (h : Heap) (m : Str → Option Value) (x : Str) (u : Value) : Prop :=
  (env.kindOf x = some .local ∧ m x = some u) ∨ ((env.kindOf x = some .cell ∨ env.kindOf x = some .free) ∧ ∃ c, env.cells.lookup x = some c ∧ h.IsCell c (some u))

structure Cx.Ok (X : Cx) : Prop where
  mod : Mod X.K X.mg X.base
  kind : X.env.scope.kind = .function
  glob : X.env.globals = mainGlobals
  blt : X.env.builtins = builtinsNs
  above : X.s₀.heap.objs.size ≤ X.env.locals
  inj : ∀ x y c, X.env.cells.lookup x = some c → X.env.cells.lookup y = some c → x = y
  has : ∀ x, (X.env.kindOf x = some .cell ∨ X.env.kindOf x = some .free) → ∃ c, X.env.cells.lookup x = some c
  cab : ∀ x c, X.fn x = true → X.env.cells.lookup x = some c → X.s₀.heap.objs.size ≤ c
  hd : X.calm = true → X.A.handled = none
  frames : X.A.frames = some X.stack
  stk : X.stack = X.outer ∨ (X.stack = X.env :: X.outer ∧ X.env.frame = some X.env.locals)
  exf : ∀ b ∈ X.ex, b ≠ X.env.locals ∧ ∀ x c, X.env.cells.lookup x = some c → c ≠ b
  bs : ∀ b o, X.base.get? b = some o → X.s₀.heap.get? b = some o ∧ X.H₀ b = none
  bsz : X.base.objs.size ≤ X.s₀.heap.objs.size
  noex : ∀ b o, X.base.get? b = some o → b ∉ X.ex
  exfs : ∀ b ∈ X.ex, b ∉ X.fs
  funs : X.s₀.heap.FunFrames X.base X.outer
  frf : ∀ b ∈ X.fs, X.H₀ b = none

structure Inv (X : Cx) (pins : List (Addr × Obj)) (σ : List (Option V)) (H : Hp) (s : Shared) : Prop where
  ok : X.Ok
  os : s.os = X.s₀.os
  bare : AllBare s.gens
  base : Un X.fs X.ex X.H₀ H X.s₀.heap s.heap
  loc : ∃ m, s.heap.Ns X.env.locals m ∧ ∀ (i : Nat) (x : Str) (v : V), X.N[i]? = some x → σ[i]? = some (some v) → Vis X.env.scope x → ∃ u, RelV v u ∧ Look X.env s.heap m x u
  cell : ∀ x c, X.env.cells.lookup x = some c → ∃ v, s.heap.IsCell c v
  free : H X.env.locals = none
  freeC : ∀ x c, X.env.cells.lookup x = some c → H c = none
  pin : ∀ p ∈ X.pn ++ pins, s.heap.get? p.1 = some p.2 ∧ H p.1 = none ∧ p.1 ≠ X.env.locals ∧ p.1 ∉ X.fs ∧ ∀ v, p.2.data ≠ .cell v
  hok : HOk X.prog X.w H s.heap
  len : σ.length = X.N.length

section
variable {X : Cx} {pins : List (Addr × Obj)} {σ : List (Option V)} {H H' : Hp} {s : Shared} {h' : Heap}

theorem Cx.Ok.nofr (ok : X.Ok) {b : Addr} {o : Obj} (e : X.base.get? b = some o) : b ∉ X.fs := fun hb => by
  have := (ok.funs.mem hb).1
  rw [e] at this; cases this
theorem Inv.bs (I : Inv X pins σ H s) : ∀ b o, X.base.get? b = some o → s.heap.get? b = some o ∧ H b = none := fun b o e =>
  ⟨I.base.keep b o (I.ok.bs b o e).1 (I.ok.bs b o e).2 (I.ok.nofr e) (I.ok.noex b o e), I.base.free b o (I.ok.bs b o e).1 (I.ok.bs b o e).2 (I.ok.noex b o e)⟩
theorem Inv.bk (I : Inv X pins σ H s) : ∀ b o, X.base.get? b = some o → s.heap.get? b = some o := fun b o e => (I.bs b o e).1
theorem Inv.mod (I : Inv X pins σ H s) : Mod X.K X.mg X.base := I.ok.mod
theorem Inv.kIn (I : Inv X pins σ H s) : X.K.In s.heap := I.ok.mod.kin.keeps I.bk
theorem Inv.nolimit (I : Inv X pins σ H s) : s.heap.NoLimit := I.ok.mod.nolimit.keeps I.bk
theorem Inv.fr (I : Inv X pins σ H s) : ∃ m, Fr X.base X.env.locals s.heap m :=
  let ⟨m, hn, _⟩ := I.loc
  ⟨m, hn, I.bk, Nat.le_trans I.ok.bsz I.ok.above⟩
theorem Inv.lt (I : Inv X pins σ H s) : X.env.locals < s.heap.objs.size := let ⟨_, hn, _⟩ := I.loc; hn.lt
theorem Inv.sz (I : Inv X pins σ H s) : X.s₀.heap.objs.size ≤ s.heap.objs.size := Nat.le_trans I.ok.above (Nat.le_of_lt I.lt)
theorem Inv.nofs (I : Inv X pins σ H s) {a : Addr} (h : s.heap.objs.size ≤ a) : a ∉ X.fs := fun hb => by
  obtain ⟨_, o, ho, _⟩ := I.ok.funs.mem hb
  exact absurd (Nat.lt_of_lt_of_le (Heap.lt_size ho) (Nat.le_trans I.sz h)) (Nat.lt_irrefl _)
theorem Inv.cne (I : Inv X pins σ H s) : ∀ x c, X.env.cells.lookup x = some c → c ≠ X.env.locals := fun x c e z => by
  obtain ⟨v, o, ho, hd⟩ := I.cell x c e
  obtain ⟨m, ⟨o', es, ep, ho', hd', _⟩, _⟩ := I.loc
  rw [z, ho'] at ho; cases ho; rw [hd'] at hd; cases hd
theorem Inv.funs (I : Inv X pins σ H s) : s.heap.FunFrames X.base X.outer := by
  have all : ∀ (l : List Env), (∀ b ∈ frs l, b ∈ X.fs) → X.s₀.heap.FunFrames X.base l → s.heap.FunFrames X.base l := by
    intro l
    induction l with
    | nil => intro _ _; trivial
    | cons env r ih =>
      intro hs hl
      obtain ⟨hk, ⟨L, o, hf, hn, ho, hd⟩, hr⟩ := hl
      have hL : L ∈ X.fs := hs L (by unfold frs; rw [List.filterMap_cons, hf]; exact List.mem_cons_self)
      obtain ⟨sl, e⟩ := I.base.slot L o ho (I.ok.frf L hL) hL fun z => I.ok.exfs L z hL
      exact ⟨hk, ⟨L, _, hf, hn, e, hd⟩, ih (fun b hb => hs b (by unfold frs; rw [List.filterMap_cons, hf]; exact List.mem_cons_of_mem _ hb)) hr⟩
  exact all X.outer (fun _ hb => hb) I.ok.funs

theorem Inv.stack (I : Inv X pins σ H s) : s.heap.FunFrames X.base X.stack := by
  rcases I.ok.stk with e | ⟨e, hf⟩
  · rw [e]; exact I.funs
  · rw [e]
    obtain ⟨m, hn, _⟩ := I.loc
    refine .cons (by rw [I.ok.kind]; decide) hf hn ?_ I.funs
    exact Heap.get?_none_of_le (Nat.le_trans I.ok.bsz I.ok.above)
theorem Inv.stkSub (I : Inv X pins σ H s) : ∀ b ∈ frs X.stack, b ∈ X.env.locals :: X.fs := fun b hb => by
  rcases I.ok.stk with e | ⟨e, hf⟩
  · rw [e] at hb; exact List.mem_cons_of_mem _ hb
  · rw [e] at hb
    unfold frs at hb
    rw [List.filterMap_cons, hf] at hb
    exact hb
theorem Inv.stkFree (I : Inv X pins σ H s) : ∀ b ∈ frs X.stack, H b = none := fun b hb => by
  rcases List.mem_cons.mp (I.stkSub b hb) with e | hb
  · rw [e]; exact I.free
  · obtain ⟨_, o, ho, _⟩ := I.ok.funs.mem hb
    exact I.base.free b o ho (I.ok.frf b hb) fun z => I.ok.exfs b z hb

theorem Inv.step {g' : Array GenState} {t' : Nat} {d' : Drawn} {ch : List Addr} (I : Inv X pins σ H s)
    (hch : ∀ b ∈ ch, (b ∈ X.ex ∨ X.s₀.heap.objs.size ≤ b) ∧ b ≠ X.env.locals ∧ (∀ x c, X.env.cells.lookup x = some c → c ≠ b) ∧ ∀ p ∈ X.pn ++ pins, p.1 ≠ b)
    (keep : ∀ b o, b ≠ X.env.locals → b ∉ X.fs → b ∉ ch → s.heap.get? b = some o → H b = none → h'.get? b = some o)
    (slot : ∀ b o, b ≠ X.env.locals → b ∈ X.fs → b ∉ ch → s.heap.get? b = some o → H b = none → ∃ sl, h'.get? b = some { o with slots := sl }) (free : ∀ b o, b ∉ ch → s.heap.get? b = some o → H b = none → H' b = none)
    (there : ∀ b o, b ∉ ch → s.heap.get? b = some o → ∃ o', h'.get? b = some o')
    (tups : ∀ b xs, H b = some (.tup xs) → H' b = some (.tup xs)) (frzs : ∀ b o u, H b = some (.frz o u) → H' b = some (.frz o u)) (tbls : ∀ b ps, H b = some (.tbl ps) → ∃ more, H' b = some (.tbl (ps ++ more)))
    (ns : ∀ m, s.heap.Ns X.env.locals m → h'.Ns X.env.locals m) (hok : HOk X.prog X.w H' h') (hg : AllBare g') :
    Inv X pins σ H' { s with heap := h', gens := g', drawn := d', toks := t' } := by
  have neL : ∀ b o, X.s₀.heap.get? b = some o → b ≠ X.env.locals := fun b o e => Nat.ne_of_lt (Nat.lt_of_lt_of_le (Heap.lt_size e) I.ok.above)
  have neC : ∀ b o, X.s₀.heap.get? b = some o → b ∉ X.ex → b ∉ ch := fun b o e hx hb => by
    rcases (hch b hb).1 with z | z
    · exact hx z
    · exact absurd (Nat.lt_of_lt_of_le (Heap.lt_size e) z) (Nat.lt_irrefl _)
  have cellK : ∀ x c, X.env.cells.lookup x = some c → ∀ v, s.heap.IsCell c v → h'.IsCell c v := fun x c e v ⟨o, ho, hd⟩ => by
    have nch : c ∉ ch := fun z => (hch c z).2.2.1 x c e rfl
    by_cases hc : c ∈ X.fs
    · obtain ⟨sl, q⟩ := slot c o (I.cne x c e) hc nch ho (I.freeC x c e)
      exact ⟨_, q, hd⟩
    · exact ⟨o, keep c o (I.cne x c e) hc nch ho (I.freeC x c e), hd⟩
  refine ⟨I.ok, I.os, hg, ⟨fun b o e n hb hx => ?_, fun b o e n hb hx => ?_, fun b o e n hx => ?_, fun b o e hx => ?_, fun b xs e => tups b xs (I.base.tups b xs e), fun b o xs e => frzs b o xs (I.base.frzs b o xs e), fun b ps e => ?_⟩, ?_, fun x c e => ?_, ?_, fun x c e => ?_, fun p hp => ?_, hok, I.len⟩
  · exact keep b o (neL b o e) hb (neC b o e hx) (I.base.keep b o e n hb hx) (I.base.free b o e n hx)
  · obtain ⟨sl, e1⟩ := I.base.slot b o e n hb hx
    obtain ⟨sl', e2⟩ := slot b _ (neL b o e) hb (neC b o e hx) e1 (I.base.free b o e n hx)
    exact ⟨sl', e2⟩
  · obtain ⟨o', e1⟩ := I.base.there b o e hx
    exact free b o' (neC b o e hx) e1 (I.base.free b o e n hx)
  · obtain ⟨o', e1⟩ := I.base.there b o e hx
    exact there b o' (neC b o e hx) e1
  · obtain ⟨m1, e1⟩ := I.base.tbls b ps e
    obtain ⟨m2, e2⟩ := tbls b _ e1
    exact ⟨m1 ++ m2, by rw [e2, Array.append_assoc]⟩
  · obtain ⟨m, hn, hl⟩ := I.loc
    refine ⟨m, ns m hn, fun i x v e1 e2 e3 => ?_⟩
    obtain ⟨u, r, l⟩ := hl i x v e1 e2 e3
    refine ⟨u, r, ?_⟩
    rcases l with l | ⟨k, c, e, z⟩
    · exact .inl l
    · exact .inr ⟨k, c, e, cellK x c e _ z⟩
  · obtain ⟨v, z⟩ := I.cell x c e
    exact ⟨v, cellK x c e v z⟩
  · obtain ⟨m, ⟨o, _, _, ho, _⟩, _⟩ := I.loc
    exact free _ o (fun z => (hch _ z).2.1 rfl) ho I.free
  · obtain ⟨v, o, ho, hd⟩ := I.cell x c e
    exact free c o (fun z => (hch c z).2.2.1 x c e rfl) ho (I.freeC x c e)
  · obtain ⟨e, n, ne, nf, d⟩ := I.pin p hp
    have nch : p.1 ∉ ch := fun z => (hch p.1 z).2.2.2 p hp rfl
    exact ⟨keep p.1 p.2 ne nf nch e n, free p.1 p.2 nch e n, ne, nf, d⟩
theorem Inv.un {t' : Nat} (I : Inv X pins σ H s) (u : Un X.fs [] H H' s.heap h') (hok : HOk X.prog X.w H' h') : Inv X pins σ H' { s with heap := h', toks := t' } := by
  obtain ⟨m, ⟨o, es, ep, ho, r⟩, _⟩ := id I.loc
  obtain ⟨sl, hL⟩ := u.any ho I.free (by simp)
  exact I.step (g' := s.gens) (d' := s.drawn) (ch := []) (fun _ z => nomatch z) (fun b o _ hb _ e n => u.keep b o e n hb (by simp)) (fun b o _ hb _ e n => u.slot b o e n hb (by simp)) (fun b o _ e n => u.free b o e n (by simp)) (fun b o _ e => u.there b o e (by simp)) u.tups u.frzs u.tbls (fun m' hm => by
    obtain ⟨o', es', ep', ho', r'⟩ := hm
    rw [ho] at ho'; cases ho'
    exact ⟨_, es', ep', hL, r'⟩) hok I.bare
theorem Inv.call {g' : Array GenState} {t' : Nat} {d' : Drawn} {ch : List Addr} (I : Inv X pins σ H s) (u : Un (frs X.stack) ch H H' s.heap h') (hok : HOk X.prog X.w H' h') (hg : AllBare g')
    (hch : ∀ b ∈ ch, (b ∈ X.ex ∨ X.s₀.heap.objs.size ≤ b) ∧ b ≠ X.env.locals ∧ (∀ x c, X.env.cells.lookup x = some c → c ≠ b) ∧ ∀ p ∈ X.pn ++ pins, p.1 ≠ b) :
    Inv X pins σ H' { s with heap := h', gens := g', drawn := d', toks := t' } := by
  obtain ⟨m, ⟨o, es, ep, ho, r⟩, _⟩ := id I.loc
  obtain ⟨sl, hL⟩ := u.any ho I.free fun z => (hch _ z).2.1 rfl
  exact I.step (ch := ch) hch (fun b o hL hb hc e n => u.keep b o e n (fun z => (List.mem_cons.mp (I.stkSub b z)).elim hL hb) hc) (fun b o _ _ hc e n => u.any e n hc) (fun b o hc e n => u.free b o e n hc) (fun b o hc e => u.there b o e hc) u.tups u.frzs u.tbls (fun m' hm => by
    obtain ⟨o', es', ep', ho', r'⟩ := hm
    rw [ho] at ho'; cases ho'
    exact ⟨_, es', ep', hL, r'⟩) hok hg
theorem Inv.turned {t' : Nat} {it : Addr} (I : Inv X pins σ H s) (k : ∀ b o, b ≠ it → s.heap.get? b = some o → h'.get? b = some o) (hn : H it = none) (hL : it ≠ X.env.locals)
    (h1 : it ∈ X.ex ∨ X.s₀.heap.objs.size ≤ it) (h2 : ∀ x c, X.env.cells.lookup x = some c → c ≠ it) (h3 : ∀ p ∈ X.pn ++ pins, p.1 ≠ it) : Inv X pins σ H { s with heap := h', toks := t' } := by
  have nit : ∀ b u, H b = some u → b ≠ it := fun b u e z => by rw [z, hn] at e; cases e
  refine I.step (g' := s.gens) (d' := s.drawn) (ch := [it]) (fun b hb => ?_) (fun b o _ _ hc e _ => k b o (fun z => hc (by simp [z])) e) (fun b o _ _ hc e _ => ⟨o.slots, k b o (fun z => hc (by simp [z])) e⟩) (fun _ _ _ _ n => n)
    (fun b o hc e => ⟨o, k b o (fun z => hc (by simp [z])) e⟩) (fun _ _ e => e) (fun _ _ _ e => e) (fun b ps e => ⟨#[], by rw [e]; simp⟩) (fun m hm => ?_) (fun b u e => ?_) I.bare
  · have e : b = it := by simpa using hb
    subst e
    exact ⟨h1, hL, h2, h3⟩
  · obtain ⟨o, es, ep, ho, r⟩ := hm
    exact ⟨o, es, ep, k _ o (Ne.symm hL) ho, r⟩
  · refine (I.hok b u e).stay (fun c v hc q => k c v ?_ q) (fun _ q => q) fun _ _ q => q
    rcases hc with z | z
    · rw [z]; exact nit b u e
    · exact nit c _ z
theorem Inv.tok (I : Inv X pins σ H s) (t : Nat) : Inv X pins σ H { s with toks := t } := I.un (h' := s.heap) (t' := t) Un.refl I.hok
theorem Inv.kept {t' : Nat} (I : Inv X pins σ H s) (k : ∀ b u, s.heap.get? b = some u → h'.get? b = some u) : Inv X pins σ H { s with heap := h', toks := t' } := I.un (Un.kept k) (I.hok.kept k)
theorem Inv.laid {a : Addr} {o : HO} {t' : Nat} (I : Inv X pins σ H s) (k : ∀ b u, s.heap.get? b = some u → h'.get? b = some u) (hp : s.heap.objs.size ≤ a) (new : ObjOk X.prog X.w (upd H a o) h' a o) :
    Inv X pins σ (upd H a o) { s with heap := h', toks := t' } := I.un (Un.laid k hp (I.hok.fresh hp)) (I.hok.laid k hp new)
theorem Inv.write {x e : Addr} {o : HO} {t' : Nat} (I : Inv X pins σ H s) (mu : Mut (H x)) (he : e = x ∨ H e = some (.own x)) (k : ∀ b u, b ≠ e → s.heap.get? b = some u → h'.get? b = some u) (heo : ∃ u, h'.get? e = some u)
    (new : ObjOk X.prog X.w (upd H x o) h' x o) : Inv X pins σ (upd H x o) { s with heap := h', toks := t' } := I.un (Un.write mu he k heo) (I.hok.write mu he k heo new)
theorem Inv.weak {σ' : List (Option V)} (I : Inv X pins σ H s) (hl : σ'.length = σ.length) (w : ∀ (i : Nat) v, σ'[i]? = some (some v) → σ[i]? = some (some v)) : Inv X pins σ' H s :=
  ⟨I.ok, I.os, I.bare, I.base, let ⟨m, hn, hl'⟩ := I.loc; ⟨m, hn, fun i x v e1 e2 e3 => hl' i x v e1 (w i v e2) e3⟩, I.cell, I.free, I.freeC, I.pin, I.hok, hl.trans I.len⟩
theorem Inv.pins_of {pins' : List (Addr × Obj)} (I : Inv X pins σ H s) (h : ∀ p ∈ pins', s.heap.get? p.1 = some p.2 ∧ H p.1 = none ∧ p.1 ≠ X.env.locals ∧ p.1 ∉ X.fs ∧ ∀ v, p.2.data ≠ .cell v) : Inv X pins' σ H s :=
  ⟨I.ok, I.os, I.bare, I.base, I.loc, I.cell, I.free, I.freeC, fun p hp => (List.mem_append.mp hp).elim (fun z => I.pin p (List.mem_append_left _ z)) (h p), I.hok, I.len⟩

theorem nodup_ix {N : List Str} (hN : N.Nodup) {i j : Nat} {x : Str} (a : N[i]? = some x) (b : N[j]? = some x) : i = j := by
  obtain ⟨h1, e1⟩ := List.getElem?_eq_some_iff.mp a
  obtain ⟨h2, e2⟩ := List.getElem?_eq_some_iff.mp b
  exact (List.getElem_inj hN).mp (e1.trans e2.symm)

theorem store_ok2 {M : Model} {A : Around} {E : Value → Shared → Prop} {i : Nat} {x : Str} {v : V} {u : Value} {Q : Unit → Shared → Prop} (I : Inv X pins σ H s) (hN : X.N.Nodup) (hi : X.N[i]? = some x) (hx : Loc X.env.scope x) (r : RelV v u)
    (h : ∀ s', Inv X pins (σ.set i (some v)) H s' → (∃ a, Heap.SameBut a s.heap s'.heap ∧ (a = X.env.locals ∨ X.env.cells.lookup x = some a)) → Q () s') (hf : X.fn x = true ∨ X.env.scope.names.lookup x = some .local := by first | exact .inl rfl | exact .inr rfl | assumption) : wpAny M A (storeName X.env x u) Q E s := by
  obtain ⟨m, hn, hl⟩ := id I.loc
  have hcls : (X.env.scope.kind == .class || (X.env.scope.kind == .module && X.env.locals != X.env.globals)) = false := by rw [I.ok.kind]; rfl
  have hiσ : i < σ.length := by rw [I.len]; exact (List.getElem?_eq_some_iff.mp hi).1
  have cne := I.cne
  have tracked : ∀ {a : Addr} {h' : Heap}, (∃ o, s.heap.get? a = some o ∧ H a = none) → Heap.SameBut a s.heap h' → HOk X.prog X.w H h' := fun {a h'} ha hs b ob e => by
    obtain ⟨_, _, hfree⟩ := ha
    refine (I.hok b ob e).stay (fun c w' hc q => (hs.2 c ?_).trans q) (fun _ q => q) fun _ _ q => q
    rintro rfl
    rcases hc with rfl | hc
    · rw [hfree] at e; cases e
    · rw [hfree] at hc; cases hc
  rcases hx with hk | hk
  · refine wpAny_storeName_local hk hn (fun h' hn' hs => ?_) hcls
    obtain ⟨oL, _, _, hoL, _⟩ := id hn
    refine h _ ⟨I.ok, I.os, I.bare, ⟨fun b o e n hb hx => ?_, fun b o e n hb hx => ?_, I.base.free, fun b o e hx => ?_, I.base.tups, I.base.frzs, I.base.tbls⟩, ⟨_, hn', fun j y v' e1 e2 e3 => ?_⟩, fun y c e => ?_, I.free, I.freeC, fun p hp => ?_, tracked ⟨oL, hoL, I.free⟩ hs, by simpa using I.len⟩ ⟨_, hs, .inl rfl⟩
    · exact (hs.2 b (Nat.ne_of_lt (Nat.lt_of_lt_of_le (Heap.lt_size e) I.ok.above))).trans (I.base.keep b o e n hb hx)
    · obtain ⟨sl, e1⟩ := I.base.slot b o e n hb hx
      exact ⟨sl, (hs.2 b (Nat.ne_of_lt (Nat.lt_of_lt_of_le (Heap.lt_size e) I.ok.above))).trans e1⟩
    · obtain ⟨o', e1⟩ := I.base.there b o e hx
      exact ⟨o', (hs.2 b (Nat.ne_of_lt (Nat.lt_of_lt_of_le (Heap.lt_size e) I.ok.above))).trans e1⟩
    · by_cases hj : j = i
      · subst hj
        rw [hi] at e1; cases e1
        rw [List.getElem?_set_self hiσ] at e2
        cases e2
        exact ⟨u, r, .inl ⟨hk, by simp⟩⟩
      · rw [List.getElem?_set_ne (Ne.symm hj)] at e2
        obtain ⟨u', r', q⟩ := hl j y v' e1 e2 e3
        refine ⟨u', r', ?_⟩
        rcases q with ⟨k, e⟩ | ⟨k, c, e, z⟩
        · refine .inl ⟨k, ?_⟩
          have : y ≠ x := fun e => hj (nodup_ix hN e1 (e ▸ hi))
          simp [this, e]
        · exact .inr ⟨k, c, e, z.sameBut hs (cne y c e)⟩
    · obtain ⟨w', z⟩ := I.cell y c e
      exact ⟨w', z.sameBut hs (cne y c e)⟩
    · obtain ⟨e, n, ne, nf, d⟩ := I.pin p hp
      exact ⟨(hs.2 p.1 ne).trans e, n, ne, nf, d⟩
  · have hfn : X.fn x = true := by
      rcases hf with z | z
      · exact z
      · rw [z] at hk; cases hk
    obtain ⟨c, hc⟩ := I.ok.has x (.inl hk)
    obtain ⟨w', z⟩ := I.cell x c hc
    refine wpAny_storeName_cell I.ok.kind hk hc z (fun h' hc' hs => ?_)
    obtain ⟨oc, hoc, hocd⟩ := id z
    refine h { s with heap := h' } ⟨I.ok, I.os, I.bare, ⟨fun b o e n hb hx => ?_, fun b o e n hb hx => ?_, I.base.free, fun b o e hx => ?_, I.base.tups, I.base.frzs, I.base.tbls⟩, ⟨m, hn.sameBut hs (Ne.symm (cne x c hc)), fun j y v' e1 e2 e3 => ?_⟩, fun y c' e => ?_, I.free, I.freeC, fun p hp => ?_, tracked ⟨oc, hoc, I.freeC x c hc⟩ hs, by simpa using I.len⟩ ⟨c, hs, .inr hc⟩
    · exact (hs.2 b (Nat.ne_of_lt (Nat.lt_of_lt_of_le (Heap.lt_size e) (I.ok.cab x c hfn hc)))).trans (I.base.keep b o e n hb hx)
    · obtain ⟨sl, e1⟩ := I.base.slot b o e n hb hx
      exact ⟨sl, (hs.2 b (Nat.ne_of_lt (Nat.lt_of_lt_of_le (Heap.lt_size e) (I.ok.cab x c hfn hc)))).trans e1⟩
    · obtain ⟨o', e1⟩ := I.base.there b o e hx
      exact ⟨o', (hs.2 b (Nat.ne_of_lt (Nat.lt_of_lt_of_le (Heap.lt_size e) (I.ok.cab x c hfn hc)))).trans e1⟩
    · by_cases hj : j = i
      · subst hj
        rw [hi] at e1; cases e1
        rw [List.getElem?_set_self hiσ] at e2
        cases e2
        exact ⟨u, r, .inr ⟨.inl hk, c, hc, hc'⟩⟩
      · rw [List.getElem?_set_ne (Ne.symm hj)] at e2
        obtain ⟨u', r', q⟩ := hl j y v' e1 e2 e3
        refine ⟨u', r', ?_⟩
        rcases q with q | ⟨k, c', e, z'⟩
        · exact .inl q
        · refine .inr ⟨k, c', e, z'.sameBut hs ?_⟩
          rintro rfl
          exact hj (nodup_ix hN e1 (I.ok.inj _ _ _ e hc ▸ hi))
    · by_cases hcc : c' = c
      · subst hcc; exact ⟨_, hc'⟩
      · obtain ⟨w2, z2⟩ := I.cell y c' e
        exact ⟨w2, z2.sameBut hs hcc⟩
    · obtain ⟨e, n, ne, nf, d⟩ := I.pin p hp
      refine ⟨(hs.2 p.1 ?_).trans e, n, ne, nf, d⟩
      intro q
      rw [q, hoc] at e
      have q' : oc = p.2 := Option.some.inj e
      exact d w' (by rw [← q']; exact hocd)
theorem store_ok {M : Model} {A : Around} {E : Value → Shared → Prop} {i : Nat} {x : Str} {v : V} {u : Value} {Q : Unit → Shared → Prop} (I : Inv X pins σ H s) (hN : X.N.Nodup) (hi : X.N[i]? = some x) (hx : Loc X.env.scope x) (r : RelV v u)
    (h : ∀ s', Inv X pins (σ.set i (some v)) H s' → Q () s') (hf : X.fn x = true ∨ X.env.scope.names.lookup x = some .local := by first | exact .inl rfl | exact .inr rfl | assumption) : wpAny M A (storeName X.env x u) Q E s :=
  store_ok2 I hN hi hx r (fun s' I' _ => h s' I') hf
theorem Inv.call' {s' : Shared} {ch : List Addr} (I : Inv X pins σ H s) (ho : s'.os = s.os) (u : Un (frs X.stack) ch H H' s.heap s'.heap) (hok : HOk X.prog X.w H' s'.heap) (hg : AllBare s'.gens)
    (hch : ∀ b ∈ ch, (b ∈ X.ex ∨ X.s₀.heap.objs.size ≤ b) ∧ b ≠ X.env.locals ∧ (∀ x c, X.env.cells.lookup x = some c → c ≠ b) ∧ ∀ p ∈ X.pn ++ pins, p.1 ≠ b) : Inv X pins σ H' s' := by
  obtain ⟨h', g', d', t', o'⟩ := s'
  have e : o' = s.os := ho
  subst e
  exact I.call (g' := g') (t' := t') (d' := d') u hok hg hch
end

noncomputable abbrev XK := Value → Option Addr → Hp → Prop
noncomputable abbrev St := List (Option V)
noncomputable abbrev VK := V → Hp → Prop
noncomputable abbrev TE := St → Hp → VK → Prop
noncomputable abbrev TT := St → Hp → (Bool → Hp → Prop) → Prop
noncomputable abbrev TA := St → Hp → (List V → Hp → Prop) → Prop
structure Ends where
  nx : St → Hp → Prop
  rt : VK
  bk : St → Hp → Prop := fun _ _ => False
  ct : St → Hp → Prop := fun _ _ => False
noncomputable abbrev TS := Ends → St → Hp → Prop

noncomputable def EP (X : Cx) (pins : List (Addr × Obj)) (σ : St) (Q : VK) (u : Value) (s' : Shared) : Prop := ∃ v H', Inv X pins σ H' s' ∧ RelV v u ∧ Q v H'
noncomputable def TP (X : Cx) (pins : List (Addr × Obj)) (σ : St) (Q : Bool → Hp → Prop) (b : Bool) (s' : Shared) : Prop := ∃ H', Inv X pins σ H' s' ∧ Q b H'
noncomputable def AP (X : Cx) (pins : List (Addr × Obj)) (σ : St) (Q : List V → Hp → Prop) (us : List Value) (s' : Shared) : Prop := ∃ vs H', Inv X pins σ H' s' ∧ Vals vs us ∧ Q vs H'
noncomputable def SP (X : Cx) (pins : List (Addr × Obj)) (D : Ends) (f : Flow) (s' : Shared) : Prop :=
  match f with
  | .next => ∃ σ' H', Inv X pins σ' H' s' ∧ D.nx σ' H'
  | .brk => ∃ σ' H', Inv X pins σ' H' s' ∧ D.bk σ' H'
  | .cont => ∃ σ' H', Inv X pins σ' H' s' ∧ D.ct σ' H'
  | .ret u => ∃ v σ' H', Inv X pins σ' H' s' ∧ RelV v u ∧ D.rt v H'

noncomputable def PE (X : Cx) (e : Expr) (t : TE) : Prop :=
  ∀ (pins : List (Addr × Obj)) (s : Shared) (σ : St) (H : Hp) (Q : VK), Inv X pins σ H s → t σ H Q → wpAny (model X.prog X.w) X.A (eval e X.env) (EP X pins σ Q) X.xe s
noncomputable def PT (X : Cx) (e : Expr) (t : TT) : Prop :=
  ∀ (pins : List (Addr × Obj)) (s : Shared) (σ : St) (H : Hp) (Q : Bool → Hp → Prop), Inv X pins σ H s → t σ H Q → wpAny (model X.prog X.w) X.A (isTrue e X.env (eval e X.env)) (TP X pins σ Q) X.xe s
noncomputable def PW (X : Cx) (e : Expr) (t : TT) : Prop :=
  ∀ (whole : Sem Value) (pins : List (Addr × Obj)) (s : Shared) (σ : St) (H : Hp) (Q : Bool → Hp → Prop), Inv X pins σ H s → t σ H Q → wpAny (model X.prog X.w) X.A (isTrue e X.env whole) (TP X pins σ Q) X.xe s
theorem PW.pt {X : Cx} {e : Expr} {t : TT} (h : PW X e t) : PT X e t := h _
noncomputable def PA (X : Cx) (es : List Expr) (t : TA) : Prop :=
  ∀ (pos : Pos) (pins : List (Addr × Obj)) (s : Shared) (σ : St) (H : Hp) (Q : List V → Hp → Prop), Inv X pins σ H s → t σ H Q → wpAny (model X.prog X.w) X.A (spliced (backTo pos (starEach es X.env))) (AP X pins σ Q) X.xe s
noncomputable def PS (X : Cx) (st : Stmt) (t : TS) : Prop :=
  ∀ (pins : List (Addr × Obj)) (s : Shared) (σ : St) (H : Hp) (D : Ends), Inv X pins σ H s → t D σ H → wpAny (model X.prog X.w) X.A (exec st X.env) (SP X pins D) X.xe s
noncomputable def PSs (X : Cx) (st : List Stmt) (t : TS) : Prop :=
  ∀ (pins : List (Addr × Obj)) (s : Shared) (σ : St) (H : Hp) (D : Ends), Inv X pins σ H s → t D σ H → wpAny (model X.prog X.w) X.A (execs st X.env) (SP X pins D) X.xe s
theorem thn {α : Type} {t : Sem α} {Q Q' : α → Shared → Prop} {M : Model} {A : Around} {E : Value → Shared → Prop} {s : Shared} (h : wpAny M A t Q E s) (hQ : ∀ a s, Q a s → Q' a s) : wpAny M A t Q' E s := wpAny_mono h hQ fun _ _ x => x
end L2

namespace L2
open PySem PySem.Spec PyProof.Rows
section
variable {X : Cx}

noncomputable def tVar (i : Nat) : TE := fun σ H Q => ∃ v, σ[i]? = some (some v) ∧ Q v H
noncomputable def tC (v : V) : TE := fun _ H Q => Q v H
theorem pe_var {i : Nat} {x : Str} {pos : Pos} (hN : X.N[i]? = some x) (hv : Vis X.env.scope x) (hd : (x == ("__debug__" : Str)) = false := by decide) (hcd : (x == ("__classdict__" : Str)) = false := by decide) : PE X (.Name x pos) (tVar i) := by
  intro pins s σ H Q I h
  obtain ⟨v, e, h⟩ := h
  obtain ⟨m, hn, hl⟩ := I.loc
  obtain ⟨u, r, l⟩ := hl i x v hN e hv
  have fin : EP X pins σ Q u s := ⟨v, H, I, r, h⟩
  rcases l with ⟨hk, hm⟩ | ⟨hk, c, hc, hcell⟩
  · exact wpAny_Name (wpAny_loadName_local I.ok.kind hk hn hm fin) hd
  · rcases hk with hk | hk
    · exact wpAny_Name (wpAny_loadName_cell I.ok.kind hk hc hcell fin) hd
    · exact wpAny_Name (wpAny_loadName_free I.ok.kind hk hc hcell fin hcd) hd
theorem pe_int {i j pos} : PE X (.Constant (.int i) j pos) (tC (.int i)) := fun _ _ _ H _ I h => wpAny_Constant_int ⟨.int i, H, I.tok _, ⟨_, rfl⟩, h⟩
theorem pe_bl {b j pos} : PE X (.Constant (.bool b) j pos) (tC (.bl b)) := fun _ _ _ H _ I h => Constant_bool ⟨.bl b, H, I, rfl, h⟩
theorem pe_non {j pos} : PE X (.Constant .none j pos) (tC .non) := fun _ _ _ H _ I h => Constant_none ⟨.non, H, I, rfl, h⟩
theorem pe_str {x j pos} : PE X (.Constant (.str x) j pos) (tC (.str x)) := fun _ _ _ H _ I h => Calls.Constant_str ⟨.str x, H, I.tok _, ⟨_, rfl⟩, h⟩

noncomputable def Gl (X : Cx) (x : Str) : Prop := X.env.kindOf x = some .globalImplicit
theorem ld_glob {E : Value → Shared → Prop} {pins : List (Addr × Obj)} {s : Shared} {σ : St} {H : Hp} {x : Str} {u : Value} {pos : Pos} {Q : Value → Shared → Prop} (I : Inv X pins σ H s) (hg : Gl X x) (hm : X.mg x = some u) (h : Q u s)
    (hd : (x == ("__debug__" : Str)) = false := by decide) : wpAny (model X.prog X.w) X.A (eval (.Name x pos) X.env) Q E s :=
  Calls.Name_function_global I.ok.kind hg (Calls.loadGlobal_global (by rw [I.ok.glob]; exact I.mod.glob.keeps I.bk) hm h) hd
theorem ld_blt {E : Value → Shared → Prop} {pins : List (Addr × Obj)} {s : Shared} {σ : St} {H : Hp} {x : Str} {u : Value} {pos : Pos} {Q : Value → Shared → Prop} (I : Inv X pins σ H s) (hg : Gl X x) (hm : X.mg x = none) (hv : bootBuiltins x = some u) (h : Q u s)
    (hn : x ≠ "__name__" := by decide) (hd : (x == ("__debug__" : Str)) = false := by decide) : wpAny (model X.prog X.w) X.A (eval (.Name x pos) X.env) Q E s := by
  obtain ⟨mb, h1, h2⟩ := I.mod.blt
  exact Calls.Name_function_global I.ok.kind hg (Calls.loadGlobal_builtin (by rw [I.ok.glob]; exact I.mod.glob.keeps I.bk) hm (by rw [I.ok.blt]; exact h1.keeps I.bk) ((h2 x hn).trans hv) h) hd
theorem pe_glob {x : Str} {v : V} {u : Value} {pos : Pos} (hg : Gl X x) (hm : X.mg x = some u) (r : RelV v u) (hd : (x == ("__debug__" : Str)) = false := by decide) : PE X (.Name x pos) (tC v) :=
  fun _ _ _ H _ I h => ld_glob I hg hm ⟨v, H, I, r, h⟩ hd
theorem pe_bltn {x : Str} {v : V} {u : Value} {pos : Pos} (hg : Gl X x) (hm : X.mg x = none) (hv : bootBuiltins x = some u) (r : RelV v u) (hn : x ≠ "__name__" := by decide) (hd : (x == ("__debug__" : Str)) = false := by decide) : PE X (.Name x pos) (tC v) :=
  fun _ _ _ H _ I h => ld_blt I hg hm hv ⟨v, H, I, r, h⟩ hn hd

variable {a b : Expr} {ta tb : TE} {pos : Pos}
noncomputable def PC (X : Cx) (op : CmpOp) (a b : Expr) (t : TE) : Prop :=
  ∀ (pins : List (Addr × Obj)) (s : Shared) (σ : St) (H : Hp) (Q : VK), Inv X pins σ H s → t σ H Q →
    wpAny (model X.prog X.w) X.A (eval a X.env) (fun v s₁ => wpAny (model X.prog X.w) X.A (eval b X.env) (fun u s₂ => wpAny (model X.prog X.w) X.A (compareOp op v u) (EP X pins σ Q) X.xe s₂) X.xe s₁) X.xe s
theorem nobehind (b : Expr) {op : CmpOp} (h : op ≠ .In) (h2 : op ≠ .NotIn) : behindInMarks op b = false := by
  have e1 : (op == CmpOp.In) = false := by cases op <;> first | rfl | exact absurd rfl h
  have e2 : (op == CmpOp.NotIn) = false := by cases op <;> first | rfl | exact absurd rfl h2
  cases b <;> simp [behindInMarks, e1, e2]
noncomputable def tB (t : TE) : TT := fun σ H Q => t σ H fun x H1 => ∃ c, x = .bl c ∧ Q c H1
theorem pt_cmp {op : CmpOp} {t : TE} (h : PC X op a b t) (h1 : behindInMarks op b = false := by first | exact nobehind _ (by decide) (by decide) | rfl) : PT X (.Compare a [op] [b] pos) (tB t) := by
  intro pins s σ H Q I hw
  refine wpAny_isTrue_Compare1 (thn (h pins s σ H _ I hw) fun v s1 h1 => thn h1 fun u s2 h2 => thn h2 fun c s3 ⟨x, H1, I1, r1, q1⟩ => ?_) h1
  obtain ⟨d, rfl, q⟩ := q1
  cases r1
  exact wpAny_truthy_bool ⟨H1, I1, q⟩
theorem pt_val {e : Expr} {t : TE} (h : PE X e t) (he : ∀ whole, isTrue e X.env whole = (do let v ← whole; standAt e.pos; holding [v] (truthy v)) := by intro _; rfl) : PT X e (tB t) := by
  intro pins s σ H Q I hw
  refine isTrue_plain (thn (h pins s σ H _ I hw) fun v s1 ⟨x, H1, I1, r1, q1⟩ => ?_) (he _)
  obtain ⟨d, rfl, q⟩ := q1
  cases r1
  exact wpAny_truthy_bool ⟨H1, I1, q⟩

variable {tA tB' : TT} {rest : List Expr}
noncomputable def tAnd (t u : TT) : TT := fun σ H Q => t σ H fun c H1 => if c = true then u σ H1 Q else Q false H1
noncomputable def tOr (t u : TT) : TT := fun σ H Q => t σ H fun c H1 => if c = true then Q true H1 else u σ H1 Q
noncomputable def tNot (t : TT) : TT := fun σ H Q => t σ H fun c H1 => Q (!c) H1
theorem pw_and1 (ha : PT X a tA) : PW X (.BoolOp .And [a] pos) tA := by
  intro wh pins s σ H Q I h
  refine isTrue_and (thn (ha pins s σ H Q I h) fun c s1 e => ?_)
  cases c with
  | true => exact isTrue_and_nil e
  | false => exact e
theorem pw_or1 (ha : PT X a tA) : PW X (.BoolOp .Or [a] pos) tA := by
  intro wh pins s σ H Q I h
  refine isTrue_or (thn (ha pins s σ H Q I h) fun c s1 e => ?_)
  cases c with
  | false => exact isTrue_or_nil e
  | true => exact e
theorem pw_and (ha : PT X a tA) (hb : PW X (.BoolOp .And (b :: rest) pos) tB') : PW X (.BoolOp .And (a :: b :: rest) pos) (tAnd tA tB') := by
  intro wh pins s σ H Q I h
  refine isTrue_and (thn (ha pins s σ H _ I h) fun c s1 ⟨H1, I1, q1⟩ => ?_)
  cases c with
  | true => exact hb wh pins s1 σ H1 Q I1 q1
  | false => exact ⟨H1, I1, q1⟩
theorem pw_or (ha : PT X a tA) (hb : PW X (.BoolOp .Or (b :: rest) pos) tB') : PW X (.BoolOp .Or (a :: b :: rest) pos) (tOr tA tB') := by
  intro wh pins s σ H Q I h
  refine isTrue_or (thn (ha pins s σ H _ I h) fun c s1 ⟨H1, I1, q1⟩ => ?_)
  cases c with
  | true => exact ⟨H1, I1, q1⟩
  | false => exact hb wh pins s1 σ H1 Q I1 q1
theorem pt_not (ha : PT X a tA) : PT X (.UnaryOp .Not a pos) (tNot tA) := by
  intro pins s σ H Q I h
  exact isTrue_not (ha pins s σ H (fun c H1 => Q (!c) H1) I h)
noncomputable def tAndV (ta tb : TE) : TE := fun σ H Q => ta σ H fun x H1 => ∃ c, x = .bl c ∧ if c = true then tb σ H1 Q else Q (.bl false) H1
noncomputable def tOrV (ta tb : TE) : TE := fun σ H Q => ta σ H fun x H1 => ∃ c, x = .bl c ∧ if c = true then Q (.bl true) H1 else tb σ H1 Q
noncomputable def tNotV (ta : TE) : TE := fun σ H Q => ta σ H fun x H1 => ∃ c, x = .bl c ∧ Q (.bl (!c)) H1
theorem pe_one {op} {t : TE} (h : PE X a t) : PE X (.BoolOp op [a] pos) t := fun pins s σ H Q I hw => BoolOp_one (h pins s σ H Q I hw)
theorem pe_and (ha : PE X a ta) (hb : PE X (.BoolOp .And (b :: rest) pos) tb) : PE X (.BoolOp .And (a :: b :: rest) pos) (tAndV ta tb) := by
  intro pins s σ H Q I h
  refine BoolOp_and (thn (ha pins s σ H _ I h) fun v s1 ⟨x, H1, I1, r1, q1⟩ => ?_)
  obtain ⟨c, rfl, q1⟩ := q1
  cases r1
  refine wpAny_truthy_bool ?_
  cases c with
  | true => exact hb pins s1 σ H1 Q I1 q1
  | false => exact ⟨.bl false, H1, I1, rfl, q1⟩
theorem pe_or (ha : PE X a ta) (hb : PE X (.BoolOp .Or (b :: rest) pos) tb) : PE X (.BoolOp .Or (a :: b :: rest) pos) (tOrV ta tb) := by
  intro pins s σ H Q I h
  refine BoolOp_or (thn (ha pins s σ H _ I h) fun v s1 ⟨x, H1, I1, r1, q1⟩ => ?_)
  obtain ⟨c, rfl, q1⟩ := q1
  cases r1
  refine wpAny_truthy_bool ?_
  cases c with
  | false => exact hb pins s1 σ H1 Q I1 q1
  | true => exact ⟨.bl true, H1, I1, rfl, q1⟩
theorem pe_not (ha : PE X a ta) : PE X (.UnaryOp .Not a pos) (tNotV ta) := by
  intro pins s σ H Q I h
  refine UnaryOp_ (thn (ha pins s σ H _ I h) fun v s1 ⟨x, H1, I1, r1, q1⟩ => ?_)
  obtain ⟨c, rfl, q1⟩ := q1
  cases r1
  exact not_of (wpAny_truthy_bool ⟨.bl (!c), H1, I1, rfl, q1⟩)
noncomputable def tIf (t : TT) (ta tb : TE) : TE := fun σ H Q => t σ H fun c H1 => if c = true then ta σ H1 Q else tb σ H1 Q
theorem pe_ifExp {c : Expr} (hc : PT X c tA) (ha : PE X a ta) (hb : PE X b tb) : PE X (.IfExp c a b pos) (tIf tA ta tb) := by
  intro pins s σ H Q I h
  refine wpAny_IfExp (thn (hc pins s σ H _ I h) fun d s1 ⟨H1, I1, q1⟩ => ?_)
  cases d with
  | true => exact ha pins s1 σ H1 Q I1 q1
  | false => exact hb pins s1 σ H1 Q I1 q1
end
end L2

namespace L2
open PySem PySem.Spec PyProof.Rows

noncomputable def SqL (K : PySem.W.Frag) (H : Hp) (a : Addr) (xs : List V) : Prop :=
  Rd H a (.lst xs) ∨
    ∃ (o : Obj) (its : Array Value) (n : Nat), K.lookup a = some o ∧ o.cls = .type "list" ∧ o.dict = none ∧ o.data = .seq its n ∧ its.size ≤ sizeLine ∧ Vals xs its.toList
noncomputable def SqT (K : PySem.W.Frag) (H : Hp) (a : Addr) (xs : List V) : Prop :=
  Rd H a (.tup xs) ∨
    ∃ (o : Obj) (its : Array Value) (n : Nat), K.lookup a = some o ∧ o.cls = .type "tuple" ∧ o.data = .seq its n ∧ its.size ≤ sizeLine ∧ Vals xs its.toList
noncomputable def absV : Value → Option V
  | .none => some .non
  | .bool b => some (.bl b)
  | .int i _ => some (.int i)
  | .str x _ => some (.str x)
  | .bytes b _ => some (.byt b)
  | .float b _ => some (.flt b)
  | .ref a => some (.ref a)
  | .type n => some (.ty n)
  | _ => none
theorem RelV.abs {x : V} {u : Value} (r : RelV x u) : absV u = some x := by
  cases x with
  | non => cases r; rfl
  | bl _ => cases r; rfl
  | int _ => obtain ⟨t, rfl⟩ := r; rfl
  | str _ => obtain ⟨t, rfl⟩ := r; rfl
  | byt _ => obtain ⟨t, rfl⟩ := r; rfl
  | flt _ => obtain ⟨t, rfl⟩ := r; rfl
  | ref _ => cases r; rfl
  | ty _ => cases r; rfl
theorem RelV.inj {x y : V} {u : Value} (r : RelV x u) (q : RelV y u) : x = y := Option.some.inj (r.abs.symm.trans q.abs)
theorem Vals.inj : ∀ {xs ys : List V} {us : List Value}, Vals xs us → Vals ys us → xs = ys
  | _, _, _, .nil, .nil => rfl
  | _, _, _, .cons r t, .cons r' t' => by rw [r.inj r', Vals.inj t t']
section
variable {X : Cx} {pins : List (Addr × Obj)} {σ : St} {H : Hp} {s : Shared} {a : Addr} {xs ys : List V}
theorem SqL.of {K : PySem.W.Frag} (h : H a = some (.lst xs)) : SqL K H a xs := .inl (.inl h)
theorem SqT.of {K : PySem.W.Frag} (h : H a = some (.tup xs)) : SqT K H a xs := .inl (.inl h)
theorem Inv.list (I : Inv X pins σ H s) (h : SqL X.K H a xs) : ∃ its : List Value, Vals xs its ∧ PlainL s.heap a its.toArray ∧ xs.length ≤ sizeLine := by
  rcases h with h | ⟨o, its, n, hk, hc, hd, hs, hz, r⟩
  · obtain ⟨z, its, n, r, e⟩ := h.ok I.hok
    exact ⟨its, r, ⟨_, n, e, rfl, rfl, rfl⟩, z⟩
  · refine ⟨its.toList, r, ⟨o, n, I.kIn a o hk, hc, hd, by simpa using hs⟩, ?_⟩
    have e := r.length
    simp only [Array.length_toList] at e
    omega
theorem Inv.tuple (I : Inv X pins σ H s) (h : SqT X.K H a xs) : ∃ its : List Value, Vals xs its ∧ IsTup s.heap a its.toArray ∧ xs.length ≤ sizeLine := by
  rcases h with h | ⟨o, its, n, hk, hc, hs, hz, r⟩
  · obtain ⟨z, its, r, p⟩ := h.ok I.hok
    exact ⟨its, r, p, z⟩
  · refine ⟨its.toList, r, ⟨o, I.kIn a o hk, hc, n, by simpa using hs⟩, ?_⟩
    have e := r.length
    simp only [Array.length_toList] at e
    omega
theorem Inv.list_inj (I : Inv X pins σ H s) (h : SqL X.K H a xs) (h' : SqL X.K H a ys) : xs = ys := by
  obtain ⟨its, r, ⟨o, n, e, _, _, d⟩, _⟩ := I.list h
  obtain ⟨its', r', ⟨o', n', e', _, _, d'⟩, _⟩ := I.list h'
  rw [e] at e'; cases e'
  rw [d] at d'
  injection d' with d1 _
  have : its = its' := by simpa using congrArg Array.toList d1
  subst this
  exact r.inj r'
theorem Inv.tuple_inj (I : Inv X pins σ H s) (h : SqT X.K H a xs) (h' : SqT X.K H a ys) : xs = ys := by
  obtain ⟨its, r, ⟨o, e, _, n, d⟩, _⟩ := I.tuple h
  obtain ⟨its', r', ⟨o', e', _, n', d'⟩, _⟩ := I.tuple h'
  rw [e] at e'; cases e'
  rw [d] at d'
  injection d' with d1 _
  have : its = its' := by simpa using congrArg Array.toList d1
  subst this
  exact r.inj r'
end

noncomputable abbrev Cx.wish (X : Cx) (E : Value → Shared → Prop) : Cx := { X with xe := E }
noncomputable abbrev Cx.nox (X : Cx) : Cx := X.wish fun _ _ => False
theorem Cx.Ok.wish {X : Cx} (ok : X.Ok) (E : Value → Shared → Prop) : (X.wish E).Ok :=
  ⟨ok.mod, ok.kind, ok.glob, ok.blt, ok.above, ok.inj, ok.has, ok.cab, ok.hd, ok.frames, ok.stk, ok.exf, ok.bs, ok.bsz, ok.noex, ok.exfs, ok.funs, ok.frf⟩
theorem Cx.Ok.unwish {X : Cx} {E : Value → Shared → Prop} (ok : (X.wish E).Ok) : X.Ok :=
  ⟨ok.mod, ok.kind, ok.glob, ok.blt, ok.above, ok.inj, ok.has, ok.cab, ok.hd, ok.frames, ok.stk, ok.exf, ok.bs, ok.bsz, ok.noex, ok.exfs, ok.funs, ok.frf⟩
section
variable {X : Cx} {pins : List (Addr × Obj)} {σ : St} {H : Hp} {s : Shared} {E : Value → Shared → Prop}
theorem Inv.wish (I : Inv X pins σ H s) (E : Value → Shared → Prop) : Inv (X.wish E) pins σ H s := ⟨I.ok.wish E, I.os, I.bare, I.base, I.loc, I.cell, I.free, I.freeC, I.pin, I.hok, I.len⟩
theorem Inv.unwish (I : Inv (X.wish E) pins σ H s) : Inv X pins σ H s := ⟨I.ok.unwish, I.os, I.bare, I.base, I.loc, I.cell, I.free, I.freeC, I.pin, I.hok, I.len⟩
theorem SP.unwish {D : Ends} {f : Flow} {s' : Shared} (h : SP (X.wish E) pins D f s') : SP X pins D f s' := by
  cases f with
  | next => obtain ⟨σ', H', I, q⟩ := h; exact ⟨σ', H', I.unwish, q⟩
  | brk => obtain ⟨σ', H', I, q⟩ := h; exact ⟨σ', H', I.unwish, q⟩
  | cont => obtain ⟨σ', H', I, q⟩ := h; exact ⟨σ', H', I.unwish, q⟩
  | ret u => obtain ⟨v, σ', H', I, r, q⟩ := h; exact ⟨v, σ', H', I.unwish, r, q⟩
theorem PE.nox {e : Expr} {t : TE} (h : PE X.nox e t) : PE X e t := fun pins s σ H Q I hw =>
  wpAny_mono (h pins s σ H Q (I.wish _) hw) (fun _ _ ⟨v, H', I', r, q⟩ => ⟨v, H', I'.unwish, r, q⟩) fun _ _ z => False.elim z
theorem PT.nox {e : Expr} {t : TT} (h : PT X.nox e t) : PT X e t := fun pins s σ H Q I hw =>
  wpAny_mono (h pins s σ H Q (I.wish _) hw) (fun _ _ ⟨H', I', q⟩ => ⟨H', I'.unwish, q⟩) fun _ _ z => False.elim z
theorem PSs.nox {st : List Stmt} {t : TS} (h : PSs X.nox st t) : PSs X st t := fun pins s σ H D I hw =>
  wpAny_mono (h pins s σ H D (I.wish _) hw) (fun _ _ q => q.unwish) fun _ _ z => False.elim z
end

section
variable {X : Cx} {st : Stmt} {rest : List Stmt} {t u : TS} {e : Expr} {te : TE} {pos : Pos}
noncomputable def tNext : TS := fun D σ H => D.nx σ H
noncomputable def tSeq (t u : TS) : TS := fun D σ H => t { D with nx := u D } σ H
theorem pss_nil : PSs X [] tNext := fun _ _ σ H _ I h => wpAny_execs_nil ⟨σ, H, I, h⟩
theorem pss_cons (h1 : PS X st t) (h2 : PSs X rest u) : PSs X (st :: rest) (tSeq t u) := by
  intro pins s σ H D I h
  refine wpAny_execs_cons (thn (h1 pins s σ H { D with nx := u D } I h) fun f s1 q => ?_)
  cases f with
  | next =>
    obtain ⟨σ', H', I', q⟩ := q
    exact h2 pins s1 σ' H' D I' q
  | ret v => exact q
  | brk => exact q
  | cont => exact q
theorem pss_one (h1 : PS X st t) : PSs X [st] t := by
  intro pins s σ H D I h
  refine wpAny_execs_cons (thn (h1 pins s σ H D I h) fun f s1 q => ?_)
  cases f with
  | next => exact wpAny_execs_nil q
  | ret v => exact q
  | brk => exact q
  | cont => exact q
theorem Inv.quiet {pins : List (Addr × Obj)} {σ : St} {H : Hp} {s : Shared} (I : Inv X pins σ H s) : interactive X.env = false := by simp [interactive, I.ok.kind]
noncomputable def tDrop (te : TE) : TS := fun D σ H => te σ H fun _ H1 => D.nx σ H1
theorem ps_expr (he : PE X e te) (hs : swapsWith e none pos.line X.env = pure false := by rfl) : PS X (.Expr e pos) (tDrop te) := by
  intro pins s σ H D I h
  exact wpAny_Expr_any (thn (he pins s σ H _ I h) fun v s1 ⟨x, H1, I1, r1, q1⟩ => ⟨σ, H1, I1, q1⟩) I.quiet hs
noncomputable def tRet (te : TE) : TS := fun D σ H => te σ H D.rt
theorem ps_ret (he : PE X e te) : PS X (.Return (some e) pos) (tRet te) := by
  intro pins s σ H D I h
  exact wpAny_Return_some (thn (he pins s σ H _ I h) fun v s1 ⟨x, H1, I1, r1, q1⟩ => ⟨x, σ, H1, I1, r1, q1⟩)
noncomputable def tRetN : TS := fun D _ H => D.rt .non H
noncomputable def tIfS (c : TT) (t u : TS) : TS := fun D σ H => c σ H fun b H1 => if b = true then t D σ H1 else u D σ H1
theorem ps_if {c : Expr} {a b : List Stmt} {tc : TT} (hc : PT X c tc) (ha : PSs X a t) (hb : PSs X b u) : PS X (.If c a b pos) (tIfS tc t u) := by
  intro pins s σ H D I h
  refine wpAny_If (thn (hc pins s σ H _ I h) fun d s1 ⟨H1, I1, q1⟩ => ?_)
  cases d with
  | true => exact ha pins s1 σ H1 D I1 q1
  | false => exact hb pins s1 σ H1 D I1 q1
end

noncomputable abbrev TG := V → St → Hp → (St → Hp → Prop) → Prop
noncomputable abbrev TGs := List V → St → Hp → (St → Hp → Prop) → Prop
noncomputable def PG (X : Cx) (target : Expr) (t : TG) : Prop :=
  ∀ (pins : List (Addr × Obj)) (s : Shared) (σ : St) (H : Hp) (v : V) (u : Value) (Q : St → Hp → Prop), Inv X pins σ H s → RelV v u → t v σ H Q →
    wpAny (model X.prog X.w) X.A (assign target X.env u) (fun _ s' => ∃ σ' H', Inv X pins σ' H' s' ∧ Q σ' H') X.xe s
noncomputable def PGs (X : Cx) (ts : List Expr) (t : TGs) : Prop :=
  ∀ (pins : List (Addr × Obj)) (s : Shared) (σ : St) (H : Hp) (vs : List V) (us : List Value) (Q : St → Hp → Prop), Inv X pins σ H s → Vals vs us → t vs σ H Q →
    wpAny (model X.prog X.w) X.A (assignInOrder ((assignEach ts X.env).map (·.2)) us) (fun _ s' => ∃ σ' H', Inv X pins σ' H' s' ∧ Q σ' H') X.xe s
noncomputable abbrev TSet := V → V → V → Hp → (Hp → Prop) → Prop
noncomputable def PSet (X : Cx) (t : TSet) : Prop :=
  ∀ (pins : List (Addr × Obj)) (s : Shared) (σ : St) (H : Hp) (o i v : V) (ov iv u : Value) (Q : Hp → Prop), Inv X pins σ H s → RelV o ov → RelV i iv → RelV v u → t o i v H Q →
    wpAny (model X.prog X.w) X.A (setItem ov iv u) (fun _ s' => ∃ H', Inv X pins σ H' s' ∧ Q H') X.xe s
noncomputable abbrev TIp := V → V → Hp → VK → Prop
noncomputable def PIp (X : Cx) (op : Operator) (t : TIp) : Prop :=
  ∀ (pins : List (Addr × Obj)) (s : Shared) (σ : St) (H : Hp) (x y : V) (v u : Value) (Q : VK), Inv X pins σ H s → RelV x v → RelV y u → t x y H Q →
    wpAny (model X.prog X.w) X.A (inplaceOp op v u) (EP X pins σ Q) X.xe s
section
variable {X : Cx} {pos : Pos}
noncomputable def gName (i : Nat) : TG := fun v σ H Q => Q (σ.set i (some v)) H
theorem pg_name {i : Nat} {x : Str} (hN : X.N.Nodup) (hi : X.N[i]? = some x) (hx : Loc X.env.scope x) (hf : X.fn x = true ∨ X.env.scope.names.lookup x = some .local := by first | exact .inl rfl | exact .inr rfl | assumption) : PG X (.Name x pos) (gName i) := by
  intro pins s σ H v u Q I r h
  exact wpAny_assign_Name (store_ok I hN hi hx r (fun s' I' => ⟨_, H, I', h⟩) hf)
noncomputable def gNil : TGs := fun vs σ H Q => vs = [] ∧ Q σ H
noncomputable def gCons (t : TG) (u : TGs) : TGs := fun vs σ H Q => ∃ v r, vs = v :: r ∧ t v σ H fun σ' H' => u r σ' H' Q
theorem pgs_nil : PGs X [] gNil := by
  intro pins s σ H vs us Q I r h
  obtain ⟨e, h⟩ := h
  subst e
  cases r
  exact assignInOrder_nil ⟨σ, H, I, h⟩
theorem pgs_cons {e : Expr} {es : List Expr} {t : TG} {u : TGs} (h1 : PG X e t) (h2 : PGs X es u)
    (hs : (assignEach (e :: es) X.env).map (·.2) = assign e X.env :: (assignEach es X.env).map (·.2) := by rfl) : PGs X (e :: es) (gCons t u) := by
  intro pins s σ H vs us Q I r h
  obtain ⟨v, vr, e1, h⟩ := h
  subst e1
  cases r with
  | cons r rr =>
    rw [hs]
    refine assignInOrder_cons (thn (h1 pins s σ H _ _ _ I r h) fun _ s1 ⟨σ1, H1, I1, q1⟩ => ?_)
    exact h2 pins s1 σ1 H1 _ _ Q I1 rr q1
noncomputable def gTup (K : PySem.W.Frag) (n : Nat) (t : TGs) : TG := fun v σ H Q => ∃ a xs, v = .ref a ∧ SqT K H a xs ∧ xs.length = n ∧ t xs σ H Q
theorem pg_tup {es : List Expr} {k : Nat} {t : TGs} {n : Nat} (hc : X.calm = true) (h : PGs X es t)
    (hn : (assignEach es X.env).length = n := by rfl) (hst : (assignEach es X.env).findIdx? (·.1) = none := by rfl) : PG X (.Tuple es k pos) (gTup X.K n t) := by
  intro pins s σ H v u Q I r hw
  obtain ⟨a, xs, e1, hq, hl, hw⟩ := hw
  subst e1
  cases r
  obtain ⟨its, rv, ht, hz⟩ := I.tuple hq
  refine assign_Tuple_tuple (I.ok.hd hc) ht (by simp [hn, ← hl, rv.length]) hst fun h' hx => ?_
  have I1 : Inv X pins σ H { s with heap := h' } := I.kept (t' := s.toks) fun b o e => hx b o (Nat.ne_of_lt (Heap.lt_size e)) e
  exact h pins _ σ H xs _ Q I1 (by simpa using rv) hw
noncomputable def gSub (to ti : TE) (t : TSet) : TG := fun v σ H Q => to σ H fun o H1 => ti σ H1 fun i H2 => t o i v H2 fun H3 => Q σ H3
theorem pg_sub {o i : Expr} {to ti : TE} {t : TSet} (ho : PE X o to) (hi : PE X i ti) (hs : PSet X t)
    (ha : ∀ v, assign (.Subscript o i pos) X.env v = (do
      let ov ← holding [v] (eval o X.env)
      let iv ← holding [v, ov] (eval i X.env)
      standAt pos
      holding [v, ov, iv] (setItem ov iv v)
      release [v, ov, iv] []) := by intro _; rfl) : PG X (.Subscript o i pos) (gSub to ti t) := by
  intro pins s σ H v u Q I r h
  rw [ha]
  refine wpAny_bind (wpAny_holding (thn (ho pins s σ H _ I h) fun ov s1 ⟨x, H1, I1, r1, q1⟩ => ?_))
  refine wpAny_bind (wpAny_holding (thn (hi pins s1 σ H1 _ I1 q1) fun iv s2 ⟨y, H2, I2, r2, q2⟩ => ?_))
  refine wpAny_bind (wpAny_standAt (wpAny_bind (wpAny_holding (thn (hs pins s2 σ H2 x y v ov iv u _ I2 r1 r2 r q2) fun _ s3 ⟨H3, I3, q3⟩ => ?_))))
  exact wpAny_release ⟨σ, H3, I3, q3⟩
noncomputable def tAsg (te : TE) (g : TG) : TS := fun D σ H => te σ H fun x H1 => g x σ H1 D.nx
theorem ps_asg {tg e : Expr} {te : TE} {g : TG} (he : PE X e te) (hg : PG X tg g) (hs : swapsWithSole [tg] e pos.line X.env = pure false := by rfl) (hw : swappedStores [tg] e X.env = pure none := by rfl)
    (h1 : (assignEach [tg] X.env).map (·.2) = [assign tg X.env] := by rfl) : PS X (.Assign [tg] e pos) (tAsg te g) := by
  intro pins s σ H D I h
  refine wpAny_Assign_stores (thn (he pins s σ H _ I h) fun v s1 ⟨x, H1, I1, r1, q1⟩ => ?_) hs hw
  rw [h1]
  exact thn (hg pins s1 σ H1 x v _ I1 r1 q1) fun _ s2 q => q
theorem ps_set {i : Nat} {x : Str} {e : Expr} {te : TE} {pos' : Pos} (hN : X.N.Nodup) (hi : X.N[i]? = some x) (hx : Loc X.env.scope x) (he : PE X e te) (hs : swapsWith e (some (.Name x pos')) pos.line X.env = pure false := by rfl) (hf : X.fn x = true ∨ X.env.scope.names.lookup x = some .local := by first | exact .inl rfl | exact .inr rfl | assumption) :
    PS X (.Assign [.Name x pos'] e pos) (tAsg te (gName i)) := by
  intro pins s σ H D I h
  refine wpAny_Assign_Name (thn (he pins s σ H _ I h) fun v s1 ⟨y, H1, I1, r1, q1⟩ => ?_) hs
  exact store_ok I1 hN hi hx r1 (fun s2 I2 => ⟨_, H1, I2, q1⟩) hf
noncomputable def tPar (i j : Nat) (ta : TA) : TS := fun D σ H => ta σ H fun vs H1 => ∃ v w, vs = [v, w] ∧ D.nx ((σ.set i (some v)).set j (some w)) H1
theorem ps_par {i j : Nat} {x y : Str} {a b : Expr} {ta : TA} {px py pt : Pos} {kt k2 pt2} (hc : X.calm = true) (hN : X.N.Nodup) (hi : X.N[i]? = some x) (hj : X.N[j]? = some y) (hij : i ≠ j)
    (hx : X.env.scope.names.lookup x = some .local) (hy : X.env.scope.names.lookup y = some .local) (ha : PA X [a, b] ta)
    (hw : swappedStores [.Tuple [.Name x px, .Name y py] kt pt] (.Tuple [a, b] k2 pt2) X.env = pure (some [x, y]))
    (hs : swapsWithSole [.Tuple [.Name x px, .Name y py] kt pt] (.Tuple [a, b] k2 pt2) pos.line X.env = pure false := by rfl) :
    PS X (.Assign [.Tuple [.Name x px, .Name y py] kt pt] (.Tuple [a, b] k2 pt2) pos) (tPar i j ta) := by
  intro pins s σ H D I h
  rw [exec_Assign_arm]
  refine wpAny_bind (wpAny_standAt ?_)
  rw [hs]
  refine wpAny_bind (wpAny_pure ?_)
  rw [if_neg (by decide)]
  refine wpAny_bind (Tuple_ (thn (ha _ pins s σ H _ I h) fun us s1 ⟨vs, H1, I1, r1, q1⟩ => ?_))
  obtain ⟨v, w, e1, q1⟩ := q1
  subst e1
  obtain ⟨u1, u2, rfl, rv, rw'⟩ : ∃ u1 u2, us = [u1, u2] ∧ RelV v u1 ∧ RelV w u2 := by
    cases r1 with
    | cons p q =>
      cases q with
      | cons p' q' =>
        cases q'
        exact ⟨_, _, rfl, p, p'⟩
  refine wpAny_newObj_type ?_ (by show 2 ≤ sizeLine; decide)
  have I2 : Inv X pins σ H1 { s1 with heap := s1.heap.push { cls := .type "tuple", data := .seq [u1, u2].toArray } } := I1.kept (t' := s1.toks) fun b o e => Heap.get?_push_of_some _ e
  rw [hw]
  refine wpAny_bind (wpAny_pure ?_)
  show wpAny (model X.prog X.w) X.A (do rule "assign.swapped-stores"; let items ← unpackItems (.ref s1.heap.objs.size) 2 none; assignInOrder [fun v => bindName X.env y v, fun v => bindName X.env x v] items.reverse; pure Flow.next) _ _ _
  refine wpAny_bind (wpAny_rule (wpAny_bind (unpackItems_tuple (items := #[u1, u2]) (I.ok.hd hc) (IsTup.new s1.heap _) fun h' hx' => ?_)))
  have I3 := I2.kept (h' := h') (t' := s1.toks) fun b o e => hx' b o (Nat.ne_of_lt (Heap.lt_size e)) e
  show wpAny _ _ (assignInOrder [fun v => bindName X.env y v, fun v => bindName X.env x v] [u2, u1] >>= fun _ => pure Flow.next) _ _ _
  refine wpAny_bind (assignInOrder_cons (wpAny_bindName (store_ok I3 hN hj (.inl hy) rw' (fun s2 I4 => ?_) (.inr hy))))
  refine assignInOrder_cons (wpAny_bindName (store_ok I4 hN hi (.inl hx) rv (fun s3 I5 => assignInOrder_nil (wpAny_pure ?_)) (.inr hx)))
  rw [List.set_comm _ _ (Ne.symm hij)] at I5
  exact ⟨_, H1, I5, q1⟩
noncomputable def tAug (i : Nat) (te : TE) (ti : TIp) : TS := fun D σ H => ∃ x, σ[i]? = some (some x) ∧ te σ H fun y H1 => ti x y H1 fun z H2 => D.nx (σ.set i (some z)) H2
theorem ps_aug {i : Nat} {x : Str} {e : Expr} {te : TE} {op : Operator} {ti : TIp} {pos' : Pos} (hN : X.N.Nodup) (hi : X.N[i]? = some x) (hx : Loc X.env.scope x) (he : PE X e te) (ho : PIp X op ti) (hf : X.fn x = true ∨ X.env.scope.names.lookup x = some .local := by first | exact .inl rfl | exact .inr rfl | assumption) :
    PS X (.AugAssign (.Name x pos') op e pos) (tAug i te ti) := by
  intro pins s σ H D I h
  obtain ⟨v, e1, h⟩ := h
  obtain ⟨m, hn, hl⟩ := I.loc
  have vis : Vis X.env.scope x := by rcases hx with k | k; exact .inl k; exact .inr (.inl k)
  obtain ⟨u, r, l⟩ := hl i x v hi e1 vis
  refine wpAny_AugAssign_Name ?_
  have go : wpAny (model X.prog X.w) X.A (eval e X.env) (fun w s₂ => wpAny (model X.prog X.w) X.A (inplaceOp op u w) (fun r s₃ => wpAny (model X.prog X.w) X.A (storeName X.env x r) (fun _ => SP X pins D .next) X.xe s₃) X.xe s₂) X.xe s := by
    refine thn (he pins s σ H _ I h) fun w s1 ⟨y, H1, I1, r1, q1⟩ => ?_
    refine thn (ho pins s1 σ H1 v y u w _ I1 r r1 q1) fun z s2 ⟨zv, H2, I2, r2, q2⟩ => ?_
    exact store_ok I2 hN hi hx r2 (fun s3 I3 => ⟨_, H2, I3, q2⟩) hf
  rcases l with ⟨hk, hm⟩ | ⟨hk, c, hc, hcell⟩
  · exact wpAny_loadName_local I.ok.kind hk hn hm go
  · rcases hk with hk | hk
    · exact wpAny_loadName_cell I.ok.kind hk hc hcell go
    · rcases hx with k | k
      · have : X.env.scope.names.lookup x = some .free := hk
        rw [k] at this; cases this
      · have : X.env.scope.names.lookup x = some .free := hk
        rw [k] at this; cases this
noncomputable def ipI (f : Int → Int → Int) : TIp := fun x y H Q => ∃ i j, x = .int i ∧ y = .int j ∧ Q (.int (f i j)) H
theorem ip_add : PIp X .Add (ipI fun i j => i + j) := by
  intro pins s σ H x y v u Q I r1 r2 h
  obtain ⟨i, j, e1, e2, q⟩ := h
  subst e1; subst e2
  obtain ⟨t, rfl⟩ := r1
  obtain ⟨t', rfl⟩ := r2
  exact iadd_int ⟨.int _, H, I.tok _, ⟨_, rfl⟩, q⟩
end

section
variable {X : Cx} {pos : Pos}
noncomputable def tWhile (c : TT) (tb : TS) : TS := fun D σ H => ∃ W : Nat → St → Hp → Prop, (∃ m, W m σ H) ∧ ∀ m σ H, W m σ H →
  c σ H fun b H1 => if b = true then ∃ N : St → Hp → Prop, (∀ σ' H', N σ' H' → ∃ m', m' < m ∧ W m' σ' H') ∧ tb { D with nx := N, ct := N, bk := D.nx } σ H1 else D.nx σ H1
theorem ps_while {c : Expr} {body : List Stmt} {tc : TT} {tb : TS} (hp : PassesOwn (model X.prog X.w) X.A X.env X.xe) (hc : PT X c tc) (hb : PSs X body tb) : PS X (.While c body [] pos) (tWhile tc tb) := by
  intro pins s σ H D I h
  obtain ⟨W, ⟨m0, w0⟩, turn⟩ := h
  refine wpAny_While (codeAny_whileLoop (fun n s' => ∃ σ' H', Inv X pins σ' H' s' ∧ W n σ' H') ?_ m0 ⟨σ, H, I, w0⟩)
  rintro n s1 ⟨σ1, H1, I1, w1⟩
  refine wpAny_passesOwn hp (thn (hc pins s1 σ1 H1 _ I1 (turn n σ1 H1 w1)) fun b s2 ⟨H2, I2, q2⟩ => ?_)
  cases b with
  | true =>
    obtain ⟨N, hN, q2⟩ := q2
    rw [if_pos rfl]
    refine wpAny_passesOwn hp (thn (hb pins s2 σ1 H2 _ I2 q2) fun f s3 q3 => ?_)
    cases f with
    | next =>
      obtain ⟨σ3, H3, I3, n3⟩ := q3
      obtain ⟨m', hm, w3⟩ := hN σ3 H3 n3
      exact ⟨m', hm, σ3, H3, I3, w3⟩
    | cont =>
      obtain ⟨σ3, H3, I3, n3⟩ := q3
      obtain ⟨m', hm, w3⟩ := hN σ3 H3 n3
      exact ⟨m', hm, σ3, H3, I3, w3⟩
    | brk => exact q3
    | ret v => exact q3
  | false =>
    rw [if_neg Bool.false_ne_true]
    exact wpAny_execs_nil ⟨σ1, H2, I2, q2⟩
end

structure It where
  go : Nat → Hp → Prop
  yld : Nat → Hp → V → Hp → Prop
  stop : Nat → Hp → Prop
noncomputable def FpOk (X : Cx) (pins : List (Addr × Obj)) (H : Hp) (b : Addr) : Prop :=
  H b = none ∧ b ≠ X.env.locals ∧ b ∉ X.fs ∧ (b ∈ X.ex ∨ X.s₀.heap.objs.size ≤ b) ∧ (∀ x c, X.env.cells.lookup x = some c → c ≠ b) ∧ ∀ p ∈ X.pn ++ pins, p.1 ≠ b
theorem Inv.fpOk {X : Cx} {pins : List (Addr × Obj)} {σ : St} {H H' : Hp} {s : Shared} {b : Addr} (I : Inv X pins σ H s) (hb : s.heap.objs.size ≤ b) (hn : H' b = none) : FpOk X pins H' b := by
  refine ⟨hn, Nat.ne_of_gt (Nat.lt_of_lt_of_le I.lt hb), I.nofs hb, .inr (Nat.le_trans I.sz hb), fun x c e z => ?_, fun p hp z => ?_⟩
  · obtain ⟨v, q⟩ := I.cell x c e
    exact absurd (Nat.lt_of_lt_of_le q.lt (by rw [z]; exact hb)) (Nat.lt_irrefl _)
  · exact absurd (Nat.lt_of_lt_of_le (Heap.lt_size (I.pin p hp).1) (by rw [z]; exact hb)) (Nat.lt_irrefl _)
structure Turn (P : Program) (w : World) (K : PySem.W.Frag) (tg : Expr) (J : It) (fp : List Addr) (it : Addr) (tn : Nat → Heap → Prop) : Prop where
  mem : it ∈ fp
  obj : ∀ i h, tn i h → ∀ b ∈ fp, ∃ o, h.get? b = some o ∧ ∀ v, o.data ≠ .cell v
  keep : ∀ i h h', tn i h → (∀ b ∈ fp, ∀ o, h.get? b = some o → h'.get? b = some o) → tn i h'
  item : ∀ (X : Cx), X.prog = P → X.w = w → X.K = K → X.calm = true → ∀ (i : Nat) (pins : List (Addr × Obj)) (s : Shared) (σ : St) (H : Hp) (E : Value → Shared → Prop), Inv X pins σ H s → (∀ b ∈ fp, FpOk X pins H b) → tn i s.heap → J.go i H →
    wpAny (model P w) X.A (pyNext (.ref it)) (fun r s1 => ∃ u, r = some u ∧
      wpAny (model P w) X.A (letOwnedTupleGo tg (.ref it) u) (fun _ s2 => ∃ x H', Inv X pins σ H' s2 ∧ RelV x u ∧ J.yld i H x H' ∧ tn (i + 1) s2.heap ∧ ∀ b ∈ fp, H' b = none) E s1) E s
  done : ∀ (X : Cx), X.prog = P → X.w = w → X.K = K → X.calm = true → ∀ (i : Nat) (pins : List (Addr × Obj)) (s : Shared) (σ : St) (H : Hp) (E : Value → Shared → Prop), Inv X pins σ H s → (∀ b ∈ fp, FpOk X pins H b) → tn i s.heap → J.stop i H →
    wpAny (model P w) X.A (pyNext (.ref it)) (fun r s1 => r = none ∧ Inv X pins σ H s1) E s
  self : ∀ (A : Around) (i : Nat) (s : Shared) (Q : Value → Shared → Prop) (E : Value → Shared → Prop), tn i s.heap → Q (.ref it) s → wpAny (model P w) A (pyIter (.ref it)) Q E s
noncomputable abbrev TI := St → Hp → (It → Hp → Prop) → Prop
noncomputable def PIE (X : Cx) (pins : List (Addr × Obj)) (σ : St) (tg : Expr) (R : It → Hp → Prop) (itv : Value) (s2 : Shared) : Prop :=
  ∃ (it : Addr) (fp : List Addr) (tn : Nat → Heap → Prop) (J : It) (H' : Hp), itv = .ref it ∧ Inv X pins σ H' s2 ∧ Turn X.prog X.w X.K tg J fp it tn ∧ tn 0 s2.heap ∧ (∀ b ∈ fp, FpOk X pins H' b) ∧ R J H'
noncomputable def PI (X : Cx) (tg iter : Expr) (wi : TI) : Prop :=
  ∀ (pins : List (Addr × Obj)) (s : Shared) (σ : St) (H : Hp) (R : It → Hp → Prop), Inv X pins σ H s → wi σ H R →
    wpAny (model X.prog X.w) X.A (eval iter X.env) (fun v s1 => wpAny (model X.prog X.w) X.A (pyIter v) (PIE X pins σ tg R) X.xe s1) X.xe s

theorem go_of {M : Model} {A : Around} {E : Value → Shared → Prop} {s : Shared} {tg : Expr} {it : Addr} {u : Value} {o : Obj} {n : String} {vs : Array Value} {Q : Unit → Shared → Prop} (ho : s.heap.get? it = some o) (hc : o.cls = .type n) (hd : o.data = .fields vs)
    (hn : ["enumerate", "zip", "dict_itemiterator", "dict_reverseitemiterator", "odict_iterator", "itertools.zip_longest", "itertools.pairwise"].contains n = false) (hQ : Q () s) : wpAny M A (letOwnedTupleGo tg (.ref it) u) Q E s := by
  unfold letOwnedTupleGo
  cases tg <;> first
    | exact wpAny_pure hQ
    | (cases u <;> first
        | exact wpAny_pure hQ
        | (refine wpAny_bind (wpAny_load ho ?_)
           rw [hc, hd]
           show wpAny M A (if (["enumerate", "zip", "dict_itemiterator", "dict_reverseitemiterator", "odict_iterator", "itertools.zip_longest", "itertools.pairwise"].contains n && vs[0]? == some (rawInt _)) = true then _ else _) Q E s
           rw [if_neg (by intro h; rw [hn, Bool.false_and] at h; cases h)]
           exact wpAny_pure hQ))

noncomputable def Itl (K : PySem.W.Frag) (a : Addr) : It :=
  ⟨fun i H => ∃ xs x, SqL K H a xs ∧ xs[i]? = some x, fun i H x H' => H' = H ∧ ∀ xs, SqL K H a xs → xs[i]? = some x, fun i H => ∃ xs, SqL K H a xs ∧ xs.length ≤ i⟩
noncomputable def Itt (K : PySem.W.Frag) (a : Addr) : It :=
  ⟨fun i H => ∃ xs x, SqT K H a xs ∧ xs[i]? = some x, fun i H x H' => H' = H ∧ ∀ xs, SqT K H a xs → xs[i]? = some x, fun i H => ∃ xs, SqT K H a xs ∧ xs.length ≤ i⟩
noncomputable def Itr (lo : Int) (n : Nat) : It := ⟨fun i _ => i < n, fun i H x H' => H' = H ∧ x = .int (lo + i), fun i _ => n ≤ i⟩
theorem turn_list {P : Program} {w : World} {K : PySem.W.Frag} {tg : Expr} (a it : Addr) : Turn P w K tg (Itl K a) [it] it (fun i h => h.IsListIter it a i) where
  mem := by simp
  obj := fun i h st b hb => by
    have e : b = it := by simpa using hb
    subst e
    obtain ⟨o, e, c, d⟩ := st
    exact ⟨o, e, fun v z => by rw [d] at z; cases z⟩
  keep := fun i h h' st k => st.at fun o e => k it (by simp) o e
  item := by
    intro X hP hw hK hc i pins s σ H E I hf st hg
    subst hP hw hK
    obtain ⟨xs, x, hq, hx⟩ := hg
    obtain ⟨its, rv, p, hz⟩ := I.list hq
    obtain ⟨u, hu, ru⟩ := rv.get hx
    obtain ⟨f0, f1, f2, f3, f4, f5⟩ := hf it (by simp)
    refine wpAny_pyNext_list_item st p.isList (x := u) (by simpa using hu) fun h' st' sb => ?_
    have I1 : Inv X pins σ H { s with heap := h' } := I.turned (t' := s.toks) (fun b o hb e => (sb.2 b hb).trans e) f0 f1 f3 f4 f5
    obtain ⟨o, e, c, d⟩ := id st'
    exact ⟨u, rfl, go_of (s := { s with heap := h' }) e c d (by decide) ⟨x, H, I1, ru, ⟨rfl, fun ys hy => by rw [I.list_inj hy hq]; exact hx⟩, st', fun b hb => (hf b hb).1⟩⟩
  done := by
    intro X hP hw hK hc i pins s σ H E I hf st hg
    subst hP hw hK
    obtain ⟨xs, hq, hx⟩ := hg
    obtain ⟨its, rv, p, hz⟩ := I.list hq
    obtain ⟨f0, f1, f2, f3, f4, f5⟩ := hf it (by simp)
    have hl := rv.length
    exact wpAny_pyNext_list_end (I.ok.hd hc) st p.isList (by simp; omega) fun h' eb => ⟨rfl, I.turned (t' := s.toks) (fun b o hb e => eb b o hb e) f0 f1 f3 f4 f5⟩
  self := fun _ _ _ _ _ st h => wpAny_pyIter_listiter st h
theorem turn_tuple {P : Program} {w : World} {K : PySem.W.Frag} {tg : Expr} (a it : Addr) : Turn P w K tg (Itt K a) [it] it (fun i h => h.IsTupleIter it a i) where
  mem := by simp
  obj := fun i h st b hb => by
    have e : b = it := by simpa using hb
    subst e
    obtain ⟨o, e, c, d⟩ := st
    exact ⟨o, e, fun v z => by rw [d] at z; cases z⟩
  keep := fun i h h' st k => st.at fun o e => k it (by simp) o e
  item := by
    intro X hP hw hK hc i pins s σ H E I hf st hg
    subst hP hw hK
    obtain ⟨xs, x, hq, hx⟩ := hg
    obtain ⟨its, rv, p, hz⟩ := I.tuple hq
    obtain ⟨u, hu, ru⟩ := rv.get hx
    obtain ⟨f0, f1, f2, f3, f4, f5⟩ := hf it (by simp)
    refine wpAny_pyNext_tuple_item st (show s.heap.IsTuple a its.toArray from p) (x := u) (by simpa using hu) fun h' st' sb => ?_
    have I1 : Inv X pins σ H { s with heap := h' } := I.turned (t' := s.toks) (fun b o hb e => (sb.2 b hb).trans e) f0 f1 f3 f4 f5
    obtain ⟨o, e, c, d⟩ := id st'
    exact ⟨u, rfl, go_of (s := { s with heap := h' }) e c d (by decide) ⟨x, H, I1, ru, ⟨rfl, fun ys hy => by rw [I.tuple_inj hy hq]; exact hx⟩, st', fun b hb => (hf b hb).1⟩⟩
  done := by
    intro X hP hw hK hc i pins s σ H E I hf st hg
    subst hP hw hK
    obtain ⟨xs, hq, hx⟩ := hg
    obtain ⟨its, rv, p, hz⟩ := I.tuple hq
    obtain ⟨f0, f1, f2, f3, f4, f5⟩ := hf it (by simp)
    have hl := rv.length
    exact wpAny_pyNext_tuple_end (I.ok.hd hc) st (show s.heap.IsTuple a its.toArray from p) (by simp; omega) fun h' eb => ⟨rfl, I.turned (t' := s.toks) (fun b o hb e => eb b o hb e) f0 f1 f3 f4 f5⟩
  self := fun _ _ _ _ _ st h => wpAny_pyIter_tupleiter st h
theorem turn_range {P : Program} {w : World} {K : PySem.W.Frag} {tg : Expr} (it : Addr) (lo : Int) (n : Nat) : Turn P w K tg (Itr lo n) [it] it (fun i h => IsRangeIter h it (lo + (i : Nat) * 1) ((n : Int) - (i : Nat)) 1) where
  mem := by simp
  obj := fun i h st b hb => by
    have e : b = it := by simpa using hb
    subst e
    exact ⟨_, st, fun v z => by
      have z' : Data.fields _ = Data.cell v := z
      cases z'⟩
  keep := fun i h h' st k => k it (by simp) _ st
  item := by
    intro X hP hw hK hc i pins s σ H E I hf st hg
    subst hP hw hK
    obtain ⟨f0, f1, f2, f3, f4, f5⟩ := hf it (by simp)
    have W := Walks.range (prog := X.prog) (w := X.w) (I.ok.hd hc) it lo 1 n
    refine W.item i s _ _ hg st fun v h' tk hv st' kk => ?_
    obtain ⟨t, rfl⟩ := hv
    have I1 : Inv X pins σ H { s with heap := h', toks := tk } := I.turned (fun b o hb e => kk b o (by simpa using hb) e) f0 f1 f3 f4 f5
    refine ⟨_, rfl, go_of (s := { s with heap := h', toks := tk }) (n := "range_iterator") st' rfl rfl (by decide) ⟨.int (lo + i), H, I1, ⟨t, ?_⟩, ⟨rfl, rfl⟩, st', fun b hb => (hf b hb).1⟩⟩
    rw [Int.mul_one]
  done := by
    intro X hP hw hK hc i pins s σ H E I hf st hg
    subst hP hw hK
    obtain ⟨f0, f1, f2, f3, f4, f5⟩ := hf it (by simp)
    exact wpAny_pyNext_range_end (I.ok.hd hc) st (by have : n ≤ i := hg; omega) fun h' eb => ⟨rfl, I.turned (t' := s.toks) (fun b o hb e => eb b o hb e) f0 f1 f3 f4 f5⟩
  self := fun _ _ _ _ _ st h => wpAny_pyIter_rangeiter st h
end L2

namespace L2
open PySem PySem.Spec PyProof.Rows
section
variable {X : Cx} {tg : Expr}
theorem range_it {pins : List (Addr × Obj)} {σ : St} {H : Hp} {s : Shared} {R : It → Hp → Prop} {E : Value → Shared → Prop} {lo hi : Int} {t u v : Tok} {tk : Nat} (I : Inv X pins σ H s) (h1 : -(2 ^ 62) ≤ lo) (h2 : lo < 2 ^ 62) (h3 : -(2 ^ 62) ≤ hi) (h4 : hi < 2 ^ 62)
    (q : R (Itr lo (hi - lo).toNat) H) : wpAny (model X.prog X.w) X.A (pyIter (.ref s.heap.objs.size)) (PIE X pins σ tg R) E { s with heap := s.heap.push { cls := .type "range", data := .fields #[.int lo t, .int hi u, .int 1 v] }, toks := tk } := by
  refine wpAny_pyIter_range (IsRange.new ..) (small_one h1 h2 h3 h4) ?_
  have I1 : Inv X pins σ H { s with heap := s.heap.push { cls := .type "range", data := .fields #[.int lo t, .int hi u, .int 1 v] }, toks := tk } := I.kept fun b o e => Heap.get?_push_of_some _ e
  refine ⟨(s.heap.push { cls := .type "range", data := .fields #[.int lo t, .int hi u, .int 1 v] }).objs.size, [(s.heap.push { cls := .type "range", data := .fields #[.int lo t, .int hi u, .int 1 v] }).objs.size], _, _, H, rfl,
    I1.kept (t' := tk) fun b o e => Heap.get?_push_of_some _ e, turn_range _ lo (hi - lo).toNat, ?_, fun b hb => ?_, q⟩
  · have e1 : lo + ((0 : Nat) : Int) * 1 = lo := by simp
    have e2 : (((hi - lo).toNat : Nat) : Int) - ((0 : Nat) : Int) = Builtin.Range.rangeSize lo hi 1 := by rw [rangeSize_one]; split <;> omega
    show IsRangeIter _ _ (lo + ((0 : Nat) : Int) * 1) ((((hi - lo).toNat : Nat) : Int) - ((0 : Nat) : Int)) 1
    rw [e1, e2]
    exact Heap.get?_push_size _ rfl
  · have e : b = (s.heap.push { cls := .type "range", data := .fields #[.int lo t, .int hi u, .int 1 v] }).objs.size := by simpa using hb
    subst e
    exact I1.fpOk (Nat.le_refl _) (I1.hok.fresh (Nat.le_refl _))
noncomputable def iRng1 (ta : TA) : TI := fun σ H R => ta σ H fun vs H1 => ∃ j : Int, vs = [.int j] ∧ -(2 ^ 62) ≤ j ∧ j < 2 ^ 62 ∧ R (Itr 0 j.toNat) H1
theorem pi_range1 {a : Expr} {ta : TA} {p pos : Pos} (hg : Gl X "range") (hm : X.mg "range" = none) (ha : PA X [a] ta) (hs : starEach [a] X.env = [(false, eval a X.env)] := by rfl) : PI X tg (.Call (.Name "range" p) [a] [] pos) (iRng1 ta) := by
  intro pins s σ H R I h
  refine Call_ (ld_blt I hg hm boot_range (PyProof.Rows.callWith_type1 (thn (ha pos pins s σ H _ I h) fun us s1 ⟨vs, H1, I1, r1, q1⟩ => ?_) hs rfl))
  obtain ⟨j, e, q1, q2, q⟩ := q1
  subst e
  cases r1 with
  | cons r rr =>
    cases rr
    obtain ⟨t, rfl⟩ := r
    exact call_range_1 (range_it I1 (by omega) (by omega) q1 q2 (by simpa using q))
noncomputable def tFor (wi : TI) (g : TG) (tb : TS) : TS := fun D σ H => wi σ H fun J H1 => ∃ W : Nat → Nat → St → Hp → Prop, (∃ m, W 0 m σ H1) ∧ ∀ i m σ H, W i m σ H →
  (J.stop i H ∧ D.nx σ H) ∨ (J.go i H ∧ ∃ N : St → Hp → Prop, (∀ σ' H', N σ' H' → ∃ m', m' < m ∧ W (i + 1) m' σ' H') ∧ ∀ x H', J.yld i H x H' → g x σ H' fun σ2 H2 => tb { D with nx := N, ct := N, bk := D.nx } σ2 H2)
noncomputable def pinsAt (fp : List Addr) (h : Heap) : List (Addr × Obj) := fp.filterMap fun b => (h.get? b).map fun o => (b, o)
theorem mem_pinsAt {fp : List Addr} {h : Heap} {b : Addr} {o : Obj} (hb : b ∈ fp) (e : h.get? b = some o) : (b, o) ∈ pinsAt fp h := List.mem_filterMap.mpr ⟨b, hb, by rw [e]; rfl⟩
theorem of_pinsAt {fp : List Addr} {h : Heap} {p : Addr × Obj} (hp : p ∈ pinsAt fp h) : p.1 ∈ fp ∧ h.get? p.1 = some p.2 := by
  obtain ⟨b, hb, e⟩ := List.mem_filterMap.mp hp
  cases q : h.get? b with
  | none => rw [q] at e; cases e
  | some o =>
    rw [q] at e
    have e' : (b, o) = p := Option.some.inj e
    subst e'
    exact ⟨hb, q⟩
theorem Inv.pinned {pins : List (Addr × Obj)} {σ : St} {H : Hp} {s : Shared} {fp : List Addr} (I : Inv X pins σ H s) (hf : ∀ b ∈ fp, FpOk X pins H b) (ho : ∀ b ∈ fp, ∃ o, s.heap.get? b = some o ∧ ∀ v, o.data ≠ .cell v) : Inv X (pins ++ pinsAt fp s.heap) σ H s :=
  I.pins_of fun p hp => (List.mem_append.mp hp).elim (fun z => I.pin p (List.mem_append_right _ z)) fun z => by
    obtain ⟨hb, e⟩ := of_pinsAt z
    obtain ⟨f0, f1, f2, _⟩ := hf p.1 hb
    obtain ⟨o, e', d⟩ := ho p.1 hb
    rw [e] at e'; cases e'
    exact ⟨e, f0, f1, f2, d⟩
theorem Inv.unpinned {pins pl : List (Addr × Obj)} {σ : St} {H : Hp} {s : Shared} (I : Inv X (pins ++ pl) σ H s) : Inv X pins σ H s := I.pins_of fun p hp => I.pin p (List.mem_append_right _ (List.mem_append_left _ hp))
theorem ps_for {iter : Expr} {body : List Stmt} {wi : TI} {g : TG} {tb : TS} {pos : Pos} (hp : PassesOwn (model X.prog X.w) X.A X.env X.xe) (hc : X.calm = true) (hi : PI X tg iter wi) (hg : PG X tg g) (hb : PSs X body tb)
    (hs : ∀ x, foldedSetIterable iter X.env x = pure x := by intro _; rfl) : PS X (.For tg iter body [] pos) (tFor wi g tb) := by
  intro pins s σ H D I h
  refine wpAny_For (thn (hi pins s σ H _ I h) fun v s1 h1 => thn h1 fun itv s2 h2 => ?_) hs
  obtain ⟨it, fp, tn, J, H2, e, I2, T, st2, f2, W, ⟨m0, w0⟩, turn⟩ := h2
  subst e
  -- what stays true of the iterator's objects through the loop
  have stat : ∀ {H' : Hp}, (∀ b ∈ fp, H' b = none) → ∀ b ∈ fp, FpOk X pins H' b := fun hn b hb => ⟨hn b hb, (f2 b hb).2⟩
  refine codeAny_forLoop_any (fun n s' => ∃ i σ' H', Inv X pins σ' H' s' ∧ tn i s'.heap ∧ (∀ b ∈ fp, H' b = none) ∧ W i n σ' H') ?_ m0 ⟨0, σ, H2, I2, st2, fun b hb => (f2 b hb).1, w0⟩
  rintro n s3 ⟨i, σ3, H3, I3, st3, fr3, w3⟩
  rcases turn i n σ3 H3 w3 with ⟨stop, qn⟩ | ⟨go, N, hN, step⟩
  · refine wpAny_passesOwn hp (thn (T.done X rfl rfl rfl hc i pins s3 σ3 H3 X.xe I3 (stat fr3) st3 stop) fun r s4 ⟨hr, I4⟩ => ?_)
    subst hr
    exact wpAny_execs_nil ⟨σ3, H3, I4, qn⟩
  · refine wpAny_passesOwn hp (thn (T.item X rfl rfl rfl hc i pins s3 σ3 H3 X.xe I3 (stat fr3) st3 go) fun r s4 ⟨u, hr, h4⟩ => ?_)
    subst hr
    refine wpAny_passesOwn hp (thn h4 fun _ s5 ⟨x, H5, I5, r5, y5, st5, fr5⟩ => ?_)
    have I5' := I5.pinned (stat fr5) (T.obj _ _ st5)
    refine wpAny_passesOwn hp (thn (hg _ s5 σ3 H5 x u _ I5' r5 (step x H5 y5)) fun _ s6 ⟨σ6, H6, I6, q6⟩ => ?_)
    refine wpAny_passesOwn hp (thn (hb _ s6 σ6 H6 _ I6 q6) fun f s7 q7 => ?_)
    have again : ∀ {σ7 : St} {H7 : Hp}, Inv X (pins ++ pinsAt fp s5.heap) σ7 H7 s7 → N σ7 H7 → ∃ m, m < n ∧ ∃ i σ' H', Inv X pins σ' H' s7 ∧ tn i s7.heap ∧ (∀ b ∈ fp, H' b = none) ∧ W i m σ' H' := fun {σ7 H7} I7 n7 => by
      obtain ⟨m', hm, w7⟩ := hN σ7 H7 n7
      refine ⟨m', hm, i + 1, σ7, H7, I7.unpinned, T.keep _ _ _ st5 fun b hb o e => (I7.pin (b, o) (List.mem_append_right _ (List.mem_append_right _ (mem_pinsAt hb e)))).1, fun b hb => ?_, w7⟩
      obtain ⟨o, e, d⟩ := T.obj _ _ st5 b hb
      exact (I7.pin (b, o) (List.mem_append_right _ (List.mem_append_right _ (mem_pinsAt hb e)))).2.1
    cases f with
    | next => obtain ⟨σ7, H7, I7, n7⟩ := q7; exact again I7 n7
    | cont => obtain ⟨σ7, H7, I7, n7⟩ := q7; exact again I7 n7
    | brk => obtain ⟨σ7, H7, I7, q7⟩ := q7; exact ⟨σ7, H7, I7.unpinned, q7⟩
    | ret v => obtain ⟨x7, σ7, H7, I7, r7, q7⟩ := q7; exact ⟨x7, σ7, H7, I7.unpinned, r7, q7⟩
end

theorem for_list {K : PySem.W.Frag} {a : Addr} {xs : List V} {g : TG} {tb : TS} {D : Ends} {σ : St} {H : Hp} (Pv : Nat → St → Hp → Prop) (h0 : Pv 0 σ H) (hl : ∀ i σ H, i ≤ xs.length → Pv i σ H → SqL K H a xs)
    (hs : ∀ i x σ H, xs[i]? = some x → Pv i σ H → g x σ H fun σ2 H2 => tb { D with nx := Pv (i + 1), ct := Pv (i + 1), bk := D.nx } σ2 H2) (hd : ∀ σ H, Pv xs.length σ H → D.nx σ H) :
    ∃ W : Nat → Nat → St → Hp → Prop, (∃ m, W 0 m σ H) ∧ ∀ i m σ H, W i m σ H →
      ((Itl K a).stop i H ∧ D.nx σ H) ∨ ((Itl K a).go i H ∧ ∃ N : St → Hp → Prop, (∀ σ' H', N σ' H' → ∃ m', m' < m ∧ W (i + 1) m' σ' H') ∧ ∀ x H', (Itl K a).yld i H x H' → g x σ H' fun σ2 H2 => tb { D with nx := N, ct := N, bk := D.nx } σ2 H2) := by
  refine ⟨fun i m σ H => m = xs.length - i ∧ i ≤ xs.length ∧ Pv i σ H, ⟨xs.length, by simp, Nat.zero_le _, h0⟩, ?_⟩
  rintro i m σ H ⟨rfl, hi, p⟩
  have q := hl i σ H hi p
  by_cases hlt : i < xs.length
  · refine .inr ⟨⟨xs, xs[i], q, by simp [hlt]⟩, Pv (i + 1), fun σ' H' p' => ⟨xs.length - (i + 1), by omega, rfl, hlt, p'⟩, fun x H' y => ?_⟩
    obtain ⟨e, y⟩ := y
    subst e
    exact hs i x σ _ (y xs q) p
  · have e : i = xs.length := by omega
    subst e
    exact .inl ⟨⟨xs, q, Nat.le_refl _⟩, hd σ H p⟩
theorem for_tup {K : PySem.W.Frag} {a : Addr} {xs : List V} {g : TG} {tb : TS} {D : Ends} {σ : St} {H : Hp} (Pv : Nat → St → Hp → Prop) (h0 : Pv 0 σ H) (hl : ∀ i σ H, i ≤ xs.length → Pv i σ H → SqT K H a xs)
    (hs : ∀ i x σ H, xs[i]? = some x → Pv i σ H → g x σ H fun σ2 H2 => tb { D with nx := Pv (i + 1), ct := Pv (i + 1), bk := D.nx } σ2 H2) (hd : ∀ σ H, Pv xs.length σ H → D.nx σ H) :
    ∃ W : Nat → Nat → St → Hp → Prop, (∃ m, W 0 m σ H) ∧ ∀ i m σ H, W i m σ H →
      ((Itt K a).stop i H ∧ D.nx σ H) ∨ ((Itt K a).go i H ∧ ∃ N : St → Hp → Prop, (∀ σ' H', N σ' H' → ∃ m', m' < m ∧ W (i + 1) m' σ' H') ∧ ∀ x H', (Itt K a).yld i H x H' → g x σ H' fun σ2 H2 => tb { D with nx := N, ct := N, bk := D.nx } σ2 H2) := by
  refine ⟨fun i m σ H => m = xs.length - i ∧ i ≤ xs.length ∧ Pv i σ H, ⟨xs.length, by simp, Nat.zero_le _, h0⟩, ?_⟩
  rintro i m σ H ⟨rfl, hi, p⟩
  have q := hl i σ H hi p
  by_cases hlt : i < xs.length
  · refine .inr ⟨⟨xs, xs[i], q, by simp [hlt]⟩, Pv (i + 1), fun σ' H' p' => ⟨xs.length - (i + 1), by omega, rfl, hlt, p'⟩, fun x H' y => ?_⟩
    obtain ⟨e, y⟩ := y
    subst e
    exact hs i x σ _ (y xs q) p
  · have e : i = xs.length := by omega
    subst e
    exact .inl ⟨⟨xs, q, Nat.le_refl _⟩, hd σ H p⟩
theorem for_range {lo : Int} {n : Nat} {g : TG} {tb : TS} {D : Ends} {σ : St} {H : Hp} (Pv : Nat → St → Hp → Prop) (h0 : Pv 0 σ H)
    (hs : ∀ i σ H, i < n → Pv i σ H → g (.int (lo + i)) σ H fun σ2 H2 => tb { D with nx := Pv (i + 1), ct := Pv (i + 1), bk := D.nx } σ2 H2) (hd : ∀ σ H, Pv n σ H → D.nx σ H) :
    ∃ W : Nat → Nat → St → Hp → Prop, (∃ m, W 0 m σ H) ∧ ∀ i m σ H, W i m σ H →
      ((Itr lo n).stop i H ∧ D.nx σ H) ∨ ((Itr lo n).go i H ∧ ∃ N : St → Hp → Prop, (∀ σ' H', N σ' H' → ∃ m', m' < m ∧ W (i + 1) m' σ' H') ∧ ∀ x H', (Itr lo n).yld i H x H' → g x σ H' fun σ2 H2 => tb { D with nx := N, ct := N, bk := D.nx } σ2 H2) := by
  refine ⟨fun i m σ H => m = n - i ∧ i ≤ n ∧ Pv i σ H, ⟨n, by simp, Nat.zero_le _, h0⟩, ?_⟩
  rintro i m σ H ⟨rfl, hi, p⟩
  by_cases hlt : i < n
  · refine .inr ⟨hlt, Pv (i + 1), fun σ' H' p' => ⟨n - (i + 1), by omega, rfl, hlt, p'⟩, fun x H' y => ?_⟩
    obtain ⟨e, y⟩ := y
    subst e y
    exact hs i σ _ hlt p
  · have e : i = n := by omega
    subst e
    exact .inl ⟨Nat.le_refl _, hd σ H p⟩
end L2

namespace L2
open PySem PySem.Spec PyProof.Rows

noncomputable abbrev R2 := V → V → Hp → VK → Prop
noncomputable def OpR (X : Cx) (f : Value → Value → Sem Value) (r : R2) : Prop :=
  ∀ (pins : List (Addr × Obj)) (s : Shared) (σ : St) (H : Hp) (x y : V) (v u : Value) (Q : VK), Inv X pins σ H s → RelV x v → RelV y u → r x y H Q →
    wpAny (model X.prog X.w) X.A (f v u) (EP X pins σ Q) X.xe s
noncomputable def UnR (X : Cx) (f : Value → Sem Value) (r : V → Hp → VK → Prop) : Prop :=
  ∀ (pins : List (Addr × Obj)) (s : Shared) (σ : St) (H : Hp) (x : V) (v : Value) (Q : VK), Inv X pins σ H s → RelV x v → r x H Q →
    wpAny (model X.prog X.w) X.A (f v) (EP X pins σ Q) X.xe s
noncomputable def CallR (X : Cx) (f : Value) (r : List V → Hp → VK → Prop) : Prop :=
  ∀ (pins : List (Addr × Obj)) (s : Shared) (σ : St) (H : Hp) (xs : List V) (us : List Value) (Q : VK), Inv X pins σ H s → Vals xs us → r xs H Q →
    wpAny (model X.prog X.w) X.A (call f us) (EP X pins σ Q) X.xe s
noncomputable def tOp (r : R2) (ta tb : TE) : TE := fun σ H Q => ta σ H fun x H1 => tb σ H1 fun y H2 => r x y H2 Q
noncomputable def tUn (r : V → Hp → VK → Prop) (ta : TE) : TE := fun σ H Q => ta σ H fun x H1 => r x H1 Q
noncomputable def rI (C : Int → Int → Prop) (g : Int → Int → V) : R2 := fun x y H Q => ∃ i j, x = .int i ∧ y = .int j ∧ C i j ∧ Q (g i j) H
noncomputable def rI0 (g : Int → Int → V) : R2 := fun x y H Q => ∃ i j, x = .int i ∧ y = .int j ∧ Q (g i j) H
noncomputable def rU (g : Int → V) : V → Hp → VK → Prop := fun x H Q => ∃ i, x = .int i ∧ Q (g i) H

section
variable {X : Cx} {a b c : Expr} {ta tb tc : TE} {pos : Pos}

theorem binT (ha : PE X a ta) (hb : PE X b tb) {pins : List (Addr × Obj)} {s : Shared} {σ : St} {H : Hp} {R : V → V → Hp → Prop} (I : Inv X pins σ H s)
    (h : ta σ H fun x H1 => tb σ H1 fun y H2 => R x y H2) {Q : Value → Shared → Prop} {f : Value → Value → Sem Value}
    (hf : ∀ v u s2 x y H2, Inv X pins σ H2 s2 → RelV x v → RelV y u → R x y H2 → wpAny (model X.prog X.w) X.A (f v u) Q X.xe s2) :
    wpAny (model X.prog X.w) X.A (eval a X.env) (fun v s₁ => wpAny (model X.prog X.w) X.A (eval b X.env) (fun u s₂ => wpAny (model X.prog X.w) X.A (f v u) Q X.xe s₂) X.xe s₁) X.xe s := by
  refine thn (ha pins s σ H _ I h) fun v s1 ⟨x, H1, I1, r1, q1⟩ => ?_
  refine thn (hb pins s1 σ H1 _ I1 q1) fun u s2 ⟨y, H2, I2, r2, q2⟩ => ?_
  exact hf v u s2 x y H2 I2 r1 r2 q2

theorem pe_op {op : Operator} {r : R2} (ho : OpR X (binaryOp op) r) (ha : PE X a ta) (hb : PE X b tb) : PE X (.BinOp a op b pos) (tOp r ta tb) := by
  intro pins s σ H Q I h
  exact wpAny_BinOp (binT ha hb I h fun v u s2 x y H2 I2 rx ry q => ho pins s2 σ H2 x y v u Q I2 rx ry q)
theorem pe_un {op : UnaryOp} {r : V → Hp → VK → Prop} (ho : UnR X (unaryOp op) r) (ha : PE X a ta) : PE X (.UnaryOp op a pos) (tUn r ta) := by
  intro pins s σ H Q I h
  exact UnaryOp_ (thn (ha pins s σ H _ I h) fun v s1 ⟨x, H1, I1, r1, q1⟩ => ho pins s1 σ H1 x v Q I1 r1 q1)
theorem opI {f : Value → Value → Sem Value} {C : Int → Int → Prop} {g : Int → Int → Int}
    (rule : ∀ (i j : Int) (t u : Tok) (s : Shared) (Q : Value → Shared → Prop) (E : Value → Shared → Prop), C i j → Q (.int (g i j) s.toks) { s with toks := s.toks + 1 } → wpAny (model X.prog X.w) X.A (f (.int i t) (.int j u)) Q E s) :
    OpR X f (rI C fun i j => .int (g i j)) := by
  intro pins s σ H x y v u Q I rx ry h
  obtain ⟨i, j, rfl, rfl, hc, q⟩ := h
  obtain ⟨t, rfl⟩ := rx
  obtain ⟨t', rfl⟩ := ry
  exact rule i j t t' s _ _ hc ⟨.int (g i j), H, I.tok _, ⟨_, rfl⟩, q⟩
theorem opI0 {f : Value → Value → Sem Value} {g : Int → Int → Int}
    (rule : ∀ (i j : Int) (t u : Tok) (s : Shared) (Q : Value → Shared → Prop) (E : Value → Shared → Prop), Q (.int (g i j) s.toks) { s with toks := s.toks + 1 } → wpAny (model X.prog X.w) X.A (f (.int i t) (.int j u)) Q E s) :
    OpR X f (rI0 fun i j => .int (g i j)) := by
  intro pins s σ H x y v u Q I rx ry h
  obtain ⟨i, j, rfl, rfl, q⟩ := h
  obtain ⟨t, rfl⟩ := rx
  obtain ⟨t', rfl⟩ := ry
  exact rule i j t t' s _ _ ⟨.int (g i j), H, I.tok _, ⟨_, rfl⟩, q⟩
theorem opB0 {f : Value → Value → Sem Value} {g : Int → Int → Bool}
    (rule : ∀ (i j : Int) (t u : Tok) (s : Shared) (Q : Value → Shared → Prop) (E : Value → Shared → Prop), Q (.bool (g i j)) s → wpAny (model X.prog X.w) X.A (f (.int i t) (.int j u)) Q E s) :
    OpR X f (rI0 fun i j => .bl (g i j)) := by
  intro pins s σ H x y v u Q I rx ry h
  obtain ⟨i, j, rfl, rfl, q⟩ := h
  obtain ⟨t, rfl⟩ := rx
  obtain ⟨t', rfl⟩ := ry
  exact rule i j t t' s _ _ ⟨.bl (g i j), H, I, rfl, q⟩

noncomputable def CPow (i j : Int) : Prop := 0 ≤ j ∧ j ≤ 1000000 ∧ i.natAbs < 2 ^ 64
noncomputable def CMul (i j : Int) : Prop := (-(2 ^ 64) < i ∧ i < 2 ^ 64) ∨ (-(2 ^ 64) < j ∧ j < 2 ^ 64)
theorem CMul.ok {i j : Int} (h : CMul i j) : IntMulOk i j := by
  rcases h with ⟨h1, h2⟩ | ⟨h1, h2⟩
  · exact .of_left (intBits_le_64 h1 h2)
  · exact .of_right (intBits_le_64 h1 h2)
theorem op_add : OpR X (binaryOp .Add) (rI0 fun i j => .int (i + j)) := opI0 fun _ _ _ _ _ _ _ q => add_int q
theorem op_sub : OpR X (binaryOp .Sub) (rI0 fun i j => .int (i - j)) := opI0 fun _ _ _ _ _ _ _ q => sub_int q
theorem op_modN : OpR X (binaryOp .Mod) (rI (fun _ j => j ≠ 0) fun i j => .int (i.fmod j)) := opI fun _ _ _ _ _ _ _ hc q => mod_int' hc q
theorem op_pow : OpR X (binaryOp .Pow) (rI CPow fun i j => .int (i ^ j.toNat)) := opI fun _ _ _ _ _ _ _ hc q => pow_int_small hc.1 hc.2.1 hc.2.2 q
theorem unI {f : Value → Sem Value} {g : Int → Int}
    (rule : ∀ (i : Int) (t : Tok) (s : Shared) (Q : Value → Shared → Prop) (E : Value → Shared → Prop), Q (.int (g i) s.toks) { s with toks := s.toks + 1 } → wpAny (model X.prog X.w) X.A (f (.int i t)) Q E s) :
    UnR X f (rU fun i => .int (g i)) := by
  intro pins s σ H x v Q I rx h
  obtain ⟨i, rfl, q⟩ := h
  obtain ⟨t, rfl⟩ := rx
  exact rule i t s _ _ ⟨.int (g i), H, I.tok _, ⟨_, rfl⟩, q⟩
theorem un_neg : UnR X (unaryOp .USub) (rU fun i => .int (-i)) := unI fun _ _ _ _ _ q => neg_int q
end

noncomputable def scal : V → V → Bool
  | .non, .non => true | .non, .int _ => true | .int _, .non => true | .non, .bl _ => true | .bl _, .non => true | .non, .str _ => true | .str _, .non => true
  | .int _, .int _ => true | .bl _, .bl _ => true | .str _, .str _ => true | .byt _, .byt _ => true
  | .int _, .str _ => true | .str _, .int _ => true | .bl _, .str _ => true | .str _, .bl _ => true
  | _, _ => false
noncomputable def rEq : R2 := fun x y H Q => scal x y = true ∧ Q (.bl (decide (x = y))) H
noncomputable def rNe : R2 := fun x y H Q => scal x y = true ∧ Q (.bl (!decide (x = y))) H

theorem dec_int {i j : Int} : decide (V.int i = V.int j) = (i == j) := by
  rw [Bool.eq_iff_iff]
  simp
theorem dec_bl {i j : Bool} : decide (V.bl i = V.bl j) = (i == j) := by
  rw [Bool.eq_iff_iff]
  simp
theorem dec_str {i j : Str} : decide (V.str i = V.str j) = (i == j) := by
  rw [Bool.eq_iff_iff]
  simp
theorem dec_byt {i j : Array UInt8} : decide (V.byt i = V.byt j) = (i.toList == j.toList) := by
  rw [Bool.eq_iff_iff]
  cases i
  cases j
  simp

section
variable {X : Cx} {a b c : Expr} {ta tb tc : TE} {pos : Pos}
theorem fin_bl {pins : List (Addr × Obj)} {σ : St} {H : Hp} {s : Shared} {Q : VK} {k k' : Bool} (I : Inv X pins σ H s) (q : Q (.bl k) H) (e : k = k') : EP X pins σ Q (.bool k') s := by
  subst e
  exact ⟨.bl k, H, I, rfl, q⟩
theorem op_eq : OpR X (compareOp .Eq) rEq := by
  intro pins s σ H x y v u Q I rx ry h
  obtain ⟨hs, q⟩ := h
  cases x with
  | non =>
    cases rx
    cases y with
    | non => cases ry; exact PySem.EqNone.eq_none_none (fin_bl I q (by simp))
    | bl j => cases ry; exact PySem.EqNone.eq_none_bool (fin_bl I q (by simp))
    | int j => obtain ⟨t', rfl⟩ := ry; exact PySem.EqNone.eq_none_int (fin_bl I q (by simp))
    | str j => obtain ⟨t', rfl⟩ := ry; exact PySem.EqNone.eq_none_str (fin_bl I q (by simp))
    | _ => exact absurd (show false = true from hs) Bool.false_ne_true
  | bl i =>
    cases rx
    cases y with
    | non => cases ry; exact PySem.EqNone.eq_bool_none (fin_bl I q (by simp))
    | bl j => cases ry; exact eq_bool (fin_bl I q dec_bl)
    | str j => obtain ⟨t', rfl⟩ := ry; exact PySem.EqMixed.eq_bool_str (fin_bl I q (by simp))
    | _ => exact absurd (show false = true from hs) Bool.false_ne_true
  | int i =>
    obtain ⟨t, rfl⟩ := rx
    cases y with
    | non => cases ry; exact PySem.EqNone.eq_int_none (fin_bl I q (by simp))
    | int j => obtain ⟨t', rfl⟩ := ry; exact eq_int (fin_bl I q dec_int)
    | str j => obtain ⟨t', rfl⟩ := ry; exact PySem.EqMixed.eq_int_str (fin_bl I q (by simp))
    | _ => exact absurd (show false = true from hs) Bool.false_ne_true
  | str i =>
    obtain ⟨t, rfl⟩ := rx
    cases y with
    | non => cases ry; exact PySem.EqNone.eq_str_none (fin_bl I q (by simp))
    | bl j => cases ry; exact PySem.EqMixed.eq_str_bool (fin_bl I q (by simp))
    | int j => obtain ⟨t', rfl⟩ := ry; exact PySem.EqMixed.eq_str_int (fin_bl I q (by simp))
    | str j => obtain ⟨t', rfl⟩ := ry; exact eq_str (fin_bl I q dec_str)
    | _ => exact absurd (show false = true from hs) Bool.false_ne_true
  | byt i =>
    obtain ⟨t, rfl⟩ := rx
    cases y with
    | byt j => obtain ⟨t', rfl⟩ := ry; exact PySem.W.eq_bytes (fin_bl I q dec_byt)
    | _ => exact absurd (show false = true from hs) Bool.false_ne_true
  | _ => cases y <;> exact absurd (show false = true from hs) Bool.false_ne_true
theorem op_ne : OpR X (compareOp .NotEq) rNe := by
  intro pins s σ H x y v u Q I rx ry h
  obtain ⟨hs, q⟩ := h
  cases x with
  | non =>
    cases rx
    cases y with
    | non => cases ry; exact PySem.EqNone.ne_none_none (fin_bl I q (by simp))
    | bl j => cases ry; exact PySem.EqNone.ne_none_bool (fin_bl I q (by simp))
    | int j => obtain ⟨t', rfl⟩ := ry; exact PySem.EqNone.ne_none_int (fin_bl I q (by simp))
    | str j => obtain ⟨t', rfl⟩ := ry; exact PySem.EqNone.ne_none_str (fin_bl I q (by simp))
    | _ => exact absurd (show false = true from hs) Bool.false_ne_true
  | bl i =>
    cases rx
    cases y with
    | non => cases ry; exact PySem.EqNone.ne_bool_none (fin_bl I q (by simp))
    | bl j => cases ry; exact ne_bool (fin_bl I q (congrArg not dec_bl))
    | str j => obtain ⟨t', rfl⟩ := ry; exact PySem.EqMixed.ne_bool_str (fin_bl I q (by simp))
    | _ => exact absurd (show false = true from hs) Bool.false_ne_true
  | int i =>
    obtain ⟨t, rfl⟩ := rx
    cases y with
    | non => cases ry; exact PySem.EqNone.ne_int_none (fin_bl I q (by simp))
    | int j => obtain ⟨t', rfl⟩ := ry; exact ne_int (fin_bl I q (congrArg not dec_int))
    | str j => obtain ⟨t', rfl⟩ := ry; exact PySem.EqMixed.ne_int_str (fin_bl I q (by simp))
    | _ => exact absurd (show false = true from hs) Bool.false_ne_true
  | str i =>
    obtain ⟨t, rfl⟩ := rx
    cases y with
    | non => cases ry; exact PySem.EqNone.ne_str_none (fin_bl I q (by simp))
    | bl j => cases ry; exact PySem.EqMixed.ne_str_bool (fin_bl I q (by simp))
    | int j => obtain ⟨t', rfl⟩ := ry; exact PySem.EqMixed.ne_str_int (fin_bl I q (by simp))
    | str j => obtain ⟨t', rfl⟩ := ry; exact ne_str (fin_bl I q (congrArg not dec_str))
    | _ => exact absurd (show false = true from hs) Bool.false_ne_true
  | byt i =>
    obtain ⟨t, rfl⟩ := rx
    cases y with
    | byt j => obtain ⟨t', rfl⟩ := ry; exact PySem.W.ne_bytes (fin_bl I q (congrArg not dec_byt))
    | _ => exact absurd (show false = true from hs) Bool.false_ne_true
  | _ => cases y <;> exact absurd (show false = true from hs) Bool.false_ne_true

theorem op_lt : OpR X (compareOp .Lt) (rI0 fun i j => .bl (decide (i < j))) := opB0 fun _ _ _ _ _ _ _ q => lt_int q
theorem op_gt : OpR X (compareOp .Gt) (rI0 fun i j => .bl (decide (j < i))) := opB0 fun _ _ _ _ _ _ _ q => gt_int q
theorem op_in_str : OpR X (compareOp .In) (fun x y H Q => ∃ i j, x = .str i ∧ y = .str j ∧ Q (.bl (!(Builtin.Str.occurrences j i 0 j.length 1).isEmpty)) H) := by
  intro pins s σ H x y v u Q I rx ry h
  obtain ⟨i, j, rfl, rfl, q⟩ := h
  obtain ⟨t, rfl⟩ := rx
  obtain ⟨t', rfl⟩ := ry
  exact in_str (fin_bl I q rfl)

theorem op_isN : OpR X (compareOp .Is) (fun x y H Q => y = .non ∧ Q (.bl (decide (x = .non))) H) := by
  intro pins s σ H x y v u Q I rx ry h
  obtain ⟨rfl, q⟩ := h
  cases ry
  refine is_none_gen (fin_bl I q ?_)
  cases x <;> first
    | (cases rx; rfl)
    | (obtain ⟨t, rfl⟩ := rx; rfl)
theorem op_notin_str : OpR X (compareOp .NotIn) (fun x y H Q => ∃ i j, x = .str i ∧ y = .str j ∧ Q (.bl (!(!(Builtin.Str.occurrences j i 0 j.length 1).isEmpty))) H) := by
  intro pins s σ H x y v u Q I rx ry h
  obtain ⟨i, j, rfl, rfl, q⟩ := h
  obtain ⟨t, rfl⟩ := rx
  obtain ⟨t', rfl⟩ := ry
  exact notIn_str (fin_bl I q rfl)
theorem OpR.or {f : Value → Value → Sem Value} {r r' : R2} (h : OpR X f r) (h' : OpR X f r') : OpR X f (fun x y H Q => r x y H Q ∨ r' x y H Q) := by
  intro pins s σ H x y v u Q I rx ry q
  rcases q with q | q
  · exact h pins s σ H x y v u Q I rx ry q
  · exact h' pins s σ H x y v u Q I rx ry q

theorem nomark (b : Expr) {op : CmpOp} (h : op ≠ .In := by decide) (h2 : op ≠ .NotIn := by decide) : behindInMarks op b = false := by
  have e1 : (op == CmpOp.In) = false := by cases op <;> first | rfl | exact absurd rfl h
  have e2 : (op == CmpOp.NotIn) = false := by cases op <;> first | rfl | exact absurd rfl h2
  cases b <;> simp [behindInMarks, e1, e2]
theorem pe_cmpR {op : CmpOp} {r : R2} (ho : OpR X (compareOp op) r) (ha : PE X a ta) (hb : PE X b tb) (hm : behindInMarks op b = false) : PE X (.Compare a [op] [b] pos) (tOp r ta tb) := by
  intro pins s σ H Q I h
  exact wpAny_Compare1 (binT ha hb I h fun v u s2 x y H2 I2 rx ry q => ho pins s2 σ H2 x y v u Q I2 rx ry q) hm
noncomputable def tTest (t : TE) : TT := fun σ H Q => t σ H fun x H' => ∃ k, x = .bl k ∧ Q k H'
theorem pt_cmpR {op : CmpOp} {r : R2} (ho : OpR X (compareOp op) r) (ha : PE X a ta) (hb : PE X b tb) (hm : behindInMarks op b = false) : PT X (.Compare a [op] [b] pos) (tTest (tOp r ta tb)) := by
  intro pins s σ H Q I h
  refine wpAny_isTrue_Compare1 (thn (ha pins s σ H _ I h) fun v s1 ⟨x, H1, I1, r1, q1⟩ => thn (hb pins s1 σ H1 _ I1 q1) fun u s2 ⟨y, H2, I2, r2, q2⟩ =>
    thn (ho pins s2 σ H2 x y v u _ I2 r1 r2 q2) fun c s3 ⟨z, H3, I3, r3, k, e, q3⟩ => ?_) hm
  subst e
  cases r3
  exact wpAny_truthy_bool ⟨H3, I3, q3⟩
theorem line63 : (sizeLine : Nat) < 2 ^ 63 := by rw [sizeLine_eq]; decide
theorem op_add_str : OpR X (binaryOp .Add) (fun x y H Q => ∃ i j, x = .str i ∧ y = .str j ∧ i.length + j.length ≤ sizeLine ∧ Q (.str (i ++ j)) H) := by
  intro pins s σ H x y v u Q I rx ry h
  obtain ⟨i, j, rfl, rfl, hz, q⟩ := h
  obtain ⟨t, rfl⟩ := rx
  obtain ⟨t', rfl⟩ := ry
  exact add_str (fun t' tk => ⟨.str (i ++ j), H, I.tok _, ⟨_, rfl⟩, q⟩) hz
theorem vals1 {x : V} {us : List Value} (r : Vals [x] us) : ∃ u, us = [u] ∧ RelV x u := by
  cases r with
  | cons r1 r2 => cases r2; exact ⟨_, rfl, r1⟩
theorem vals2 {x y : V} {us : List Value} (r : Vals [x, y] us) : ∃ u w', us = [u, w'] ∧ RelV x u ∧ RelV y w' := by
  cases r with
  | cons r1 r2 =>
    cases r2 with
    | cons r3 r4 => cases r4; exact ⟨_, _, rfl, r1, r3⟩
theorem call_abs : CallR X (.builtin "abs") (fun xs H Q => ∃ i, xs = [.int i] ∧ Q (.int (if i < 0 then -i else i)) H) := by
  intro pins s σ H xs us Q I r h
  obtain ⟨i, rfl, q⟩ := h
  obtain ⟨u, rfl, t, rfl⟩ := vals1 r
  exact call_abs_int fun u tk => ⟨.int (if i < 0 then -i else i), H, I.tok _, ⟨_, rfl⟩, q⟩
theorem call_max2 (hc : X.calm = true) : CallR X (.builtin "max") (fun xs H Q => ∃ i j, xs = [.int i, .int j] ∧ Q (.int (if j > i then j else i)) H) := by
  intro pins s σ H xs us Q I r h
  obtain ⟨i, j, rfl, q⟩ := h
  obtain ⟨u, w', rfl, ⟨t, rfl⟩, ⟨t', rfl⟩⟩ := vals2 r
  refine max_two_ints (I.ok.hd hc) fun h' tk k => ⟨_, H, I.kept k, ?_, q⟩
  by_cases hj : j > i
  · rw [if_pos hj, if_pos hj]; exact ⟨_, rfl⟩
  · rw [if_neg hj, if_neg hj]; exact ⟨_, rfl⟩
theorem call_str_int : CallR X (.type "str") (fun xs H Q => ∃ i, xs = [.int i] ∧ i.natAbs.log2 < 1920 ∧ Q (.str (toString i)) H) := by
  intro pins s σ H xs us Q I r h
  obtain ⟨i, rfl, hz, q⟩ := h
  obtain ⟨u, rfl, t, rfl⟩ := vals1 r
  exact PySem.P.str_of_int hz ⟨.str _, H, I.tok _, ⟨_, rfl⟩, q⟩
end
end L2

namespace L2
open PySem PySem.Spec PyProof.Rows

structure ObjM (h : Heap) (x dx C : Addr) (mA : Str → Option Value) : Prop where
  obj : h.get? x = some (PySem.W.instObj C dx)
  ns : h.Ns1 dx mA
  ne : dx ≠ x

theorem lookIn_ns {h : Heap} {dx : Addr} {mA : Str → Option Value} (n : h.Ns1 dx mA) : ∃ od, h.get? dx = some od ∧ ∀ name, PySem.W.lookIn name od = some (mA name) := by
  obtain ⟨o, es, ep, ho, hd, hk, _, hm⟩ := n
  refine ⟨o, ho, fun name => ?_⟩
  have e := hm name
  unfold nsFind findBy at e
  rw [← Array.find?_toList] at e
  unfold PySem.W.lookIn
  rw [hd]
  dsimp only
  split
  · rename_i y q
    rw [q] at e
    exact congrArg some e
  · rename_i q
    rw [q] at e
    have a : es.toList.any (·.refKey) = false := by
      rw [List.any_eq_false]
      intro y hy
      obtain ⟨z, t, hkey⟩ := hk y (Array.mem_toList_iff.mp hy)
      simp [DictEntry.refKey, hkey]
    have a' : ¬ es.toList.any (·.refKey) = true := by rw [a]; exact Bool.false_ne_true
    rw [if_neg a']
    exact congrArg some e

theorem ObjM.look {h : Heap} {x dx C : Addr} {mA : Str → Option Value} (I : ObjM h x dx C mA) : ∃ od, PySem.W.InstAt h x (PySem.W.instObj C dx) C (some od) ∧ ∀ name, PySem.W.lookIn name od = some (mA name) :=
  let ⟨od, ho, hl⟩ := lookIn_ns I.ns
  ⟨od, ⟨I.obj, rfl, rfl, ho⟩, hl⟩

section
variable {prog : Program} {w : World} {A : Around} {E : Value → Shared → Prop} {s : Shared} {K : PySem.W.Frag} {x dx C f : Addr} {mA : Str → Option Value} {name : Str} {v : Value}

end

section
variable {P : Program} {w : World} {H H' : Hp} {h h' : Heap} {a C dx : Addr} {fs fs' : List (Str × V)}
theorem ins_get (hok : HOk P w H h) (e : H a = some (.ins C dx fs)) : ∃ mA, ObjM h a dx C mA ∧ (∀ f, RelO (fs.lookup f) (mA f)) ∧ PySem.Within mA (fs.map (·.1)) ∧ fs.length ≤ 1000 ∧ H dx = some (.own a) := by
  obtain ⟨d, z, ne, ob, mA, n, r, q⟩ := (show ObjOk P w H h a (.ins C dx fs) from hok a _ e)
  exact ⟨mA, ⟨ob, n, ne⟩, r, q, z, d⟩
end

structure Cls (K : PySem.W.Frag) (C : Addr) : Prop where
  pg : PySem.W.plainGet K C Str.empty = true
  hd : PySem.W.hasDictIn K C = true
  po : PySem.W.plainOver K C = true
  sa : PySem.W.findIn K (.ref C) "__setattr__" = some (some (.builtin "object.__setattr__"))
theorem Cls.get {K : PySem.W.Frag} {C : Addr} (c : Cls K C) (f : Str) : PySem.W.plainGet K C f = true := c.pg
section
variable {X : Cx} {pins : List (Addr × Obj)} {σ : St} {H : Hp} {s : Shared} {a C dx : Addr} {fs : List (Str × V)} {f : Str} {v : V} {A : Around} {E : Value → Shared → Prop}

end

section
variable {X : Cx} {o e value : Expr} {f : Str} {pos pos' tpos : Pos} {ta tv : TE}
end

section
variable {X : Cx} {pins : List (Addr × Obj)} {σ : St} {H : Hp} {s : Shared} {A : Around} {E : Value → Shared → Prop} {Q : Value → Shared → Prop} {c : Value} {b : Bool}
inductive TyOf (K : PySem.W.Frag) (H : Hp) : V → Value → Prop where
  | non : TyOf K H .non (.type "NoneType")
  | bl (x : Bool) : TyOf K H (.bl x) (.type "bool")
  | int (i : Int) : TyOf K H (.int i) (.type "int")
  | str (x : Str) : TyOf K H (.str x) (.type "str")
  | flt (x : UInt64) : TyOf K H (.flt x) (.type "float")
  | lst {a : Addr} {xs : List V} (e : H a = some (.lst xs)) : TyOf K H (.ref a) (.type "list")
  | frz {a : Addr} {o : Obj} {xs : List V} (e : H a = some (.frz o (.lst xs))) : TyOf K H (.ref a) (.type "list")
  | tup {a : Addr} {xs : List V} (e : H a = some (.tup xs)) : TyOf K H (.ref a) (.type "tuple")
  | dK {a : Addr} {kvs : List (Key × V)} (e : H a = some (.dK kvs)) : TyOf K H (.ref a) (.type "dict")
  | dT {a : Addr} {kvs : List (List Key × V)} (e : H a = some (.dT kvs)) : TyOf K H (.ref a) (.type "dict")
  | ins {a C dx : Addr} {fs : List (Str × V)} (e : H a = some (.ins C dx fs)) (cl : Cls K C) (ha : PySem.W.findIn K (.ref C) "__class__" = some (some (.builtin "object.__class__")))
      (hn : PySem.W.specialIn K (.builtin "object.__class__") "__get__" = some (some (.builtin "getset_descriptor.__get__"))) (htk : PySem.W.takesIn K (.builtin "object.__class__") = some true)
      (hm : PySem.W.mroIn K C (.type "object") = some true) : TyOf K H (.ref a) (.ref C)
theorem isinst_ok {x : V} {u t : Value} (I : Inv X pins σ H s) (rx : RelV x u) (ty : TyOf X.K H x t) (e : PySem.W.kitOne X.K t c = some b) (h : ∀ tk, Q (.bool b) { s with toks := tk }) :
    wpAny (model X.prog X.w) A (call (.builtin "isinstance") [u, c]) Q E s := by
  cases ty with
  | non => cases (show u = Value.none from rx); exact PySem.W.kia_one PySem.W.kitx_none I.kIn True.intro e (fun z => nomatch z) h
  | bl y => cases (show u = Value.bool y from rx); exact PySem.W.kia_one PySem.W.kitx_bool I.kIn True.intro e (fun z => nomatch z) h
  | int i => obtain ⟨t, q⟩ := (show ∃ t, u = Value.int i t from rx); cases q; exact PySem.W.kia_one PySem.W.kitx_int I.kIn True.intro e (fun z => nomatch z) h
  | str y => obtain ⟨t, q⟩ := (show ∃ t, u = Value.str y t from rx); cases q; exact PySem.W.kia_one PySem.W.kitx_str I.kIn True.intro e (fun z => nomatch z) h
  | flt y => obtain ⟨t, q⟩ := (show ∃ t, u = Value.float y t from rx); cases q; exact PySem.W.kia_one PySem.W.kitx_float I.kIn True.intro e (fun z => nomatch z) h
  | @lst a xs ea =>
    cases (show u = Value.ref a from rx)
    obtain ⟨_, _, n, _, h1⟩ := (show ObjOk X.prog X.w H s.heap a (.lst xs) from I.hok a _ ea)
    exact PySem.W.kia_one PySem.W.kitx_list I.kIn ⟨_, h1, rfl⟩ e (fun z => nomatch z) h
  | @frz a ob xs ea =>
    cases (show u = Value.ref a from rx)
    obtain ⟨_, _, _, n, _, h1⟩ := (show ObjOk X.prog X.w H s.heap a (.frz ob (.lst xs)) from I.hok a _ ea)
    exact PySem.W.kia_one PySem.W.kitx_list I.kIn ⟨_, h1, rfl⟩ e (fun z => nomatch z) h
  | @tup a xs ea =>
    cases (show u = Value.ref a from rx)
    obtain ⟨_, _, _, p⟩ := (show ObjOk X.prog X.w H s.heap a (.tup xs) from I.hok a _ ea)
    obtain ⟨o, h1, h2, _⟩ := p
    exact PySem.W.kia_one PySem.W.kitx_tuple I.kIn ⟨o, h1, h2⟩ e (fun z => nomatch z) h
  | @dK a kvs ea =>
    cases (show u = Value.ref a from rx)
    obtain ⟨_, _, vs, _, p⟩ := (show ObjOk X.prog X.w H s.heap a (.dK kvs) from I.hok a _ ea)
    obtain ⟨o, es, ep, h1, h2, _⟩ := p
    exact PySem.W.kia_one PySem.W.kitx_dict I.kIn ⟨o, h1, h2.1⟩ e (fun z => nomatch z) h
  | @dT a kvs ea =>
    cases (show u = Value.ref a from rx)
    obtain ⟨_, _, xs, _, o, es, ep, h1, h2, _⟩ := (show ObjOk X.prog X.w H s.heap a (.dT kvs) from I.hok a _ ea)
    exact PySem.W.kia_one PySem.W.kitx_dict I.kIn ⟨o, h1, h2.1⟩ e (fun z => nomatch z) h
  | @ins a C dx fs ea cl ha hn htk hm =>
    cases (show u = Value.ref a from rx)
    obtain ⟨mA, O, _⟩ := ins_get I.hok ea
    obtain ⟨od, J, _⟩ := O.look
    exact PySem.W.kia_one (PySem.W.kitx_own (cl.get _) cl.hd ha hn htk hm) I.kIn J e (fun z => nomatch z) h
end
end L2

namespace L2
open PySem PySem.Spec PyProof.Rows

structure Room (k : Nat) (A : Around) : Prop where
  hd : A.handled = none
  dp : A.depth + 3 * k + 5 < recursionLimit
  un : A.units + 16 * k + 200 < cLine
theorem Room.mono {j k : Nat} {A : Around} (r : Room k A) (h : j ≤ k) : Room j A := ⟨r.hd, by have := r.dp; omega, by have := r.un; omega⟩
theorem Room.deeper {k : Nat} {A : Around} (r : Room (k + 1) A) (env : Env) : Room k (A.deeper env) :=
  ⟨r.hd, by have := r.dp; show A.depth + 1 + 3 * k + 5 < _; omega, by have := r.un; show A.units + 3 + 16 * k + 200 < _; omega⟩
theorem Room.in1 {k : Nat} {A : Around} (r : Room (k + 1) A) : Room k A.in1 :=
  ⟨r.hd, by have := r.dp; show A.depth + 3 * k + 5 < _; omega, by have := r.un; show A.units + 1 + 16 * k + 200 < _; omega⟩
theorem Room.depth {k : Nat} {A : Around} (r : Room k A) : A.depth < recursionLimit := by have := r.dp; omega
theorem Room.units {k : Nat} {A : Around} (r : Room k A) : A.units + 64 < cLine := by have := r.un; omega
noncomputable def tNil : TA := fun _ H Q => Q [] H
noncomputable def tCons (ta : TE) (tr : TA) : TA := fun σ H Q => ta σ H fun x H1 => tr σ H1 fun xs H2 => Q (x :: xs) H2
section
variable {X : Cx} {e : Expr} {es : List Expr} {te : TE} {t : TA} {pos : Pos}
theorem pa_nil : PA X [] tNil := fun _ _ _ _ H Q I h => Calls.spliced_nil ⟨[], H, I, .nil, h⟩
theorem pa_cons (ha : PE X e te) (hr : PA X es t) (hs : starEach (e :: es) X.env = (false, eval e X.env) :: starEach es X.env := by rfl) : PA X (e :: es) (tCons te t) := by
  intro pos pins s σ H Q I h
  rw [hs]
  show wpAny _ _ (spliced ((false, eval e X.env) :: backTo pos (starEach es X.env))) _ _ s
  refine Calls.spliced_cons (thn (ha pins s σ H _ I h) fun u s1 ⟨x, H1, I1, r1, q1⟩ => ?_)
  exact thn (hr pos pins s1 σ H1 _ I1 q1) fun us s2 ⟨xs, H2, I2, r2, q2⟩ => ⟨x :: xs, H2, I2, .cons r1 r2, q2⟩

noncomputable def tTup (t : TA) : TE := fun σ H Q => t σ H fun xs H1 => xs.length ≤ sizeLine ∧ ∀ p, H1 p = none → Q (.ref p) (upd H1 p (.tup xs))
noncomputable def tLst (t : TA) : TE := fun σ H Q => t σ H fun xs H1 => xs.length ≤ sizeLine ∧ ∀ p, H1 p = none → Q (.ref p) (upd H1 p (.lst xs))
theorem pe_tup {x1} (h : PA X es t) : PE X (.Tuple es x1 pos) (tTup t) := by
  intro pins s σ H Q I hq
  refine wpAny_Tuple_spliced (thn (h pos pins s σ H _ I hq) fun us s1 ⟨xs, H1, I1, r, z, q⟩ => ⟨by rw [← r.length]; exact z, ?_⟩)
  have hf : H1 s1.heap.objs.size = none := I1.hok.fresh (Nat.le_refl _)
  refine ⟨.ref s1.heap.objs.size, upd H1 s1.heap.objs.size (.tup xs), I1.laid (t' := s1.toks) (fun b u e => Heap.get?_push_of_some _ e) (Nat.le_refl _) ?_, rfl, q _ hf⟩
  exact ⟨z, us, r, ⟨_, Heap.get?_push_size _ rfl, rfl, _, rfl⟩⟩
theorem pe_lst (h : PA X es t) : PE X (.List es pos) (tLst t) := by
  intro pins s σ H Q I hq
  refine wpAny_List_spliced (thn (h pos pins s σ H _ I hq) fun us s1 ⟨xs, H1, I1, r, z, q⟩ => ⟨by rw [← r.length]; exact z, ?_⟩)
  have hf : H1 s1.heap.objs.size = none := I1.hok.fresh (Nat.le_refl _)
  refine ⟨.ref s1.heap.objs.size, upd H1 s1.heap.objs.size (.lst xs), I1.laid (t' := s1.toks) (fun b u e => Heap.get?_push_of_some _ e) (Nat.le_refl _) ?_, rfl, q _ hf⟩
  exact ⟨z, us, 0, r, Heap.get?_push_size _ rfl⟩
end

noncomputable abbrev Sp := List V → Hp → VK → XK → Prop
noncomputable abbrev CXT := List Env → Hp → Shared → XK → Value → Shared → Prop

structure Env0 (P : Program) (w : World) (K : PySem.W.Frag) (mg : Str → Option Value) (base : Heap) (A : Around) (outer : List Env) (s : Shared) (H : Hp) : Prop where
  frames : A.frames = some outer
  mod : Mod K mg base
  bs : ∀ b o, base.get? b = some o → s.heap.get? b = some o ∧ H b = none
  bsz : base.objs.size ≤ s.heap.objs.size
  funs : s.heap.FunFrames base outer
  frf : ∀ b ∈ frs outer, H b = none
  hok : HOk P w H s.heap
  bare : AllBare s.gens
noncomputable def CE (outer : List Env) (P : Program) (w : World) (H : Hp) (s : Shared) (Q : VK) (u : Value) (s' : Shared) : Prop :=
  ∃ v H', s'.os = s.os ∧ AllBare s'.gens ∧ Un (frs outer) [] H H' s.heap s'.heap ∧ HOk P w H' s'.heap ∧ RelV v u ∧ Q v H'
noncomputable def CR (CX : CXT) (outer : List Env) (P : Program) (w : World) (H : Hp) (s : Shared) (Q : VK) (E : XK) (r : Result) (s' : Shared) : Prop :=
  match r with
  | .ok (.ret u) => CE outer P w H s Q u s'
  | .ok _ => False
  | .error e => CX outer H s E e s'
structure FnOk (P : Program) (w : World) (K : PySem.W.Frag) (mg : Str → Option Value) (base : Heap) (CX : CXT) (k : Nat) (f : Addr) (fd : FuncData) (ps : List Str) (sp : Sp) : Prop where
  len : ∀ vs H Q E, sp vs H Q E → vs.length = ps.length
  run : ∀ (A : Around) (outer : List Env) (s : Shared) (H : Hp) (args : Args) (us : List Value) (vs : List V) (Q : VK) (E : XK), Room k A → Env0 P w K mg base A outer s H → BindsTo s fd args (ps.zip us) → Vals vs us → sp vs H Q E →
    codeAny (model P w) A (.call (.ref f) args) (CR CX outer P w H s Q E) s
theorem FnOk.mono {P : Program} {w : World} {K : PySem.W.Frag} {mg : Str → Option Value} {base : Heap} {CX : CXT} {j k : Nat} {f : Addr} {fd : FuncData} {ps : List Str} {sp : Sp} (F : FnOk P w K mg base CX j f fd ps sp) (h : j ≤ k) :
    FnOk P w K mg base CX k f fd ps sp := ⟨F.len, fun A outer s H args us vs Q E hr => F.run A outer s H args us vs Q E (hr.mono h)⟩
theorem FnOk.imp {P : Program} {w : World} {K : PySem.W.Frag} {mg : Str → Option Value} {base : Heap} {CX : CXT} {k : Nat} {f : Addr} {fd : FuncData} {ps : List Str} {sp sp' : Sp} (F : FnOk P w K mg base CX k f fd ps sp)
    (h : ∀ vs H Q E, sp' vs H Q E → sp vs H Q E) : FnOk P w K mg base CX k f fd ps sp' :=
  ⟨fun vs H Q E q => F.len vs H Q E (h _ _ _ _ q), fun A outer s H args us vs Q E hr he hb hv hs => F.run A outer s H args us vs Q E hr he hb hv (h _ _ _ _ hs)⟩

theorem Env0.in1 {P : Program} {w : World} {K : PySem.W.Frag} {mg : Str → Option Value} {base : Heap} {A : Around} {outer : List Env} {s : Shared} {H : Hp} (e : Env0 P w K mg base A outer s H) :
    Env0 P w K mg base A.in1 outer s H := ⟨e.frames, e.mod, e.bs, e.bsz, e.funs, e.frf, e.hok, e.bare⟩

section
variable {X : Cx} {pins : List (Addr × Obj)} {σ : St} {H : Hp} {s s' : Shared}
theorem Inv.env0 (I : Inv X pins σ H s) : Env0 X.prog X.w X.K X.mg X.base X.A X.stack s H :=
  ⟨I.ok.frames, I.ok.mod, I.bs, Nat.le_trans I.ok.bsz I.sz, I.stack, I.stkFree, I.hok, I.bare⟩
theorem Inv.after {Q : VK} {u : Value} (I : Inv X pins σ H s) (h : CE X.stack X.prog X.w H s Q u s') : EP X pins σ Q u s' := by
  obtain ⟨v, H', os, bare, un, hok, r, q⟩ := h
  obtain ⟨hh, g, d, t, os'⟩ := s'
  obtain rfl : os' = s.os := os
  exact ⟨v, H', I.call (h' := hh) (g' := g) (d' := d) (t' := t) (ch := []) un hok bare (fun b z => absurd z (by simp)), r, q⟩
end

noncomputable def tCall (sp : Sp) (dvs : List V) (E : XK) (t : TA) : TE := fun σ H Q => t σ H fun vs H1 => sp (vs ++ dvs) H1 Q E
noncomputable def Binds (K : PySem.W.Frag) (fd : FuncData) (ps : List Str) (ds : List Value) : Prop :=
  ∀ (s : Shared) (us : List Value), K.In s.heap → (us ++ ds).length = ps.length → BindsTo s fd ⟨us, []⟩ (ps.zip (us ++ ds))
theorem Binds.all {K : PySem.W.Frag} {fd : FuncData} {ps : List Str} (h : ∀ us : List Value, us.length = ps.length → bindArgs fd ⟨us, []⟩ = pure (ps.zip us)) : Binds K fd ps [] := fun s us _ hl => by
  rw [List.append_nil] at hl ⊢
  exact .of_eq (h us hl)

noncomputable def Passes (CX : CXT) (X : Cx) (E : XK) : Prop := ∀ (pins : List (Addr × Obj)) (σ : St) (H : Hp) (s : Shared) (e : Value) (s' : Shared), Inv X pins σ H s → CX X.stack H s E e s' → X.xe e s'

section
variable {X : Cx} {CX : CXT} {k : Nat} {f C : Addr} {fd : FuncData} {ps : List Str} {sp : Sp} {dvs : List V} {ds : List Value} {E : XK} {x m : Str} {p pos apos : Pos} {e o : Expr} {es : List Expr} {ta : TE} {t : TA}

theorem run_fn {pins : List (Addr × Obj)} {σ : St} {H : Hp} {s : Shared} {Q : VK} {us : List Value} {vs : List V} (F : FnOk X.prog X.w X.K X.mg X.base CX k f fd ps sp) (hr : Room k X.A) (hb : Binds X.K fd ps ds) (hd : Vals dvs ds) (hx : Passes CX X E)
    (I : Inv X pins σ H s) (r : Vals vs us) (h : sp (vs ++ dvs) H Q E) : wpAny (model X.prog X.w) X.A (call (.ref f) us) (EP X pins σ Q) X.xe s := by
  have r2 : Vals (vs ++ dvs) (us ++ ds) := r.append hd
  have hl : (us ++ ds).length = ps.length := by rw [← r2.length]; exact F.len _ _ _ _ h
  refine wpAny_call (codeAny_mono (F.run X.A X.stack s H ⟨us, []⟩ (us ++ ds) (vs ++ dvs) Q E hr I.env0 (hb s us I.kIn hl) r2 h) fun r s' hq => ?_)
  cases r with
  | error e => exact hx pins σ H s e s' I hq
  | ok fl =>
    cases fl with
    | ret u => exact I.after hq
    | next => exact False.elim hq
    | brk => exact False.elim hq
    | cont => exact False.elim hq

theorem pe_call (F : FnOk X.prog X.w X.K X.mg X.base CX k f fd ps sp) (hr : Room k X.A) (hg : Gl X x) (hm : X.mg x = some (.ref f)) (hk : PySem.W.keepIn X.K (.ref f) = true) (hb : Binds X.K fd ps ds) (hd : Vals dvs ds) (hx : Passes CX X E)
    (ha : PA X (e :: es) t) (hdb : (x == ("__debug__" : Str)) = false := by decide) (he : starEach (e :: es) X.env = (false, eval e X.env) :: starEach es X.env := by rfl) (hpl : (backTo pos (starEach es X.env)).any (·.1) = false := by rfl) :
    PE X (.Call (.Name x p) (e :: es) [] pos) (tCall sp dvs E t) := by
  intro pins s σ H Q I h
  refine wpAny_Call_Name_kw (ld_glob I hg hm ?_ hdb)
  refine PySem.W.callWith_K (h₀ := X.base) I.ok.mod.kin hk (thn (ha pos pins s σ H _ I h) fun us s1 ⟨vs, H1, I1, r, q⟩ => ⟨I1.kIn, ?_⟩) he hpl
  exact run_fn F hr hb hd hx I1 r q
end

section
variable {X : Cx} {CX : CXT} {k : Nat} {f C : Addr} {fd : FuncData} {ps ks : List Str} {sp : Sp} {E : XK} {x m : Str} {p pos apos kpos : Pos} {e o : Expr} {es : List Expr} {kws : List Keyword} {te ta : TE} {t tk : TA} {nm : Option Str}
variable {g : List Value → List Value → List Value} {gV : List V → List V → List V}
end

structure FnScope (N P : List Str) (sc : Scope) : Prop where
  kind : sc.kind = .function
  co : sc.isCoroutine = false
  gen : sc.isGenerator = false
  nd : N.Nodup
  pre : N.take P.length = P
  par : ∀ x ∈ P, sc.names.lookup x = some .local ∨ sc.names.lookup x = some .cell
  nofree : ∀ y ∈ sc.names, y.2 ≠ .free

theorem bindL_out {kindOf : Str → Option NameKind} {x : Str} : ∀ {binds : List (Str × Value)} {m : Str → Option Value}, (∀ v, (x, v) ∉ binds) → bindL kindOf binds m x = m x
  | [], _, _ => rfl
  | (n, v) :: r, m, h => by
    unfold bindL
    rw [bindL_out fun w hw => h w (List.mem_cons_of_mem _ hw)]
    split
    · have : x ≠ n := by rintro rfl; exact h v List.mem_cons_self
      simp [this]
    · rfl
theorem bindC_out {kindOf : Str → Option NameKind} {x : Str} : ∀ {binds : List (Str × Value)} {m : Str → Option Value}, (∀ v, (x, v) ∉ binds) → bindC kindOf binds m x = m x
  | [], _, _ => rfl
  | (n, v) :: r, m, h => by
    unfold bindC
    rw [bindC_out fun w hw => h w (List.mem_cons_of_mem _ hw)]
    split
    · rfl
    · have : x ≠ n := by rintro rfl; exact h v List.mem_cons_self
      simp [this]
theorem bindL_get {kindOf : Str → Option NameKind} {x : Str} {v : Value} : ∀ {P : List Str} {vs : List Value} {i : Nat} {m : Str → Option Value}, P.Nodup → P[i]? = some x → vs[i]? = some v → kindOf x = some .local →
    bindL kindOf (P.zip vs) m x = some v
  | [], _, _, _, _, h, _, _ => by simp at h
  | _ :: _, [], _, _, _, _, h, _ => by simp at h
  | p :: P, w :: vs, 0, m, nd, h1, h2, hk => by
    simp at h1 h2; subst h1; subst h2
    show bindL kindOf ((p, w) :: P.zip vs) m p = _
    unfold bindL
    rw [bindL_out fun v hv => (List.nodup_cons.mp nd).1 (List.of_mem_zip hv).1, if_pos hk]
    simp
  | p :: P, w :: vs, i + 1, m, nd, h1, h2, hk => by
    show bindL kindOf ((p, w) :: P.zip vs) m x = _
    unfold bindL
    exact bindL_get (i := i) (List.nodup_cons.mp nd).2 (by simpa using h1) (by simpa using h2) hk
theorem bindC_get {kindOf : Str → Option NameKind} {x : Str} {v : Value} : ∀ {P : List Str} {vs : List Value} {i : Nat} {m : Str → Option Value}, P.Nodup → P[i]? = some x → vs[i]? = some v → kindOf x ≠ some .local →
    bindC kindOf (P.zip vs) m x = some v
  | [], _, _, _, _, h, _, _ => by simp at h
  | _ :: _, [], _, _, _, _, h, _ => by simp at h
  | p :: P, w :: vs, 0, m, nd, h1, h2, hk => by
    simp at h1 h2; subst h1; subst h2
    show bindC kindOf ((p, w) :: P.zip vs) m p = _
    unfold bindC
    rw [bindC_out fun v hv => (List.nodup_cons.mp nd).1 (List.of_mem_zip hv).1, if_neg hk]
    simp
  | p :: P, w :: vs, i + 1, m, nd, h1, h2, hk => by
    show bindC kindOf ((p, w) :: P.zip vs) m x = _
    unfold bindC
    exact bindC_get (i := i) (List.nodup_cons.mp nd).2 (by simpa using h1) (by simpa using h2) hk

noncomputable def start (N : List Str) (vs : List V) : St := vs.map some ++ List.replicate (N.length - vs.length) none

noncomputable def cxOf (CX : CXT) (P : Program) (w : World) (K : PySem.W.Frag) (mg : Str → Option Value) (base : Heap) (N : List Str) (qual : Str) (scope : Scope) (f : Addr) (cd : Value) (A : Around) (outer : List Env) (s : Shared) (H : Hp) (E : XK) : Cx where
  prog := P
  w := w
  K := K
  mg := mg
  base := base
  A := A.deeper (envOfC qual scope s.heap.objs.size f cd)
  N := N
  s₀ := s
  H₀ := H
  env := envOfC qual scope s.heap.objs.size f cd
  outer := outer
  stack := envOfC qual scope s.heap.objs.size f cd :: outer
  ex := []
  calm := true
  fn := fun _ => true
  pn := []
  xe := fun e s' => wpAny (model P w) (A.deeper (envOfC qual scope s.heap.objs.size f cd)) (leaving (envOfC qual scope s.heap.objs.size f cd) e) (fun _ s'' => CX outer H s E e s'') (fun e' s'' => CX outer H s E e' s'') s'

theorem cell_has {sc : Scope} {n : Nat} {x : Str} (h : sc.names.lookup x = some .cell) : ∃ c, (cellsFrom n sc.names []).lookup x = some c := by
  have q := PySem.W.cellsFrom_some sc.names n [] (.inl h)
  exact Option.isSome_iff_exists.mp q

theorem inv_start {CX : CXT} {P : Program} {w : World} {K : PySem.W.Frag} {mg : Str → Option Value} {base : Heap} {N ps : List Str} {qual : Str} {scope : Scope} {f : Addr} {cd : Value} {A : Around} {outer : List Env} {s s1 : Shared} {H : Hp} {E : XK} {us : List Value} {vs : List V}
    (S : FnScope N ps scope) (hd : A.handled = none) (e0 : Env0 P w K mg base A outer s H) (hl : vs.length = ps.length) (r : Vals vs us)
    (x : InCallC s s.heap.objs.size (bindL (envOfC qual scope s.heap.objs.size f cd).kindOf (ps.zip us) fun _ => none) (cellsFrom (s.heap.objs.size + 1) scope.names []) (bindC (envOfC qual scope s.heap.objs.size f cd).kindOf (ps.zip us) fun _ => none) s1) :
    Inv (cxOf CX P w K mg base N qual scope f cd A outer s H E) [] (start N vs) H s1 := by
  have hpl : ps.length ≤ N.length := by have := congrArg List.length S.pre; rw [List.length_take] at this; omega
  obtain ⟨h1, tk, rfl, hk⟩ := x.done
  have noA : ∀ b : Addr, b ∉ (cxOf CX P w K mg base N qual scope f cd A outer s H E).ex := fun b z => absurd (show b ∈ ([] : List Addr) from z) (by simp)
  refine ⟨⟨e0.mod, S.kind, rfl, rfl, Nat.le_refl _, fun y z c h1 h2 => ?_, fun y hy => ?_, fun y c _ h => ?_, fun _ => hd, Around.frames_deeper e0.frames, .inr ⟨rfl, rfl⟩, fun b z => absurd z (noA b), e0.bs, e0.bsz, fun b _ _ => noA b, fun b z => absurd z (noA b), e0.funs, e0.frf⟩,
    rfl, e0.bare, Un.kept hk, ⟨_, x.toInCall.ns, fun i y v h1 h2 h3 => ?_⟩, fun y c h => ⟨_, x.cell y c h⟩, e0.hok.fresh (Nat.le_refl _), fun y c h => ?_, fun p hp => absurd (show p ∈ ([] : List (Addr × Obj)) from hp) (by simp), e0.hok.kept hk, ?_⟩
  · exact name_of_addr x.apart (PySem.mem_of_lookup h1) (PySem.mem_of_lookup h2)
  · have hy : scope.names.lookup y = some .cell ∨ scope.names.lookup y = some .free := hy
    rcases hy with hy | hy
    · exact cell_has hy
    · exact absurd rfl (S.nofree _ (PySem.mem_of_lookup hy))
  · exact Nat.le_of_lt (x.above y c (PySem.mem_of_lookup h))
  · have hi : i < vs.length := by
      unfold start at h2
      by_cases hi : i < vs.length
      · exact hi
      · rw [List.getElem?_append_right (by simpa using hi)] at h2
        rw [List.getElem?_replicate] at h2
        split at h2 <;> cases h2
    have ha : vs[i]? = some v := by
      unfold start at h2
      rw [List.getElem?_append_left (by simpa using hi), List.getElem?_map] at h2
      cases e : vs[i]? with
      | none => rw [e] at h2; cases h2
      | some a => rw [e] at h2; cases h2; rfl
    obtain ⟨u, hu, rv⟩ := r.get ha
    have hp : ps[i]? = some y := by
      rw [← S.pre, List.getElem?_take_of_lt (by omega)]; exact h1
    have ndP : ps.Nodup := by rw [← S.pre]; exact S.nd.sublist (List.take_sublist _ _)
    refine ⟨u, rv, ?_⟩
    rcases S.par y (List.mem_of_getElem? hp) with k | k
    · exact .inl ⟨k, bindL_get ndP hp hu k⟩
    · obtain ⟨c, e⟩ := cell_has (n := s.heap.objs.size + 1) k
      refine .inr ⟨.inl k, c, e, ?_⟩
      have q := x.cell y c e
      rw [bindC_get ndP hp hu (by show scope.names.lookup y ≠ _; rw [k]; decide)] at q
      exact q
  · exact e0.hok.fresh (Nat.le_of_lt (x.above y c (PySem.mem_of_lookup h)))
  · unfold start
    show _ = N.length
    rw [List.length_append, List.length_map, List.length_replicate]
    omega

theorem fn_of {CX : CXT} {P : Program} {w : World} {K : PySem.W.Frag} {mg : Str → Option Value} {base : Heap} {k : Nat} {f : Addr} {name qual : Str} {params : Arguments} {body : List Stmt} {scope : Scope} {dV kV doc pm cdv ct oc : Value} {an od : Option Addr}
    {osl : Array (Option Value)} {N ps : List Str} {sp : Sp} (lk : K.lookup f = some ⟨oc, od, .func (PySem.W.fnOf name qual params body scope dV kV doc pm an cdv ct), osl⟩) (hcd : PySem.W.codeIn K cdv qual = true) (S : FnScope N ps scope)
    (len : ∀ vs H Q E, sp vs H Q E → vs.length = ps.length)
    (hbody : ∀ (A : Around) (outer : List Env) (s : Shared) (H : Hp) (vs : List V) (Q : VK) (E : XK), Room k (A.deeper (envOfC qual scope s.heap.objs.size f cdv)) → sp vs H Q E →
      ∃ t, PSs (cxOf CX P w K mg base N qual scope f cdv A outer s H E) body t ∧ t { nx := fun _ H' => Q .non H', rt := Q } (start N vs) H) :
    FnOk P w K mg base CX (k + 1) f (PySem.W.fnOf name qual params body scope dV kV doc pm an cdv ct) ps sp := by
  refine ⟨len, fun A outer s H args us vs Q E hr e0 hb r hsp => ?_⟩
  have hl := len _ _ _ _ hsp
  have KX : K.In s.heap := e0.mod.kin.keeps fun b o e => (e0.bs b o e).1
  have lim : s.heap.NoLimit := e0.mod.nolimit.keeps fun b o e => (e0.bs b o e).1
  have hkind : ∀ y ∈ ps.zip us, scope.names.lookup y.1 = some .local ∨ (scope.names.lookup y.1 = some .cell ∧ ((cellsFrom (s.heap.objs.size + 1) scope.names []).lookup y.1).isSome = true) := fun ⟨n, v⟩ hy => by
    rcases S.par n (List.of_mem_zip hy).1 with q | q
    · exact .inl q
    · exact .inr ⟨q, PySem.W.cellsFrom_some _ _ _ (.inl q)⟩
  refine codeAny_call_function hr.depth (KX _ _ lk) rfl S.co S.gen rfl (PySem.W.codeRec_of KX hcd) (hb _ _ _ _ ?_)
  refine wpAny_newFunctionEnv_cells S.kind hkind fun env he s1 x => ?_
  subst he
  refine ⟨lim.keeps x.toInCall.keep, codeAny_func ?_⟩
  obtain ⟨t, ht, hq⟩ := hbody A outer s H vs Q E (hr.deeper _) hsp
  have I : Inv (cxOf CX P w K mg base N qual scope f cdv A outer s H E) [] (start N vs) H s1 := inv_start S hr.hd e0 hl r x
  refine wpAny_mono (ht [] s1 (start N vs) H _ I hq) (fun fl s' hs => ?_) fun e s' hs => hs
  have fin : ∀ {σ' : St} {H' : Hp} {v : V} {u : Value}, Inv (cxOf CX P w K mg base N qual scope f cdv A outer s H E) [] σ' H' s' → RelV v u → Q v H' → CE outer P w H s Q u s' :=
    fun {σ' H' v u} J rv q => ⟨v, H', J.os, J.bare, J.base, J.hok, rv, q⟩
  cases fl with
  | ret u =>
    obtain ⟨v, σ', H', J, rv, q⟩ := hs
    exact fin J rv q
  | next =>
    obtain ⟨σ', H', J, q⟩ := hs
    exact fin (v := V.non) (u := Value.none) J rfl q
  | brk =>
    obtain ⟨_, _, _, q⟩ := hs
    exact False.elim q
  | cont =>
    obtain ⟨_, _, _, q⟩ := hs
    exact False.elim q
end L2

namespace L2
open PySem PySem.Spec PyProof.Rows
section
variable {X : Cx} {x : Str} {p pos : Pos} {e : Expr} {es : List Expr} {t : TA} {id T : String} {r : List V → Hp → VK → Prop}

noncomputable def tCB (r : List V → Hp → VK → Prop) (t : TA) : TE := fun σ H Q => t σ H fun vs H1 => r vs H1 Q
theorem pe_callB (hc : CallR X (.builtin id) r) (hg : Gl X x) (hm : X.mg x = none) (hv : bootBuiltins x = some (.builtin id)) (ha : PA X (e :: es) t) (hn : x ≠ "__name__" := by decide) (hdb : (x == ("__debug__" : Str)) = false := by decide)
    (he : starEach (e :: es) X.env = (false, eval e X.env) :: starEach es X.env := by rfl) (hpl : (backTo pos (starEach es X.env)).any (·.1) = false := by rfl) : PE X (.Call (.Name x p) (e :: es) [] pos) (tCB r t) := by
  intro pins s σ H Q I h
  refine wpAny_Call_Name_kw (ld_blt I hg hm hv ?_ hn hdb)
  exact PyProof.Rows.callWith_builtin1 (thn (ha pos pins s σ H _ I h) fun us s1 ⟨vs, H1, I1, r1, q1⟩ => hc pins s1 σ H1 vs us Q I1 r1 q1) he hpl
theorem pe_callTy (hc : CallR X (.type T) r) (hg : Gl X x) (hm : X.mg x = none) (hv : bootBuiltins x = some (.type T)) (ha : PA X (e :: es) t) (hn : x ≠ "__name__" := by decide) (hdb : (x == ("__debug__" : Str)) = false := by decide)
    (he : starEach (e :: es) X.env = (false, eval e X.env) :: starEach es X.env := by rfl) (hpl : (backTo pos (starEach es X.env)).any (·.1) = false := by rfl) : PE X (.Call (.Name x p) (e :: es) [] pos) (tCB r t) := by
  intro pins s σ H Q I h
  refine wpAny_Call_Name_kw (ld_blt I hg hm hv ?_ hn hdb)
  exact PyProof.Rows.callWith_type1 (thn (ha pos pins s σ H _ I h) fun us s1 ⟨vs, H1, I1, r1, q1⟩ => hc pins s1 σ H1 vs us Q I1 r1 q1) he hpl
end
end L2

namespace HT
open PySem PyProof.Rows

section
open PySem.SeqAt
open PySem.AutoSeq1 (wpAny_loadPart')
open PySem.MeetsSeq PySem.MeetsSeq2 PySem.MeetsSeq3

end

section
variable {prog : Program} {w : World} {A : Around} {E : Value → Shared → Prop} {s : Shared}

noncomputable def sIx (n d : Nat) : Option Int → Nat
  | none => d
  | some v => if v < 0 then (v + (n : Int)).toNat else min v.toNat n
theorem sIx_none (n d : Nat) : sIx n d none = d := rfl
theorem sIx_nat (n d k : Nat) : sIx n d (some (k : Int)) = min k n := by
  show (if (k : Int) < 0 then ((k : Int) + (n : Int)).toNat else min (k : Int).toNat n) = min k n
  rw [if_neg (by omega), Int.toNat_natCast]
theorem sIx_le (n d : Nat) (hd : d ≤ n) (o : Option Int) : sIx n d o ≤ n := by
  cases o with
  | none => exact hd
  | some v =>
    show (if v < 0 then (v + (n : Int)).toNat else min v.toNat n) ≤ n
    by_cases hv : v < 0
    · rw [if_pos hv]; omega
    · rw [if_neg hv]; exact Nat.min_le_right _ _
theorem clip_eq (v : Int) (n d : Nat) : (if v < 0 then max (v + (n : Int)) 0 else min v (n : Int)) = ((sIx n d (some v) : Nat) : Int) := by
  show (if v < 0 then max (v + (n : Int)) 0 else min v (n : Int)) = (((if v < 0 then (v + (n : Int)).toNat else min v.toNat n) : Nat) : Int)
  by_cases hv : v < 0
  · simp only [if_pos hv]; omega
  · simp only [if_neg hv]; omega
theorem adjust_gen (lo hi : Option Int) (n : Nat) : Builtin.Slice.sliceAdjust lo hi 1 (n : Int) = (((sIx n 0 lo : Nat) : Int), ((sIx n n hi : Nat) : Int)) := by
  have h1 : ¬ ((1 : Int) < 0) := by omega
  unfold Builtin.Slice.sliceAdjust
  simp only [h1, if_false]
  refine Prod.ext ?_ ?_
  · cases lo with
    | none => rfl
    | some v => exact clip_eq v n 0
  · cases hi with
    | none => rfl
    | some v => exact clip_eq v n n
theorem places_gen (i j : Nat) : Builtin.Slice.slicePlaces (i : Int) (j : Int) 1 = j - i := by
  unfold Builtin.Slice.slicePlaces
  have h1 : (1 : Int) > 0 := by omega
  simp only [h1, if_true, Int.ediv_one]
  split <;> omega
theorem slicePart_ {v : Value} {o : Option Int} {Q : Option Int → Shared → Prop} (p : IsPart v o) (h : Q o s) : wpAny (model prog w) A (Builtin.Slice.slicePartIndex v) Q E s := by
  cases p with
  | none => exact slicePart_none h
  | int i t => exact slicePart_int h
theorem sliceApplied_gen {sl : Addr} {vl vu : Value} {lo hi : Option Int} {n : Nat} {Q : Int × Int × Nat → Shared → Prop} (hs : s.heap.IsSliceOf sl vl vu .none) (pl : IsPart vl lo) (pu : IsPart vu hi)
    (h : Q (((sIx n 0 lo : Nat) : Int), 1, sIx n n hi - sIx n 0 lo) s) : wpAny (model prog w) A (Builtin.Slice.sliceApplied (.ref sl) (pure (n : Int))) Q E s := by
  obtain ⟨os, hos, hcs, hds⟩ := id hs
  unfold Builtin.Slice.sliceApplied Builtin.Slice.sliceFields
  refine wpAny_bind (wpAny_bind (wpAny_field hos hds (x := vl) rfl (wpAny_bind (wpAny_field hos hds (x := vu) rfl (wpAny_bind (wpAny_field hos hds (x := .none) rfl (wpAny_pure ?_)))))))
  refine wpAny_bind (slicePart_none ?_)
  show wpAny _ _ (if ((1 : Int) == 0) = true then _ else _) _ _ s
  rw [if_neg (by decide)]
  refine wpAny_bind (slicePart_ pl (wpAny_bind (slicePart_ pu (wpAny_bind (wpAny_pure ?_)))))
  show wpAny _ _ (match Builtin.Slice.sliceAdjust lo hi 1 (n : Int) with | (lo, hi) => pure (lo, (1 : Int), Builtin.Slice.slicePlaces lo hi 1)) _ _ s
  rw [adjust_gen lo hi n]
  show wpAny _ _ (pure (((sIx n 0 lo : Nat) : Int), (1 : Int), Builtin.Slice.slicePlaces ((sIx n 0 lo : Nat) : Int) ((sIx n n hi : Nat) : Int) 1)) _ _ s
  rw [places_gen]
  exact wpAny_pure h
theorem pick_gen (xs : Array Value) (i k : Nat) : ((List.range k).filterMap fun (m : Nat) => xs[((i : Int) + (m : Int) * 1).toNat]?).toArray = ((xs.toList.drop i).take k).toArray := by
  have e : (fun (m : Nat) => xs[((i : Int) + (m : Int) * 1).toNat]?) = fun m => xs[i + m]? := by
    funext m
    have : ((i : Int) + (m : Int) * 1).toNat = i + m := by omega
    rw [this]
  rw [e]
  have := pick_run xs i k
  rw [List.filterMap_map] at this
  have e2 : ((fun x => xs[x]?) ∘ fun x => i + x) = fun m => xs[i + m]? := rfl
  rw [e2] at this
  rw [this]

theorem getItem_tuple_cut {t sl : Addr} {items : Array Value} {vl vu : Value} {lo hi : Option Int} {Q : Value → Shared → Prop} (ht : IsTup s.heap t items) (hs : s.heap.IsSliceOf sl vl vu .none) (pl : IsPart vl lo) (pu : IsPart vu hi)
    (hw : ¬ (sIx items.size 0 lo = 0 ∧ sIx items.size items.size hi = items.size))
    (h : Q (.ref s.heap.objs.size) { s with heap := s.heap.push { cls := .type "tuple", data := .seq ((items.toList.drop (sIx items.size 0 lo)).take (sIx items.size items.size hi - sIx items.size 0 lo)).toArray } })
    (hsz : items.size ≤ sizeLine) : wpAny (model prog w) A (getItem (.ref t) (.ref sl)) Q E s := by
  have htake : sizeOk (.seq ((items.toList.drop (sIx items.size 0 lo)).take (sIx items.size items.size hi - sIx items.size 0 lo)).toArray) := by
    show ((items.toList.drop (sIx items.size 0 lo)).take (sIx items.size items.size hi - sIx items.size 0 lo)).toArray.size ≤ sizeLine
    rw [List.size_toArray, List.length_take, List.length_drop, Array.length_toList]
    omega
  have hj : sIx items.size items.size hi ≤ items.size := sIx_le _ _ (Nat.le_refl _) hi
  obtain ⟨os, hos, hcs, hds⟩ := id hs
  have hTs : s.TypeIs (.ref sl) "slice" := ⟨os, hos, hcs⟩
  unfold getItem
  try with_reducible refine wpAny_holding ?_
  first | refine wpAny_bind (wpAny_pure ?_) | skip
  refine wpAny_bind (wpAny_sequenceKey ht.typeIs (by decide) ?_)
  refine wpAny_bind (wpAny_callSpecial?_slot (name := Str.ofString "__getitem__") ht.typeIs PyProof.Rows.slot_tuple_getitem
    (wpAny_call_entry PyProof.Rows.slot_tuple_getitem ht.typeIs entry_tuple_getitem ?_ (args_tuple_getitem _ _)))
  show wpAny _ _ (Builtin.Tuple.tupleItemsOf (.ref t) >>= _) _ _ s
  refine wpAny_bind (tupleItemsOf_ ht ?_)
  refine wpAny_bind (wpAny_typeOf hTs ?_)
  rw [if_pos (by decide)]
  refine wpAny_bind (sliceApplied_gen hs pl pu ?_)
  have hno : ¬ ((((sIx items.size 0 lo : Nat) : Int) == 0 && (1 : Int) == 1 && (sIx items.size items.size hi - sIx items.size 0 lo) == items.size) = true) := by
    intro q
    rw [Bool.and_eq_true, Bool.and_eq_true] at q
    have q1 : ((sIx items.size 0 lo : Nat) : Int) = 0 := eq_of_beq q.1.1
    have q2 : sIx items.size items.size hi - sIx items.size 0 lo = items.size := eq_of_beq q.2
    exact hw ⟨by omega, by omega⟩
  show wpAny _ _ (if (((sIx items.size 0 lo : Nat) : Int) == 0 && (1 : Int) == 1 && (sIx items.size items.size hi - sIx items.size 0 lo) == items.size) = true then _ else _) _ _ s
  rw [if_neg hno, pick_gen]
  first
    | exact wpAny_bind (m := Builtin.Tuple.tupleExact _) (wpAny_newObj_type (wpAny_pure ⟨_, rfl, wpAny_pure h⟩) htake)
    | exact wpAny_bind (m := Builtin.Tuple.tupleExact _) (wpAny_newObj_type (wpAny_bind (wpAny_pure (wpAny_pure ⟨_, rfl, wpAny_pure h⟩))) htake)
    | exact wpAny_bind (wpAny_bind (m := Builtin.Tuple.tupleExact _) (wpAny_newObj_type (wpAny_pure (wpAny_pure ⟨_, rfl, wpAny_pure h⟩)) htake))
    | exact wpAny_bind (wpAny_bind (m := Builtin.Tuple.tupleExact _) (wpAny_newObj_type (wpAny_pure ⟨_, rfl, wpAny_pure h⟩) htake))
end
end HT

namespace L2
open PySem PySem.Spec PyProof.Rows

noncomputable abbrev TO := St → Hp → (Option Int → Hp → Prop) → Prop
noncomputable def PO (X : Cx) (e : Option Expr) (t : TO) : Prop :=
  ∀ (pins : List (Addr × Obj)) (s : Shared) (σ : St) (H : Hp) (Q : Option Int → Hp → Prop), Inv X pins σ H s → t σ H Q →
    wpAny (model X.prog X.w) X.A (evalPart e X.env) (fun u s' => ∃ o H', Inv X pins σ H' s' ∧ IsPart u o ∧ Q o H') X.xe s
noncomputable def tNoPart : TO := fun _ H Q => Q none H
noncomputable def tPart (t : TE) : TO := fun σ H Q => t σ H fun x H1 => ∃ i, x = .int i ∧ Q (some i) H1

section
variable {X : Cx} {e : Expr} {te : TE} {lo hi : Option Expr} {tl th : TO} {pos p2 : Pos}

theorem po_none : PO X none tNoPart := by
  intro pins s σ H Q I h
  rw [evalPart_none]
  exact wpAny_pure ⟨none, H, I, .none, h⟩
theorem po_some (h : PE X e te) : PO X (some e) (tPart te) := by
  intro pins s σ H Q I hw
  rw [evalPart_some]
  refine thn (h pins s σ H _ I hw) fun u s1 ⟨x, H1, I1, r1, q1⟩ => ?_
  obtain ⟨i, rfl, q⟩ := q1
  obtain ⟨t, rfl⟩ := r1
  exact ⟨some i, H1, I1, .int i t, q⟩

noncomputable def SlR (X : Cx) (r : V → Option Int → Option Int → Hp → VK → Prop) : Prop :=
  ∀ (pins : List (Addr × Obj)) (s : Shared) (σ : St) (H : Hp) (x : V) (v vl vu : Value) (lo hi : Option Int) (sl : Addr) (Q : VK), Inv X pins σ H s → RelV x v → s.heap.IsSliceOf sl vl vu .none → IsPart vl lo → IsPart vu hi → r x lo hi H Q →
    ∃ T id, typeLookup (.type T) "__getitem__" = pure (some (.builtin id)) ∧ s.TypeIs v T ∧ wpAny (model X.prog X.w) X.A (getItem v (.ref sl)) (EP X pins σ Q) X.xe s
theorem SlR.or {r r' : V → Option Int → Option Int → Hp → VK → Prop} (h : SlR X r) (h' : SlR X r') : SlR X (fun x lo hi H Q => r x lo hi H Q ∨ r' x lo hi H Q) := by
  intro pins s σ H x v vl vu lo hi sl Q I rx hs pl pu q
  rcases q with q | q
  · exact h pins s σ H x v vl vu lo hi sl Q I rx hs pl pu q
  · exact h' pins s σ H x v vl vu lo hi sl Q I rx hs pl pu q
noncomputable def tSl (r : V → Option Int → Option Int → Hp → VK → Prop) (te : TE) (tl th : TO) : TE := fun σ H Q => te σ H fun x H1 => tl σ H1 fun l H2 => th σ H2 fun u H3 => r x l u H3 Q
theorem pe_slice {r : V → Option Int → Option Int → Hp → VK → Prop} (hr : SlR X r) (he : PE X e te) (hl : PO X lo tl) (hu : PO X hi th) : PE X (.Subscript e (.Slice lo hi none p2) pos) (tSl r te tl th) := by
  intro pins s σ H Q I h
  refine Subscript_ (thn (he pins s σ H _ I h) fun v s1 ⟨x, H1, I1, r1, q1⟩ => ?_)
  refine wpAny_Slice (thn (hl pins s1 σ H1 _ I1 q1) fun vl s2 ⟨l, H2, I2, pl, q2⟩ => thn (hu pins s2 σ H2 _ I2 q2) fun vu s3 ⟨u, H3, I3, pu, q3⟩ => ?_)
  rw [evalPart_none]
  refine wpAny_pure ?_
  have I4 : Inv X pins σ H3 { s3 with heap := s3.heap.push { cls := .type "slice", data := .fields #[vl, vu, .none] } } := I3.kept (t' := s3.toks) fun b ob q => Heap.get?_push_of_some _ q
  obtain ⟨T, id, hT, ht, hg⟩ := hr pins { s3 with heap := s3.heap.push { cls := .type "slice", data := .fields #[vl, vu, .none] } } σ H3 x v vl vu l u s3.heap.objs.size Q I4 r1 (Heap.IsSliceOf.new ..) pl pu q3
  show wpAny (model X.prog X.w) X.A (subscriptTail e (.Slice lo hi none p2) v (.ref s3.heap.objs.size)) (EP X pins σ Q) X.xe { s3 with heap := s3.heap.push { cls := .type "slice", data := .fields #[vl, vu, .none] } }
  exact tail_any (ops := [.ref s3.heap.objs.size, v]) ht hT hg (by with_unfolding_all rfl)

noncomputable def cutV (xs : List V) (lo hi : Option Int) : List V := (xs.drop (HT.sIx xs.length 0 lo)).take (HT.sIx xs.length xs.length hi - HT.sIx xs.length 0 lo)
theorem cutV_length (xs : List V) (lo hi : Option Int) : (cutV xs lo hi).length ≤ xs.length := by
  unfold cutV
  rw [List.length_take, List.length_drop]
  omega
noncomputable def rSlT (K : PySem.W.Frag) : V → Option Int → Option Int → Hp → VK → Prop := fun x lo hi H Q => ∃ a xs, x = .ref a ∧ SqT K H a xs ∧
  ¬ (HT.sIx xs.length 0 lo = 0 ∧ HT.sIx xs.length xs.length hi = xs.length) ∧ ∀ p, H p = none → Q (.ref p) (upd H p (.tup (cutV xs lo hi)))
theorem sl_tup : SlR X (rSlT X.K) := by
  intro pins s σ H x v vl vu lo hi sl Q I rx hs pl pu h
  obtain ⟨a, xs, rfl, hx, hw, q⟩ := h
  cases rx
  obtain ⟨its, r, ht, hz⟩ := I.tuple hx
  have hlen : its.toArray.size = xs.length := by rw [List.size_toArray]; exact r.length.symm
  refine ⟨"tuple", _, PyProof.Rows.slot_tuple_getitem.lookup, ht.typeIs, ?_⟩
  refine HT.getItem_tuple_cut ht hs pl pu (by rw [hlen]; exact hw) ?_ (by rw [hlen]; exact hz)
  rw [hlen]
  refine ⟨.ref s.heap.objs.size, _, I.laid (t' := s.toks) (o := .tup (cutV xs lo hi)) (fun b ob q => Heap.get?_push_of_some _ q) (Nat.le_refl _) ?_, rfl, q _ (I.hok.fresh (Nat.le_refl _))⟩
  exact ⟨Nat.le_trans (cutV_length xs lo hi) hz, _, (r.drop (HT.sIx xs.length 0 lo)).take (HT.sIx xs.length xs.length hi - HT.sIx xs.length 0 lo), IsTup.new _ _⟩

end
end L2

namespace L2
open PySem PySem.Spec PyProof.Rows

noncomputable def ixN (n : Nat) (i : Int) : Option Nat := if 0 ≤ i then (if i < n then some i.toNat else none) else if -(n : Int) ≤ i then some (i + n).toNat else none
noncomputable def atI {α : Type} (xs : List α) (i : Int) : Option α := (ixN xs.length i).bind fun j => xs[j]?
theorem ixN_seq {n : Nat} {i : Int} {j : Nat} (h : ixN n i = some j) : seqIndex? i n = some j ∧ j < n ∧ -(n : Int) ≤ i ∧ i < n := by
  unfold ixN at h
  by_cases h0 : 0 ≤ i
  · rw [if_pos h0] at h
    by_cases h1 : i < n
    · rw [if_pos h1] at h
      have e : i.toNat = j := Option.some.inj h
      exact ⟨by rw [seqIndex_of h0 h1, e], by omega, by omega, h1⟩
    · rw [if_neg h1] at h; cases h
  · rw [if_neg h0] at h
    by_cases h1 : -(n : Int) ≤ i
    · rw [if_pos h1] at h
      have e : (i + n).toNat = j := Option.some.inj h
      exact ⟨by rw [seqIndex_neg (by omega) h1, e], by omega, h1, by omega⟩
    · rw [if_neg h1] at h; cases h
theorem atI_get {α : Type} {xs : List α} {i : Int} {v : α} (h : atI xs i = some v) : ∃ j, seqIndex? i xs.length = some j ∧ xs[j]? = some v ∧ j < xs.length ∧ -(xs.length : Int) ≤ i ∧ i < xs.length := by
  unfold atI at h
  cases e : ixN xs.length i with
  | none => rw [e] at h; cases h
  | some j =>
    rw [e] at h
    obtain ⟨h1, h2, h3, h4⟩ := ixN_seq e
    exact ⟨j, h1, h, h2, h3, h4⟩
theorem atI_nat {α : Type} {xs : List α} {j : Nat} {v : α} (h : xs[j]? = some v) : atI xs (j : Int) = some v := by
  have hj : j < xs.length := (List.getElem?_eq_some_iff.mp h).1
  have e : ixN xs.length (j : Int) = some j := by
    unfold ixN
    rw [if_pos (by omega), if_pos (by omega)]; simp
  unfold atI; rw [e]; exact h
theorem atI_last {α : Type} (xs : List α) (v : α) : atI (xs ++ [v]) (-1) = some v := by
  have hl : (xs ++ [v]).length = xs.length + 1 := by simp
  have e : ixN (xs ++ [v]).length (-1) = some xs.length := by
    unfold ixN
    rw [hl, if_neg (by decide), if_pos (by omega)]
    congr 1
    omega
  unfold atI
  rw [e]
  show (xs ++ [v])[xs.length]? = some v
  simp

noncomputable def PlainIx (b : Expr) : Prop := ∀ o i, subscripted b false o i = operate [o, i] (getItem o i)
noncomputable def IxR (X : Cx) (r : R2) : Prop :=
  ∀ (value slice : Expr) (pins : List (Addr × Obj)) (s : Shared) (σ : St) (H : Hp) (x y : V) (v u : Value) (Q : VK), Inv X pins σ H s → RelV x v → RelV y u → r x y H Q →
    subscripted slice false v u = operate [v, u] (getItem v u) → wpAny (model X.prog X.w) X.A (subscriptTail value slice v u) (EP X pins σ Q) X.xe s
noncomputable def MtR (X : Cx) (id : String) (r : V → List V → Hp → VK → Prop) : Prop :=
  ∀ (pins : List (Addr × Obj)) (s : Shared) (σ : St) (H : Hp) (x : V) (xs : List V) (v : Value) (us : List Value) (Q : VK), Inv X pins σ H s → RelV x v → Vals xs us → r x xs H Q →
    wpAny (model X.prog X.w) X.A (call (.builtin id) (v :: us)) (EP X pins σ Q) X.xe s
section
variable {X : Cx} {a b : Expr} {ta tb : TE} {pos : Pos}
theorem IxR.or {r r' : R2} (h : IxR X r) (h' : IxR X r') : IxR X (fun x y H Q => r x y H Q ∨ r' x y H Q) := by
  intro value slice pins s σ H x y v u Q I rx ry q hs
  rcases q with q | q
  · exact h value slice pins s σ H x y v u Q I rx ry q hs
  · exact h' value slice pins s σ H x y v u Q I rx ry q hs
theorem MtR.or {id : String} {r r' : V → List V → Hp → VK → Prop} (h : MtR X id r) (h' : MtR X id r') : MtR X id (fun x xs H Q => r x xs H Q ∨ r' x xs H Q) := by
  intro pins s σ H x xs v us Q I rx rs q
  rcases q with q | q
  · exact h pins s σ H x xs v us Q I rx rs q
  · exact h' pins s σ H x xs v us Q I rx rs q
theorem pe_ix {r : R2} (hr : IxR X r) (ha : PE X a ta) (hb : PE X b tb) (hs : PlainIx b) : PE X (.Subscript a b pos) (tOp r ta tb) := by
  intro pins s σ H Q I h
  exact Subscript_ (binT ha hb I h fun v u s2 x y H2 I2 rx ry q => hr a b pins s2 σ H2 x y v u Q I2 rx ry q (hs _ _))

noncomputable def rIxL (K : PySem.W.Frag) : R2 := fun x y H Q => ∃ p xs i v, x = .ref p ∧ y = .int i ∧ SqL K H p xs ∧ atI xs i = some v ∧ Q v H
noncomputable def rIxT (K : PySem.W.Frag) : R2 := fun x y H Q => ∃ p xs i v, x = .ref p ∧ y = .int i ∧ SqT K H p xs ∧ atI xs i = some v ∧ Q v H
noncomputable def rIxS : R2 := fun x y H Q => ∃ z i c, x = .str z ∧ y = .int i ∧ z.length ≤ sizeLine ∧ atI z.cps.toList i = some c ∧ Q (.str ⟨#[c]⟩) H
theorem ix_list : IxR X (rIxL X.K) := by
  intro value slice pins s σ H x y v u Q I rx ry h hs
  obtain ⟨p, xs, i, z, rfl, rfl, hq, he, q⟩ := h
  cases rx
  obtain ⟨t, rfl⟩ := ry
  obtain ⟨its, r, pl, hz⟩ := I.list hq
  obtain ⟨j, h1, h2, h3, h4, h5⟩ := atI_get he
  obtain ⟨w, ew, rw'⟩ := r.get h2
  have hl := r.length
  have hn := line63
  have fin : EP X pins σ Q w s := ⟨z, H, I, rw', q⟩
  by_cases h0 : 0 ≤ i
  · have hj : i.toNat = j := by
      rw [seqIndex_of h0 h5] at h1
      exact Option.some.inj h1
    exact item_listR pl.isList h0 (by omega) (by rw [hj]; simpa using ew) fin hs
  · have hj : (i + (its.toArray.size : Int)).toNat = j := by
      rw [seqIndex_neg (by omega) h4] at h1
      rw [List.size_toArray, ← hl]
      exact Option.some.inj h1
    exact subscriptTail_builtinR (x := w) pl.isList.typeIs slot_list_getitem.lookup
      (wpAny_getItem_list_neg (Q := fun r s' => r = w ∧ EP X pins σ Q r s') pl.isList (by omega) (by rw [List.size_toArray] <;> omega) (by omega) (by rw [hj]; simpa using ew) ⟨rfl, fin⟩) hs
theorem ix_tup : IxR X (rIxT X.K) := by
  intro value slice pins s σ H x y v u Q I rx ry h hs
  obtain ⟨p, xs, i, z, rfl, rfl, hq, he, q⟩ := h
  cases rx
  obtain ⟨t, rfl⟩ := ry
  obtain ⟨its, r, pl, hz⟩ := I.tuple hq
  obtain ⟨j, h1, h2, h3, h4, h5⟩ := atI_get he
  obtain ⟨w, ew, rw'⟩ := r.get h2
  have hl := r.length
  have hn := line63
  have fin : EP X pins σ Q w s := ⟨z, H, I, rw', q⟩
  exact subscriptTail_builtinR (x := w) pl.typeIs slot_tuple_getitem.lookup
    (getItem_tuple (j := j) (Q := fun r s' => r = w ∧ EP X pins σ Q r s') pl (by omega) (by omega) (by rw [List.size_toArray, ← hl]; exact h1) (by simpa using ew) ⟨rfl, fin⟩) hs
theorem ix_str : IxR X rIxS := by
  intro value slice pins s σ H x y v u Q I rx ry h hs
  obtain ⟨z, i, c, rfl, rfl, hz, he, q⟩ := h
  obtain ⟨t, rfl⟩ := rx
  obtain ⟨t', rfl⟩ := ry
  obtain ⟨j, h1, h2, h3, h4, h5⟩ := atI_get he
  have hl : z.cps.toList.length = z.length := by simp [Str.length]
  rw [hl] at h1 h4 h5
  have hn := line63
  exact tail_any (typeIs_str s z t) slot_str_getitem.lookup (getItem_str (c := c) (by
    have e1 : decide (i < -(2 ^ 63 : Int)) = false := decide_eq_false (by omega)
    have e2 : decide (i ≥ 2 ^ 63) = false := decide_eq_false (by omega)
    rw [e1, e2, Bool.or_false]) (by rw [h1]; simpa using h2) ⟨.str ⟨#[c]⟩, H, I.tok _, ⟨_, rfl⟩, q⟩) hs
theorem mapSeq_set (its : List Value) (n j : Nat) (u : Value) : Obj.mapSeq (·.setIfInBounds j u) { cls := .type "list", data := .seq its.toArray n } = { cls := .type "list", data := .seq (its.set j u).toArray n } := by
  simp [Obj.mapSeq]
theorem Inv.lst {pins : List (Addr × Obj)} {σ : St} {H : Hp} {s : Shared} {p : Addr} {xs : List V} (I : Inv X pins σ H s) (h : H p = some (.lst xs)) :
    ∃ (its : List Value) (n : Nat), Vals xs its ∧ s.heap.get? p = some { cls := .type "list", data := .seq its.toArray n } ∧ xs.length ≤ sizeLine := by
  obtain ⟨z, its, n, r, e⟩ := I.hok p _ h
  exact ⟨its, n, r, e, z⟩
theorem Inv.lstUpd {pins : List (Addr × Obj)} {σ : St} {H : Hp} {s : Shared} {p : Addr} {xs ys : List V} {its its' : List Value} {n n' : Nat} {f : Obj → Obj} (I : Inv X pins σ H s) (h : H p = some (.lst xs))
    (ho : s.heap.get? p = some { cls := .type "list", data := .seq its.toArray n }) (hf : f { cls := .type "list", data := .seq its.toArray n } = { cls := .type "list", data := .seq its'.toArray n' }) (r : Vals ys its') (hz : ys.length ≤ sizeLine) (t : Nat) :
    Inv X pins σ (upd H p (.lst ys)) { s with heap := s.heap.update p f, toks := t } := by
  have e : (s.heap.update p f).get? p = some { cls := .type "list", data := .seq its'.toArray n' } := by
    rw [Heap.get?_update_self f ho (by rw [hf] <;> rfl), hf]
  refine I.write (x := p) (e := p) (by rw [h]; trivial) (.inl rfl) (fun b u hb q => (Heap.get?_update_other _ _ (Ne.symm hb)).trans q) ⟨_, e⟩ ?_
  exact ⟨hz, its', n', r, e⟩
noncomputable def rSetL : V → V → V → Hp → (Hp → Prop) → Prop := fun o i v H Q => ∃ p xs k j, o = .ref p ∧ i = .int k ∧ H p = some (.lst xs) ∧ ixN xs.length k = some j ∧ Q (upd H p (.lst (xs.set j v)))
theorem set_list : PSet X rSetL := by
  intro pins s σ H o i v ov iv u Q I ro ri rv h
  obtain ⟨p, xs, k, j, rfl, rfl, hp, hj, q⟩ := h
  cases ro
  obtain ⟨t, rfl⟩ := ri
  obtain ⟨its, n, r, ho, hz⟩ := I.lst hp
  obtain ⟨h1, h2, h3, h4⟩ := ixN_seq hj
  have hl := r.length
  have hn := line63
  have I' : Inv X pins σ (upd H p (.lst (xs.set j v))) { s with heap := s.heap.update p (Obj.mapSeq (·.setIfInBounds j u)) } :=
    I.lstUpd hp ho (mapSeq_set its n j u) (r.set rv j) (by rw [List.length_set]; exact hz) s.toks
  by_cases h0 : 0 ≤ k
  · have hk : k.toNat = j := by
      rw [seqIndex_of h0 h4] at h1
      exact Option.some.inj h1
    exact PySem.W.ki_setAt ho h0 (by omega) (by rw [List.size_toArray, ← hl]; exact h4) (by rw [hk]; exact ⟨_, I', q⟩)
  · have hk : (k + (its.toArray.size : Int)).toNat = j := by
      rw [seqIndex_neg (by omega) h3] at h1
      rw [List.size_toArray, ← hl]
      exact Option.some.inj h1
    exact PySem.W.ki_setBack ho (by omega) (by rw [List.size_toArray, ← hl]; exact h3) (by omega) (by rw [hk]; exact ⟨_, I', q⟩)

theorem slice_bounds (lo hi : Option Int) (n : Nat) : (sliceBounds lo hi none n).1 = ((HT.sIx n 0 lo : Nat) : Int) ∧ (sliceBounds lo hi none n).2.1 = ((HT.sIx n n hi : Nat) : Int) ∧ (sliceBounds lo hi none n).2.2 = 1 := by
  refine ⟨?_, ?_, rfl⟩
  · cases lo with
    | none => simp [sliceBounds, HT.sIx]
    | some i =>
      simp only [sliceBounds, HT.sIx, Option.getD_none, show (1 : Int) > 0 by decide, if_true]
      by_cases h : i < 0
      · simp only [h, if_true] <;> omega
      · simp only [h, if_false] <;> omega
  · cases hi with
    | none => simp [sliceBounds, HT.sIx]
    | some i =>
      simp only [sliceBounds, HT.sIx, Option.getD_none, show (1 : Int) > 0 by decide, if_true]
      by_cases h : i < 0
      · simp only [h, if_true] <;> omega
      · simp only [h, if_false] <;> omega
theorem slicePick_cut (its : List Value) (lo hi : Option Int) : slicePick its.toArray lo hi none = ((its.drop (HT.sIx its.length 0 lo)).take (HT.sIx its.length its.length hi - HT.sIx its.length 0 lo)).toArray := by
  obtain ⟨h1, h2, h3⟩ := slice_bounds lo hi its.toArray.size
  unfold slicePick
  rw [h1, h2, h3]
  simp only [sliceRange_one, pick_run, List.size_toArray] <;> rfl
noncomputable def rSlL (K : PySem.W.Frag) : V → Option Int → Option Int → Hp → VK → Prop := fun x lo hi H Q => ∃ a xs, x = .ref a ∧ SqL K H a xs ∧ ∀ p, H p = none → Q (.ref p) (upd H p (.lst (cutV xs lo hi)))
theorem sl_list : SlR X (rSlL X.K) := by
  intro pins s σ H x v vl vu lo hi sl Q I rx hs pl pu h
  obtain ⟨a, xs, rfl, hx, q⟩ := h
  cases rx
  obtain ⟨its, r, ht, hz⟩ := I.list hx
  have hlen := r.length
  refine ⟨"list", _, slot_list_getitem.lookup, ht.isList.typeIs, ?_⟩
  refine wpAny_getItem_list_slice ht.isList hs pl pu .none (by simp) ?_ (by rw [List.size_toArray] <;> omega)
  rw [slicePick_cut, ← hlen]
  refine ⟨.ref s.heap.objs.size, _, I.laid (t' := s.toks) (o := .lst (cutV xs lo hi)) (fun b ob q => Heap.get?_push_of_some _ q) (Nat.le_refl _) ?_, rfl, q _ (I.hok.fresh (Nat.le_refl _))⟩
  exact ⟨Nat.le_trans (cutV_length xs lo hi) hz, _, 0, (r.drop (HT.sIx xs.length 0 lo)).take (HT.sIx xs.length xs.length hi - HT.sIx xs.length 0 lo), Heap.get?_push_size _ rfl⟩

noncomputable def flatV : V → Bool
  | .non => true
  | .bl _ => true
  | .int _ => true
  | .str _ => true
  | _ => false
noncomputable def eqV : V → V → Bool
  | .non, .non => true
  | .bl a, .bl b => a == b
  | .bl a, .int b => (if a then 1 else 0) == b
  | .int a, .bl b => a == (if b then 1 else 0)
  | .int a, .int b => a == b
  | .str a, .str b => a == b
  | _, _ => false
theorem eqAt_V {A : Around} {s : Shared} {y x : V} {u v : Value} (ry : RelV y u) (rx : RelV x v) (fy : flatV y = true) (fx : flatV x = true) : SeqAt.EqAt A s u v (eqV y x) := by
  cases y with
  | non =>
    cases ry
    cases x with
    | non => cases rx; exact SeqAt.EqAt.same _
    | bl b => cases rx; exact SeqAt.EqAt.none_bool b
    | int b => obtain ⟨t, rfl⟩ := rx; exact SeqAt.EqAt.none_int b t
    | str b => obtain ⟨t, rfl⟩ := rx; exact SeqAt.EqAt.none_str b t
    | _ => exact absurd (show false = true from fx) Bool.false_ne_true
  | bl a =>
    cases ry
    cases x with
    | non => cases rx; exact SeqAt.EqAt.bool_none a
    | bl b => cases rx; exact SeqAt.EqAt.bool_bool a b
    | int b => obtain ⟨t, rfl⟩ := rx; exact SeqAt.EqAt.bool_int a b t
    | str b => obtain ⟨t, rfl⟩ := rx; exact SeqAt.EqAt.bool_str a b t
    | _ => exact absurd (show false = true from fx) Bool.false_ne_true
  | int a =>
    obtain ⟨t', rfl⟩ := ry
    cases x with
    | non => cases rx; exact SeqAt.EqAt.int_none a t'
    | bl b => cases rx; exact SeqAt.EqAt.int_bool a t' b
    | int b => obtain ⟨t, rfl⟩ := rx; exact SeqAt.EqAt.int_int a t' b t
    | str b => obtain ⟨t, rfl⟩ := rx; exact SeqAt.EqAt.int_str a t' b t
    | _ => exact absurd (show false = true from fx) Bool.false_ne_true
  | str a =>
    obtain ⟨t', rfl⟩ := ry
    cases x with
    | non => cases rx; exact SeqAt.EqAt.str_none a t'
    | bl b => cases rx; exact SeqAt.EqAt.str_bool a t' b
    | int b => obtain ⟨t, rfl⟩ := rx; exact SeqAt.EqAt.str_int a t' b t
    | str b => obtain ⟨t, rfl⟩ := rx; exact SeqAt.EqAt.str_str a t' b t
    | _ => exact absurd (show false = true from fx) Bool.false_ne_true
  | _ => exact absurd (show false = true from fy) Bool.false_ne_true
noncomputable def eqU (x : V) (u : Value) : Bool := match u with
  | .none => eqV .non x
  | .bool b => eqV (.bl b) x
  | .int i _ => eqV (.int i) x
  | .str z _ => eqV (.str z) x
  | _ => false
theorem eqU_of {x y : V} {u : Value} (r : RelV y u) (f : flatV y = true) : eqU x u = eqV y x := by
  cases y with
  | non => cases r; rfl
  | bl b => cases r; rfl
  | int i => obtain ⟨t, rfl⟩ := r; rfl
  | str z => obtain ⟨t, rfl⟩ := r; rfl
  | _ => exact absurd (show false = true from f) Bool.false_ne_true
theorem any_eqU {x : V} : ∀ {xs : List V} {us : List Value}, Vals xs us → xs.all flatV = true → us.any (eqU x) = xs.any fun y => eqV y x
  | _, _, .nil, _ => rfl
  | y :: xs, u :: us, .cons r t, f => by
    rw [List.all_cons, Bool.and_eq_true] at f
    rw [List.any_cons, List.any_cons, eqU_of r f.1, any_eqU t f.2]
theorem mem_eqAt {A : Around} {s : Shared} {x : V} {v : Value} (rx : RelV x v) (fx : flatV x = true) : ∀ {xs : List V} {us : List Value}, Vals xs us → xs.all flatV = true → ∀ u ∈ us, SeqAt.EqAt A s u v (eqU x u)
  | _, _, .nil, _ => fun u hu => by cases hu
  | y :: xs, u :: us, .cons r t, f => fun u' hu => by
    rw [List.all_cons, Bool.and_eq_true] at f
    rcases List.mem_cons.mp hu with rfl | hu
    · rw [eqU_of r f.1]; exact eqAt_V r rx f.1 fx
    · exact mem_eqAt rx fx t f.2 u' hu
noncomputable def inV (x : V) (xs : List V) : Bool := xs.any fun y => eqV y x
noncomputable def rIn (K : PySem.W.Frag) (neg : Bool) : R2 := fun x y H Q => ∃ p xs, y = .ref p ∧ (SqL K H p xs ∨ SqT K H p xs) ∧ flatV x = true ∧ xs.all flatV = true ∧ Q (.bl (if neg then !inV x xs else inV x xs)) H
theorem op_notIn_seq : OpR X (compareOp .NotIn) (rIn X.K true) := by
  intro pins s σ H x y v u Q I rx ry h
  obtain ⟨p, xs, rfl, hq, fx, fs, q⟩ := h
  cases ry
  rcases hq with hq | hq
  · obtain ⟨its, r, pl, hz⟩ := I.list hq
    refine SeqAt.notIn_listAt (eqU x) pl.isList (fun w hw => mem_eqAt rx fx r fs w (by simpa using hw)) ⟨.bl _, H, I, rfl, ?_⟩
    rw [show its.toArray.any (eqU x) = its.any (eqU x) by simp, any_eqU r fs]
    exact q
  · obtain ⟨its, r, pl, hz⟩ := I.tuple hq
    refine SeqAt.notIn_tupleAt (eqU x) pl (fun w hw => mem_eqAt rx fx r fs w (by simpa using hw)) ⟨.bl _, H, I, rfl, ?_⟩
    rw [show its.toArray.any (eqU x) = its.any (eqU x) by simp, any_eqU r fs]
    exact q
theorem call_len_seq : CallR X (.builtin "len") (fun xs H Q => ∃ p ys, xs = [.ref p] ∧ (SqL X.K H p ys ∨ SqT X.K H p ys) ∧ Q (.int ys.length) H) := by
  intro pins s σ H xs us Q I r h
  obtain ⟨p, ys, rfl, hq, q⟩ := h
  obtain ⟨u, rfl, rx⟩ := vals1 r
  cases rx
  have hn := line63
  rcases hq with hq | hq
  · obtain ⟨its, r', pl, hz⟩ := I.list hq
    have hlen := r'.length
    exact Calls.call_len_list pl.isList (by simp only [List.size_toArray] <;> omega) ⟨.int ys.length, H, I.tok _, ⟨s.toks + 1, by rw [List.size_toArray, hlen]⟩, q⟩
  · obtain ⟨its, r', pl, hz⟩ := I.tuple hq
    have hlen := r'.length
    exact len_tuple pl (by simp only [List.size_toArray] <;> omega) ⟨.int ys.length, H, I.tok _, ⟨s.toks + 1, by rw [List.size_toArray, hlen]⟩, q⟩
theorem call_len_str : CallR X (.builtin "len") (fun xs H Q => ∃ z, xs = [.str z] ∧ z.length ≤ sizeLine ∧ Q (.int z.length) H) := by
  intro pins s σ H xs us Q I r h
  obtain ⟨z, rfl, hz, q⟩ := h
  obtain ⟨u, rfl, t, rfl⟩ := vals1 r
  have hn := line63
  exact len_str (by omega) ⟨.int z.length, H, I.tok _, ⟨_, rfl⟩, q⟩
theorem CallR.or {f : Value} {r r' : List V → Hp → VK → Prop} (h : CallR X f r) (h' : CallR X f r') : CallR X f (fun xs H Q => r xs H Q ∨ r' xs H Q) := by
  intro pins s σ H xs us Q I rs q
  rcases q with q | q
  · exact h pins s σ H xs us Q I rs q
  · exact h' pins s σ H xs us Q I rs q
theorem call_list_of : CallR X (.type "list") (fun xs H Q => ∃ p ys, xs = [.ref p] ∧ (SqL X.K H p ys ∨ SqT X.K H p ys) ∧ ∀ l, H l = none → Q (.ref l) (upd H l (.lst ys))) := by
  intro pins s σ H xs us Q I r h
  obtain ⟨p, ys, rfl, hq, q⟩ := h
  obtain ⟨u, rfl, rx⟩ := vals1 r
  cases rx
  have fin : ∀ (its : List Value), Vals ys its → ys.length ≤ sizeLine → ∀ (h' : Heap) (c' : Nat), (∀ b o', s.heap.get? b = some o' → h'.get? b = some o') →
      h'.get? s.heap.objs.size = some { cls := .type "list", dict := none, data := .seq its.toArray c', slots := #[] } → EP X pins σ Q (.ref s.heap.objs.size) { s with heap := h' } := fun its r' hz h' c' kp e =>
    ⟨.ref s.heap.objs.size, _, I.laid (t' := s.toks) kp (Nat.le_refl _) (show ObjOk X.prog X.w _ h' _ (.lst ys) from ⟨hz, its, c', r', e⟩), rfl, q _ (I.hok.fresh (Nat.le_refl _))⟩
  rcases hq with hq | hq
  · obtain ⟨its, r', pl, hz⟩ := I.list hq
    have hlen := r'.length
    obtain ⟨o, ho, hc, n, hd⟩ := pl.isList
    exact call_list_seq p (.inl rfl) ho hc hd (fun h' c' kp e => fin its r' hz h' c' kp e) (by simp only [List.size_toArray] <;> omega)
  · obtain ⟨its, r', pl, hz⟩ := I.tuple hq
    have hlen := r'.length
    obtain ⟨o, ho, hc, n, hd⟩ := pl
    exact call_list_seq p (.inr rfl) ho hc hd (fun h' c' kp e => fin its r' hz h' c' kp e) (by simp only [List.size_toArray] <;> omega)
theorem call_tuple_of : CallR X (.type "tuple") (fun xs H Q => ∃ p ys, xs = [.ref p] ∧ ((SqL X.K H p ys ∧ ∀ l, H l = none → Q (.ref l) (upd H l (.tup ys))) ∨ (SqT X.K H p ys ∧ Q (.ref p) H))) := by
  intro pins s σ H xs us Q I r h
  obtain ⟨p, ys, rfl, h⟩ := h
  obtain ⟨u, rfl, rx⟩ := vals1 r
  cases rx
  rcases h with ⟨hq, q⟩ | ⟨hq, q⟩
  · obtain ⟨its, r', pl, hz⟩ := I.list hq
    have hlen := r'.length
    refine call_tuple_list pl.isList (fun h' kp => ?_) (by simp only [List.size_toArray] <;> omega)
    have I1 : Inv X pins σ H { s with heap := h' } := I.kept (t' := s.toks) kp
    have I2 : Inv X pins σ (upd H h'.objs.size (.tup ys)) { s with heap := h'.push { cls := .type "tuple", data := .seq its.toArray } } :=
      I1.laid (t' := s.toks) (fun b o e => Heap.get?_push_of_some _ e) (Nat.le_refl _) (show ObjOk X.prog X.w _ _ _ (.tup ys) from ⟨hz, its, r', IsTup.new _ _⟩)
    exact ⟨.ref h'.objs.size, _, I2, rfl, q _ (I1.hok.fresh (Nat.le_refl _))⟩
  · obtain ⟨its, r', pl, hz⟩ := I.tuple hq
    exact call_tuple_same pl ⟨.ref p, H, I, rfl, q⟩

noncomputable def tyV (K : PySem.W.Frag) (T : String) (x : V) (H : Hp) : Prop := match x with
  | .str _ => T = "str"
  | .int _ => T = "int"
  | .ref p => (T = "list" ∧ ∃ xs, SqL K H p xs) ∨ (T = "tuple" ∧ ∃ o, K.lookup p = some o ∧ o.cls = .type "tuple" ∧ o.dict = none) ∨
      (T = "dict" ∧ ((∃ kvs, H p = some (.dK kvs)) ∨ ∃ kvs, H p = some (.dT kvs))) ∨ (T = "set" ∧ ∃ S n, H p = some (.set S n))
  | _ => False
theorem tyV_is {pins : List (Addr × Obj)} {σ : St} {H : Hp} {s : Shared} {T : String} {x : V} {v : Value} (I : Inv X pins σ H s) (r : RelV x v) (ty : tyV X.K T x H) :
    s.TypeIs v T ∧ ∀ a, v = .ref a → ∃ ob, s.heap.get? a = some ob ∧ ob.dict = none := by
  cases x with
  | str z =>
    obtain ⟨t, rfl⟩ := r
    cases (show T = "str" from ty)
    exact ⟨typeIs_str s z t, fun _ e => nomatch e⟩
  | int i =>
    obtain ⟨t, rfl⟩ := r
    cases (show T = "int" from ty)
    exact ⟨typeIs_int s i t, fun _ e => nomatch e⟩
  | ref p =>
    cases r
    rcases ty with ⟨rfl, xs, hq⟩ | ⟨rfl, o, hk, hc, hd⟩ | ⟨rfl, hk⟩ | ⟨rfl, S, n, hk⟩
    · obtain ⟨its, _, pl, _⟩ := I.list hq
      refine ⟨pl.isList.typeIs, fun a e => ?_⟩
      cases e
      obtain ⟨o, n, e, c, hd, _⟩ := pl
      exact ⟨o, e, hd⟩
    · refine ⟨⟨o, I.kIn p o hk, hc⟩, fun a e => ?_⟩
      cases e
      exact ⟨o, I.kIn _ o hk, hd⟩
    · have z : ∃ o, s.heap.get? p = some o ∧ o.ExactDict := by
        rcases hk with ⟨kvs, hk⟩ | ⟨kvs, hk⟩
        · obtain ⟨_, _, _, _, o, _, _, e, ex, _⟩ := I.hok p _ hk
          exact ⟨o, e, ex⟩
        · obtain ⟨_, _, _, _, o, _, _, e, ex, _⟩ := I.hok p _ hk
          exact ⟨o, e, ex⟩
      obtain ⟨o, e, ex⟩ := z
      refine ⟨⟨o, e, ex.1⟩, fun a e2 => ?_⟩
      cases e2
      exact ⟨o, e, ex.2.1⟩
    · obtain ⟨o, _, _, _, e, ex, _⟩ := I.hok p _ hk
      refine ⟨⟨o, e, ex.1⟩, fun a e2 => ?_⟩
      cases e2
      exact ⟨o, e, ex.2.1⟩
  | _ => exact False.elim ty
noncomputable def tBM0 (K : PySem.W.Frag) (T : String) (r : V → List V → Hp → VK → Prop) (to : TE) : TE := fun σ H Q => to σ H fun x H1 => tyV K T x H1 ∧ r x [] H1 Q
noncomputable def tBM (K : PySem.W.Frag) (T : String) (r : V → List V → Hp → VK → Prop) (to : TE) (t : TA) : TE := fun σ H Q => to σ H fun x H1 => tyV K T x H1 ∧ t σ H1 fun xs H2 => r x xs H2 Q
variable {o e : Expr} {es : List Expr} {to : TE} {t : TA} {name : Str} {apos cpos : Pos} {T id : String} {r : V → List V → Hp → VK → Prop}
theorem pe_bm (pa : PlainAttrs T) (slot : Slot T name id) (hty : typeOf (.builtin id) = pure (.type "method_descriptor")) (hm : MtR X id r) (ho : PE X o to) (ha : PA X (e :: es) t)
    (hbase : attributeBase o name X.env (eval o X.env) = eval o X.env := by rfl)
    (hfew : ((backTo cpos (starEach (e :: es) X.env)).all (fun x => !x.1) && (backToKw cpos (keywordEach [] X.env)).all (fun x => x.1.isSome)
      && decide ((e :: es).length + ([] : List Keyword).length + (if ([] : List Keyword).isEmpty then 0 else 1) < 30)) = true := by rfl)
    (hline : (apos.endLine == cpos.line) = true := by rfl) (hs : starEach (e :: es) X.env = (false, eval e X.env) :: starEach es X.env := by rfl) (hplain : (backTo cpos (starEach es X.env)).any (·.1) = false := by rfl) :
    PE X (.Call (.Attribute o name apos) (e :: es) [] cpos) (tBM X.K T r to t) := by
  intro pins s σ H Q I h
  refine wpAny_Call_method_late hbase hfew hline rfl (thn (ho pins s σ H _ I h) fun v s1 ⟨x, H1, I1, r1, ty, q1⟩ => ?_)
  obtain ⟨h1, h2⟩ := tyV_is I1 r1 ty
  refine ⟨T, id, pa, slot, hty, h1, h2, ?_⟩
  have hA := ha cpos pins s1 σ H1 _ I1 q1
  rw [hs] at hA ⊢
  refine Calls.callWith_builtin (by show (false || (backTo cpos (starEach es X.env)).any (·.1)) = false; rw [hplain] <;> rfl) (Calls.evalArgs_plain ?_)
  exact thn hA fun us s2 ⟨vs, H2, I2, r2, q2⟩ => hm pins s2 σ H2 x vs v us Q I2 r1 r2 q2
end
end L2

namespace L2
open PySem PySem.Spec PyProof.Rows

noncomputable def MtM (X : Cx) (id : String) (r : V → List V → Hp → VK → Prop) : Prop :=
  ∀ (pins : List (Addr × Obj)) (s : Shared) (σ : St) (H : Hp) (x : V) (xs : List V) (v : Value) (us : List Value) (Q : VK), Inv X pins σ H s → RelV x v → Vals xs us → r x xs H Q →
    wpAny (model X.prog X.w) X.A (call (.builtin id) (v :: us)) (EP X pins σ Q) X.xe s

theorem Vals.one : ∀ {x : V} {us : List Value}, Vals [x] us → ∃ u, us = [u] ∧ RelV x u
  | _, _, .cons r .nil => ⟨_, rfl, r⟩
theorem Vals.two : ∀ {x y : V} {us : List Value}, Vals [x, y] us → ∃ u v, us = [u, v] ∧ RelV x u ∧ RelV y v
  | _, _, _, .cons r (.cons q .nil) => ⟨_, _, rfl, r, q⟩
theorem Vals.zero : ∀ {us : List Value}, Vals [] us → us = []
  | _, .nil => rfl
theorem Vals.dropLast {xs : List V} {us : List Value} (h : Vals xs us) : Vals xs.dropLast us.dropLast := by
  induction h with
  | nil => exact .nil
  | cons r t ih =>
    cases t with
    | nil => exact .nil
    | cons q t' => exact .cons r ih
theorem Vals.eraseIdx : ∀ {xs : List V} {us : List Value} (i : Nat), Vals xs us → Vals (xs.eraseIdx i) (us.eraseIdx i)
  | _, _, _, .nil => .nil
  | _, _, 0, .cons _ t => t
  | _, _, i + 1, .cons r t => .cons r (Vals.eraseIdx i t)
theorem Vals.reverse {xs : List V} {us : List Value} (h : Vals xs us) : Vals xs.reverse us.reverse := by
  induction h with
  | nil => exact .nil
  | cons r t ih => rw [List.reverse_cons, List.reverse_cons]; exact Vals.append ih (.cons r .nil)
theorem Vals.rep {xs : List V} {us : List Value} (h : Vals xs us) : ∀ k : Nat, Vals (List.replicate k xs).flatten (List.replicate k us).flatten
  | 0 => .nil
  | k + 1 => by
    rw [List.replicate_succ, List.replicate_succ, List.flatten_cons, List.flatten_cons]
    exact Vals.append h (Vals.rep h k)
theorem foldl_rep (its : List Value) : ∀ (k : Nat) (acc : List Value),
    List.foldl (fun x1 x2 => x1 ++ x2) acc.toArray (List.replicate k its.toArray) = (acc ++ (List.replicate k its).flatten).toArray
  | 0, acc => by simp
  | k + 1, acc => by
    have e : acc.toArray ++ its.toArray = (acc ++ its).toArray := by simp
    have e2 : (acc ++ its) ++ (List.replicate k its).flatten = acc ++ (List.replicate (k + 1) its).flatten := by
      rw [List.replicate_succ, List.flatten_cons, List.append_assoc]
    rw [← e2, ← foldl_rep its k (acc ++ its), ← e, List.replicate_succ, List.foldl_cons]

section
variable {X : Cx} {pins : List (Addr × Obj)} {σ : St} {H : Hp} {s : Shared} {l b : Addr} {xs ys zs : List V}

theorem Inv.lset {its its' : List Value} {n : Nat} {f : Array Value → Array Value} {t' : Nat} (I : Inv X pins σ H s) (hH : H l = some (.lst xs))
    (e : s.heap.get? l = some { cls := .type "list", data := .seq its.toArray n }) (hf : f its.toArray = its'.toArray) (hv : Vals ys its') (hz : ys.length ≤ sizeLine) :
    Inv X pins σ (upd H l (.lst ys)) { s with heap := s.heap.update l (Obj.mapSeq f), toks := t' } := by
  have q := PySem.IsL.update e f
  rw [hf] at q
  refine I.write (x := l) (e := l) (by rw [hH]; exact trivial) (.inl rfl) (fun b' u hb hu => (Heap.get?_update_other s.heap (Obj.mapSeq f) (Ne.symm hb)).trans hu) ⟨_, q⟩ ?_
  exact ⟨hz, its', _, hv, q⟩
theorem Inv.lnew {its : List Value} {t' : Nat} (I : Inv X pins σ H s) (hv : Vals ys its) (hz : ys.length ≤ sizeLine) :
    Inv X pins σ (upd H s.heap.objs.size (.lst ys)) { s with heap := s.heap.push { cls := .type "list", data := .seq its.toArray }, toks := t' } :=
  I.laid (fun _ _ q => Heap.get?_push_of_some _ q) (Nat.le_refl _) ⟨hz, its, 0, hv, Heap.get?_push_size _ rfl⟩
theorem Inv.fresh (I : Inv X pins σ H s) : H s.heap.objs.size = none := I.hok.fresh (Nat.le_refl _)
theorem Inv.lstM (I : Inv X pins σ H s) (hH : H l = some (.lst xs)) : xs.length ≤ sizeLine ∧ ∃ (its : List Value) (n : Nat), Vals xs its ∧ xs.length = its.length ∧ s.heap.get? l = some { cls := .type "list", data := .seq its.toArray n } := by
  obtain ⟨z, its, n, r, e⟩ := I.hok l _ hH
  exact ⟨z, its, n, r, r.length, e⟩

theorem notLongL {n : Nat} (h : n ≤ sizeLine) : Builtin.List.listTooLong n = false := by
  unfold Builtin.List.listTooLong
  exact decide_eq_false (by omega)
end

section
variable {X : Cx}

noncomputable def rAppend : V → List V → Hp → VK → Prop := fun x vs H Q => ∃ l xs y, x = .ref l ∧ vs = [y] ∧ H l = some (.lst xs) ∧ xs.length < sizeLine ∧ Q .non (upd H l (.lst (xs ++ [y])))
theorem mt_append : MtM X "list.append" rAppend := by
  intro pins s σ H x vs v us Q I rx rv h
  obtain ⟨l, xs, y, rfl, rfl, hH, hz, q⟩ := h
  cases rx
  obtain ⟨u, rfl, ru⟩ := rv.one
  obtain ⟨z, its, n, r, hl, e⟩ := I.lstM hH
  refine call_meets F.slot_list_append ⟨_, e, rfl⟩ F.entry_list_append (F.args_list_append_2 _ _) (PySem.list_append l its.toArray n u (by rw [List.size_toArray]; omega)) ⟨e, ?_⟩
  refine ⟨.non, _, I.lset (its' := its ++ [u]) hH e (by simp) (r.append (.cons ru .nil)) ?_, rfl, q⟩
  rw [List.length_append, List.length_singleton]
  omega

noncomputable def rCat : R2 := fun x y H Q => ∃ l b xs zs, x = .ref l ∧ y = .ref b ∧ H l = some (.lst xs) ∧ H b = some (.lst zs) ∧ xs.length + zs.length ≤ sizeLine ∧ ∀ p, H p = none → Q (.ref p) (upd H p (.lst (xs ++ zs)))
theorem op_cat : OpR X (binaryOp .Add) rCat := by
  intro pins s σ H x y v u Q I rx ry h
  obtain ⟨l, b, xs, zs, rfl, rfl, hH, hB, hz, q⟩ := h
  cases rx
  cases ry
  obtain ⟨z, its, n, r, hl, e⟩ := I.lstM hH
  obtain ⟨z2, its2, n2, r2, hl2, e2⟩ := I.lstM hB
  refine PySem.P.add_list e e2 ?_ (by rw [List.size_toArray, List.size_toArray]; omega)
  have ea : its.toArray ++ its2.toArray = (its ++ its2).toArray := by simp
  rw [ea]
  exact ⟨.ref _, _, I.lnew (t' := s.toks) (r.append r2) (by rw [List.length_append]; omega), rfl, q _ I.fresh⟩
noncomputable def rRep : R2 := fun x y H Q => ∃ l k xs, x = .ref l ∧ y = .int k ∧ H l = some (.lst xs) ∧ -(2 ^ 63) ≤ k ∧ k < 2 ^ 63 ∧ xs.length * k.toNat ≤ sizeLine ∧
  ∀ p, H p = none → Q (.ref p) (upd H p (.lst (List.replicate k.toNat xs).flatten))
theorem len_rep {α : Type} (xs : List α) (k : Nat) : (List.replicate k xs).flatten.length = k * xs.length := by
  induction k with
  | zero => simp
  | succ k ih => rw [List.replicate_succ, List.flatten_cons, List.length_append, ih, Nat.succ_mul, Nat.add_comm]
theorem op_rep : OpR X (binaryOp .Mult) rRep := by
  intro pins s σ H x y v u Q I rx ry h
  obtain ⟨l, k, xs, rfl, rfl, hH, h1, h2, hz, q⟩ := h
  cases rx
  obtain ⟨t, rfl⟩ := ry
  obtain ⟨z, its, n, r, hl, e⟩ := I.lstM hH
  have hlen : its.toArray.size * k.toNat ≤ sizeLine := by rw [List.size_toArray, ← hl]; exact hz
  have hcap : ¬ its.toArray.size * k.toNat > (2 ^ 63 - 1) / 8 := by
    have : (sizeLine : Nat) ≤ (2 ^ 63 - 1) / 8 := by decide
    omega
  have hfit : ¬ (!Builtin.List.listFitsIndex k) = true := by
    rw [fitsIndex_both h1 h2]
    exact Bool.false_ne_true
  have hlong : ¬ Builtin.List.listTooLong (its.toArray.size * k.toNat) = true := by
    rw [notLongL hlen]
    exact Bool.false_ne_true
  have hnew : List.foldl (fun x1 x2 => x1 ++ x2) #[] (List.replicate (if its.toArray.isEmpty = true then 0 else k.toNat) its.toArray) = (List.replicate k.toNat its).flatten.toArray := by
    have f0 : ∀ m : Nat, List.foldl (fun x1 x2 => x1 ++ x2) #[] (List.replicate m its.toArray) = (List.replicate m its).flatten.toArray := fun m => by
      have := foldl_rep its m []
      rw [List.nil_append] at this
      exact this
    rw [f0]
    cases its with
    | nil => simp
    | cons a r' => rw [if_neg (by simp)]
  refine wpAny_binaryOp_repeat_ref (T := "list") (U := "int") (by decide) ⟨_, e, rfl⟩ (fun s' => typeIs_int s' k t) noFill_list_mul F.fills_int_mul F.slot_int_rmul repeat_list F.slot_int_index.lookup
    (call_meets F.slot_int_rmul (typeIs_int s k t) F.entry_int_rmul (F.args_int_rmul_2 _ _) (int___rmul___int_list k t l its.toArray n)
      ⟨e, rfl, ⟨_, e, rfl⟩, call_meets F.slot_list_mul ⟨_, e, rfl⟩ F.entry_list_mul (F.args_list_mul_2 _ _) (AutoListH.list___mul___list_int_3 l its.toArray n k t hfit hcap hlong) ⟨e, ?_⟩⟩)
  rw [hnew]
  exact ⟨.ref _, _, I.lnew (t' := s.toks) (r.rep k.toNat) (by rw [len_rep, Nat.mul_comm]; exact hz), rfl, q _ I.fresh⟩

end

section
variable {prog : Program} {w : World} {A : Around} {E : Value → Shared → Prop} {s : Shared}
set_option maxRecDepth 100000 in
end

section
variable {X : Cx}
end
end L2

namespace Att
open PySem PySem.W PySem.Calls PyProof.Rows

theorem ints_of_wellAll {P : Params} {h : Heap} : ∀ (ns : List Int) (vs : List Value), WellAll P h vs (ns.map WData.int) → IntsAre vs ns := by
  intro ns
  induction ns with
  | nil =>
    intro vs w
    rw [List.map_nil] at w
    cases w
    exact .nil
  | cons n ns ih =>
    intro vs w
    rw [List.map_cons] at w
    cases w with
    | cons a b =>
      cases a
      exact .cons _ _ (ih _ b)

theorem script_of {l : OpenLaw} {n : Nat} (hn : l.most = some n) {P : Params} {h : Heap} {args : List WData} {vals : List Value}
    (hpre : l.row.toRowW.claim.pre args = true) (hwl : WellAll P h vals args) :
    ∃ a vs ns, vals = [Value.ref a] ∧ args = [WData.list (ns.map WData.int)] ∧ h.get? a = some { cls := .type "list", data := .seq vs.toArray } ∧ IntsAre vs ns ∧ ns.length ≤ n := by
  have hsh : WShape.hasAll [] args [.list .int] = true := (pre_splitW hpre).1
  have hc : l.pre.holds [] { args := args } = true := (pre_splitW hpre).2
  obtain ⟨d, r, rfl, h1, h2⟩ := hasAllW_cons hsh
  obtain rfl := hasAllW_nil h2
  obtain ⟨xs, rfl, h3⟩ := hasW_list h1
  obtain ⟨ns, rfl⟩ := items_int h3
  have hlen : ns.length ≤ n := by
    unfold OpenLaw.pre at hc
    have h4 : (WTm.not (.lt (.lit (.int (n : Int))) (.len (.arg 0)))).holds [] { args := [.list (ns.map .int)] } = true := by
      have h4 := (holds_andW hc).1
      rw [hn] at h4
      exact h4
    have h5 := condW_of h4 (w_not (w_lt w_lit (w_len_list (w_arg rfl))))
    rw [List.length_map] at h5
    refine Nat.le_of_not_lt fun q => ?_
    have q' : (n : Int) < ((ns.length : Nat) : Int) := by omega
    first
      | (rw [decide_eq_true q'] at h5; exact absurd h5 (by decide))
      | (simp at h5; omega)
  cases hwl with
  | cons w1 w2 =>
    cases w2
    cases w1 with
    | list ho hall => exact ⟨_, _, ns, rfl, rfl, ho, ints_of_wellAll ns _ hall, hlen⟩

theorem post_true (l : OpenLaw) (args : List WData) : l.row.toRowW.claim.post args (.bool true) args = true :=
  postW_of (r := l.row.toRowW) (X := (true == true))
    (show WShape.has [] (.bool true) .bool = true by first | rfl | decide | simp [WShape.has, WShape.arms, WShape.armsAll])
    (show (WTm.eq .res (.lit (.bool true))).value [] { args := args, res := some (.bool true), after := args } = some (.bool (true == true)) from w_eq_bool (w_res rfl) w_lit) rfl

theorem attach_call {l : OpenLaw} {n : Nat} {q : Program} {loose : List Str} {XP : (Str → Option Value) → Heap → Prop} {YP : World → Heap → Prop} {d : DefRec}
    (hn : l.most = some n) (hdf : d.params.defaults = [])
    (call : ∀ (w : World) (s₀ s₁ : Shared) (mg mb : Str → Option Value) (fa : Addr) (o : Obj) (pm cd doc : Value) (a : Addr) (vs : List Value) (ns : List Int),
      Ground q loose [] XP w s₀ mg mb s₁.heap → YP w s₁.heap →
      s₁.heap.get? fa = some o → o.data = .func (docDef d.name d.params d.body d.scope pm cd doc) → s₁.heap.CodeRec cd d.name → mg d.name = some (.ref fa) →
      s₁.heap.get? a = some { cls := .type "list", data := .seq vs.toArray } → IntsAre vs ns → ns.length ≤ n → s₁.gens = #[] →
      codeAny (model l.prog w) callerA (.call (.ref fa) ⟨[.ref a], []⟩) (fun r s' => r = .ok (.ret (.bool true)) ∧ OldK s₁.heap s'.heap ∧ s'.os = s₁.os ∧ AllBare s'.gens) s₁) :
    WalkO q loose XP YP l.row.toRowW d [] (fun f vs => PySem.call f vs) := by
  intro w s₀ s₁ mg mb G Y fa o pm cd doc dV kV ho hd hcd hD hmg hg args vals as hpre hlay hrd hwl hlo
  obtain rfl : dV = .none := Dflts.none hD hdf
  obtain rfl : kV = .none := Dflts.noKw hD
  obtain ⟨a, vs, ns, rfl, rfl, hobj, hints, hlen⟩ := script_of hn hpre hwl
  refine enter_call (codeAny_mono (call w s₀ s₁ mg mb fa o pm cd doc a vs ns G Y ho (fd_plain hd) hcd hmg hobj hints hlen hg) fun r s' hq => ?_)
  obtain ⟨rfl, h2, h3, h4⟩ := hq
  exact ⟨.inl ⟨.bool true, .bool true, [], rfl, fun _ => rfl, .bool true, post_true l _, fun _ => ⟨List.Pairwise.nil, fun _ hm => (nomatch hm)⟩⟩, h2, h3, h4⟩

section
variable {prog : Program} {w : World} {A : Around} {E : Value → Shared → Prop} {s : Shared} {K : Frag}

noncomputable def ledger (h : Heap) (L d : Addr) : List (Addr × Obj) := (List.range h.objs.size).filterMap fun a => if a = L ∨ a = d then none else (h.get? a).map fun o => (a, o)
end
end Att

namespace L2
open PySem PySem.Spec PyProof.Rows

theorem vals_ints : ∀ {vs : List Value} {ns : List Int}, IntsAre vs ns → Vals (ns.map V.int) vs
  | _, _, .nil => .nil
  | _, _, .cons n t h => .cons ⟨t, rfl⟩ (vals_ints h)

noncomputable def Only (H : Hp) : Prop := ∀ b, H b = none ∨ ∃ o xs, H b = some (.frz o (.lst xs))

theorem law_call {P : Program} {w : World} {K : PySem.W.Frag} {mg mb : Str → Option Value} {CX : CXT} {k : Nat} {fa a : Addr} {fd : FuncData} {x : Str} {sp : Sp} {s₁ : Shared} {vs : List Value} {ns : List Int}
    (KX : K.In s₁.heap) (hns : s₁.heap.Ns mainGlobals mg) (hb : s₁.heap.Ns builtinsNs mb) (hbb : ∀ x : Str, x ≠ "__name__" → mb x = bootBuiltins x) (hlim : s₁.heap.NoLimit) (hg : s₁.gens = #[])
    (ha : s₁.heap.get? a = some { cls := .type "list", data := .seq vs.toArray }) (hi : IntsAre vs ns) (hl : ns.length ≤ sizeLine) (hr : Room k callerA)
    (F : ∀ base : Heap, K.In base → base.Ns mainGlobals mg → FnOk P w K mg base CX k fa fd [x] sp) (hbind : ∀ (s : Shared) (u : Value), BindsTo s fd ⟨[u], []⟩ [(x, u)])
    (hsp : ∀ H : Hp, Only H → SqL K H a (ns.map V.int) → sp [.ref a] H (fun v _ => v = .bl true) fun _ _ _ => False)
    (hCX : ∀ H e s', CX [] H s₁ (fun _ _ _ => False) e s' → False) :
    codeAny (model P w) callerA (.call (.ref fa) ⟨[.ref a], []⟩) (fun r s' => r = .ok (.ret (.bool true)) ∧ OldK s₁.heap s'.heap ∧ s'.os = s₁.os ∧ AllBare s'.gens) s₁ := by
  have rv := vals_ints hi
  have lenV := hi.length
  -- from an abstract heap in which nothing but the script may be tracked
  have core : ∀ H : Hp, Only H → SqL K H a (ns.map V.int) → HOk P w H s₁.heap → (∀ b, H b ≠ none → b = a) → (H a ≠ none → K.lookup a = none) →
      codeAny (model P w) callerA (.call (.ref fa) ⟨[.ref a], []⟩) (fun r s' => r = .ok (.ret (.bool true)) ∧ OldK s₁.heap s'.heap ∧ s'.os = s₁.os ∧ AllBare s'.gens) s₁ := by
    intro H hO hS hok hA hK
    have base_of : ∀ {b : Addr} {o : Obj}, s₁.heap.get? b = some o → H b = none → (hidT s₁.heap H).get? b = some o := fun e n => hidT_get e n
    have noA : ∀ {b : Addr} {o : Obj} {es : Array DictEntry} {ep : Nat}, s₁.heap.get? b = some o → o.data = .dict es ep → H b = none := fun {b o es ep} e d => by
      cases q : H b with
      | none => rfl
      | some u =>
        have e' : b = a := hA b (by rw [q]; simp)
        subst e'
        rw [ha] at e; cases e
        have d' : Data.seq vs.toArray _ = Data.dict es ep := d
        cases d'
    have nsK : ∀ {b : Addr} {m : Str → Option Value}, s₁.heap.Ns b m → (hidT s₁.heap H).Ns b m := fun {b m} ⟨o, es, ep, e, d, r⟩ => ⟨o, es, ep, base_of e (noA e d), d, r⟩
    have hKb : K.In (hidT s₁.heap H) := fun b o e => base_of (KX b o e) (by
      cases q : H b with
      | none => rfl
      | some u =>
        have e' : b = a := hA b (by rw [q]; simp)
        subst e'
        rw [hK (by rw [q]; simp)] at e; cases e)
    have hM : Mod K mg (hidT s₁.heap H) := ⟨hKb, nsK hns, ⟨mb, nsK hb, hbb⟩, let ⟨mc, h1, h2⟩ := hlim; ⟨mc, nsK h1, h2⟩⟩
    have e0 : Env0 P w K mg (hidT s₁.heap H) callerA [] s₁ H := ⟨rfl, hM, fun b o e => of_hidT e, Nat.le_of_eq (hidT_size _ _), trivial, fun b hb => absurd (show b ∈ ([] : List Addr) from hb) (by simp), hok, .of_eq hg⟩
    refine codeAny_mono ((F _ hKb (nsK hns)).run callerA [] s₁ H ⟨[.ref a], []⟩ [.ref a] [.ref a] _ _ hr e0 (hbind s₁ (.ref a)) (.cons rfl .nil) (hsp H hO hS)) fun r s' h => ?_
    cases r with
    | error e => exact (hCX H e s' h).elim
    | ok fl =>
      cases fl with
      | next => exact False.elim h
      | brk => exact False.elim h
      | cont => exact False.elim h
      | ret u =>
        obtain ⟨v, H', os, bare, un, hok', r', q⟩ := h
        have q' : v = .bl true := q
        subst q'
        obtain rfl : u = Value.bool true := r'
        refine ⟨rfl, OldK.of_keep fun b o e => ?_, os, bare⟩
        cases q : H b with
        | none => exact un.keep b o e q (by intro z; exact absurd (show b ∈ ([] : List Addr) from z) (by simp)) (by simp)
        | some u =>
          rcases hO b with z | ⟨ob, xs, z⟩
          · rw [q] at z; cases z
          · have z2 := un.frzs b ob _ z
            obtain ⟨e1, _⟩ := hok b _ z
            obtain ⟨e2, _⟩ := hok' b _ z2
            rw [e] at e1; cases e1
            exact e2
  cases hk : K.lookup a with
  | some o =>
    -- the script is one of the module's own objects
    have e := KX a o hk
    rw [ha] at e
    cases e
    refine core (fun _ => none) (fun _ => .inl rfl) (.inr ⟨_, vs.toArray, _, hk, rfl, rfl, rfl, by rw [List.size_toArray, lenV]; exact hl, by simpa using rv⟩) (fun b u z => by have z' : (none : Option HO) = some u := z; cases z') (fun b z => absurd rfl z) fun z => absurd rfl z
  | none =>
    refine core (fun b => if b = a then some (.frz { cls := .type "list", data := .seq vs.toArray } (.lst (ns.map V.int))) else none) (fun b => ?_) (.inl (.inr ⟨{ cls := .type "list", data := .seq vs.toArray }, if_pos rfl⟩)) (fun b u z => ?_) (fun b z => ?_) fun _ => hk
    · by_cases hb : b = a
      · exact .inr ⟨_, _, if_pos hb⟩
      · exact .inl (if_neg hb)
    · by_cases hb : b = a
      · have z' := (if_pos hb).symm.trans z
        cases z'
        subst hb
        exact ⟨ha, by rw [List.length_map]; exact hl, vs, _, rv, ha⟩
      · have z' := (if_neg hb).symm.trans z
        cases z'
    · by_cases hb : b = a
      · exact hb
      · exact absurd (if_neg hb) z
end L2

namespace L2
open PySem PySem.Spec PyProof.Rows

noncomputable abbrev KOf {K : PySem.W.Frag} {h : Heap} (_ : K.In h) : PySem.W.Frag := K

theorem walk_of {l : PySem.W.OpenLaw} {n k : Nat} {q : Program} {loose : List Str} {XP : (Str → Option Value) → Heap → Prop} {YP : World → Heap → Prop} {d : DefRec} {K : Params → PySem.W.Frag} {CX : World → CXT} {sp : World → Sp} {x : Str}
    (hn : l.most = some n) (hn2 : n ≤ sizeLine) (hdf : d.params.defaults = []) (hr : Room k callerA)
    (hY : ∀ (w : World) (h : Heap), YP w h → (K w.params).In h)
    (F : ∀ (w : World) (mg : Str → Option Value) (fa : Addr) (h : Heap), (K w.params).In h → h.Ns mainGlobals mg → mg d.name = some (.ref fa) →
      ∃ fd : FuncData, (∀ (s : Shared) (u : Value), BindsTo s fd ⟨[u], []⟩ [(x, u)]) ∧
        ∀ base : Heap, (K w.params).In base → base.Ns mainGlobals mg → FnOk l.prog w (K w.params) mg base (CX w) k fa fd [x] (sp w))
    (hsp : ∀ (w : World) (H : Hp) (a : Addr) (ns : List Int), ns.length ≤ n → Only H → SqL (K w.params) H a (ns.map V.int) → sp w [.ref a] H (fun v _ => v = .bl true) fun _ _ _ => False)
    (hCX : ∀ (w : World) (H : Hp) (s : Shared) (e : Value) (s' : Shared), CX w [] H s (fun _ _ _ => False) e s' → False) :
    PySem.W.WalkO q loose XP YP l.row.toRowW d [] (fun f vs => PySem.call f vs) := by
  refine Att.attach_call hn hdf fun w s₀ s₁ mg mb fa o pm cd doc a vs ns G Y ho hd hcd hmg hobj hints hlen hg => ?_
  have KX := hY w _ Y
  obtain ⟨fd, hb, hF⟩ := F w mg fa _ KX G.T.g hmg
  exact law_call KX G.T.g G.T.b G.T.builtins G.T.nolimit hg hobj hints (Nat.le_trans hlen hn2) hr hF hb (fun H hO hS => hsp w H a ns hlen hO hS) fun H e s' => hCX w H s₁ e s'
end L2


namespace L2
open PySem PySem.Spec PyProof.Rows

noncomputable def defArgs (s : Stmt) : Arguments := match s with
  | .FunctionDef _ a _ _ _ _ _ _ _ _ => a
  | _ => { posonlyargs := [], args := [], vararg := none, kwonlyargs := [], kw_defaults := [], kwarg := none, defaults := [] }
noncomputable def defBody (s : Stmt) : List Stmt := match s with
  | .FunctionDef _ _ b _ _ _ _ _ _ _ => b
  | _ => []
noncomputable def defScope (s : Stmt) : Scope := match s with
  | .FunctionDef _ _ _ _ _ _ sc _ _ _ => sc
  | _ => { kind := .function, names := [], isGenerator := false, isCoroutine := false }

noncomputable abbrev CX0 : CXT := fun _ _ _ _ _ _ => False
noncomputable abbrev E0 : XK := fun _ _ _ => False
theorem pass0 {X : Cx} : Passes CX0 X E0 := fun _ _ _ _ _ _ _ h => h.elim

structure Fun (K : PySem.W.Frag) (x qual : Str) (st : Stmt) (f : Addr) (fd : FuncData) : Prop where
  ex : ∃ (oc : Value) (od : Option Addr) (kV doc pm : Value) (an : Option Addr) (cdv ct : Value) (osl : Array (Option Value)),
    fd = PySem.W.fnOf x qual (defArgs st) (defBody st) (defScope st) .none kV doc pm an cdv ct ∧ K.lookup f = some ⟨oc, od, .func fd, osl⟩ ∧ PySem.W.codeIn K cdv qual = true
  kp : PySem.W.keepIn K (.ref f) = true
section
variable {P : Program} {w : World} {K : PySem.W.Frag} {mg : Str → Option Value} {base : Heap}
theorem Fun.ok {x qual : Str} {st : Stmt} {f : Addr} {fd : FuncData} {N ps : List Str} {k : Nat} {sp : Sp} (F : Fun K x qual st f fd) (S : FnScope N ps (defScope st)) (len : ∀ vs H Q E, sp vs H Q E → vs.length = ps.length)
    (hbody : ∀ (cdv : Value) (A : Around) (outer : List Env) (s : Shared) (H : Hp) (vs : List V) (Q : VK) (E : XK), Room k (A.deeper (envOfC qual (defScope st) s.heap.objs.size f cdv)) → sp vs H Q E →
      ∃ t, PSs (cxOf CX0 P w K mg base N qual (defScope st) f cdv A outer s H E).nox (defBody st) t ∧ t { nx := fun _ H' => Q .non H', rt := Q } (start N vs) H) : FnOk P w K mg base CX0 (k + 1) f fd ps sp := by
  obtain ⟨oc, od, kV, doc, pm, an, cdv, ct, osl, rfl, lk, hcd⟩ := F.ex
  refine fn_of lk hcd S len fun A outer s H vs Q E hr hsp => ?_
  obtain ⟨t, h, q⟩ := hbody cdv A outer s H vs Q E hr hsp
  exact ⟨t, h.nox, q⟩
theorem Fun.binds {x qual : Str} {st : Stmt} {f : Addr} {fd : FuncData} {ps : List Str} (F : Fun K x qual st f fd)
    (h : ∀ (kV doc pm : Value) (an : Option Addr) (cdv ct : Value) (us : List Value), us.length = ps.length → bindArgs (PySem.W.fnOf x qual (defArgs st) (defBody st) (defScope st) .none kV doc pm an cdv ct) ⟨us, []⟩ = pure (ps.zip us)) : Binds K fd ps [] := by
  obtain ⟨oc, od, kV, doc, pm, an, cdv, ct, osl, rfl, lk, hcd⟩ := F.ex
  exact .all (h kV doc pm an cdv ct)
theorem fun_mk {x qual : Str} {st : Stmt} {f : Addr} {oc : Value} {od an : Option Addr} {osl : Array (Option Value)} {kV doc pm cdv ct : Value} (l : K.lookup f = some ⟨oc, od, .func (PySem.W.fnOf x qual (defArgs st) (defBody st) (defScope st) .none kV doc pm an cdv ct), osl⟩)
    (c : PySem.W.codeIn K cdv qual = true) (k : PySem.W.keepIn K (.ref f) = true) : Fun K x qual st f (PySem.W.fnOf x qual (defArgs st) (defBody st) (defScope st) .none kV doc pm an cdv ct) := ⟨⟨oc, od, kV, doc, pm, an, cdv, ct, osl, rfl, l, c⟩, k⟩
end
theorem hu_of {A : Around} {k : Nat} (hr : Room k A) : A.units + 1 < cLine := Nat.lt_of_le_of_lt (Nat.add_le_add_left (by decide : 1 ≤ 64) _) hr.units
theorem small1000 {n : Nat} (h : n ≤ 1000) : n < sizeLine := Nat.lt_of_le_of_lt h (by decide)

section
variable {X : Cx}
theorem pv (i : Nat) {x : Str} {pos : Pos} (hN : X.N[i]? = some x := by rfl) (hv : Vis X.env.scope x := by first | exact Or.inl rfl | exact Or.inr (Or.inl rfl) | exact Or.inr (Or.inr rfl)) (hd : (x == ("__debug__" : Str)) = false := by decide)
    (hcd : (x == ("__classdict__" : Str)) = false := by decide) : PE X (.Name x pos) (tVar i) := pe_var hN hv hd hcd
end

theorem iteF {A B : Prop} (h : B) : if false = true then A else B := by
  rw [if_neg Bool.false_ne_true]
  exact h
theorem iteT {A B : Prop} (h : A) : if true = true then A else B := by
  rw [if_pos rfl]
  exact h
theorem ite2 {c A B : Prop} [Decidable c] (h1 : c → A) (h2 : ¬ c → B) : if c then A else B := by
  by_cases h : c
  · rw [if_pos h]
    exact h1 h
  · rw [if_neg h]
    exact h2 h
noncomputable def Same (H H' : Hp) : Prop := ∀ b o, H b = some o → H' b = some o
theorem Same.refl (H : Hp) : Same H H := fun _ _ h => h
theorem Same.trans {H H1 H2 : Hp} (a : Same H H1) (b : Same H1 H2) : Same H H2 := fun c o h => b c o (a c o h)
theorem Same.free {H H' : Hp} (e : Same H H') {l : Addr} (h : H' l = Option.none) : H l = Option.none := by
  cases q : H l with
  | none => rfl
  | some o =>
    rw [e l o q] at h
    cases h
theorem Same.seq {K : PySem.W.Frag} {H H' : Hp} {a : Addr} {xs : List V} (e : Same H H') (h : SqL K H a xs) : SqL K H' a xs := by
  rcases h with (h | ⟨o, h⟩) | h
  · exact .inl (.inl (e _ _ h))
  · exact .inl (.inr ⟨o, e _ _ h⟩)
  · exact .inr h

end L2

set_option maxHeartbeats 4000000
namespace L2
open PySem PySem.Spec PyProof.Rows

noncomputable def clOf (env : Env) : List (Str × NameKind) → List (Str × Addr) → List (Str × Addr)
  | [], cs => cs
  | (n, k) :: r, cs => clOf env r (if k == .free then (n, (env.cells.lookup n).getD 0) :: cs else cs)
theorem clOf_lookup {env : Env} {n : Str} {c : Addr} : ∀ {l : List (Str × NameKind)} {cs : List (Str × Addr)}, (∀ y ∈ l, y.2 = .free → ∃ c, env.cells.lookup y.1 = some c) →
    (clOf env l cs).lookup n = some c → cs.lookup n = some c ∨ env.cells.lookup n = some c
  | [], _, _, h => .inl h
  | (m, k) :: r, cs, hl, h => by
    have hr : ∀ y ∈ r, y.2 = .free → ∃ c, env.cells.lookup y.1 = some c := fun y hy => hl y (List.mem_cons_of_mem _ hy)
    rcases clOf_lookup hr h with q | q
    · by_cases hk : (k == NameKind.free) = true
      · rw [if_pos hk] at q
        obtain ⟨c', e⟩ := hl (m, k) List.mem_cons_self (by simpa using hk)
        rw [List.lookup_cons] at q
        cases hm : n == m with
        | true =>
          rw [hm] at q
          have q' : (env.cells.lookup m).getD 0 = c := Option.some.inj q
          have em : n = m := by simpa using hm
          rw [e] at q'
          have q2 : c' = c := q'
          rw [em, e, q2]
          exact .inr rfl
        | false =>
          rw [hm] at q
          exact .inl q
      · rw [if_neg hk] at q
        exact .inl q
    · exact .inr q
theorem clOf_has {env : Env} {n : Str} : ∀ {l : List (Str × NameKind)} {cs : List (Str × Addr)}, ((n, NameKind.free) ∈ l ∨ ∃ c, cs.lookup n = some c) → ∃ c, (clOf env l cs).lookup n = some c
  | [], _, h => by
    rcases h with h | h
    · simp at h
    · exact h
  | (m, k) :: r, cs, h => by
    refine clOf_has (l := r) ?_
    by_cases hn : (n, NameKind.free) ∈ r
    · exact .inl hn
    · refine .inr ?_
      rcases h with h | ⟨c, h⟩
      · rcases List.mem_cons.mp h with e | e
        · cases e
          rw [if_pos (by decide)]
          exact ⟨(env.cells.lookup n).getD 0, by rw [List.lookup_cons]; simp⟩
        · exact absurd e hn
      · by_cases hk : (k == NameKind.free) = true
        · rw [if_pos hk, List.lookup_cons]
          cases hm : n == m with
          | true => exact ⟨_, rfl⟩
          | false => exact ⟨c, h⟩
        · rw [if_neg hk]
          exact ⟨c, h⟩
theorem closure_is {scope : Scope} {env : Env} (h : ∀ y ∈ scope.names, y.2 = .free → ∃ c, env.cells.lookup y.1 = some c) : closureFor scope env = pure (clOf env scope.names []) := by
  have go : ∀ (l : List (Str × NameKind)) (cs : List (Str × Addr)), (∀ y ∈ l, y.2 = .free → ∃ c, env.cells.lookup y.1 = some c) →
      (forIn l cs (fun (x : Str × NameKind) (r : List (Str × Addr)) => if x.2 == NameKind.free then (do let a ← cellOf env x.1; pure (ForInStep.yield ((x.1, a) :: r))) else (pure (ForInStep.yield r) : Sem _)) : Sem _) = pure (clOf env l cs) := by
    intro l
    induction l with
    | nil => intro cs _; rfl
    | cons y r ih =>
      intro cs hl
      obtain ⟨n, k⟩ := y
      have hr : ∀ y ∈ r, y.2 = .free → ∃ c, env.cells.lookup y.1 = some c := fun y hy => hl y (List.mem_cons_of_mem _ hy)
      rw [List.forIn_cons]
      by_cases hk : (k == NameKind.free) = true
      · obtain ⟨c, e⟩ := hl (n, k) List.mem_cons_self (by simpa using hk)
        have e1 : cellOf env n = pure c := by unfold cellOf; rw [show env.cells.lookup n = some c from e]
        dsimp only
        rw [if_pos hk, e1]
        simp only [pure_bind]
        rw [ih _ hr]
        show _ = pure (clOf env r _)
        rw [if_pos hk, show env.cells.lookup n = some c from e]
        all_goals rfl
      · dsimp only
        rw [if_neg hk]
        simp only [pure_bind]
        rw [ih _ hr]
        show _ = pure (clOf env r _)
        rw [if_neg hk]
  have e : closureFor scope env = (forIn scope.names ([] : List (Str × Addr)) (fun (x : Str × NameKind) (r : List (Str × Addr)) => if x.2 == NameKind.free then (do let a ← cellOf env x.1; pure (ForInStep.yield ((x.1, a) :: r))) else (pure (ForInStep.yield r) : Sem _)) : Sem _) := by
    unfold closureFor
    first
      | rfl
      | (simp only [bind_pure]; rfl)
      | (simp; done)
  rw [e]
  exact go _ _ h

theorem relabel_free {env : Env} : ∀ {names : List (Str × NameKind)} {x : Str}, names.lookup x = some .free →
    (names.map fun (n, k) => if (k == NameKind.free && env.scope.kind == .function && env.kindOf n == some .cell) then (n, NameKind.cell) else (n, k)).lookup x = some .cell ∨
    (names.map fun (n, k) => if (k == NameKind.free && env.scope.kind == .function && env.kindOf n == some .cell) then (n, NameKind.cell) else (n, k)).lookup x = some .free
  | [], _, h => by simp at h
  | (n, k) :: r, x, h => by
    have ih := @relabel_free env r x
    cases hx : x == n with
    | true =>
      simp only [List.lookup_cons, hx] at h
      cases h
      by_cases hc : (NameKind.free == NameKind.free && env.scope.kind == .function && env.kindOf n == some .cell) = true
      · refine .inl ?_
        rw [List.map_cons]
        dsimp only
        rw [if_pos hc, List.lookup_cons, hx]
      · refine .inr ?_
        rw [List.map_cons]
        dsimp only
        rw [if_neg hc, List.lookup_cons, hx]
    | false =>
      simp only [List.lookup_cons, hx] at h
      rw [List.map_cons]
      dsimp only
      by_cases hc : (k == NameKind.free && env.scope.kind == .function && env.kindOf n == some .cell) = true
      · rw [if_pos hc, List.lookup_cons, hx]; exact ih h
      · rw [if_neg hc, List.lookup_cons, hx]; exact ih h
structure CompOk (X : Cx) (scope : Scope) (x : Str) (fr : List (Str × Nat)) : Prop where
  kind : scope.kind = .function
  cell : ∀ y ∈ scope.names, y.2 ≠ .cell
  free : ∀ y ∈ scope.names, y.2 = .free → X.env.kindOf y.1 = some .cell ∨ X.env.kindOf y.1 = some .free
  loc : ∀ y ∈ scope.names, y.2 = .local → scope.names.lookup y.1 = some .local
  name : scope.names.lookup x = some .local
  nd : (x :: fr.map (·.1)).Nodup
  fr : ∀ p ∈ fr, X.N[p.2]? = some p.1 ∧ scope.names.lookup p.1 = some .free

noncomputable def frees (fr : List (Str × Nat)) (σ : St) : St := fr.map fun p => σ.getD p.2 none
section
variable {X : Cx} {scope : Scope} {x : Str} {fr : List (Str × Nat)}
theorem CompOk.cells {pins : List (Addr × Obj)} {σ : St} {H : Hp} {s : Shared} (c : CompOk X scope x fr) (I : Inv X pins σ H s) : ∀ y ∈ scope.names, y.2 = .free → ∃ c, X.env.cells.lookup y.1 = some c :=
  fun y hy hf => I.ok.has y.1 (c.free y hy hf)
theorem CompOk.was {pins : List (Addr × Obj)} {σ : St} {H : Hp} {s : Shared} (c : CompOk X scope x fr) (I : Inv X pins σ H s) {y : Str} {b : Addr} (h : (clOf X.env scope.names []).lookup y = some b) : X.env.cells.lookup y = some b := by
  rcases clOf_lookup (c.cells I) h with q | q
  · simp at q
  · exact q

noncomputable def tSetC (i : Nat) (te : TE) : TS := fun D σ H => te σ H fun v H1 => D.nx (σ.set i (some v)) H1
end

section
variable {K : PySem.W.Frag} {b a : Addr} {xs : List V} {te : TE} {fr : List (Str × Nat)} {σ : St} {H : Hp} {Q : VK}
end
end L2

namespace L2
open PySem PySem.Spec PyProof.Rows
noncomputable def Dc (h : Heap) (e : Addr) (o : Option Addr) : Prop := ∃ oe vs, h.get? e = some oe ∧ oe.data = .fields vs ∧ (o = none → vs[2]? = some .none)
section
variable {M : Model} {A : Around} {E : Value → Shared → Prop} {s : Shared}
theorem entry3 {base : Heap} {env : Env} {outer : List Env} {L e : Addr} {oe : Obj} {vs : Array Value} {head a0 : Value} {hadNext : Bool} {Q : Unit → Shared → Prop} (hfr : A.frames = some (env :: outer)) (hl : s.heap.FunFrames base (env :: outer)) (hf : env.frame = some L)
    (he : s.heap.get? e = some oe) (hkb : base.StaysIn s.heap) (hen : base.get? e = none) (hd : oe.data = .fields vs) (hsz : 1 < vs.size) (h0 : vs[0]? = some a0) {od : Option Addr} (h2 : od = none → vs[2]? = some .none)
    (h : ∀ h', Heap.NotedW base (env :: outer) e oe.cls a0 (rawInt L) s.heap h' → Dc h' e od → Q () { s with heap := h' }) :
    wpAny M A (do let a ← frameOf env; let pl ← entryPlaceOf L hadNext; let b ← EntryCells.newEntry head a .none (rawInt L) .none pl; setField (.ref e) 1 b) Q E s := by
  have notF : e ∉ (env :: outer).filterMap (·.frame) := by
    intro hm; have ⟨_, o, ho, nf⟩ := hl.mem hm
    rw [he] at ho; cases ho; exact nf vs hd
  refine wpAny_bind (wpAny_frameOf_fun hfr hl hf fun h₁ hs₁ => wpAny_bind (wpAny_entryPlaceOf fun pl hpl => ?_))
  unfold EntryCells.newEntry newFields
  refine wpAny_bind (wpAny_newObj_type ?_ (hpl.sizeOk5 _ _ _ _ _))
  have g1 : h₁.get? e = some oe := (hs₁.2.1 e notF).trans he
  have b1 : base.StaysIn h₁ := fun b o q => (hs₁.2.1 b (by intro hm; rw [(hl.mem hm).1] at q; cases q)).trans (hkb b o q)
  generalize hT : ({ cls := .type "traceback", dict := none, data := .fields ([head, .ref L, .none, rawInt L, .none] ++ (if pl.isEmpty then List.replicate 6 Value.none else pl)).toArray } : Obj) = oT
  have g2 := Heap.get?_push_of_some (h := h₁) oT g1
  refine wpAny_setField g2 hd hsz ?_
  have ne : h₁.objs.size ≠ e := Nat.ne_of_gt (Heap.lt_size g1)
  have d3 := Obj.data_mapFields hd (·.setIfInBounds 1 (Value.ref h₁.objs.size))
  have g3 := Heap.get?_update_self (Obj.mapFields (·.setIfInBounds 1 (Value.ref h₁.objs.size))) g2 (Obj.isFreed_of_fields d3)
  have T3 : ((h₁.push oT).update e (Obj.mapFields (·.setIfInBounds 1 (Value.ref h₁.objs.size)))).get? h₁.objs.size = some oT := (Heap.get?_update_other _ _ (Ne.symm ne)).trans (Heap.get?_push_size h₁ (by subst hT; rfl))
  have kp : ∀ b o, b ≠ e → h₁.get? b = some o → ((h₁.push oT).update e (Obj.mapFields (·.setIfInBounds 1 (Value.ref h₁.objs.size)))).get? b = some o := fun b o q hb => (Heap.get?_update_other _ _ (Ne.symm q)).trans (Heap.get?_push_of_some _ hb)
  have nr : ∀ b o, s.heap.get? b = some o → (∀ vs, o.data ≠ .fields vs) → b ≠ e := fun b o hb nf q => by
    rw [q, he] at hb; cases hb; exact nf vs hd
  refine h _ ⟨fun b o q => kp b o (by intro z; rw [z, hen] at q; cases q) (b1 b o q), hl.of_keeps fun b o hb nf => ?_, ?_, fun b o hb nf => ?_⟩ ⟨_, _, g3, d3, fun q => by rw [Array.getElem?_setIfInBounds_ne (by decide)]; exact h2 q⟩
  · obtain ⟨sl, q⟩ := hs₁.2.2 b o hb
    exact ⟨_, kp b _ (nr b o hb nf) q, rfl⟩
  · subst hT
    exact ⟨_, _, h₁.objs.size, _, _, g3, ⟨Obj.cls_mapFields _ _, by rw [Array.getElem?_setIfInBounds_ne (by decide)]; exact h0⟩, d3, by simp [hsz], b1.fresh, ne, T3, rfl, by first | (simp; done) | (rcases hpl with rfl | ⟨_, _, _, _, _, _, _, rfl⟩ <;> simp)⟩
  · obtain ⟨sl, q⟩ := hs₁.2.2 b o hb
    exact ⟨sl, kp b _ (nr b o hb nf) q⟩
theorem flight3 {base : Heap} {l : List Env} {e : Addr} {cls a0 fl : Value} {Q : Unit → Shared → Prop} (hkb : base.StaysIn s.heap) (hl : s.heap.FunFrames base l) (ht : s.heap.TracedAtW base e cls a0 fl) {od : Option Addr} (hc : Dc s.heap e od)
    (h : ∀ h', base.StaysIn h' → h'.FunFrames base l → h'.TracedW base e cls a0 → Dc h' e od → s.heap.UpToSlots h' → Q () { s with heap := h' }) : wpAny M A (setFlight (.ref e) none) Q E s := by
  obtain ⟨oe, vs, T, oT, ts, he, hcls, hd, h1, nT, Te, gT, dT, h3⟩ := ht
  obtain ⟨oe', vs', he', hd', h2⟩ := hc
  rw [he] at he'; cases he'; rw [hd] at hd'; cases hd'
  have z3 : 3 < ts.size := (Array.getElem?_eq_some_iff.mp h3).1
  have ot : ∀ b, b ≠ T → (s.heap.update T (Obj.mapFields (·.setIfInBounds 3 ((none : Option Addr).elim Value.none fun f => rawInt f)))).get? b = s.heap.get? b := fun b q => Heap.get?_update_other _ _ (Ne.symm q)
  have nr : ∀ b o, s.heap.get? b = some o → (∀ vs, o.data ≠ .fields vs) → b ≠ T := fun b o hb nf q => by
    rw [q, gT] at hb; cases hb; exact nf ts dT
  unfold setFlight
  refine wpAny_bind (wpAny_field he hd h1 ?_)
  rw [if_pos (show (Value.ref T != Value.none) = true by simp)]
  refine wpAny_setField gT dT z3 (h _ (fun b o q => (ot b (by intro z; rw [z, nT] at q; cases q)).trans (hkb b o q)) (hl.of_keeps fun b o hb nf => ⟨o, (ot b (nr b o hb nf)).trans hb, rfl⟩) ?_ ⟨oe, vs, (ot e (Ne.symm Te)).trans he, hd, h2⟩ fun b o hb nf => ⟨o.slots, (ot b (nr b o hb nf)).trans hb⟩)
  exact ⟨oe, vs, T, _, _, (ot e (Ne.symm Te)).trans he, hcls, hd, h1, nT, Te, Heap.get?_update_self _ gT (Obj.isFreed_of_fields (Obj.data_mapFields dT _)), Obj.data_mapFields dT _, by simp [z3]⟩
theorem note3 {base : Heap} {env : Env} {outer : List Env} {L e : Addr} {cls a0 : Value} {Q : Unit → Shared → Prop} (hfr : A.frames = some (env :: outer)) (hf : env.frame = some L) (hfl : Heap.FlyingW base (env :: outer) e cls a0 s.heap) {od : Option Addr} (hc : Dc s.heap e od)
    (hQ : ∀ h', Heap.HeldW base (env :: outer) e cls a0 L h' → Dc h' e od → s.heap.UpToSlots h' → Q () { s with heap := h' }) : wpAny M A (noteFrame (.ref e) env) Q E s := by
  obtain ⟨f1, f2, f3, oe, vs, T, oT, ts, he, ⟨hcls, h0⟩, hd, h1, nT, Te, gT, dT, h3⟩ := hfl
  obtain ⟨oe', vs', he', hd', h2⟩ := hc
  rw [he] at he'; cases he'; rw [hd] at hd'; cases hd'
  subst hcls
  unfold noteFrame
  simp only [hf]
  refine wpAny_bind (wpAny_field he hd h1 ?_)
  rw [if_pos (show (Value.ref T != Value.none) = true by simp)]
  refine wpAny_bind (wpAny_field gT dT h3 ?_)
  rw [if_neg (show ¬ ((Value.none == rawInt L) = true) by simp [rawInt])]
  refine wpAny_bind (wpAny_setField gT dT (Array.getElem?_eq_some_iff.mp h3).1 ?_)
  have ot : ∀ b, b ≠ T → (s.heap.update T (Obj.mapFields (·.setIfInBounds 3 Value.none))).get? b = s.heap.get? b := fun b q => Heap.get?_update_other _ _ (Ne.symm q)
  have nr : ∀ b o, s.heap.get? b = some o → (∀ vs, o.data ≠ .fields vs) → b ≠ T := fun b o hb nf q => by
    rw [q, gT] at hb; cases hb; exact nf ts dT
  refine entry3 hfr (f3.of_keeps fun b o hb nf => ⟨o, (ot b (nr b o hb nf)).trans hb, rfl⟩) hf ((ot e (Ne.symm Te)).trans he) (fun b o q => (ot b (by intro z; rw [z, nT] at q; cases q)).trans (f1 b o q)) f2 hd (Array.getElem?_eq_some_iff.mp h1).1 h0 h2 fun h' ⟨x1, x2, x3, x4⟩ c => ?_
  exact hQ h' ⟨x1, f2, x2, x3⟩ c fun b o hb nf => x4 b o ((ot b (nr b o hb nf)).trans hb) nf
theorem lands3 {base : Heap} {l : List Env} {e L : Addr} {cls a0 : Value} {Q : Unit → Shared → Prop} (hh : Heap.HeldW base l e cls a0 L s.heap) {od : Option Addr} (hc : Dc s.heap e od)
    (hQ : ∀ h', Heap.FlyingW base l e cls a0 h' → Dc h' e od → s.heap.UpToSlots h' → Q () { s with heap := h' }) : wpAny M A (setFlight (.ref e) none) Q E s :=
  let ⟨f1, f2, f3, f4⟩ := hh; flight3 f1 f3 f4 hc fun h' k1 k2 k3 c k4 => hQ h' ⟨k1, f2, k2, k3⟩ c k4
theorem landsA3 {base : Heap} {l : List Env} {e : Addr} {cls a0 : Value} {Q : Unit → Shared → Prop} (hh : Heap.FlyingW base l e cls a0 s.heap) {od : Option Addr} (hc : Dc s.heap e od)
    (hQ : ∀ h', Heap.FlyingW base l e cls a0 h' → Dc h' e od → s.heap.UpToSlots h' → Q () { s with heap := h' }) : wpAny M A (setFlight (.ref e) none) Q E s :=
  let ⟨f1, f2, f3, f4⟩ := hh; flight3 f1 f3 f4.at hc fun h' k1 k2 k3 c k4 => hQ h' ⟨k1, f2, k2, k3⟩ c k4
theorem leaves3 {base : Heap} {env : Env} {outer : List Env} {L e : Addr} {cls a0 : Value} {Q : Unit → Shared → Prop} (hfr : A.frames = some (env :: outer)) (hf : env.frame = some L) (hfl : Heap.FlyingW base (env :: outer) e cls a0 s.heap) {od : Option Addr} (hc : Dc s.heap e od)
    (hQ : ∀ h', Heap.FlyingW base outer e cls a0 h' → Dc h' e od → s.heap.UpToSlots h' → Q () { s with heap := h' }) : wpAny M A (leaving env (.ref e)) Q E s := by
  unfold leaving
  refine wpAny_bind (note3 hfr hf hfl hc fun h1 hh c1 u1 => ?_)
  refine lands3 (s := { s with heap := h1 }) hh c1 fun h2 ⟨k1, k2, ⟨_, _, k3⟩, k4⟩ c2 u2 => hQ h2 ⟨k1, k2, k3, k4⟩ c2 (u1.trans u2)
theorem leavesM3 {base h : Heap} {env : Env} {outer : List Env} {L e : Addr} {cls : Value} {args : List Value} {Q : Unit → Shared → Prop} (hfr : A.frames = some (env :: outer)) (hf : env.frame = some L) (hkb : base.StaysIn h) (hl : h.FunFrames base (env :: outer)) (hx : Heap.MadeExcOf h s.heap e cls args)
    (hQ : ∀ h' t, Heap.FlyingW base outer e cls (.ref t) h' → Dc h' e none → s.heap.UpToSlots h' → Q () { s with heap := h' }) : wpAny M A (leaving env (.ref e)) Q E s := by
  obtain ⟨t, he, htn, ht⟩ := hx.there
  have fr : ∀ b, h.get? b = none → base.get? b = none := fun b hb => by
    cases hq : base.get? b with
    | none => rfl
    | some o' => rw [hkb b o' hq] at hb; cases hb
  unfold leaving noteFrame
  simp only [hf]
  refine wpAny_bind (wpAny_bind (wpAny_field he rfl (x := .none) rfl ?_))
  rw [if_neg (by decide)]
  refine entry3 hfr (hl.of_keeps fun b o hb _ => ⟨o, hx.keeps b o hb, rfl⟩) hf he (fun b o hb => hx.keeps b o (hkb b o hb)) (fr e hx.new) rfl (by simp) (a0 := .ref t) rfl (od := none) (fun _ => rfl) fun h1 ⟨x1, x2, x3, x4⟩ c1 => ?_
  refine lands3 (s := { s with heap := h1 }) ⟨x1, fr e hx.new, x2, x3⟩ c1 fun h2 ⟨k1, k2, ⟨_, _, k3⟩, k4⟩ c2 u2 => hQ h2 t ⟨k1, k2, k3, k4⟩ c2 (Heap.UpToSlots.trans x4 u2)
end
end L2

namespace L2
open PySem PySem.Spec PyProof.Rows

theorem ObjOk.there {P : Program} {w : World} {H : Hp} {h : Heap} {a : Addr} {o : HO} (x : ObjOk P w H h a o) : ∃ ob, h.get? a = some ob := by
  cases o with
  | lst xs => obtain ⟨_, _, _, _, e⟩ := x; exact ⟨_, e⟩
  | tup xs => obtain ⟨_, _, _, ob, e, _⟩ := x; exact ⟨ob, e⟩
  | dK kvs => obtain ⟨_, _, _, _, o, _, _, e, _⟩ := x; exact ⟨_, e⟩
  | dT kvs => obtain ⟨_, _, _, _, o, _, _, e, _⟩ := x; exact ⟨_, e⟩
  | set S n => obtain ⟨o, _, _, _, e, _⟩ := x; exact ⟨_, e⟩
  | ins C dx fs => obtain ⟨_, _, _, e, _⟩ := x; exact ⟨_, e⟩
  | own y => exact x
  | xd fs => obtain ⟨_, ⟨_, _, _, e, _⟩, _⟩ := x; exact ⟨_, e⟩
  | rng lo hi => obtain ⟨_, _, _, e⟩ := x; exact ⟨_, e⟩
  | frz ob u => exact ⟨_, x.1⟩
  | tbl ps => exact ⟨_, x⟩
  | met f y => exact ⟨_, x⟩
  | ext φ => exact x.2.1

noncomputable abbrev Cov (fs : List Addr) (h₀ : Heap) (H : Hp) (h B : Heap) : Prop := ∀ b o, h.get? b = some o → b ∉ fs → ((∃ o', h₀.get? b = some o') ∨ ∃ u, H b = some u) → B.get? b = some o
noncomputable def FlyX (X : Cx) (pins : List (Addr × Obj)) (H : Hp) (e : Addr) (C : Value) (od : Option Addr) (h : Heap) : Prop := (∃ B a0, Heap.FlyingW B X.stack e C a0 h ∧ Cov (frs X.stack) X.s₀.heap H h B ∧ ∀ p ∈ X.pn ++ pins, B.get? p.1 = some p.2) ∧ Dc h e od
noncomputable def CX1 (P : Program) (w : World) : CXT := fun outer H s E ev s' => ∃ e C od H' B a0, ev = .ref e ∧ s'.os = s.os ∧ AllBare s'.gens ∧ Un (frs outer) [] H H' s.heap s'.heap ∧ HOk P w H' s'.heap ∧
  Heap.FlyingW B outer e C a0 s'.heap ∧ Cov (frs outer) s.heap H' s'.heap B ∧ Dc s'.heap e od ∧ E C od H'
noncomputable abbrev XE := St → Value → Option Addr → Hp → Prop
noncomputable def Lands (X : Cx) (EX : XE) : Prop := ∀ (pins : List (Addr × Obj)) (σ : St) (H : Hp) (s : Shared) (e : Addr) (C : Value) (od : Option Addr), Inv X pins σ H s → FlyX X pins H e C od s.heap → EX σ C od H → X.xe (.ref e) s
noncomputable def LandsN (X : Cx) (EX : XE) : Prop := ∀ (pins : List (Addr × Obj)) (σ : St) (H : Hp) (s : Shared) (h' : Heap) (e : Addr) (C : Value) (vs : List Value), Inv X pins σ H s → Heap.MadeExcOf s.heap h' e C vs → EX σ C none H → X.xe (.ref e) { s with heap := h' }

theorem fly_out {X : Cx} {pins : List (Addr × Obj)} {σ : St} {H : Hp} {s : Shared} {h'' B : Heap} (I : Inv X pins σ H s) (hst : X.stack = X.env :: X.outer) (hfr : X.env.frame = some X.env.locals) (hex : X.ex = [])
    (stay : B.StaysIn h'') (sm : s.heap.UpToSlots h'') (cov : Cov (frs X.stack) X.s₀.heap H s.heap B) :
    Un X.fs [] X.H₀ H X.s₀.heap h'' ∧ HOk X.prog X.w H h'' ∧ Cov X.fs X.s₀.heap H h'' B := by
  have u := I.base
  rw [hex] at u
  have hfs : frs X.stack = X.env.locals :: X.fs := by
    rw [hst]
    unfold frs
    rw [List.filterMap_cons, hfr]
    rfl
  have old : ∀ b o, X.s₀.heap.get? b = some o → b ∉ X.fs → b ∉ frs X.stack := fun b o e hb hm => by
    rw [hfs] at hm
    rcases List.mem_cons.mp hm with z | z
    · exact absurd (Nat.lt_of_lt_of_le (Heap.lt_size e) I.ok.above) (by rw [z]; exact Nat.lt_irrefl _)
    · exact hb z
  have trk : ∀ b v, H b = some v → b ∉ frs X.stack := fun b v e hm => by
    have := I.stkFree b hm
    rw [e] at this
    cases this
  have keepO : ∀ b o, s.heap.get? b = some o → b ∉ frs X.stack → ((∃ o', X.s₀.heap.get? b = some o') ∨ ∃ v, H b = some v) → h''.get? b = some o := fun b o e hb hc => stay b o (cov b o e hb hc)
  have frm : ∀ b, b ∈ X.fs → ∀ o, s.heap.get? b = some o → ∃ sl, h''.get? b = some { o with slots := sl } := fun b hb o e => by
    obtain ⟨_, o', e', nf⟩ := I.funs.mem hb
    rw [e] at e'
    cases e'
    exact sm b o e nf
  refine ⟨⟨fun b o e n hb hx => ?_, fun b o e n hb hx => ?_, u.free, fun b o e hx => ?_, u.tups, u.frzs, u.tbls⟩, fun a o ha => ?_, fun b o e hb hc => ?_⟩
  · exact keepO b o (u.keep b o e n hb hx) (old b o e hb) (.inl ⟨o, e⟩)
  · obtain ⟨sl, e1⟩ := u.slot b o e n hb hx
    obtain ⟨sl', e2⟩ := frm b hb _ e1
    exact ⟨sl', e2⟩
  · obtain ⟨o1, e1⟩ := u.there b o e hx
    by_cases hb : b ∈ X.fs
    · obtain ⟨sl, e2⟩ := frm b hb _ e1
      exact ⟨_, e2⟩
    · exact ⟨o1, keepO b o1 e1 (old b o e hb) (.inl ⟨o, e⟩)⟩
  · refine (I.hok a o ha).stay (fun b v hb q => ?_) (fun _ q => q) fun _ _ q => q
    rcases hb with hb | hb
    · subst hb
      exact keepO b v q (trk b o ha) (.inr ⟨o, ha⟩)
    · exact keepO b v q (trk b _ hb) (.inr ⟨_, hb⟩)
  · rcases hc with ⟨o', e'⟩ | ⟨v, e'⟩
    · obtain ⟨o1, e1⟩ := u.there b o' e' (by simp)
      have q := keepO b o1 e1 (old b o' e' hb) (.inl ⟨o', e'⟩)
      rw [e] at q
      cases q
      exact cov b o e1 (old b o' e' hb) (.inl ⟨o', e'⟩)
    · obtain ⟨o1, e1⟩ := (I.hok b v e').there
      have q := keepO b o1 e1 (trk b v e') (.inr ⟨v, e'⟩)
      rw [e] at q
      cases q
      exact cov b o e1 (trk b v e') (.inr ⟨v, e'⟩)

section
variable {P : Program} {w : World} {K : PySem.W.Frag} {mg : Str → Option Value} {base : Heap} {N : List Str} {qual : Str} {scope : Scope} {f : Addr} {cd : Value} {A : Around} {outer : List Env} {s₀ : Shared} {H₀ : Hp} {E : XK}
theorem lands_def : Lands (cxOf (CX1 P w) P w K mg base N qual scope f cd A outer s₀ H₀ E) (fun _ C od H => E C od H) := by
  intro pins σ H s e C od I F hE
  obtain ⟨⟨B, a0, fl, cov, _⟩, c0⟩ := F
  refine leaves3 I.ok.frames rfl fl c0 fun h'' fl'' c1 sm => ?_
  obtain ⟨un, ok, cv⟩ := fly_out I rfl rfl rfl fl''.1 sm cov
  exact ⟨e, C, od, H, B, a0, rfl, I.os, I.bare, un, ok, fl'', cv, c1, hE⟩
theorem landsN_def : LandsN (cxOf (CX1 P w) P w K mg base N qual scope f cd A outer s₀ H₀ E) (fun _ C od H => E C od H) := by
  intro pins σ H s h' e C vs I M hE
  have hfu := I.stack
  have hid := PySem.W.funFrames_hide (as := frs (cxOf (CX1 P w) P w K mg base N qual scope f cd A outer s₀ H₀ E).stack) hfu (fun env he a ha => List.mem_filterMap.mpr ⟨env, he, ha⟩)
  refine leavesM3 (s := { s with heap := h' }) (h := s.heap) I.ok.frames rfl (fun b o q => PySem.W.of_hideAll _ q) hid M fun h'' t fl'' c1 sm => ?_
  obtain ⟨un, ok, cv⟩ := fly_out I rfl rfl rfl fl''.1 ((Heap.UpToSlots.of_keeps M.keeps).trans sm) fun b o q hb _ => PySem.W.hideAll_get _ q hb
  exact ⟨e, C, none, H, _, _, rfl, I.os, I.bare, un, ok, fl'', cv, c1, hE⟩
end

section
variable {X : Cx} {EX : XE} {k : Nat} {f : Addr} {fd : FuncData} {ps : List Str} {sp : Sp} {dvs : List V} {ds : List Value} {x : Str} {p pos : Pos} {e : Expr} {es : List Expr} {t : TA}
noncomputable def tCallX (sp : Sp) (dvs : List V) (EX : XE) (t : TA) : TE := fun σ H Q => t σ H fun vs H1 => sp (vs ++ dvs) H1 Q fun C od H' => EX σ C od H'
theorem run_fnX {pins : List (Addr × Obj)} {σ : St} {H : Hp} {s : Shared} {Q : VK} {us : List Value} {vs : List V} (F : FnOk X.prog X.w X.K X.mg X.base (CX1 X.prog X.w) k f fd ps sp) (hr : Room k X.A) (hb : Binds X.K fd ps ds) (hd : Vals dvs ds) (hx : Lands X EX)
    (hex : X.ex = []) (I : Inv X pins σ H s) (r : Vals vs us) (h : sp (vs ++ dvs) H Q fun C od H' => EX σ C od H') : wpAny (model X.prog X.w) X.A (call (.ref f) us) (EP X pins σ Q) X.xe s := by
  have r2 : Vals (vs ++ dvs) (us ++ ds) := r.append hd
  have hl : (us ++ ds).length = ps.length := by rw [← r2.length]; exact F.len _ _ _ _ h
  refine wpAny_call (codeAny_mono (F.run X.A X.stack s H ⟨us, []⟩ (us ++ ds) (vs ++ dvs) Q _ hr I.env0 (hb s us I.kIn hl) r2 h) fun r s' hq => ?_)
  cases r with
  | error ev =>
    obtain ⟨e, C, od, H', B, a0, rfl, os, bare, un, ok, fl, cov, c0, q⟩ := hq
    have J : Inv X pins σ H' s' := I.call' os un ok bare fun b z => absurd z (by simp)
    refine hx pins σ H' s' e C od J ⟨⟨B, a0, fl, fun b o e1 hb hc => cov b o e1 hb ?_, fun p hp => ?_⟩, c0⟩ q
    · rcases hc with ⟨o', e'⟩ | hc
      · obtain ⟨o2, e2⟩ := I.base.there b o' e' (by rw [hex]; simp)
        exact .inl ⟨o2, e2⟩
      · exact .inr hc
    · obtain ⟨e1, n1, ne, nf, _⟩ := J.pin p hp
      refine cov p.1 p.2 e1 (fun hm => ?_) (.inl ⟨_, (I.pin p hp).1⟩)
      rcases List.mem_cons.mp (I.stkSub p.1 hm) with z | z
      · exact ne z
      · exact nf z
  | ok fl =>
    cases fl with
    | ret u => exact I.after hq
    | next => exact False.elim hq
    | brk => exact False.elim hq
    | cont => exact False.elim hq
theorem pe_callX (F : FnOk X.prog X.w X.K X.mg X.base (CX1 X.prog X.w) k f fd ps sp) (hr : Room k X.A) (hg : Gl X x) (hm : X.mg x = some (.ref f)) (hk : PySem.W.keepIn X.K (.ref f) = true) (hb : Binds X.K fd ps ds) (hd : Vals dvs ds) (hx : Lands X EX)
    (ha : PA X (e :: es) t) (hex : X.ex = [] := by rfl) (hdb : (x == ("__debug__" : Str)) = false := by decide) (he : starEach (e :: es) X.env = (false, eval e X.env) :: starEach es X.env := by rfl) (hpl : (backTo pos (starEach es X.env)).any (·.1) = false := by rfl) :
    PE X (.Call (.Name x p) (e :: es) [] pos) (tCallX sp dvs EX t) := by
  intro pins s σ H Q I h
  refine wpAny_Call_Name_kw (ld_glob I hg hm ?_ hdb)
  refine PySem.W.callWith_K (h₀ := X.base) I.ok.mod.kin hk (thn (ha pos pins s σ H _ I h) fun us s1 ⟨vs, H1, I1, r, q⟩ => ⟨I1.kIn, ?_⟩) he hpl
  exact run_fnX F hr hb hd hx hex I1 r q
theorem passes1 {P : Program} {w : World} {Y : Cx} : Passes (CX1 P w) Y E0 := fun _ _ _ _ _ _ _ h => by
  obtain ⟨_, _, _, _, _, _, _, _, _, _, _, _, _, _, q⟩ := h
  exact q.elim
end

theorem excObj {K : PySem.W.Frag} {h : Heap} {C : Addr} {bmB : List Value} {newId : String} (KX : K.In h) (hq : PySem.W.excIn K C bmB newId = true) :
    ∃ bm N nm qn bs hd sn sub ab col dd k0 k1 k2 k3 k5 mN, h.get? C = some (excClassObj nm qn C N bs bm hd sn sub ab col dd k0 k1 k2 k3 k5 newId) ∧ h.Ns N mN ∧ mN "__init__" = none ∧ OwnTail h bmB bm := by
  revert hq
  unfold PySem.W.excIn
  split
  · next dd cd sl lk =>
    split
    · next C1 bm k0 k1 k2 k3 nw k5 em es =>
      intro hq
      simp only [Bool.and_eq_true, beq_iff_eq, Bool.not_eq_true'] at hq
      obtain ⟨⟨⟨⟨⟨e1, e2⟩, e3⟩, e4⟩, e5⟩, e6⟩ := hq
      subst e1 e2
      cases cd with
      | mk nm bs mro ns qn hd sn sub ab col del =>
        have em' : mro = Value.ref C1 :: bm := em
        have e3' : del = false := e3
        subst em' e3'
        have esl : sl = #[k0, k1, k2, k3, some (Value.builtin nw), k5] := by
          cases sl with
          | mk l => exact congrArg Array.mk es
        subst esl
        exact ⟨bm, ns, nm, qn, bs, hd, sn, sub, ab, col, dd, k0, k1, k2, k3, k5, _, KX _ _ lk, Heap.Ns.of_isNs (PySem.W.isNs_of_in KX e5), PySem.W.nsMap_none_of_in KX e5 e6, PySem.W.tail_of_in KX e4⟩
    · intro z; cases z
  · intro z; cases z
theorem OwnTail.up {h h' : Heap} {bmB bm : List Value} (T : OwnTail h bmB bm) (k : ∀ b o, h.get? b = some o → h'.get? b = some o) : OwnTail h' bmB bm := T.keeps k

section
variable {X : Cx} {EX : XE} {C : Addr} {x : Str} {np cpos pos : Pos} {e₀ : Expr} {rest : List Expr} {t : TA} {bmB : List Value} {B newId initId : String}
noncomputable def tRaise (C : Addr) (EX : XE) (t : TA) : TS := fun _ σ H => t σ H fun vs H1 => vs.length ≤ sizeLine ∧ EX σ (.ref C) none H1
theorem ps_raise (hc : X.calm = true) (hx : LandsN X EX) (hg : Gl X x) (hm : X.mg x = some (.ref C)) (hC : PySem.W.excIn X.K C bmB newId = true) (FB : ExcBaseFacts B newId initId bmB) (ha : PA X (e₀ :: rest) t)
    (hdb : (x == ("__debug__" : Str)) = false := by decide) (he : starEach (e₀ :: rest) X.env = (false, eval e₀ X.env) :: starEach rest X.env := by rfl) (hpl : (backTo cpos (starEach rest X.env)).any (·.1) = false := by rfl) :
    PS X (.Raise (some (.Call (.Name x np) (e₀ :: rest) [] cpos)) none pos) (tRaise C EX t) := by
  intro pins s σ H D I h
  obtain ⟨bm, N, nm, q, bs, hd, sn, sub, ab, col, dd, k0, k1, k2, k3, k5, mN, hcls, hns, hni, T⟩ := excObj I.mod.kin hC
  have hpl' : (backTo cpos (starEach (e₀ :: rest) X.env)).any (·.1) = false := by
    rw [he]
    show (false || (backTo cpos (starEach rest X.env)).any (·.1)) = false
    rw [hpl]
    rfl
  refine wpAny_Raise_call_subT (C := C) (nm := nm) (q := q) (N := N) (bs := bs) (bm := bm) (hdct := hd) (sn := sn) (sub := sub) (ab := ab) (col := col) (dd := dd) (k0 := k0) (k1 := k1) (k2 := k2) (k3 := k3) (k5 := k5) FB (mN := mN) (T.hasType FB.hasBase) (I.ok.hd hc) hpl' hni
    (ld_glob I hg hm ⟨rfl, ?_⟩ hdb)
  have hw := ha cpos pins s σ H _ I h
  rw [he] at hw ⊢
  refine Calls.evalArgs_plain (thn hw fun us s2 ⟨vs, H2, I2, r, z, q2⟩ => ⟨rfl, ?_, I2.bk _ _ hcls, hns.keeps I2.bk, T.keeps I2.bk, fun h' e M => hx pins σ H2 s2 h' e _ us I2 M q2⟩)
  show us.length ≤ sizeLine
  rw [← r.length]
  exact z
end

section
variable {X : Cx} {pins : List (Addr × Obj)} {σ : St} {H : Hp} {s : Shared}
theorem Inv.flown {h' B : Heap} (I : Inv X pins σ H s) (hst : X.stack = X.env :: X.outer) (hfr : X.env.frame = some X.env.locals) (hex : X.ex = []) (stay : B.StaysIn h') (sm : s.heap.UpToSlots h') (cov : Cov (frs X.stack) X.s₀.heap H s.heap B)
    (hp : ∀ p ∈ X.pn ++ pins, B.get? p.1 = some p.2) : Inv X pins σ H { s with heap := h' } := by
  obtain ⟨un, ok, _⟩ := fly_out I hst hfr hex stay sm cov
  have cl : ∀ c v, s.heap.IsCell c v → h'.IsCell c v := fun c v ⟨o, e, d⟩ => by
    obtain ⟨sl, e'⟩ := sm c o e fun vs z => by rw [d] at z; cases z
    exact ⟨_, e', d⟩
  refine ⟨I.ok, I.os, I.bare, by rw [hex]; exact un, ?_, fun x c e => ?_, I.free, I.freeC, fun p hm => ?_, ok, I.len⟩
  · obtain ⟨m, hn, hl⟩ := I.loc
    refine ⟨m, sm.ns hn, fun i x v e1 e2 e3 => ?_⟩
    obtain ⟨u, r, l⟩ := hl i x v e1 e2 e3
    refine ⟨u, r, ?_⟩
    rcases l with l | ⟨k, c, e, z⟩
    · exact .inl l
    · exact .inr ⟨k, c, e, cl c _ z⟩
  · obtain ⟨v, z⟩ := I.cell x c e
    exact ⟨v, cl c v z⟩
  · obtain ⟨_, r⟩ := I.pin p hm
    exact ⟨stay _ _ (hp p hm), r⟩
noncomputable def ExcAt (e : Addr) (C : Value) (od : Option Addr) : HO := .ext fun h => ∃ o, h.get? e = some o ∧ o.cls = C ∧ PySem.W.notCls o = true ∧ ∃ vs, o.data = .fields vs ∧ (od = none → vs[2]? = some .none)
theorem Inv.trackE {e : Addr} {C : Value} {od : Option Addr} {oe : Obj} {vs : Array Value} (I : Inv X pins σ H s) (he : s.heap.get? e = some oe) (hc : oe.cls = C) (hd : oe.data = .fields vs) (h2 : od = none → vs[2]? = some .none) (hn : H e = none) (hnew : X.s₀.heap.get? e = none) (hpn : ∀ p ∈ X.pn ++ pins, p.1 ≠ e) :
    Inv X pins σ (upd H e (ExcAt e C od)) s := by
  have ne : ∀ b u, H b = some u → b ≠ e := fun b u q z => by rw [z, hn] at q; cases q
  have nL : X.env.locals ≠ e := fun z => by
    obtain ⟨m, ⟨o, es, ep, ho, hdd, _⟩, _⟩ := I.loc
    rw [z, he] at ho
    cases ho
    rw [hd] at hdd
    cases hdd
  have nC : ∀ x c, X.env.cells.lookup x = some c → c ≠ e := fun x c q z => by
    obtain ⟨v, o, ho, hdd⟩ := I.cell x c q
    rw [z, he] at ho
    cases ho
    rw [hd] at hdd
    cases hdd
  have u := I.base
  refine ⟨I.ok, I.os, I.bare, ⟨u.keep, u.slot, fun b o q n hx => ?_, u.there, fun b xs q => ?_, fun b o v q => ?_, fun b ps q => ?_⟩, I.loc, I.cell, ?_, fun x c q => ?_, fun p hp => ?_, fun a o q => ?_, I.len⟩
  · rw [upd_ne (fun z => by rw [z, hnew] at q; cases q)]
    exact u.free b o q n hx
  · have := u.tups b xs q
    rw [upd_ne (ne _ _ this)]
    exact this
  · have := u.frzs b o v q
    rw [upd_ne (ne _ _ this)]
    exact this
  · obtain ⟨m, e1⟩ := u.tbls b ps q
    exact ⟨m, by rw [upd_ne (ne _ _ e1)]; exact e1⟩
  · rw [upd_ne nL]; exact I.free
  · rw [upd_ne (nC x c q)]; exact I.freeC x c q
  · obtain ⟨e1, n1, r⟩ := I.pin p hp
    exact ⟨e1, by rw [upd_ne (hpn p hp)]; exact n1, r⟩
  · by_cases ha : a = e
    · subst ha
      rw [upd_same] at q
      cases q
      exact ⟨⟨oe, he, hc, by unfold PySem.W.notCls; rw [hd], vs, hd, h2⟩, ⟨oe, he⟩, fun h1 h2 ⟨o, e1, r⟩ k => ⟨o, k o e1, r⟩⟩
    · rw [upd_ne ha] at q
      exact (I.hok a o q).stay (fun _ _ _ z => z) (fun b z => by rw [upd_ne (ne _ _ z)]; exact z) fun b xs z => by rw [upd_ne (ne _ _ z)]; exact z
theorem Inv.unbind {h' : Heap} {m : Str → Option Value} {u : Option Value} {i : Nat} {n : Str} (I : Inv X pins σ H s) (hN : X.N.Nodup) (hi : X.N[i]? = some n) (hl : X.env.scope.names.lookup n = some .local)
    (hn : s.heap.Ns X.env.locals m) (hn' : h'.Ns X.env.locals (fun x => if x = n then u else m x)) (hs : Heap.SameBut X.env.locals s.heap h') (hm : ∀ (j : Nat) x v, X.N[j]? = some x → σ[j]? = some (some v) → Vis X.env.scope x → ∃ u, RelV v u ∧ Look X.env s.heap m x u) :
    Inv X pins (σ.set i none) H { s with heap := h' } := by
  obtain ⟨oL, esL, epL, hoL, _⟩ := id hn
  have nL : ∀ b o, X.s₀.heap.get? b = some o → b ≠ X.env.locals := fun b o e => Nat.ne_of_lt (Nat.lt_of_lt_of_le (Heap.lt_size e) I.ok.above)
  have kp : ∀ b o, b ≠ X.env.locals → s.heap.get? b = some o → h'.get? b = some o := fun b o hb e => (hs.2 b hb).trans e
  have nT : ∀ b v, H b = some v → b ≠ X.env.locals := fun b v e z => by rw [z, I.free] at e; cases e
  have u0 := I.base
  refine ⟨I.ok, I.os, I.bare, ⟨fun b o e n hb hx => kp b o (nL b o e) (u0.keep b o e n hb hx), fun b o e n hb hx => ?_, u0.free, fun b o e hx => ?_, u0.tups, u0.frzs, u0.tbls⟩, ⟨_, hn', fun j x v e1 e2 e3 => ?_⟩, fun x c e => ?_, I.free, I.freeC, fun p hp => ?_, fun a o e => ?_, by simpa using I.len⟩
  · obtain ⟨sl, e1⟩ := u0.slot b o e n hb hx
    exact ⟨sl, kp b _ (nL b o e) e1⟩
  · obtain ⟨o1, e1⟩ := u0.there b o e hx
    exact ⟨o1, kp b o1 (nL b o e) e1⟩
  · have hj : j ≠ i := fun z => by
      subst z
      have hlt : j < σ.length := by rw [I.len]; exact (List.getElem?_eq_some_iff.mp hi).1
      rw [List.getElem?_set_self hlt] at e2
      cases e2
    rw [List.getElem?_set_ne (Ne.symm hj)] at e2
    have hx : x ≠ n := fun z => hj (nodup_ix hN e1 (z ▸ hi))
    obtain ⟨w, r, l⟩ := hm j x v e1 e2 e3
    refine ⟨w, r, ?_⟩
    rcases l with ⟨k, e⟩ | ⟨k, c, e, z⟩
    · exact .inl ⟨k, by simp [hx, e]⟩
    · exact .inr ⟨k, c, e, z.sameBut hs (I.cne x c e)⟩
  · obtain ⟨v, z⟩ := I.cell x c e
    exact ⟨v, z.sameBut hs (I.cne x c e)⟩
  · obtain ⟨e1, n1, ne, r⟩ := I.pin p hp
    exact ⟨kp _ _ ne e1, n1, ne, r⟩
  · refine (I.hok a o e).stay (fun b v hb q => kp b v ?_ q) (fun _ q => q) fun _ _ q => q
    rcases hb with hb | hb
    · rw [hb]; exact nT a o e
    · exact nT b _ hb
end

noncomputable abbrev Cx.body (X : Cx) (pn : List (Addr × Obj)) (E : Value → Shared → Prop) : Cx := { X with pn := pn, xe := E }
noncomputable abbrev Cx.suite (X : Cx) (e : Addr) : Cx := { X with A := X.A.mark (some (.ref e)), calm := false, xe := fun _ _ => False }
section
variable {X : Cx} {pins pins' : List (Addr × Obj)} {σ : St} {H : Hp} {s : Shared} {E : Value → Shared → Prop} {e : Addr}
theorem Inv.intry (I : Inv X pins σ H s) : Inv (X.body (X.pn ++ pins) E) [] σ H s :=
  ⟨⟨I.ok.mod, I.ok.kind, I.ok.glob, I.ok.blt, I.ok.above, I.ok.inj, I.ok.has, I.ok.cab, I.ok.hd, I.ok.frames, I.ok.stk, I.ok.exf, I.ok.bs, I.ok.bsz, I.ok.noex, I.ok.exfs, I.ok.funs, I.ok.frf⟩,
    I.os, I.bare, I.base, I.loc, I.cell, I.free, I.freeC, fun p hp => I.pin p (by simpa using hp), I.hok, I.len⟩
theorem Inv.offtry (I : Inv (X.body (X.pn ++ pins) E) pins' σ H s) : Inv X pins σ H s :=
  ⟨⟨I.ok.mod, I.ok.kind, I.ok.glob, I.ok.blt, I.ok.above, I.ok.inj, I.ok.has, I.ok.cab, I.ok.hd, I.ok.frames, I.ok.stk, I.ok.exf, I.ok.bs, I.ok.bsz, I.ok.noex, I.ok.exfs, I.ok.funs, I.ok.frf⟩,
    I.os, I.bare, I.base, I.loc, I.cell, I.free, I.freeC, fun p hp => I.pin p (List.mem_append_left _ hp), I.hok, I.len⟩
theorem Inv.insuite (I : Inv X pins σ H s) : Inv (X.suite e) pins σ H s :=
  ⟨⟨I.ok.mod, I.ok.kind, I.ok.glob, I.ok.blt, I.ok.above, I.ok.inj, I.ok.has, I.ok.cab, (fun z => by cases z), I.ok.frames, I.ok.stk, I.ok.exf, I.ok.bs, I.ok.bsz, I.ok.noex, I.ok.exfs, I.ok.funs, I.ok.frf⟩,
    I.os, I.bare, I.base, I.loc, I.cell, I.free, I.freeC, I.pin, I.hok, I.len⟩
theorem Inv.offsuite (I : Inv (X.suite e) pins σ H s) (ok : X.Ok) : Inv X pins σ H s :=
  ⟨ok, I.os, I.bare, I.base, I.loc, I.cell, I.free, I.freeC, I.pin, I.hok, I.len⟩
theorem SP.offtry {D : Ends} {f : Flow} (h : SP (X.body (X.pn ++ pins) E) [] D f s) : SP X pins D f s := by
  cases f with
  | next => obtain ⟨σ', H', J, q⟩ := h; exact ⟨σ', H', J.offtry, q⟩
  | brk => obtain ⟨σ', H', J, q⟩ := h; exact ⟨σ', H', J.offtry, q⟩
  | cont => obtain ⟨σ', H', J, q⟩ := h; exact ⟨σ', H', J.offtry, q⟩
  | ret u => obtain ⟨v, σ', H', J, r, q⟩ := h; exact ⟨v, σ', H', J.offtry, r, q⟩
end
noncomputable def Ends.gone (D : Ends) (i : Nat) : Ends := { nx := fun σ H => D.nx (σ.set i none) H, rt := D.rt, bk := fun σ H => D.bk (σ.set i none) H, ct := fun σ H => D.ct (σ.set i none) H }
noncomputable def tTry (K : PySem.W.Frag) (C0 : Addr) (i : Nat) (tb : XE → TS) (ts : TS) : TS := fun D σ H =>
  tb (fun σ' C od H' => PySem.W.exmOne K C (.ref C0) = some true ∧ ∀ e, H' e = none → ts (D.gone i) (σ'.set i (some (.ref e))) (upd H' e (ExcAt e C od))) D σ H
section
variable {X : Cx} {C0 : Addr} {x n : Str} {np hpos pos : Pos} {i : Nat} {body suite : List Stmt} {b₀ : Stmt} {tb : XE → TS} {ts : TS}
theorem gone_ok {pins : List (Addr × Obj)} {D : Ends} {f : Flow} {s : Shared} {e : Addr} (ok : X.Ok) (hN : X.N.Nodup) (hi : X.N[i]? = some n) (hl : X.env.scope.names.lookup n = some .local) (h : SP (X.suite e) pins (D.gone i) f s) :
    wpAny (model X.prog X.w) X.A (do bindName X.env n .none; unbindBehindTheSuite X.env n hpos) (fun _ s' => SP X pins D f s') X.xe s := by
  have hcls : (X.env.scope.kind == .class || (X.env.scope.kind == .module && X.env.locals != X.env.globals)) = false := by rw [ok.kind]; rfl
  have main : ∀ (σ' : St) (H' : Hp), Inv (X.suite e) pins σ' H' s → ∀ (R : Shared → Prop), (∀ s', Inv X pins (σ'.set i none) H' s' → R s') →
      wpAny (model X.prog X.w) X.A (do bindName X.env n .none; unbindBehindTheSuite X.env n hpos) (fun _ s' => R s') X.xe s := by
    intro σ' H' J R hR
    have J1 := J.offsuite ok
    refine wpAny_bind (wpAny_bindName (store_ok (v := .non) J1 hN hi (.inl hl) rfl (fun s1 J2 => ?_) (.inr hl)))
    obtain ⟨m, hn, hm⟩ := J2.loc
    have hlt : i < σ'.length := by rw [J1.len]; exact (List.getElem?_eq_some_iff.mp hi).1
    obtain ⟨u, ru, lk⟩ := hm i n .non hi (List.getElem?_set_self hlt) (.inl hl)
    have hmn : m n = some u := by
      rcases lk with ⟨_, z⟩ | ⟨z, _⟩
      · exact z
      · rcases z with z | z <;> (have z' : X.env.scope.names.lookup n = _ := z; rw [hl] at z'; cases z')
    unfold unbindBehindTheSuite
    refine wpAny_onRaise (wpAny_mono (wpAny_unbindName_local hl hn hmn hcls fun h' v hn' hs => ?_) (fun _ _ q => q) fun _ _ q => wpAny_standAt q)
    refine hR _ ?_
    have J3 := J2.unbind hN hi hl hn hn' hs hm
    rw [List.set_set] at J3
    exact J3
  cases f with
  | next => obtain ⟨σ', H', J, q⟩ := h; exact main σ' H' J _ fun s' J' => ⟨_, H', J', q⟩
  | brk => obtain ⟨σ', H', J, q⟩ := h; exact main σ' H' J _ fun s' J' => ⟨_, H', J', q⟩
  | cont => obtain ⟨σ', H', J, q⟩ := h; exact main σ' H' J _ fun s' J' => ⟨_, H', J', q⟩
  | ret u => obtain ⟨v, σ', H', J, r, q⟩ := h; exact main σ' H' J _ fun s' J' => ⟨v, _, H', J', r, q⟩
theorem ps_try (hst : X.stack = X.env :: X.outer) (hfr : X.env.frame = some X.env.locals) (hex : X.ex = []) (hN : X.N.Nodup) (hi : X.N[i]? = some n) (hl : X.env.scope.names.lookup n = some .local)
    (hg : Gl X x) (hm : X.mg x = some (.ref C0)) (hb : ∀ pn E EX, Lands (X.body pn E) EX → PSs (X.body pn E) body (tb EX)) (hs : ∀ e, PSs (X.suite e) (b₀ :: suite) ts)
    (hdb : (x == ("__debug__" : Str)) = false := by decide) : PS X (.Try body [.ExceptHandler (some (.Name x np)) (some n) (b₀ :: suite) hpos] [] [] pos) (tTry X.K C0 i tb ts) := by
  intro pins s σ H D I h
  refine wpAny_Try_except (wpAny_mono (hb (X.pn ++ pins) (fun ev s₁ => wpAny (model X.prog X.w) X.A (noteFrame ev X.env) (fun _ s₂ => wpAny (model X.prog X.w) X.A (setFlight ev none) (fun _ s₃ =>
    wpAny (model X.prog X.w) X.A (handleBy ev X.env [.ExceptHandler (some (.Name x np)) (some n) (b₀ :: suite) hpos]) (SP X pins D) X.xe s₃) X.xe s₂) X.xe s₁) _ ?_ [] s σ H D I.intry h) (fun f s1 q => ?_) fun _ _ q => q)
  · -- an exception arrives
    intro pins' σ' H' s1 e C od J F hE
    obtain ⟨hmt, hsuite⟩ := hE
    have J1 : Inv X pins σ' H' s1 := J.offtry
    obtain ⟨⟨B, a0, fl, cov, cvp⟩, c1⟩ := F
    have fl' : Heap.FlyingW B (X.env :: X.outer) e C a0 s1.heap := hst ▸ fl
    have hfrm : X.A.frames = some (X.env :: X.outer) := I.ok.frames.trans (by rw [hst])
    have pn1 : ∀ p ∈ X.pn ++ pins, B.get? p.1 = some p.2 := fun p hp => cvp p (List.mem_append_left _ hp)
    -- where e lies
    have notB : ∀ b o, B.get? b = some o → b ≠ e := fun b o q z => by have := fl'.2.1; rw [← z, q] at this; cases this
    obtain ⟨oe1, vs1, he1, hc1, hd1, _⟩ := fl'.first
    have nfr : e ∉ frs X.stack := fun hm => by
      obtain ⟨_, o, ho, nf⟩ := J1.stack.mem hm
      rw [he1] at ho
      cases ho
      exact nf vs1 hd1
    have hEn : H' e = none := by
      cases q : H' e with
      | none => rfl
      | some v => exact absurd rfl (notB e _ (cov e _ he1 nfr (.inr ⟨v, q⟩)))
    have hE0 : X.s₀.heap.get? e = none := by
      cases q : X.s₀.heap.get? e with
      | none => rfl
      | some o => exact absurd rfl (notB e _ (cov e _ he1 nfr (.inl ⟨o, q⟩)))
    refine note3 hfrm hfr fl' c1 fun h4 held4 c4 sm4 => ?_
    refine lands3 (s := { s1 with heap := h4 }) held4 c4 fun h5 fl5 c5 sm5 => ?_
    have J5 : Inv X pins σ' H' { s1 with heap := h5 } := J1.flown hst hfr hex fl5.1 (sm4.trans sm5) cov pn1
    have J5' : Inv (X.suite e) pins σ' H' { s1 with heap := h5 } := J5.insuite
    obtain ⟨ob, hob, hobc⟩ := fl5.there
    refine wpAny_handleBy_cons (codeAny_handlers_test (ld_glob (X := X.suite e) J5' hg hm ?_ hdb)) (by intro q; cases q)
    have LT : PySem.W.Looks (model X.prog X.w) h5 (typeOf (.ref e)) C := by
      rw [← hobc]
      exact (PySem.W.Looks.ld hob).andThen .now
    refine (PySem.W.exm_one J5.kIn LT hmt).here ?_
    show codeAny _ _ _ _ _
    refine codeAny_handlers_suite_as ?_
    refine landsA3 (s := { s1 with heap := h5 }) fl5 c5 fun h6 fl6 c6 sm6 => ?_
    have J6 : Inv X pins σ' H' { s1 with heap := h6 } := J1.flown hst hfr hex fl6.1 ((sm4.trans sm5).trans sm6) cov pn1
    obtain ⟨oe, vs, he, hc, hd, _⟩ := fl6.first
    obtain ⟨oe', vs', he', hd', h2⟩ := c6
    rw [he] at he'; cases he'; rw [hd] at hd'; cases hd'
    have J7 := J6.trackE he hc hd h2 hEn hE0 fun p hp => notB _ _ (pn1 p hp)
    refine store_ok (X := X.suite e) J7.insuite hN hi (.inl hl) (show RelV (.ref e) (.ref e) from rfl) (fun s8 J8 => ?_) (.inr hl)
    refine wpAny_mono (hs e pins s8 _ _ _ J8 (hsuite e hEn)) (fun f s9 q => ?_) fun _ _ q => q.elim
    exact gone_ok I.ok hN hi hl q
  · cases f with
    | next => exact wpAny_execs_nil (SP.offtry q)
    | brk => exact SP.offtry q
    | cont => exact SP.offtry q
    | ret u => exact SP.offtry q
end
end L2

namespace L2
open PySem PySem.Spec PyProof.Rows
section
variable {X : Cx}
theorem op_mulB : OpR X (binaryOp .Mult) (rI (fun i j => IntMulOk i j) fun i j => .int (i * j)) := opI fun _ _ _ _ _ _ _ hc q => mul_int q hc
noncomputable def CDivB (_ j : Int) : Prop := j ≠ 0 ∧ j.natAbs.log2 < 9000
theorem op_fdivB : OpR X (binaryOp .FloorDiv) (rI CDivB fun i j => .int (i.fdiv j)) := opI fun _ _ _ _ _ _ _ hc q => floordiv_int hc.1 q (.inl (PyProof.noPylong_of_log2 hc.2))
end

mutual
inductive Dt (K : PySem.W.Frag) (H : Hp) : V → PyData → Prop
  | non : Dt K H .non .none
  | bl (b) : Dt K H (.bl b) (.bool b)
  | int (i) : Dt K H (.int i) (.int i)
  | str (x) : Dt K H (.str x) (.str x)
  | lst {a xs ds} : SqL K H a xs → Dts K H xs ds → Dt K H (.ref a) (.list ds)
  | tup {a xs ds} : SqT K H a xs → Dts K H xs ds → Dt K H (.ref a) (.tuple ds)
inductive Dts (K : PySem.W.Frag) (H : Hp) : List V → List PyData → Prop
  | nil : Dts K H [] []
  | cons {x xs d ds} : Dt K H x d → Dts K H xs ds → Dts K H (x :: xs) (d :: ds)
end
theorem Dts.ints {K : PySem.W.Frag} {H : Hp} : ∀ (ns : List Int), Dts K H (ns.map V.int) (ns.map PyData.int)
  | [] => .nil
  | n :: r => .cons (.int n) (Dts.ints r)
section
variable {X : Cx} {pins : List (Addr × Obj)} {σ : St} {H : Hp} {s : Shared}
mutual
theorem Dt.reads (I : Inv X pins σ H s) : ∀ {x : V} {d : PyData} {u : Value}, Dt X.K H x d → RelV x u → ∃ as, Reads s.heap u d as
  | _, _, _, .non, r => by cases (show _ = Value.none from r); exact ⟨_, .none⟩
  | _, _, _, .bl b, r => by cases (show _ = Value.bool b from r); exact ⟨_, .bool b⟩
  | _, _, _, .int i, r => by obtain ⟨t, e⟩ := (show ∃ t, _ = Value.int i t from r); cases e; exact ⟨_, .int i t⟩
  | _, _, _, .str x, r => by obtain ⟨t, e⟩ := (show ∃ t, _ = Value.str x t from r); cases e; exact ⟨_, .str x t⟩
  | _, _, _, .lst (a := a) h hd, r => by
    cases (show _ = Value.ref a from r)
    obtain ⟨its, rv, ⟨o, n, e, c, _, dd⟩, _⟩ := I.list h
    obtain ⟨as, q⟩ := Dts.reads I hd rv
    exact ⟨_, .list e c dd (by simpa using q)⟩
  | _, _, _, .tup (a := a) h hd, r => by
    cases (show _ = Value.ref a from r)
    obtain ⟨its, rv, ⟨o, e, c, n, dd⟩, _⟩ := I.tuple h
    obtain ⟨as, q⟩ := Dts.reads I hd rv
    exact ⟨_, .tuple e c dd (by simpa using q)⟩
theorem Dts.reads (I : Inv X pins σ H s) : ∀ {xs : List V} {ds : List PyData} {us : List Value}, Dts X.K H xs ds → Vals xs us → ∃ as, ReadsAll s.heap us ds as
  | _, _, _, .nil, r => by cases r; exact ⟨_, .nil⟩
  | _, _, _, .cons h t, r => by
    cases r with
    | cons r1 r2 =>
      obtain ⟨as, q1⟩ := Dt.reads I h r1
      obtain ⟨bs, q2⟩ := Dts.reads I t r2
      exact ⟨_, .cons q1 q2⟩
end
end
section
variable {X : Cx}
noncomputable def rEqD (K : PySem.W.Frag) : R2 := fun x y H Q => ∃ d d', Dt K H x d ∧ Dt K H y d' ∧ SeqAt.shaped d = true ∧ SeqAt.shaped d' = true ∧ SeqAt.noMix d d' = true ∧ Q (.bl (same d d')) H
noncomputable def rNeD (K : PySem.W.Frag) : R2 := fun x y H Q => ∃ d d', Dt K H x d ∧ Dt K H y d' ∧ SeqAt.shaped d = true ∧ SeqAt.shaped d' = true ∧ SeqAt.noMix d d' = true ∧ Q (.bl (!same d d')) H
theorem op_eqD (hu : X.A.units + 64 < cLine) : OpR X (compareOp .Eq) (rEqD X.K) := by
  intro pins s σ H x y v u Q I rx ry h
  obtain ⟨d, d', h1, h2, s1, s2, mx, q⟩ := h
  obtain ⟨as, r1⟩ := h1.reads I rx
  obtain ⟨bs, r2⟩ := h2.reads I ry
  exact eq_dataH_same r1 r2 s1 s2 hu mx ⟨.bl (same d d'), H, I, rfl, q⟩
end

theorem PI.or {X : Cx} {tg l : Expr} {wi wi' : TI} (h : PI X tg l wi) (h' : PI X tg l wi') : PI X tg l (fun σ H R => wi σ H R ∨ wi' σ H R) := by
  intro pins s σ H R I q
  rcases q with q | q
  · exact h pins s σ H R I q
  · exact h' pins s σ H R I q

structure ExcCls (K : PySem.W.Frag) (C : Addr) : Prop where
  ga : PySem.W.findIn K (.ref C) "__getattribute__" = some (some (.builtin "BaseException.__getattribute__"))
  gt : PySem.W.findIn K (.ref C) "__getattr__" = some none
  ca : PySem.W.findIn K (.ref C) "__class__" = some (some (.builtin "object.__class__"))
  cg : PySem.W.specialIn K (.builtin "object.__class__") "__get__" = some (some (.builtin "getset_descriptor.__get__"))
  tk : PySem.W.takesIn K (.builtin "object.__class__") = some true
  ob : PySem.W.mroIn K C (.type "object") = some true
  bx : PySem.W.mroIn K C (.type "BaseException") = some true
  cl : (PySem.W.clsIn K C).isSome = true
theorem exc_class {prog : Program} {w : World} {A : Around} {E : Value → Shared → Prop} {s : Shared} {K : PySem.W.Frag} {x C : Addr} {Q : Option Value → Shared → Prop} (F : ExcCls K C) (KX : K.In s.heap) (ho : ∃ o, s.heap.get? x = some o ∧ o.cls = .ref C)
    (h : Q (some (.ref C)) { s with toks := s.toks + 1 }) : wpAny (model prog w) A (getAttr? (.ref x) "__class__") Q E s := by
  obtain ⟨hh, g, d, t, os⟩ := s
  obtain ⟨o, ho, hc⟩ := ho
  have L0 : PySem.W.Looks (model prog w) hh (typeOf (.ref x)) (.ref C) := hc ▸ (PySem.W.Looks.ld ho).andThen .now
  have L1 := PySem.W.looks_findIn (M := model prog w) KX F.ga
  have L2 := PySem.W.looks_findIn (M := model prog w) KX F.gt
  have L3 := PySem.W.looks_findIn (M := model prog w) KX F.ca
  have L4 := PySem.W.looks_specialIn (M := model prog w) KX F.cg
  have L5 := PySem.W.looks_takesIn (M := model prog w) KX F.tk
  have L6 := PySem.W.looks_mroIn (M := model prog w) KX F.ob
  have L7 := PySem.W.looks_mroIn (M := model prog w) KX F.bx
  unfold getAttr? getAttrBy? getAttrBy
  refine wpAny_bind (wpAny_mkText (wpAny_bind (wpAny_attempt (wpAny_holding (wpAny_bind (L0.at (wpAny_bind (L1.at ?_))))))))
  show wpAny _ _ (getAttrByItsOwn _ _ _ _ _ _) _ _ _
  unfold getAttrByItsOwn
  refine wpAny_bind (show wpAny _ _ (hookBefore (.ref C)) _ _ _ from L2.at ?_)
  refine wpAny_bind (wpAny_attempt (wpAny_holding ?_))
  show wpAny _ _ (boundAndCalled _ _ _) _ _ _
  unfold boundAndCalled
  rw [PySem.F.attr_ValueError.ga.bind (.ref x)]
  refine wpAny_bind (wpAny_pure (wpAny_call ?_))
  refine codeAny_call_builtin PySem.F.attr_ValueError.ga.plain PySem.F.entry_bexc_ga ?_
  have hk : builtinKind "BaseException.__getattribute__" = some .slot := by decide +kernel
  have hsplit : splitId "BaseException.__getattribute__" = some ("BaseException", "__getattribute__") := by decide +kernel
  have hargs := PySem.F.args_bexc_ga (.ref x) (.str "__class__" t)
  have LI : PySem.W.Looks (model prog w) hh (isInstance (.ref x) (.type "BaseException")) true := L0.andThen L7
  show wpAny _ _ (checkBuiltinCall "BaseException.__getattribute__" ⟨[.ref x, .str "__class__" t], []⟩) _ _ _
  simp only [checkBuiltinCall, hk, hsplit]
  refine wpAny_bind (LI.at ?_)
  repeat wp_step
  rw [hc]
  refine L3.at ?_
  refine wpAny_bind (show wpAny _ _ (Builtin.ObjectAttr.getOf (some (.builtin "object.__class__"))) _ _ _ from L4.at ?_)
  have LD : PySem.W.Looks (model prog w) hh (Builtin.ObjectAttr.dataDescriptor? (some (.builtin "object.__class__")) (some (.builtin "getset_descriptor.__get__"))) (some (.builtin "getset_descriptor.__get__", .builtin "object.__class__")) := L5.andThen .now
  refine wpAny_bind (LD.at ?_)
  repeat wp_step
  have LO : PySem.W.Looks (model prog w) hh (isInstance (.ref x) (.type "object")) true := L0.andThen L6
  refine codeAny_call_builtin PySem.W.KF.slot_gs.plain PySem.W.KF.entry_gs (PySem.W.KF.slot_gs.check _ _ _ _ _ _ _ _ PySem.W.KF.type_class (PySem.W.KF.args_gs _ _ _) ?_)
  (unfold Builtin.«getset_descriptor.__get__» Builtin.Getset_descriptor.descrGet; rw [PySem.W.dga_obj]; refine wpAny_bind (wpAny_pure ?_))
  (unfold Builtin.Getset_descriptor.descrGetter Builtin.Getset_descriptor.descrCheckInstance Builtin.Getset_descriptor.descrNameAndClass; simp only [PySem.W.KF.owner_class])
  refine wpAny_bind (wpAny_bind (wpAny_pure (wpAny_bind (LO.at (wpAny_pure ?_)))))
  repeat wp_step
  refine ⟨Code.quiet_builtin _ (by decide +kernel), codeAny_builtin PySem.W.KF.entry_class ?_⟩
  (unfold Builtin.«object.__class__» shownTypeOf; repeat wp_step)
  rw [hc]
  exact wpAny_pure (wpAny_pure h)
theorem kitx_exc {K : PySem.W.Frag} {x C : Addr} (F : ExcCls K C) : PySem.W.KitX K (.ref x) (.ref C) (fun h => ∃ o, h.get? x = some o ∧ o.cls = .ref C) where
  ty := fun M h _ ⟨o, ho, hc⟩ => hc ▸ (PySem.W.Looks.ld ho).andThen .now
  it := fun M h KX _ => by
    have q := F.cl
    unfold PySem.W.clsIn at q
    split at q
    · next lk =>
      intro A' Q' E' s' k z
      (unfold isType loadHead; exact wpAny_bind (wpAny_loadPart (k _ _ (KX _ _ lk)) (wpAny_pure z)))
    · cases q
  ne := fun h tp dd its n sl KX htp => by
    have q := F.cl
    refine Bool.eq_false_iff.mpr fun z => ?_
    have e : C = tp := Value.ref.inj (beq_iff_eq.mp z)
    subst e
    unfold PySem.W.clsIn at q
    split at q
    · next lk => exact absurd ((KX _ _ lk).symm.trans htp) (by intro z2; cases z2)
    · cases q
  ca := fun KX p k => exc_class F KX p k
inductive TyX (K : PySem.W.Frag) (H : Hp) : V → Value → Prop where
  | ty {x : V} {t : Value} (h : TyOf K H x t) : TyX K H x t
  | exc {e C : Addr} {od : Option Addr} (h : H e = some (ExcAt e (.ref C) od)) (F : ExcCls K C) : TyX K H (.ref e) (.ref C)
  | tupS {a : Addr} {xs : List V} (h : SqT K H a xs) : TyX K H (.ref a) (.type "tuple")
noncomputable def clsV : V → Value
  | .ty n => .type n
  | .ref a => .ref a
  | _ => .none
noncomputable def isCls : V → Bool
  | .ty _ => true
  | .ref _ => true
  | _ => false
noncomputable def rIsi (K : PySem.W.Frag) : List V → Hp → VK → Prop := fun vs H Q => ∃ x c t b, vs = [x, c] ∧ TyX K H x t ∧ isCls c = true ∧ PySem.W.kitOne K t (clsV c) = some b ∧ Q (.bl b) H
theorem call_isi {X : Cx} : CallR X (.builtin "isinstance") (rIsi X.K) := by
  intro pins s σ H xs us Q I rv h
  obtain ⟨x, c, t, b, rfl, ty, ic, e, q⟩ := h
  obtain ⟨u, w, rfl, r1, r2⟩ := rv.two
  have ew : w = clsV c := by
    cases c <;> first | exact r2 | cases ic
  subst ew
  have fin : ∀ tk, EP X pins σ Q (.bool b) { s with toks := tk } := fun tk => ⟨.bl b, H, I.tok tk, rfl, q⟩
  cases ty with
  | ty h => exact isinst_ok I r1 h e fin
  | exc h F =>
    obtain rfl : u = _ := r1
    obtain ⟨⟨ob, k1, k2, _⟩, _, _⟩ := (show ObjOk X.prog X.w H s.heap _ (ExcAt _ _ _) from I.hok _ _ h)
    exact PySem.W.kia_one (kitx_exc F) I.kIn ⟨ob, k1, k2⟩ e (fun z => nomatch z) fin
  | tupS h =>
    obtain rfl : u = _ := r1
    obtain ⟨its, _, ⟨o, h1, h2, _⟩, _⟩ := I.tuple h
    exact PySem.W.kia_one PySem.W.kitx_tuple I.kIn ⟨o, h1, h2⟩ e (fun z => nomatch z) fin

structure RoomA (k : Nat) (A : Around) : Prop where
  dp : A.depth + 3 * k + 5 < recursionLimit
  un : A.units + 16 * k + 200 < cLine
theorem Room.a {k : Nat} {A : Around} (r : Room k A) : RoomA k A := ⟨r.dp, r.un⟩
theorem RoomA.mono {j k : Nat} {A : Around} (r : RoomA k A) (h : j ≤ k) : RoomA j A := ⟨by have := r.dp; omega, by have := r.un; omega⟩
theorem RoomA.deeper {k : Nat} {A : Around} (r : RoomA (k + 1) A) (env : Env) : RoomA k (A.deeper env) :=
  ⟨by have := r.dp; show A.depth + 1 + 3 * k + 5 < _; omega, by have := r.un; show A.units + 3 + 16 * k + 200 < _; omega⟩
theorem RoomA.mark {k : Nat} {A : Around} (r : RoomA k A) (v : Option Value) : RoomA k (A.mark v) := ⟨r.dp, r.un⟩
theorem RoomA.calm {k : Nat} {A : Around} (r : RoomA k A) : Room k { A with handled := none } := ⟨rfl, r.dp, r.un⟩
structure FnOkA (P : Program) (w : World) (K : PySem.W.Frag) (mg : Str → Option Value) (base : Heap) (k : Nat) (f : Addr) (fd : FuncData) (ps : List Str) (sp : Sp) : Prop where
  len : ∀ vs H Q E, sp vs H Q E → vs.length = ps.length
  run : ∀ (A : Around) (outer : List Env) (s : Shared) (H : Hp) (args : Args) (us : List Value) (vs : List V) (Q : VK) (E : XK), RoomA k A → Env0 P w K mg base A outer s H → BindsTo s fd args (ps.zip us) → Vals vs us → sp vs H Q E →
    codeAny (model P w) A (.call (.ref f) args) (CR CX0 outer P w H s Q E) s
theorem FnOkA.ok {P : Program} {w : World} {K : PySem.W.Frag} {mg : Str → Option Value} {base : Heap} {k : Nat} {f : Addr} {fd : FuncData} {ps : List Str} {sp : Sp} (F : FnOkA P w K mg base k f fd ps sp) : FnOk P w K mg base CX0 k f fd ps sp :=
  ⟨F.len, fun A outer s H args us vs Q E hr => F.run A outer s H args us vs Q E hr.a⟩
noncomputable abbrev cxA (P : Program) (w : World) (K : PySem.W.Frag) (mg : Str → Option Value) (base : Heap) (N : List Str) (qual : Str) (scope : Scope) (f : Addr) (cd : Value) (A : Around) (outer : List Env) (s : Shared) (H : Hp) (E : XK) : Cx :=
  { cxOf CX0 P w K mg base N qual scope f cd A outer s H E with calm := false, xe := fun _ _ => False }
section
variable {P : Program} {w : World} {K : PySem.W.Frag} {mg : Str → Option Value} {base : Heap}
theorem Fun.okA {x qual : Str} {st : Stmt} {f : Addr} {fd : FuncData} {N ps : List Str} {k : Nat} {sp : Sp} (F : Fun K x qual st f fd) (S : FnScope N ps (defScope st)) (len : ∀ vs H Q E, sp vs H Q E → vs.length = ps.length)
    (hbody : ∀ (cdv : Value) (A : Around) (outer : List Env) (s : Shared) (H : Hp) (vs : List V) (Q : VK) (E : XK), RoomA k (A.deeper (envOfC qual (defScope st) s.heap.objs.size f cdv)) → sp vs H Q E →
      ∃ t, PSs (cxA P w K mg base N qual (defScope st) f cdv A outer s H E) (defBody st) t ∧ t { nx := fun _ H' => Q .non H', rt := Q } (start N vs) H) : FnOkA P w K mg base (k + 1) f fd ps sp := by
  obtain ⟨oc, od, kV, doc, pm, an, cdv, ct, osl, rfl, lk, hcd⟩ := F.ex
  refine ⟨len, fun A outer s H args us vs Q E hr e0 hb r hsp => ?_⟩
  have hl := len _ _ _ _ hsp
  have kp : ∀ b o, base.get? b = some o → s.heap.get? b = some o := fun b o e => (e0.bs b o e).1
  have hkind : ∀ y ∈ ps.zip us, (defScope st).names.lookup y.1 = some .local ∨ ((defScope st).names.lookup y.1 = some .cell ∧ ((cellsFrom (s.heap.objs.size + 1) (defScope st).names []).lookup y.1).isSome = true) := fun ⟨n, v⟩ hy => by
    rcases S.par n (List.of_mem_zip hy).1 with q | q
    · exact .inl q
    · exact .inr ⟨q, PySem.W.cellsFrom_some _ _ _ (.inl q)⟩
  refine codeAny_call_function (by have := hr.dp; omega) (e0.mod.kin.keeps kp _ _ lk) rfl S.co S.gen rfl (PySem.W.codeRec_of (e0.mod.kin.keeps kp) hcd) (hb _ _ _ _ ?_)
  refine wpAny_newFunctionEnv_cells S.kind hkind fun env he s1 x => ?_
  subst he
  refine ⟨(e0.mod.nolimit.keeps kp).keeps x.toInCall.keep, codeAny_func ?_⟩
  obtain ⟨t, ht, hq⟩ := hbody cdv A outer s H vs Q E (hr.deeper _) hsp
  have I0 : Inv (cxOf CX0 P w K mg base N qual (defScope st) f cdv { A with handled := none } outer s H E) [] (start N vs) H s1 :=
    inv_start S rfl (⟨e0.frames, e0.mod, e0.bs, e0.bsz, e0.funs, e0.frf, e0.hok, e0.bare⟩ : Env0 P w K mg base { A with handled := none } outer s H) hl r x
  have I : Inv (cxA P w K mg base N qual (defScope st) f cdv A outer s H E) [] (start N vs) H s1 :=
    ⟨⟨I0.ok.mod, I0.ok.kind, I0.ok.glob, I0.ok.blt, I0.ok.above, I0.ok.inj, I0.ok.has, I0.ok.cab, (fun z => by cases z), Around.frames_deeper e0.frames, I0.ok.stk, I0.ok.exf, I0.ok.bs, I0.ok.bsz, I0.ok.noex, I0.ok.exfs, I0.ok.funs, I0.ok.frf⟩,
      I0.os, I0.bare, I0.base, I0.loc, I0.cell, I0.free, I0.freeC, I0.pin, I0.hok, I0.len⟩
  refine wpAny_mono (ht [] s1 (start N vs) H _ I hq) (fun fl s' hs => ?_) fun _ _ z => z.elim
  cases fl with
  | ret u => obtain ⟨v, σ', H', J, rv, q⟩ := hs; exact ⟨v, H', J.os, J.bare, J.base, J.hok, rv, q⟩
  | next => obtain ⟨σ', H', J, q⟩ := hs; exact ⟨.non, H', J.os, J.bare, J.base, J.hok, rfl, q⟩
  | brk => obtain ⟨_, _, _, q⟩ := hs; exact q.elim
  | cont => obtain ⟨_, _, _, q⟩ := hs; exact q.elim
end
section
variable {X : Cx} {k : Nat} {f : Addr} {fd : FuncData} {ps : List Str} {sp : Sp} {dvs : List V} {ds : List Value} {x : Str} {p pos : Pos} {e : Expr} {es : List Expr} {t : TA}
theorem pe_callA (F : FnOkA X.prog X.w X.K X.mg X.base k f fd ps sp) (hr : RoomA k X.A) (hg : Gl X x) (hm : X.mg x = some (.ref f)) (hk : PySem.W.keepIn X.K (.ref f) = true) (hb : Binds X.K fd ps ds) (hd : Vals dvs ds)
    (ha : PA X (e :: es) t) (hdb : (x == ("__debug__" : Str)) = false := by decide) (he : starEach (e :: es) X.env = (false, eval e X.env) :: starEach es X.env := by rfl) (hpl : (backTo pos (starEach es X.env)).any (·.1) = false := by rfl) :
    PE X (.Call (.Name x p) (e :: es) [] pos) (tCall sp dvs E0 t) := by
  intro pins s σ H Q I h
  refine wpAny_Call_Name_kw (ld_glob I hg hm ?_ hdb)
  refine PySem.W.callWith_K (h₀ := X.base) I.ok.mod.kin hk (thn (ha pos pins s σ H _ I h) fun us s1 ⟨vs, H1, I1, r, q⟩ => ⟨I1.kIn, ?_⟩) he hpl
  have r2 : Vals (vs ++ dvs) (us ++ ds) := r.append hd
  have hl : (us ++ ds).length = ps.length := by rw [← r2.length]; exact F.len _ _ _ _ q
  refine wpAny_call (codeAny_mono (F.run X.A X.stack s1 H1 ⟨us, []⟩ (us ++ ds) (vs ++ dvs) Q E0 hr I1.env0 (hb s1 us I1.kIn hl) r2 q) fun r s' hq => ?_)
  cases r with
  | error e => exact False.elim hq
  | ok fl =>
    cases fl with
    | ret u => exact I1.after hq
    | next => exact False.elim hq
    | brk => exact False.elim hq
    | cont => exact False.elim hq
end
end L2

namespace L2
open PySem PySem.Spec PyProof.Rows
section
variable {X : Cx}
theorem op_eqZ : OpR X (compareOp .Eq) (rI0 fun i j => .bl (decide (i = j))) := opB0 fun i j _ _ _ _ _ q => eq_int (by rw [Bool.beq_eq_decide_eq]; exact q)
theorem op_neZ : OpR X (compareOp .NotEq) (rI0 fun i j => .bl (!decide (i = j))) := opB0 fun i j _ _ _ _ _ q => ne_int (by rw [bne, Bool.beq_eq_decide_eq]; exact q)
theorem PS.nox {st : Stmt} {t : TS} (h : PS X.nox st t) : PS X st t := fun pins s σ H D I hw =>
  wpAny_mono (h pins s σ H D (I.wish _) hw) (fun _ _ q => q.unwish) fun _ _ z => z.elim
end
section
variable {P : Program} {w : World} {K : PySem.W.Frag} {mg : Str → Option Value} {base : Heap}
theorem Fun.okX {x qual : Str} {st : Stmt} {f : Addr} {fd : FuncData} {N ps : List Str} {k : Nat} {sp : Sp} (F : Fun K x qual st f fd) (S : FnScope N ps (defScope st)) (len : ∀ vs H Q E, sp vs H Q E → vs.length = ps.length)
    (hbody : ∀ (cdv : Value) (A : Around) (outer : List Env) (s : Shared) (H : Hp) (vs : List V) (Q : VK) (E : XK), Room k (A.deeper (envOfC qual (defScope st) s.heap.objs.size f cdv)) → sp vs H Q E →
      ∃ t, PSs (cxOf (CX1 P w) P w K mg base N qual (defScope st) f cdv A outer s H E) (defBody st) t ∧ t { nx := fun _ H' => Q .non H', rt := Q } (start N vs) H) : FnOk P w K mg base (CX1 P w) (k + 1) f fd ps sp := by
  obtain ⟨oc, od, kV, doc, pm, an, cdv, ct, osl, rfl, lk, hcd⟩ := F.ex
  exact fn_of lk hcd S len fun A outer s H vs Q E hr hsp => hbody cdv A outer s H vs Q E hr hsp
end
end L2
namespace Att
open PySem PySem.W PySem.Calls PyProof.Rows
theorem ofPy_ints : ∀ ns : List Int, ofPys (ns.map PyData.int) = ns.map WData.int
  | [] => rfl
  | n :: r => by
    show ofPy (.int n) :: ofPys (r.map PyData.int) = _
    rw [ofPy_ints r]
    rfl
theorem lay_bits {ns : List Int} (h : (WData.list (ns.map WData.int)).layable = true) : ∀ n ∈ ns, Builtin.Int.intBits n ≤ 1048576 := fun n hn => by
  have e : ofPy (.list (ns.map PyData.int)) = WData.list (ns.map WData.int) := by
    show WData.list (ofPys (ns.map PyData.int)) = _
    rw [ofPy_ints]
  have sh : PySem.Spec.Shape.has (.list .int) (.list (ns.map PyData.int)) = true := by
    simp [PySem.Spec.Shape.has]
  exact intBits_le_of_item hn (layable0_of_all (lay0_ofPy (s := .list .int) rfl sh (by rw [e]; exact h)))
theorem attach_callB {l : OpenLaw} {n : Nat} {q : Program} {loose : List Str} {XP : (Str → Option Value) → Heap → Prop} {YP : World → Heap → Prop} {d : DefRec} (hn : l.most = some n) (hdf : d.params.defaults = [])
    (call : ∀ (w : World) (s₀ s₁ : Shared) (mg mb : Str → Option Value) (fa : Addr) (a : Addr) (vs : List Value) (ns : List Int), Ground q loose [] XP w s₀ mg mb s₁.heap → YP w s₁.heap → mg d.name = some (.ref fa) →
      s₁.heap.get? a = some { cls := .type "list", data := .seq vs.toArray } → IntsAre vs ns → ns.length ≤ n → (∀ m ∈ ns, Builtin.Int.intBits m ≤ 1048576) → s₁.gens = #[] →
      codeAny (model l.prog w) callerA (.call (.ref fa) ⟨[.ref a], []⟩) (fun r s' => r = .ok (.ret (.bool true)) ∧ OldK s₁.heap s'.heap ∧ s'.os = s₁.os ∧ AllBare s'.gens) s₁) :
    WalkO q loose XP YP l.row.toRowW d [] (fun f vs => PySem.call f vs) := by
  intro w s₀ s₁ mg mb G Y fa o pm cd doc dV kV ho hd hcd hD hmg hg args vals as hpre hlay hrd hwl hlo
  obtain rfl : dV = .none := Dflts.none hD hdf
  obtain rfl : kV = .none := Dflts.noKw hD
  obtain ⟨a, vs, ns, rfl, rfl, hobj, hints, hlen⟩ := script_of hn hpre hwl
  have hb := lay_bits (layableW_arg hlay _ List.mem_cons_self)
  refine enter_call (codeAny_mono (call w s₀ s₁ mg mb fa a vs ns G Y hmg hobj hints hlen hb hg) fun r s' hq => ?_)
  obtain ⟨rfl, h2, h3, h4⟩ := hq
  exact ⟨.inl ⟨.bool true, .bool true, [], rfl, fun _ => rfl, .bool true, post_true l _, fun _ => ⟨List.Pairwise.nil, fun _ hm => (nomatch hm)⟩⟩, h2, h3, h4⟩
end Att
namespace L2
open PySem PySem.Spec PyProof.Rows
noncomputable def spLaw (K : PySem.W.Frag) : Sp := fun vs H Q _ => ∃ (a : Addr) (ns : List Int), vs = [.ref a] ∧ SqL K H a (ns.map V.int) ∧ ns.length ≤ 63 ∧ (∀ m ∈ ns, Builtin.Int.intBits m ≤ 1048576) ∧ ∀ H', Q (.bl true) H'
theorem walkB {l : PySem.W.OpenLaw} {k : Nat} {q : Program} {loose : List Str} {XP : (Str → Option Value) → Heap → Prop} {YP : World → Heap → Prop} {d : DefRec} {K : Params → PySem.W.Frag} {x : Str}
    (hn : l.most = some 63) (hdf : d.params.defaults = []) (hr : Room k callerA) (hY : ∀ (w : World) (h : Heap), YP w h → (K w.params).In h)
    (F : ∀ (w : World) (mg : Str → Option Value) (fa : Addr) (h : Heap), (K w.params).In h → h.Ns mainGlobals mg → mg d.name = some (.ref fa) →
      ∃ fd : FuncData, (∀ (s : Shared) (u : Value), BindsTo s fd ⟨[u], []⟩ [(x, u)]) ∧ ∀ base : Heap, (K w.params).In base → base.Ns mainGlobals mg → FnOk l.prog w (K w.params) mg base CX0 k fa fd [x] (spLaw (K w.params))) :
    PySem.W.WalkO q loose XP YP l.row.toRowW d [] (fun f vs => PySem.call f vs) := by
  refine Att.attach_callB hn hdf fun w s₀ s₁ mg mb fa a vs ns G Y hmg hobj hints hlen hb hg => ?_
  have KX := hY w _ Y
  obtain ⟨fd, hbn, hF⟩ := F w mg fa _ KX G.T.g hmg
  exact law_call KX G.T.g G.T.b G.T.builtins G.T.nolimit hg hobj hints (Nat.le_trans hlen (by decide)) hr hF hbn (fun H _ hS => ⟨a, ns, rfl, hS, hlen, hb, fun _ => rfl⟩) fun H e s' z => z
theorem for_st {wi : TI} {g : TG} {tb : TS} {D : Ends} {σ : St} {H : Hp} (h : ∀ B : TS, B = tb → wi σ H fun J H1 => ∃ W : Nat → Nat → St → Hp → Prop, (∃ m, W 0 m σ H1) ∧ ∀ i m σ H, W i m σ H →
    (J.stop i H ∧ D.nx σ H) ∨ (J.go i H ∧ ∃ N : St → Hp → Prop, (∀ σ' H', N σ' H' → ∃ m', m' < m ∧ W (i + 1) m' σ' H') ∧ ∀ x H', J.yld i H x H' → g x σ H' fun σ2 H2 => B { D with nx := N, ct := N, bk := D.nx } σ2 H2)) : tFor wi g tb D σ H := h _ rfl
theorem st {t u : TS} {D : Ends} {σ : St} {H : Hp} (h : ∀ NX : St → Hp → Prop, NX = u D → t { D with nx := NX } σ H) : tSeq t u D σ H := h _ rfl
section
variable {g : Int → Int → V} {C : Int → Int → Prop} {f : Int → V} {i j : Int} {H : Hp} {Q : VK}
theorem rd_rI0 : rI0 g (.int i) (.int j) H Q = Q (g i j) H := propext ⟨fun ⟨_, _, e1, e2, q⟩ => by cases e1; cases e2; exact q, fun q => ⟨_, _, rfl, rfl, q⟩⟩
theorem rd_rI : rI C g (.int i) (.int j) H Q = (C i j ∧ Q (g i j) H) := propext ⟨fun ⟨_, _, e1, e2, q⟩ => by cases e1; cases e2; exact q, fun q => ⟨_, _, rfl, rfl, q⟩⟩
theorem rd_rU : rU f (.int i) H Q = Q (f i) H := propext ⟨fun ⟨_, e1, q⟩ => by cases e1; exact q, fun q => ⟨_, rfl, q⟩⟩
end
theorem Same.new {H : Hp} {a : Addr} {o : HO} (h : H a = none) : Same H (upd H a o) := fun b u e => by rw [upd_ne (ne_of_none e h)]; exact e
theorem Same.over {H H1 : Hp} {a : Addr} {o : HO} (h : H a = none) (s : Same H H1) : Same H (upd H1 a o) := fun b u e => by rw [upd_ne (ne_of_none e h)]; exact s b u e
theorem Same.tup {K : PySem.W.Frag} {H H' : Hp} {a : Addr} {xs : List V} (e : Same H H') (h : SqT K H a xs) : SqT K H' a xs := by
  rcases h with (h | ⟨o, h⟩) | h
  · exact .inl (.inl (e _ _ h))
  · exact .inl (.inr ⟨o, e _ _ h⟩)
  · exact .inr h
section
variable {K : PySem.W.Frag} {a b : Addr} {xs : List V} {te : TE} {fr : List (Str × Nat)} {σ : St} {H : Hp} {Q : VK}
noncomputable def CompP (H : Hp) (a : Addr) (R : Nat → V → Prop) (i : Nat) (H1 : Hp) : Prop := Same H H1 ∧ ∃ ys : List V, H1 a = some (.lst ys) ∧ ys.length = i ∧ ∀ j y, ys[j]? = some y → R j y
theorem CompP.next {R : Nat → V → Prop} {i : Nat} {H1 H2 : Hp} {y : V} (ha : H a = none) (h : CompP H a R i H1) (s : Same H1 H2) (r : R i y) (hz : i < sizeLine) :
    ∃ zs, H2 a = some (.lst zs) ∧ zs.length < sizeLine ∧ CompP H a R (i + 1) (upd H2 a (.lst (zs ++ [y]))) := by
  obtain ⟨s1, ys, e, hl, hr⟩ := h
  refine ⟨ys, s _ _ e, by omega, Same.over ha (s1.trans s), _, upd_same, by simp [hl], fun j z q => ?_⟩
  by_cases hj : j < ys.length
  · rw [List.getElem?_append_left hj] at q
    exact hr j z q
  · rw [List.getElem?_append_right (by omega)] at q
    have : j = i := by
      by_cases h0 : j - ys.length = 0
      · omega
      · rw [List.getElem?_eq_none (by simp; omega)] at q
        cases q
    subst this
    rw [show j - ys.length = 0 by omega] at q
    cases Option.some.inj q
    exact r
end
theorem list_is {α β : Type} {ys : List β} {xs : List α} {f : α → β} (hl : ys.length = xs.length) (h : ∀ (j : Nat) (y : β), ys[j]? = some y → ∃ x, xs[j]? = some x ∧ y = f x) : ys = xs.map f := by
  refine List.ext_getElem (by simpa using hl) fun i h1 h2 => ?_
  obtain ⟨x, e1, e2⟩ := h i ys[i] (by simp [h1])
  obtain ⟨hx, e3⟩ := List.getElem?_eq_some_iff.mp e1
  rw [List.getElem_map, e2, e3]
end L2

namespace L2
open PySem PySem.Spec PyProof.Rows
noncomputable def relab (sc scope : Scope) : Scope := { scope with names := scope.names.map fun (n, k) => if (k == .free && sc.kind == .function && sc.names.lookup n == some .cell) then (n, .cell) else (n, k) }
theorem relab_is {scope sc : Scope} {env : Env} (h : env.scope = sc) : relabel scope env = relab sc scope := by subst h; rfl
theorem own_app : ∀ (names : List (Str × NameKind)) (n : Nat) (acc : List (Str × Addr)), cellsFrom n names acc = cellsFrom n names [] ++ acc
  | [], _, _ => rfl
  | (x, k) :: r, n, acc => by
    unfold cellsFrom
    split
    · rw [own_app r (n + 1) ((x, n) :: acc), own_app r (n + 1) [(x, n)], List.append_assoc]
      rfl
    · exact own_app r n acc
theorem own_mem {y : Str} {b : Addr} : ∀ {names : List (Str × NameKind)} {n : Nat} {acc : List (Str × Addr)}, (y, b) ∈ cellsFrom n names acc → (y, b) ∈ acc ∨ (y, NameKind.cell) ∈ names
  | [], _, _, h => .inl h
  | (x, k) :: r, n, acc, h => by
    unfold cellsFrom at h
    split at h
    · rename_i hk
      rcases own_mem h with q | q
      · rcases List.mem_cons.mp q with e | e
        · have ek : k = .cell := by simpa using hk
          cases e
          exact .inr (by rw [ek]; exact List.mem_cons_self)
        · exact .inl e
      · exact .inr (List.mem_cons_of_mem _ q)
    · rcases own_mem h with q | q
      · exact .inl q
      · exact .inr (List.mem_cons_of_mem _ q)
theorem own_has {y : Str} : ∀ {names : List (Str × NameKind)} {n : Nat} {acc : List (Str × Addr)}, ((y, NameKind.cell) ∈ names ∨ ∃ b, acc.lookup y = some b) → ∃ b, (cellsFrom n names acc).lookup y = some b
  | [], _, _, h => by
    rcases h with h | h
    · simp at h
    · exact h
  | (x, k) :: r, n, acc, h => by
    unfold cellsFrom
    split
    · rename_i hk
      refine own_has ?_
      rcases h with h | ⟨b, h⟩
      · rcases List.mem_cons.mp h with e | e
        · cases e
          exact .inr ⟨n, by rw [List.lookup_cons]; simp⟩
        · exact .inl e
      · rw [List.lookup_cons]
        cases hx : y == x with
        | true => exact .inr ⟨n, rfl⟩
        | false => exact .inr ⟨b, h⟩
    · rename_i hk
      refine own_has ?_
      rcases h with h | h
      · rcases List.mem_cons.mp h with e | e
        · cases e
          simp at hk
        · exact .inl e
      · exact .inr h
theorem relab_was {env : Env} {q : NameKind} : ∀ {names : List (Str × NameKind)} {x : Str},
    (names.map fun (n, k) => if (k == NameKind.free && env.scope.kind == .function && env.kindOf n == some .cell) then (n, NameKind.cell) else (n, k)).lookup x = some q →
    (q = .cell ∨ q = .free) → (x, NameKind.free) ∈ names ∨ (x, NameKind.cell) ∈ names
  | [], _, h, _ => by simp at h
  | (n, k) :: r, x, h, hq => by
    have ih := @relab_was env q r x
    rw [List.map_cons] at h
    dsimp only at h
    by_cases hc : (k == NameKind.free && env.scope.kind == .function && env.kindOf n == some .cell) = true
    · rw [if_pos hc, List.lookup_cons] at h
      cases hx : x == n with
      | true =>
        have ex : x = n := by simpa using hx
        have ek : k = .free := by
          have := (Bool.and_eq_true _ _ ▸ ((Bool.and_eq_true _ _ ▸ hc).1)).1
          simpa using this
        rw [ex, ek]
        exact .inl List.mem_cons_self
      | false =>
        rw [hx] at h
        exact (ih h hq).imp (List.mem_cons_of_mem _) (List.mem_cons_of_mem _)
    · rw [if_neg hc, List.lookup_cons] at h
      cases hx : x == n with
      | true =>
        rw [hx] at h
        have ex : x = n := by simpa using hx
        have ek : k = q := Option.some.inj h
        rcases hq with e | e
        · rw [ex, ek, e]; exact .inr List.mem_cons_self
        · rw [ex, ek, e]; exact .inl List.mem_cons_self
      | false =>
        rw [hx] at h
        exact (ih h hq).imp (List.mem_cons_of_mem _) (List.mem_cons_of_mem _)
theorem key_one {α : Type} {x : Str} {k k' : α} : ∀ {l : List (Str × α)}, (l.map (·.1)).Nodup → (x, k) ∈ l → (x, k') ∈ l → k = k'
  | (n, q) :: r, nd, h, h' => by
    obtain ⟨n1, n2⟩ := List.nodup_cons.mp nd
    rcases List.mem_cons.mp h with e | e <;> rcases List.mem_cons.mp h' with e' | e'
    · cases e; cases e'; rfl
    · cases e; exact absurd (List.mem_map.mpr ⟨_, e', rfl⟩) n1
    · cases e'; exact absurd (List.mem_map.mpr ⟨_, e, rfl⟩) n1
    · exact key_one n2 e e'
theorem newEnv_own {M : Model} {A : Around} {E : Value → Shared → Prop} {s : Shared} {scope : Scope} {globals : Addr} {cl : List (Str × Addr)} {qual : Str} {func : Option Addr} {code : Value} {env : Env} {bl : Addr} {Q : Env → Shared → Prop}
    (h : Q (newEnv scope s.heap.objs.size globals (cellsFrom (s.heap.objs.size + 1) scope.names cl) qual func code (some env) bl) { s with heap := pushCells (s.heap.push { cls := .type "dict", data := .dict #[] }) scope.names }) :
    wpAny M A (newFunctionEnv scope globals cl [] qual func code (some env) bl) Q E s := by
  simp only [newFunctionEnv, Option.isSome_some, if_true]
  refine wpAny_bind (wpAny_alloc ?_)
  refine wpAny_bind (wpAny_layCells _ (fun name kind cells => by cases hkc : kind == NameKind.cell <;> simp [hkc]) _ _ _ _ ?_)
  rw [show ({ s with heap := s.heap.push { cls := .type "dict", data := .dict #[] } } : Shared).heap.objs.size = s.heap.objs.size + 1 from Heap.size_push ..]
  exact wpAny_pure h

noncomputable def cxCompG (X : Cx) (scope : Scope) (N : List Str) (s : Shared) (H : Hp) (fp : List Addr) : Cx :=
  { X with N := N, s₀ := s, H₀ := H, env := compEnvC scope (cellsFrom (s.heap.objs.size + 1) scope.names (clOf X.env scope.names [])) s.heap.objs.size X.env, outer := X.stack, ex := fp, fn := fun y => scope.names.lookup y == some .cell, pn := [], xe := fun _ _ => False }
structure CompOkG (X : Cx) (sc scope : Scope) (xs : List Str) (fr : List (Str × Nat)) : Prop where
  hsc : X.env.scope = sc
  kind : scope.kind = .function
  nn : (scope.names.map (·.1)).Nodup
  free : ∀ y ∈ scope.names, y.2 = .free → sc.names.lookup y.1 = some .cell ∨ sc.names.lookup y.1 = some .free
  loc : ∀ y ∈ scope.names, y.2 = .local → scope.names.lookup y.1 = some .local
  fr : ∀ p ∈ fr, X.N[p.2]? = some p.1 ∧ scope.names.lookup p.1 = some .free
section
variable {X : Cx} {sc scope : Scope} {xs : List Str} {fr : List (Str × Nat)}
theorem CompOkG.free' (c : CompOkG X sc scope xs fr) : ∀ y ∈ scope.names, y.2 = .free → X.env.kindOf y.1 = some .cell ∨ X.env.kindOf y.1 = some .free := fun y hy hf => by
  unfold Env.kindOf
  rw [c.hsc]
  exact c.free y hy hf
theorem CompOkG.cells {pins : List (Addr × Obj)} {σ : St} {H : Hp} {s : Shared} (c : CompOkG X sc scope xs fr) (I : Inv X pins σ H s) : ∀ y ∈ scope.names, y.2 = .free → ∃ c, X.env.cells.lookup y.1 = some c :=
  fun y hy hf => I.ok.has y.1 (c.free' y hy hf)
theorem CompOkG.was {pins : List (Addr × Obj)} {σ : St} {H : Hp} {s : Shared} (c : CompOkG X sc scope xs fr) (I : Inv X pins σ H s) {y : Str} {b : Addr} (h : (clOf X.env scope.names []).lookup y = some b) : X.env.cells.lookup y = some b := by
  rcases clOf_lookup (c.cells I) h with q | q
  · simp at q
  · exact q
theorem cells_cases {names : List (Str × NameKind)} {n : Nat} {cl : List (Str × Addr)} {y : Str} {b : Addr} (h : (cellsFrom n names cl).lookup y = some b) : (cellsFrom n names []).lookup y = some b ∨ ((cellsFrom n names []).lookup y = none ∧ cl.lookup y = some b) := by
  rw [own_app, List.lookup_append] at h
  cases q : (cellsFrom n names []).lookup y with
  | none => rw [q] at h; exact .inr ⟨rfl, h⟩
  | some c => rw [q] at h; exact .inl h
theorem comp_startG {pins : List (Addr × Obj)} {σ : St} {H : Hp} {s : Shared} {fp : List Addr} (c : CompOkG X sc scope xs fr) (I : Inv X pins σ H s)
    (hf : ∀ b ∈ fp, FpOk X pins H b ∧ ∃ o, s.heap.get? b = some o) :
    Inv (cxCompG X scope (xs ++ fr.map (·.1)) s H fp) [] (xs.map (fun _ => none) ++ frees fr σ) H { s with heap := pushCells (s.heap.push { cls := .type "dict", data := .dict #[] }) scope.names } := by
  have k : ∀ b o, s.heap.get? b = some o → (pushCells (s.heap.push { cls := .type "dict", data := .dict #[] }) scope.names).get? b = some o := fun b o e => pushCells_keeps _ _ b o (Heap.get?_push_of_some _ e)
  have hn : (pushCells (s.heap.push { cls := .type "dict", data := .dict #[] }) scope.names).Ns s.heap.objs.size (fun _ => none) := (Heap.Ns.new s.heap (.type "dict")).keeps (pushCells_keeps _ _)
  have ok := cellsFrom_ok scope.names (s.heap.push { cls := .type "dict", data := .dict #[] }) (s.heap.objs.size + 1) [] ⟨fun _ _ hm => (nomatch hm), List.Pairwise.nil⟩ (by rw [Heap.size_push]; exact Nat.le_refl _)
  rw [Heap.size_push] at ok
  have I4 : Inv X pins σ H { s with heap := pushCells (s.heap.push { cls := .type "dict", data := .dict #[] }) scope.names } := I.kept (t' := s.toks) k
  generalize hh : pushCells (s.heap.push { cls := .type "dict", data := .dict #[] }) scope.names = h₁ at k hn ok I4
  have old : ∀ {y : Str} {b : Nat}, (clOf X.env scope.names []).lookup y = some b → b < s.heap.objs.size := fun {y b} e => by
    obtain ⟨v, z⟩ := I.cell y b (c.was I e)
    exact z.lt
  have own : ∀ {y : Str} {b : Nat}, (cellsFrom (s.heap.objs.size + 1) scope.names []).lookup y = some b → h₁.IsCell b none ∧ s.heap.objs.size + 1 ≤ b := fun {y b} e => ok.empty y b (mem_of_lookup e)
  refine ⟨⟨I.ok.mod, c.kind, I.ok.glob, I.ok.blt, Nat.le_refl _, fun y z b h1 h2 => ?_, fun y hy => ?_, fun y b h0 h1 => ?_, I.ok.hd, I.ok.frames, .inl rfl, fun b hb => ?_, fun b o e => ?_, ?_, fun b o e hb => ?_, fun b hb hs => ?_, ?_, fun b hb => ?_⟩,
    rfl, I.bare, Un.kept k, ⟨_, hn, fun i y v h1 h2 h3 => ?_⟩, fun y b h => ?_, ?_, fun y b h => ?_, fun p hp => absurd (show p ∈ ([] : List (Addr × Obj)) from hp) (by simp), I4.hok, ?_⟩
  · rcases cells_cases h1 with e1 | ⟨_, e1⟩ <;> rcases cells_cases h2 with e2 | ⟨_, e2⟩
    · exact name_of_addr ok.apart (mem_of_lookup e1) (mem_of_lookup e2)
    · exact absurd (Nat.lt_of_lt_of_le (old e2) (Nat.le_of_succ_le (own e1).2)) (Nat.lt_irrefl _)
    · exact absurd (Nat.lt_of_lt_of_le (old e1) (Nat.le_of_succ_le (own e2).2)) (Nat.lt_irrefl _)
    · exact I.ok.inj y z b (c.was I e1) (c.was I e2)
  · show ∃ b, (cellsFrom (s.heap.objs.size + 1) scope.names (clOf X.env scope.names [])).lookup y = some b
    have hm : (y, NameKind.free) ∈ scope.names ∨ (y, NameKind.cell) ∈ scope.names := by
      rcases hy with hy | hy
      · exact relab_was hy (.inl rfl)
      · exact relab_was hy (.inr rfl)
    rcases hm with hm | hm
    · exact own_has (.inr (clOf_has (.inl hm)))
    · exact own_has (.inl hm)
  · have hy : scope.names.lookup y = some .cell := by
      have h0' : (scope.names.lookup y == some NameKind.cell) = true := h0
      simpa using h0'
    rcases cells_cases h1 with e1 | ⟨e1, _⟩
    · have := (own e1).2
      show s.heap.objs.size ≤ b
      omega
    · obtain ⟨b', e⟩ := own_has (n := s.heap.objs.size + 1) (acc := []) (.inl (mem_of_lookup hy))
      rw [e1] at e
      cases e
  · obtain ⟨⟨_, _, _, _, f5, _⟩, o, e⟩ := hf b hb
    refine ⟨Nat.ne_of_lt (Heap.lt_size e), fun y b' h => ?_⟩
    rcases cells_cases h with e1 | ⟨_, e1⟩
    · exact fun z => absurd (Nat.lt_of_lt_of_le (Heap.lt_size e) (Nat.le_of_succ_le (z ▸ (own e1).2))) (Nat.lt_irrefl _)
    · exact f5 y b' (c.was I e1)
  · exact I.bs b o e
  · exact Nat.le_trans I.ok.bsz I.sz
  · obtain ⟨⟨_, _, _, f4, _, _⟩, _⟩ := hf b hb
    rcases f4 with z | z
    · exact I.ok.noex b o e z
    · exact absurd (Nat.lt_of_lt_of_le (Heap.lt_size e) (Nat.le_trans I.ok.bsz z)) (Nat.lt_irrefl _)
  · obtain ⟨⟨_, f2, f3, _, _, _⟩, _⟩ := hf b hb
    rcases List.mem_cons.mp (I.stkSub b hs) with z | z
    · exact f2 z
    · exact f3 z
  · exact I.stack
  · exact I.stkFree b hb
  · have h1' : (xs ++ fr.map (·.1))[i]? = some y := h1
    by_cases hi : i < xs.length
    · rw [List.getElem?_append_left (by simpa using hi), List.getElem?_map] at h2
      cases q : xs[i]? with
      | none => rw [q] at h2; cases h2
      | some z => rw [q] at h2; cases Option.some.inj h2
    · rw [List.getElem?_append_right (by omega)] at h1'
      rw [List.getElem?_append_right (by simpa using hi), List.length_map] at h2
      generalize i - xs.length = j at h1' h2
      rw [List.getElem?_map] at h1'
      unfold frees at h2
      rw [List.getElem?_map] at h2
      cases e : fr[j]? with
      | none => rw [e] at h1'; cases h1'
      | some p =>
        rw [e] at h1' h2
        have e1 : p.1 = y := Option.some.inj h1'
        have e2 : σ.getD p.2 none = some v := Option.some.inj h2
        obtain ⟨n1, n2⟩ := c.fr p (List.mem_of_getElem? e)
        have e3 : σ[p.2]? = some (some v) := by
          rw [List.getD_eq_getElem?_getD] at e2
          cases q : σ[p.2]? with
          | none => rw [q] at e2; cases e2
          | some o => rw [q] at e2; have e2' : o = some v := e2; rw [e2']
        subst e1
        have hm : (p.1, NameKind.free) ∈ scope.names := PySem.mem_of_lookup n2
        have kd := c.free' _ hm rfl
        obtain ⟨m', _, hl⟩ := I4.loc
        obtain ⟨u, ru, lk⟩ := hl p.2 p.1 v n1 e3 (.inr kd)
        refine ⟨u, ru, .inr ⟨relabel_free n2, ?_⟩⟩
        rcases lk with ⟨k1, _⟩ | ⟨_, b, q, z⟩
        · rcases kd with kd | kd <;> (rw [kd] at k1; cases k1)
        · obtain ⟨b', q'⟩ := clOf_has (env := X.env) (l := scope.names) (cs := []) (.inl hm)
          have e4 := c.was I q'
          rw [q] at e4
          cases e4
          refine ⟨b, ?_, z⟩
          show (cellsFrom (s.heap.objs.size + 1) scope.names (clOf X.env scope.names [])).lookup p.1 = some b
          rw [own_app, List.lookup_append]
          cases w : (cellsFrom (s.heap.objs.size + 1) scope.names []).lookup p.1 with
          | none => exact q'
          | some b2 =>
            rcases own_mem (mem_of_lookup w) with w | w
            · simp at w
            · cases key_one c.nn hm w
  · rcases cells_cases h with e1 | ⟨_, e1⟩
    · exact ⟨none, (own e1).1⟩
    · exact I4.cell y b (c.was I e1)
  · exact I.hok.fresh (Nat.le_refl _)
  · rcases cells_cases h with e1 | ⟨_, e1⟩
    · exact I.hok.fresh (by have := (own e1).2; omega)
    · exact I4.freeC y b (c.was I e1)
  · show (xs.map (fun _ => none) ++ frees fr σ).length = (xs ++ fr.map (·.1)).length
    simp [frees]
end

noncomputable abbrev TOx := St → Hp → (Option V → Hp → Prop) → Prop
noncomputable def tEl (te : TE)  : TOx := fun σ H Q => te σ H fun y H' => Q (some y) H'
noncomputable def tElIf (tc : TT) (te : TE)  : TOx := fun σ H Q => tc σ H fun b H1 => if b = true then te σ H1 (fun y H' => Q (some y) H') else Q none H1
noncomputable def turnOf (elt : Expr) (ifs : List Expr) (env : Env) (M : Model) (A : Around) (Q : Option Value → Shared → Prop) (E : Value → Shared → Prop) (s : Shared) : Prop :=
  match ifs with
  | [] => wpAny M A (eval elt env) (fun x s1 => Q (some x) s1) E s
  | [c] => wpAny M A (isTrue c env (eval c env)) (fun b s1 => if b = true then wpAny M A (eval elt env) (fun x s2 => Q (some x) s2) E s1 else Q none s1) E s
  | _ => False
noncomputable def POx (X : Cx) (elt : Expr) (ifs : List Expr) (t : TOx) : Prop := ∀ (pins : List (Addr × Obj)) (s : Shared) (σ : St) (H : Hp) (Q : Option V → Hp → Prop), Inv X pins σ H s → t σ H Q →
  turnOf elt ifs X.env (model X.prog X.w) X.A (fun o s' => ∃ v H', Inv X pins σ H' s' ∧ (match o, v with | some u, some y => RelV y u | none, none => True | _, _ => False) ∧ Q v H') X.xe s
theorem po_el {X : Cx} {elt : Expr} {te : TE} (h : PE X elt te) : POx X elt [] (tEl te) := fun pins s σ H Q I hw =>
  thn (h pins s σ H _ I hw) fun u s1 ⟨y, H1, I1, r1, q1⟩ => ⟨some y, H1, I1, r1, q1⟩
theorem po_if {X : Cx} {elt c : Expr} {tc : TT} {te : TE} (hc : PT X c tc) (h : PE X elt te) : POx X elt [c] (tElIf tc te) := fun pins s σ H Q I hw => by
  refine thn (hc pins s σ H _ I hw) fun b s1 ⟨H1, I1, q1⟩ => ?_
  cases b with
  | true =>
    rw [if_pos rfl] at q1 ⊢
    exact thn (h pins s1 σ H1 _ I1 q1) fun u s2 ⟨y, H2, I2, r2, q2⟩ => ⟨some y, H2, I2, r2, q2⟩
  | false =>
    rw [if_neg Bool.false_ne_true] at q1 ⊢
    exact ⟨none, H1, I1, trivial, q1⟩
theorem codeAny_compLoop_gen {prog : Program} {w : World} {A : Around} {R : Result → Shared → Prop} {s : Shared} {elt target iter : Expr} {ifs : List Expr} {scope : Scope} {pos : Pos} {it acc : Value} {env : Env} (I : Nat → Shared → Prop)
    (turn : ∀ n s, I n s → wpAny (model prog w) A (pyNext it) (fun r s₁ => match r with
      | none => R (.ok .next) s₁
      | some v => wpAny (model prog w) A (letOwnedTupleGo target it v) (fun _ s₁' => wpAny (model prog w) A (assign target env v) (fun _ s₂ => turnOf elt ifs env (model prog w) A (fun o s₃ => match o with
          | some x => wpAny (model prog w) A (call (.builtin "list.append") [acc, x]) (fun _ s₄ => ∃ m, m < n ∧ I m s₄) (fun _ _ => False) s₃
          | none => ∃ m, m < n ∧ I m s₃)
          (fun _ _ => False) s₂) (fun _ _ => False) s₁') (fun _ _ => False) s₁) (fun _ _ => False) s)
    (n : Nat) (h : I n s) (hifs : ifs.length ≤ 1) :
    codeAny (model prog w) A (.compLoop (.ListComp elt [⟨target, iter, ifs, 0⟩] scope pos) 0 it acc env) R s := by
  refine codeAny_loop rfl I (fun n s hI => ?_) n h
  show wpAny _ _ ((compTurn (.ListComp elt [⟨target, iter, ifs, 0⟩] scope pos) 0 it acc env).onRaise (fun x => do noteFrame x env; theTreesLotGoes x)) _ _ s
  refine wpAny_noted ?_
  have T := turn n s hI
  match ifs, hifs, T with
  | [], _, T =>
    rw [compTurn_list1]
    refine wpAny_bind (wpAny_standAt (wpAny_bind (wpAny_mono T (fun r s₁ h₁ => ?_) fun _ _ h' => h'.elim)))
    cases r with
    | none => exact wpAny_pure h₁
    | some v =>
      refine wpAny_bind (wpAny_mono h₁ (fun _ s₁' h₁' => ?_) fun _ _ h' => h'.elim)
      exact wpAny_bind (wpAny_mono h₁' (fun _ s₂ h₂ => wpAny_bind (wpAny_bind (wpAny_mono (show wpAny _ _ _ _ _ _ from h₂) (fun x s₃ h₃ => wpAny_bind (wpAny_mono h₃
        (fun _ s₄ h₄ => wpAny_pure (wpAny_pure ⟨rfl, h₄⟩)) fun _ _ h' => h'.elim)) fun _ _ h' => h'.elim))) fun _ _ h' => h'.elim)
  | [c], _, T =>
    have e1 : compTurn (.ListComp elt [⟨target, iter, [c], 0⟩] scope pos) 0 it acc env = (standAt iter.pos >>= fun _ => pyNext it >>= fun r => match r with
      | none => pure (.done .next)
      | some v => letOwnedTupleGo target it v >>= fun _ => assign target env v >>= fun _ => isTrue c env (eval c env) >>= fun ok =>
        (if ok = true then (eval elt env >>= fun x => call (.builtin "list.append") [acc, x] >>= fun _ => pure ()) >>= fun _ => again (.compLoop (.ListComp elt [⟨target, iter, [c], 0⟩] scope pos) 0 it acc env)
          else again (.compLoop (.ListComp elt [⟨target, iter, [c], 0⟩] scope pos) 0 it acc env))) := by
      unfold compTurn
      simp only [List.forIn_cons, List.forIn_nil, if_true, bind_assoc, pure_bind, List.getElem?_cons_zero]
      rfl
    rw [e1]
    refine wpAny_bind (wpAny_standAt (wpAny_bind (wpAny_mono T (fun r s₁ h₁ => ?_) fun _ _ h' => h'.elim)))
    cases r with
    | none => exact wpAny_pure h₁
    | some v =>
      refine wpAny_bind (wpAny_mono h₁ (fun _ s₁' h₁' => ?_) fun _ _ h' => h'.elim)
      refine wpAny_bind (wpAny_mono h₁' (fun _ s₂ h₂ => wpAny_bind (wpAny_mono (show wpAny _ _ _ _ _ _ from h₂) (fun b s₃ h₃ => ?_) fun _ _ h' => h'.elim)) fun _ _ h' => h'.elim)
      cases b with
      | true =>
        rw [if_pos rfl] at h₃ ⊢
        exact wpAny_bind (wpAny_bind (wpAny_mono h₃ (fun x s₄ h₄ => wpAny_bind (wpAny_mono h₄ (fun _ s₅ h₅ => wpAny_pure (wpAny_pure ⟨rfl, h₅⟩)) fun _ _ h' => h'.elim)) fun _ _ h' => h'.elim))
      | false =>
        rw [if_neg Bool.false_ne_true] at h₃ ⊢
        exact wpAny_pure ⟨rfl, h₃⟩
  | _ :: _ :: _, hifs, T =>
    exact absurd hifs (by simp)
end L2
namespace L2
open PySem PySem.Spec PyProof.Rows
noncomputable def outTo (a : Addr) (N : Hp → Prop) : Option V → Hp → Prop
  | some y, H => ∃ zs, H a = some (.lst zs) ∧ zs.length < sizeLine ∧ N (upd H a (.lst (zs ++ [y])))
  | none, H => N H
noncomputable abbrev CompWG (J : It) (g : TG) (tt : TOx) (n : Nat) (fr : List (Str × Nat)) (σ : St) (a : Addr) (H : Hp) (Q : VK) : Prop :=
  ∃ W : Nat → Nat → Hp → Prop, (∃ m, W 0 m (upd H a (.lst []))) ∧ ∀ i m H2, W i m H2 → (J.stop i H2 ∧ Q (.ref a) H2) ∨
    (J.go i H2 ∧ ∃ N : Hp → Prop, (∀ H', N H' → ∃ m', m' < m ∧ W (i + 1) m' H') ∧ ∀ (ys : St) x H3, ys.length = n → J.yld i H2 x H3 →
      g x (ys ++ frees fr σ) H3 fun σ4 H4 => (∃ ys' : St, ys'.length = n ∧ σ4 = ys' ++ frees fr σ) ∧ tt σ4 H4 (outTo a N))
noncomputable def tCompG (wi : TI) (g : TG) (tt : TOx) (n : Nat) (fr : List (Str × Nat)) : TE := fun σ H Q => wi σ H fun J H1 => ∀ a, H1 a = none → CompWG J g tt n fr σ a H1 Q
section
variable {X : Cx} {sc scope : Scope} {xs : List Str} {fr : List (Str × Nat)} {elt tg iter : Expr} {ifs : List Expr} {g : TG} {tt : TOx}
theorem comp_coreG {pins : List (Addr × Obj)} {σ : St} {H : Hp} {s : Shared} {pos : Pos} {J : It} {fp : List Addr} {it : Addr} {tn : Nat → Heap → Prop} {Q : VK} {RR : Value → Addr → Result → Shared → Prop} {E : Value → Shared → Prop}
    (c : CompOkG X sc scope xs fr) (hc : X.calm = true) (hifs : ifs.length ≤ 1) (I : Inv X pins σ H s) (T : Turn X.prog X.w X.K tg J fp it tn) (t0 : tn 0 s.heap) (hf : ∀ b ∈ fp, FpOk X pins H b)
    (hg : ∀ (s₃ : Shared) (H₃ : Hp) (fp : List Addr), (cxCompG X scope (xs ++ fr.map (·.1)) s₃ H₃ fp).env.scope = relab sc scope → PG (cxCompG X scope (xs ++ fr.map (·.1)) s₃ H₃ fp) tg g)
    (he : ∀ (s₃ : Shared) (H₃ : Hp) (fp : List Addr), (cxCompG X scope (xs ++ fr.map (·.1)) s₃ H₃ fp).env.scope = relab sc scope → POx (cxCompG X scope (xs ++ fr.map (·.1)) s₃ H₃ fp) elt ifs tt)
    (hw : ∀ a, H a = none → CompWG J g tt xs.length fr σ a H Q)
    (hRR : ∀ a C H' s' m, s'.heap.Ns C m → Inv X pins σ H' s' → FpOk X pins H' C → Q (.ref a) H' → RR (.ref a) C (.ok .next) s') :
    wpAny (model X.prog X.w) X.A (newList []) (fun acc s₃ => wpAny (model X.prog X.w) X.A (newFunctionEnv scope X.env.globals (clOf X.env scope.names []) [] X.env.qual none .none (some X.env)) (fun cenv s₄ =>
      codeAny (model X.prog X.w) X.A (.compStart (.ListComp elt [⟨tg, iter, ifs, 0⟩] scope pos) 0 (.ref it) acc { cenv with scope := relabel scope X.env }) (RR acc cenv.locals) s₄) E s₃) E s := by
  obtain ⟨W, ⟨m0, w0⟩, turn⟩ := hw s.heap.objs.size I.fresh
  refine wpAny_newObj_type (newEnv_own ?_)
  have I3 : Inv X pins σ (upd H s.heap.objs.size (.lst [])) { s with heap := s.heap.push { cls := .type "list", dict := none, data := .seq ([] : List Value).toArray } } := I.lnew (ys := []) (its := []) (t' := s.toks) .nil (Nat.zero_le _)
  have kp : ∀ b o, s.heap.get? b = some o → (s.heap.push { cls := .type "list", dict := none, data := .seq ([] : List Value).toArray }).get? b = some o := fun b o e => Heap.get?_push_of_some _ e
  have un0 : Un (frs X.stack) fp H (upd H s.heap.objs.size (.lst [])) s.heap (s.heap.push { cls := .type "list", dict := none, data := .seq ([] : List Value).toArray }) := Un.laid kp (Nat.le_refl _) I.fresh
  dsimp only
  generalize hH2 : s.heap.push { cls := .type "list", dict := none, data := .seq ([] : List Value).toArray } = hp2 at I3 kp un0 ⊢
  have hsz : s.heap.objs.size ≤ hp2.objs.size := by rw [← hH2, Heap.size_push]; exact Nat.le_succ _
  have ft : ∀ b ∈ fp, ∃ o, s.heap.get? b = some o := fun b hb => let ⟨o, e, _⟩ := T.obj _ _ t0 b hb; ⟨o, e⟩
  have nea : ∀ b ∈ fp, b ≠ s.heap.objs.size := fun b hb => let ⟨_, e⟩ := ft b hb; Nat.ne_of_lt (Heap.lt_size e)
  have f3 : ∀ b ∈ fp, FpOk X pins (upd H s.heap.objs.size (.lst [])) b ∧ ∃ o, hp2.get? b = some o := fun b hb => by
    obtain ⟨o, e⟩ := ft b hb
    exact ⟨⟨by rw [upd_ne (nea b hb)]; exact (hf b hb).1, (hf b hb).2⟩, o, kp b o e⟩
  have J0 := comp_startG c I3 f3
  have k4 : ∀ b o, hp2.get? b = some o → (pushCells (hp2.push { cls := .type "dict", data := .dict #[] }) scope.names).get? b = some o := fun b o e => pushCells_keeps _ _ b o (Heap.get?_push_of_some _ e)
  have t4 : tn 0 (pushCells (hp2.push { cls := .type "dict", data := .dict #[] }) scope.names) := T.keep 0 _ _ t0 fun b hb o e => k4 b o (kp b o e)
  have esc : ∀ (s₃ : Shared) (H₃ : Hp) (fp : List Addr), (cxCompG X scope (xs ++ fr.map (·.1)) s₃ H₃ fp).env.scope = relab sc scope := fun _ _ _ => relab_is c.hsc
  have stat : ∀ {H' : Hp}, (∀ b ∈ fp, H' b = none) → ∀ b ∈ fp, FpOk (cxCompG X scope (xs ++ fr.map (·.1)) { s with heap := hp2 } (upd H s.heap.objs.size (.lst [])) fp) [] H' b := fun hn b hb => by
    obtain ⟨e1, e2⟩ := J0.ok.exf b hb
    exact ⟨hn b hb, e1, J0.ok.exfs b hb, .inl hb, e2, fun p hp => absurd (show p ∈ ([] : List (Addr × Obj)) from hp) (by simp)⟩
  have loop : codeAny (model X.prog X.w) X.A (.compLoop (.ListComp elt [⟨tg, iter, ifs, 0⟩] scope pos) 0 (.ref it) (.ref s.heap.objs.size) (compEnvC scope (cellsFrom (hp2.objs.size + 1) scope.names (clOf X.env scope.names [])) hp2.objs.size X.env))
      (RR (.ref s.heap.objs.size) hp2.objs.size) { s with heap := pushCells (hp2.push { cls := .type "dict", data := .dict #[] }) scope.names } := by
    refine codeAny_compLoop_gen (fun n s' => ∃ i, ∃ ys : St, ∃ H', ys.length = xs.length ∧ Inv (cxCompG X scope (xs ++ fr.map (·.1)) { s with heap := hp2 } (upd H s.heap.objs.size (.lst [])) fp) [] (ys ++ frees fr σ) H' s' ∧ tn i s'.heap ∧ (∀ b ∈ fp, H' b = none) ∧ W i n H')
      ?_ m0 ⟨0, xs.map fun _ => none, _, by simp, J0, t4, fun b hb => (f3 b hb).1.1, w0⟩ hifs
    rintro n s3 ⟨i, ys, H3, hys, K3, st3, fr3, w3⟩
    rcases turn i n H3 w3 with ⟨stop, qn⟩ | ⟨go, N, hN, step⟩
    · refine thn (T.done (cxCompG X scope (xs ++ fr.map (·.1)) { s with heap := hp2 } (upd H s.heap.objs.size (.lst [])) fp) rfl rfl rfl hc i [] s3 _ H3 (fun _ _ => False) K3 (stat fr3) st3 stop) fun r s4 ⟨hr, K4⟩ => ?_
      subst hr
      obtain ⟨m4, hn4, _⟩ := K4.loc
      have K5 : Inv X pins σ H3 s4 := I.call' K4.os (un0.trans K4.base) K4.hok K4.bare fun b hb => let f := hf b hb; ⟨f.2.2.2.1, f.2.1, f.2.2.2.2.1, f.2.2.2.2.2⟩
      exact hRR _ _ H3 s4 m4 hn4 K5 (I.fpOk hsz K4.free) qn
    · refine thn (T.item (cxCompG X scope (xs ++ fr.map (·.1)) { s with heap := hp2 } (upd H s.heap.objs.size (.lst [])) fp) rfl rfl rfl hc i [] s3 _ H3 (fun _ _ => False) K3 (stat fr3) st3 go) fun r s4 ⟨u, hr, h4⟩ => ?_
      subst hr
      refine thn h4 fun _ s5 ⟨y, H5, K5, r5, y5, st5, fr5⟩ => ?_
      have K5' := K5.pinned (stat fr5) (T.obj _ _ st5)
      refine thn (hg _ _ _ (esc _ _ _) _ s5 _ H5 y u _ K5' r5 (step ys y H5 hys y5)) fun _ s6 ⟨σ6, H6, K6, ⟨ys6, hl6, e6⟩, q6⟩ => ?_
      subst e6
      have fin : ∀ (s8 : Shared) (H8 : Hp), Inv (cxCompG X scope (xs ++ fr.map (·.1)) { s with heap := hp2 } (upd H s.heap.objs.size (.lst [])) fp) ([] ++ pinsAt fp s5.heap) (ys6 ++ frees fr σ) H8 s8 → N H8 →
          ∃ m, m < n ∧ ∃ i, ∃ ys : St, ∃ H', ys.length = xs.length ∧ Inv (cxCompG X scope (xs ++ fr.map (·.1)) { s with heap := hp2 } (upd H s.heap.objs.size (.lst [])) fp) [] (ys ++ frees fr σ) H' s8 ∧ tn i s8.heap ∧ (∀ b ∈ fp, H' b = none) ∧ W i m H' := by
        intro s8 H8 K8 n8
        obtain ⟨m', hm, w8⟩ := hN H8 n8
        refine ⟨m', hm, i + 1, ys6, H8, hl6, K8.unpinned, T.keep _ _ _ st5 fun b hb o e => (K8.pin (b, o) (List.mem_append_right _ (List.mem_append_right _ (mem_pinsAt hb e)))).1, fun b hb => ?_, w8⟩
        obtain ⟨o, e, d⟩ := T.obj _ _ st5 b hb
        exact (K8.pin (b, o) (List.mem_append_right _ (List.mem_append_right _ (mem_pinsAt hb e)))).2.1
      have h7 := he _ _ _ (esc _ _ _) _ s6 _ H6 _ K6 q6
      have mono : ∀ {Q Q' : Option Value → Shared → Prop} {E : Value → Shared → Prop} {s' : Shared} {env : Env}, (∀ o s1, Q o s1 → Q' o s1) → turnOf elt ifs env (model X.prog X.w) X.A Q E s' → turnOf elt ifs env (model X.prog X.w) X.A Q' E s' := by
        intro Q Q' E s' env hq ht
        unfold turnOf at ht ⊢
        match ifs, hifs, ht with
        | [], _, ht => exact wpAny_mono ht (fun x s1 q => hq _ _ q) fun _ _ e => e
        | [c], _, ht =>
          refine wpAny_mono ht (fun b s1 q => ?_) fun _ _ e => e
          split at q
          · rename_i hb; rw [if_pos hb]; exact wpAny_mono q (fun x s2 q => hq _ _ q) fun _ _ e => e
          · rename_i hb; rw [if_neg hb]; exact hq _ _ q
        | _ :: _ :: _, hifs, _ => exact absurd hifs (by simp)
      refine mono (fun o s7 ⟨z7, H7, K7, r7, q7⟩ => ?_) h7
      cases o with
      | none =>
        cases z7 with
        | none => exact fin s7 H7 K7 q7
        | some z => exact r7.elim
      | some v7 =>
        cases z7 with
        | none => exact r7.elim
        | some z7 =>
          obtain ⟨zs, hz, hl, w7⟩ := q7
          exact thn (mt_append _ s7 _ H7 (.ref s.heap.objs.size) [z7] (.ref s.heap.objs.size) [v7] (fun _ H8 => N H8) K7 rfl (.cons r7 .nil) ⟨_, zs, z7, rfl, rfl, hz, hl, w7⟩) fun _ s8 ⟨_, H8, K8, _, n8⟩ => fin s8 H8 K8 n8
  exact codeAny_compStart_list loop (T.self _ 0 _ _ _ t4 loop)
variable {wi : TI}
theorem pe_compG {pos : Pos} (c : CompOkG X sc scope xs fr) (hc : X.calm = true) (hi : PI X tg iter wi)
    (hg : ∀ (s₃ : Shared) (H₃ : Hp) (fp : List Addr), (cxCompG X scope (xs ++ fr.map (·.1)) s₃ H₃ fp).env.scope = relab sc scope → PG (cxCompG X scope (xs ++ fr.map (·.1)) s₃ H₃ fp) tg g)
    (he : ∀ (s₃ : Shared) (H₃ : Hp) (fp : List Addr), (cxCompG X scope (xs ++ fr.map (·.1)) s₃ H₃ fp).env.scope = relab sc scope → POx (cxCompG X scope (xs ++ fr.map (·.1)) s₃ H₃ fp) elt ifs tt)
    (hifs : ifs.length ≤ 1 := by exact Nat.le_of_ble_eq_true rfl) (hs : ∀ x, foldedSetIterable iter X.env x = pure x := by intro _; rfl) : PE X (.ListComp elt [⟨tg, iter, ifs, 0⟩] scope pos) (tCompG wi g tt xs.length fr) := by
  intro pins s σ H Q I h
  rw [eval_ListComp]
  refine wpAny_comprehension_free (use := none) rfl hs (closure_is (c.cells I)) c.kind c.loc (thn (hi pins s σ H _ I h) fun v s1 h1 => thn h1 fun itv s2 h2 => ?_)
  obtain ⟨it, fp, tn, J, H2, e, I2, T, t2, f2, hw⟩ := h2
  subst e
  refine comp_coreG (RR := fun acc C => compPost (model X.prog X.w) X.A X.xe none (EP X pins σ Q) acc C) c hc hifs I2 T t2 f2 hg he hw ?_
  intro a C H' s' m hn K f q
  exact ⟨m, hn, fun h' hs' => ⟨.ref a, H', K.turned (t' := s'.toks) (fun b o hb e => (hs'.2 b hb).trans e) f.1 f.2.1 f.2.2.2.1 f.2.2.2.2.1 f.2.2.2.2.2, rfl, q⟩⟩
theorem ps_setCG {pos spos py : Pos} {y : Str} {i : Nat} (c : CompOkG X sc scope xs fr) (hc : X.calm = true) (hN : X.N.Nodup) (hy : X.N[i]? = some y) (hl : X.env.scope.names.lookup y = some .local) (hi : PI X tg iter wi)
    (hg : ∀ (s₃ : Shared) (H₃ : Hp) (fp : List Addr), (cxCompG X scope (xs ++ fr.map (·.1)) s₃ H₃ fp).env.scope = relab sc scope → PG (cxCompG X scope (xs ++ fr.map (·.1)) s₃ H₃ fp) tg g)
    (he : ∀ (s₃ : Shared) (H₃ : Hp) (fp : List Addr), (cxCompG X scope (xs ++ fr.map (·.1)) s₃ H₃ fp).env.scope = relab sc scope → POx (cxCompG X scope (xs ++ fr.map (·.1)) s₃ H₃ fp) elt ifs tt)
    (hsw : swapsWith (.ListComp elt [⟨tg, iter, ifs, 0⟩] scope pos) (some (.Name y py)) spos.line X.env = pure true := by rfl)
    (hifs : ifs.length ≤ 1 := by exact Nat.le_of_ble_eq_true rfl) (hs : ∀ x, foldedSetIterable iter X.env x = pure x := by intro _; rfl) : PS X (.Assign [.Name y py] (.ListComp elt [⟨tg, iter, ifs, 0⟩] scope pos) spos) (tSetC i (tCompG wi g tt xs.length fr)) := by
  intro pins s σ H D I h
  rw [exec_Assign_Name_used _ _ _ _ hsw]
  refine wpAny_bind (wpAny_standAt (wpAny_bind ?_))
  show wpAny _ _ (do let _ ← comprehension (.ListComp elt [⟨tg, iter, ifs, 0⟩] scope pos) scope X.env _ (newList []) false (eval iter X.env) (some (assign (.Name y py) X.env))) _ _ s
  refine wpAny_bind (wpAny_mono (wpAny_comprehension_free (use := some (assign (.Name y py) X.env)) (Q := fun _ s' => SP X pins D .next s') rfl hs (closure_is (c.cells I)) c.kind c.loc
    (thn (hi pins s σ H _ I h) fun v s1 h1 => thn h1 fun itv s2 h2 => ?_)) (fun _ s' hq => wpAny_pure (wpAny_pure hq)) fun _ _ e => e)
  obtain ⟨it, fp, tn, J, H2, e, I2, T, t2, f2, hw⟩ := h2
  subst e
  refine comp_coreG (RR := fun acc C => compPost (model X.prog X.w) X.A X.xe (some (assign (.Name y py) X.env)) (fun _ s' => SP X pins D .next s') acc C) (Q := fun v H1 => D.nx (σ.set i (some v)) H1) c hc hifs I2 T t2 f2 hg he hw ?_
  intro a C H' s' m hn K f q
  show wpAny _ _ (assign (.Name y py) X.env (.ref a)) _ _ _
  refine wpAny_assign_Name (store_ok2 K hN hy (.inl hl) (show RelV (.ref a) (.ref a) from rfl) (fun s'' K2 ⟨b, sb, hb⟩ => ?_) (.inr hl))
  have hCb : C ≠ b := by
    rcases hb with e | e
    · rw [e]; exact f.2.1
    · exact Ne.symm (f.2.2.2.2.1 y b e)
  refine ⟨m, hn.sameBut sb hCb, fun h' hs' => ?_⟩
  exact ⟨_, H', K2.turned (t' := s''.toks) (fun b o hb e => (hs'.2 b hb).trans e) f.1 f.2.1 f.2.2.2.1 f.2.2.2.2.1 f.2.2.2.2.2, q⟩
end
noncomputable def compGB (sc : Scope) (N : List Str) (scope : Scope) (fr : List (Str × Nat)) : Bool :=
  decide (scope.kind = .function) && decide ((scope.names.map (·.1)).Nodup) && decide (∀ y ∈ scope.names, y.2 = .free → sc.names.lookup y.1 = some .cell ∨ sc.names.lookup y.1 = some .free) &&
  decide (∀ y ∈ scope.names, y.2 = .local → scope.names.lookup y.1 = some .local) && decide (∀ p ∈ fr, N[p.2]? = some p.1 ∧ scope.names.lookup p.1 = some .free)
theorem compG_ok {X : Cx} {sc scope : Scope} {N xs : List Str} {fr : List (Str × Nat)} (h1 : X.env.scope = sc) (h2 : X.N = N) (h : compGB sc N scope fr = true) : CompOkG X sc scope xs fr := by
  unfold compGB at h
  simp only [Bool.and_eq_true, decide_eq_true_eq] at h
  obtain ⟨⟨⟨⟨e1, e2⟩, e3⟩, e4⟩, e5⟩ := h
  subst h2
  exact ⟨h1, e1, e2, e3, e4, e5⟩
noncomputable def nameB (sc : Scope) (N : List Str) (i : Nat) (x : Str) : Bool := decide (N.Nodup) && decide (N[i]? = some x) && (decide (sc.names.lookup x = some .local))
theorem pg_own {X : Cx} {sc : Scope} {N : List Str} {i : Nat} {x : Str} {pos : Pos} (h1 : X.env.scope = sc) (h2 : X.N = N) (h : nameB sc N i x = true) : PG X (.Name x pos) (gName i) := by
  unfold nameB at h
  simp only [Bool.and_eq_true, decide_eq_true_eq] at h
  subst h1 h2
  exact pg_name h.1.1 h.1.2 (.inl h.2) (.inr h.2)
end L2

namespace L2
open PySem PySem.Spec PyProof.Rows
noncomputable def SqB (b : Bool) (K : PySem.W.Frag) (H : Hp) (a : Addr) (xs : List V) : Prop := match b with | false => SqL K H a xs | true => SqT K H a xs
noncomputable def ItB (b : Bool) (h : Heap) (it a : Addr) (i : Nat) : Prop := match b with | false => h.IsListIter it a i | true => h.IsTupleIter it a i
noncomputable def seqB (b : Bool) (h : Heap) (a : Addr) (its : Array Value) : Prop := match b with | false => h.IsList a its | true => h.IsTuple a its
theorem ItB.at {b : Bool} {h h' : Heap} {it a : Addr} {i : Nat} (x : ItB b h it a i) (e : ∀ o, h.get? it = some o → h'.get? it = some o) : ItB b h' it a i := by
  cases b
  · exact Heap.IsListIter.at x e
  · exact Heap.IsTupleIter.at x e
theorem seqB.at {b : Bool} {h h' : Heap} {a : Addr} {its : Array Value} (x : seqB b h a its) (e : ∀ o, h.get? a = some o → h'.get? a = some o) : seqB b h' a its := by
  cases b
  · exact Heap.IsList.at x e
  · obtain ⟨o, ho, r⟩ := x
    exact ⟨o, e o ho, r⟩
theorem ItB.lt {b : Bool} {h : Heap} {it a : Addr} {i : Nat} (x : ItB b h it a i) : ∃ o, h.get? it = some o ∧ ∀ v, o.data ≠ .cell v := by
  cases b
  · obtain ⟨o, e, c, d⟩ := x
    exact ⟨o, e, fun v z => by rw [d] at z; cases z⟩
  · obtain ⟨o, e, c, d⟩ := x
    exact ⟨o, e, fun v z => by rw [d] at z; cases z⟩
section
variable {prog : Program} {w : World} {A : Around} {E : Value → Shared → Prop} {s : Shared}
theorem nextT_item {it t : Addr} {i : Nat} {items} {x : Value} {Q : Value → Shared → Prop} (hit : s.heap.IsTupleIter it t i) (ht : s.heap.IsTuple t items) (hx : items[i]? = some x)
    (hQ : ∀ h', h'.IsTupleIter it t (i + 1) → Heap.SameBut it s.heap h' → Q x { s with heap := h' }) : wpAny (model prog w) A (Builtin.SmallTypes.nextOf (.ref it)) Q E s := by
  obtain ⟨o, ho, hc, hd⟩ := id hit
  obtain ⟨ol, hol, _, nl, hdl⟩ := ht
  unfold Builtin.SmallTypes.nextOf
  refine wpAny_bind (wpAny_callSpecial?_slot (name := Str.ofString "__next__") hit.typeIs F.slot_tuple_iterator_next
    (wpAny_call_entry F.slot_tuple_iterator_next hit.typeIs F.entry_tuple_iterator_next ?_ (F.args_tuple_iterator_next_1 _)))
  show wpAny _ _ (field (.ref it) 0 >>= _) _ _ s
  refine wpAny_bind (wpAny_field ho hd (x := .ref t) rfl ?_)
  show wpAny _ _ (if (Value.ref t == Value.none) = true then _ else _) _ _ s
  rw [if_neg (show ¬ ((Value.ref t == Value.none) = true) from Bool.false_ne_true)]
  show wpAny _ _ (field (.ref it) 1 >>= _) _ _ s
  refine wpAny_bind (wpAny_field ho hd (x := .int i 0) rfl ?_)
  show wpAny _ _ (seqItems? (.ref t) >>= _) _ _ s
  refine wpAny_bind (wpAny_seqItems hol hdl ?_)
  simp only [Int.toNat_natCast, hx]
  refine wpAny_bind (wpAny_setField ho hd (by simp) (wpAny_pure ⟨x, rfl, wpAny_pure (hQ _ ?_ (Heap.SameBut.update ..))⟩))
  exact ⟨_, Heap.get?_update_self _ ho (Obj.isFreed_of_fields (Obj.data_mapFields hd _)), (Obj.cls_mapFields ..).trans hc, by
    rw [Obj.data_mapFields hd]; simp [rawInt]⟩
theorem nextT_end {it t : Addr} {i : Nat} {items} {Q : Value → Shared → Prop} (hh : A.handled = none) (hit : s.heap.IsTupleIter it t i) (ht : s.heap.IsTuple t items) (hx : items[i]? = none)
    (hE : ∀ h' e, Heap.ExtBut it s.heap h' → (∃ o, h'.get? e = some o ∧ o.cls = .type "StopIteration") → E (.ref e) { s with heap := h' }) : wpAny (model prog w) A (Builtin.SmallTypes.nextOf (.ref it)) Q E s := by
  obtain ⟨o, ho, hc, hd⟩ := id hit
  obtain ⟨ol, hol, _, nl, hdl⟩ := ht
  unfold Builtin.SmallTypes.nextOf
  refine wpAny_bind (wpAny_callSpecial?_slot (name := Str.ofString "__next__") hit.typeIs F.slot_tuple_iterator_next
    (wpAny_call_entry F.slot_tuple_iterator_next hit.typeIs F.entry_tuple_iterator_next ?_ (F.args_tuple_iterator_next_1 _)))
  show wpAny _ _ (field (.ref it) 0 >>= _) _ _ s
  refine wpAny_bind (wpAny_field ho hd (x := .ref t) rfl ?_)
  show wpAny _ _ (if (Value.ref t == Value.none) = true then _ else _) _ _ s
  rw [if_neg (show ¬ ((Value.ref t == Value.none) = true) from Bool.false_ne_true)]
  show wpAny _ _ (field (.ref it) 1 >>= _) _ _ s
  refine wpAny_bind (wpAny_field ho hd (x := .int i 0) rfl ?_)
  show wpAny _ _ (seqItems? (.ref t) >>= _) _ _ s
  refine wpAny_bind (wpAny_seqItems hol hdl ?_)
  simp only [Int.toNat_natCast, hx]
  refine wpAny_bind (wpAny_rule (wpAny_bind (wpAny_setField ho hd (by simp) ?_)))
  show wpAny _ _ (newExc (.type "StopIteration") [] >>= _) _ _ _
  refine wpAny_bind ?_
  simp only [newExc, newTuple]
  refine wpAny_bind (wpAny_newObj_type ?_ (by size_fits))
  refine wpAny_bind (m := firstArgMember _ _) (wpAny_of_eq (a := Value.none) (by first | rfl | (simp only [firstArgMember]; rfl)) ?_)
  refine wpAny_newObj_type ?_ (by size_fits)
  simp only [raiseNew]
  refine wpAny_bind (wpAny_handled ?_)
  first | rw [show A.in1.handled = none from hh] | rw [hh]
  refine wpAny_bind (wpAny_pure (wpAny_throw ?_))
  exact hE _ _ (((Heap.SameBut.update ..).extBut.push _).push _) ⟨_, Heap.get?_push_size _ rfl, rfl⟩
theorem nextB_item {b : Bool} {it l : Addr} {i : Nat} {items : Array Value} {x : Value} {Q : Value → Shared → Prop} (hit : ItB b s.heap it l i) (hl : seqB b s.heap l items) (hx : items[i]? = some x)
    (hQ : ∀ h', ItB b h' it l (i + 1) → Heap.SameBut it s.heap h' → Q x { s with heap := h' }) : wpAny (model prog w) A (Builtin.SmallTypes.nextOf (.ref it)) Q E s := by
  cases b
  · exact wpAny_nextOf_list_item hit hl hx hQ
  · exact nextT_item hit hl hx hQ
theorem nextB_end {b : Bool} {it l : Addr} {i : Nat} {items : Array Value} {Q : Value → Shared → Prop} (hh : A.handled = none) (hit : ItB b s.heap it l i) (hl : seqB b s.heap l items) (hx : items[i]? = none)
    (hE : ∀ h' e, Heap.ExtBut it s.heap h' → (∃ o, h'.get? e = some o ∧ o.cls = .type "StopIteration") → E (.ref e) { s with heap := h' }) : wpAny (model prog w) A (Builtin.SmallTypes.nextOf (.ref it)) Q E s := by
  cases b
  · exact wpAny_nextOf_list_end hh hit hl hx hE
  · exact nextT_end hh hit hl hx hE
theorem drawsB (b : Bool) (hh : A.handled = none) (it l : Addr) (hne : l ≠ it) (items : Array Value) :
    Draws prog w A it [it, l] items.size (fun i v => items[i]? = some v) (fun i h => ItB b h it l i ∧ seqB b h l items) where
  live := fun _ _ st => let ⟨o, ho, _⟩ := st.1.lt; ⟨o, ho⟩
  frame := fun _ _ _ st hk => ⟨st.1.at fun o e => hk it (by simp) o e, st.2.at fun o e => hk l (by simp) o e⟩
  item := fun i s Q E hi st hQ => by
    refine nextB_item st.1 st.2 (x := items[i]) (by simp [hi]) fun h' hit' hs' => ?_
    exact hQ _ h' s.toks (by simp [hi]) ⟨hit', st.2.at fun o e => (hs'.2 l hne).trans e⟩ hs'
  done := fun s Q E st hE => nextB_end hh st.1 st.2 (by simp) hE

end
end L2
namespace L2
open PySem PySem.Spec PyProof.Rows
section
variable {X : Cx} {pins : List (Addr × Obj)} {σ : St} {H : Hp} {s : Shared} {h' : Heap}
theorem Inv.seqB {b : Bool} {a : Addr} {xs : List V} (I : Inv X pins σ H s) (h : SqB b X.K H a xs) : ∃ its : List Value, Vals xs its ∧ L2.seqB b s.heap a its.toArray := by
  cases b
  · obtain ⟨its, rv, p, _⟩ := I.list h
    exact ⟨its, rv, p.isList⟩
  · obtain ⟨its, rv, p, _⟩ := I.tuple h
    exact ⟨its, rv, p⟩
theorem Inv.seqB_inj {b : Bool} {a : Addr} {xs ys : List V} (I : Inv X pins σ H s) (h : SqB b X.K H a xs) (h2 : SqB b X.K H a ys) : xs = ys := by
  cases b
  · exact I.list_inj h h2
  · exact I.tuple_inj h h2
theorem Inv.seq_ne {b : Bool} {a f : Addr} {xs : List V} (I : Inv X pins σ H s) (h : SqB b X.K H a xs) (hf : FpOk X pins H f) : a ≠ f := by
  have rd : ∀ u, Rd H a u → a ≠ f := fun u r z => by
    subst z
    rcases r with r | ⟨o, r⟩ <;> (rw [hf.1] at r; cases r)
  have kk : ∀ o, X.K.lookup a = some o → a ≠ f := fun o e z => by
    subst z
    have q := I.mod.kin a o e
    rcases hf.2.2.2.1 with w | w
    · exact I.ok.noex _ _ q w
    · exact absurd (Nat.lt_of_lt_of_le (Heap.lt_size q) (Nat.le_trans I.ok.bsz w)) (Nat.lt_irrefl _)
  cases b
  · rcases h with h | ⟨o, its, n, hk, _⟩
    · exact rd _ h
    · exact kk _ hk
  · rcases h with h | ⟨o, its, n, hk, _⟩
    · exact rd _ h
    · exact kk _ hk
theorem Inv.turnedNew {fp : List Addr} {n : Addr} {u : HO} {t' : Nat} (I : Inv X pins σ H s) (hf : ∀ b ∈ fp, FpOk X pins H b) (k : ∀ b o, b ∉ fp → s.heap.get? b = some o → h'.get? b = some o) (hn : s.heap.objs.size ≤ n)
    (new : ObjOk X.prog X.w (upd H n u) h' n u) : Inv X pins σ (upd H n u) { s with heap := h', toks := t' } := by
  have fn := I.hok.fresh hn
  have nfp : ∀ b v, H b = some v → b ∉ fp := fun b v e z => by rw [(hf b z).1] at e; cases e
  have nl : X.env.locals ∉ fp := fun z => (hf _ z).2.1 rfl
  refine I.step (g' := s.gens) (d' := s.drawn) (ch := fp) (fun b hb => ?_) (fun b o _ _ hc e _ => k b o hc e) (fun b o _ _ hc e _ => ⟨o.slots, k b o hc e⟩) (fun b o _ e z => ?_)
    (fun b o hc e => ⟨o, k b o hc e⟩) (fun b xs e => ?_) (fun b o v e => ?_) (fun b ps e => ⟨#[], ?_⟩) (fun m hm => ?_) (fun b v e => ?_) I.bare
  · obtain ⟨f0, f1, f2, f3, f4, f5⟩ := hf b hb
    exact ⟨f3, f1, f4, f5⟩
  · rw [upd_ne (Nat.ne_of_lt (Nat.lt_of_lt_of_le (Heap.lt_size e) hn))]
    exact z
  · rw [upd_ne (ne_of_none e fn)]; exact e
  · rw [upd_ne (ne_of_none e fn)]; exact e
  · rw [upd_ne (ne_of_none e fn), e]; simp
  · obtain ⟨o, es, ep, ho, r⟩ := hm
    exact ⟨o, es, ep, k _ o nl ho, r⟩
  · by_cases hb : b = n
    · subst hb
      rw [upd_same] at e
      cases e
      exact new
    · rw [upd_ne hb] at e
      refine (I.hok b v e).stay (fun c x hc q => k c x ?_ q) (fun c q => by rw [upd_ne (ne_of_none q fn)]; exact q) fun c xs q => by rw [upd_ne (ne_of_none q fn)]; exact q
      rcases hc with z | z
      · rw [z]; exact nfp b v e
      · exact nfp c _ z
theorem Inv.turnedL {fp : List Addr} {t' : Nat} (I : Inv X pins σ H s) (hf : ∀ b ∈ fp, FpOk X pins H b) (k : ∀ b o, b ∉ fp → s.heap.get? b = some o → h'.get? b = some o) : Inv X pins σ H { s with heap := h', toks := t' } := by
  have nfp : ∀ b v, H b = some v → b ∉ fp := fun b v e z => by rw [(hf b z).1] at e; cases e
  have nl : X.env.locals ∉ fp := fun z => (hf _ z).2.1 rfl
  refine I.step (g' := s.gens) (d' := s.drawn) (ch := fp) (fun b hb => ?_) (fun b o _ _ hc e _ => k b o hc e) (fun b o _ _ hc e _ => ⟨o.slots, k b o hc e⟩) (fun b o _ e z => z)
    (fun b o hc e => ⟨o, k b o hc e⟩) (fun b xs e => e) (fun b o v e => e) (fun b ps e => ⟨#[], by rw [e]; simp⟩) (fun m hm => ?_) (fun b v e => ?_) I.bare
  · obtain ⟨f0, f1, f2, f3, f4, f5⟩ := hf b hb
    exact ⟨f3, f1, f4, f5⟩
  · obtain ⟨o, es, ep, ho, r⟩ := hm
    exact ⟨o, es, ep, k _ o nl ho, r⟩
  · refine (I.hok b v e).stay (fun c x hc q => k c x ?_ q) (fun c q => q) fun c xs q => q
    rcases hc with z | z
    · rw [z]; exact nfp b v e
    · exact nfp c _ z
end
section
variable {X : Cx}
end
end L2

namespace L2
open PySem PySem.Spec PyProof.Rows
open AutoSeq1 (wpAny_loadPart')
set_option maxRecDepth 100000 in
theorem meets_enumT (l : Addr) (items : Array Value) (n : Nat) (dct : Option Addr) (sl : Array (Option Value)) :
    Meets (Builtin.«enumerate.__new__» ⟨[.type "enumerate", .ref l], []⟩) (fun _ R s => s.heap.get? l = some { cls := .type "tuple", dict := dct, data := .seq items n, slots := sl } ∧
      R (.ok (.ret (.ref (s.heap.push { cls := .type "tuple_iterator", data := .fields #[.ref l, .int 0 0] }).objs.size)))
        { s with heap := (s.heap.push { cls := .type "tuple_iterator", data := .fields #[.ref l, .int 0 0] }).push { cls := .type "enumerate", data := .fields #[.none, .bool false, .ref s.heap.objs.size, rawInt 0, .none, .none] } }) :=
  .of_wp fun prog w A R s h => by
    obtain ⟨hp, g, d, tk, os⟩ := s; obtain ⟨hl, h⟩ := h
    have hsub := sub_enumerate
    have hL : Heap.IsTuple (Shared.heap ⟨hp, g, d, tk, os⟩) l items := ⟨_, hl, rfl, n, rfl⟩
    wp_walk using wpAny_loadPart' hl
    refine wpAny_stack_any fun st => wpAny_pure ?_
    split
    · rename_i c _ _ _ _ _
      cases (c == Value.type "enumerate")
      · wp_walk using wpAny_loadPart' hl, wpAny_pyIter_tuple hL
        exact ⟨_, rfl, h⟩
      · wp_walk using wpAny_loadPart' hl, wpAny_pyIter_tuple hL
        exact ⟨_, rfl, h⟩
    · wp_walk using wpAny_loadPart' hl, wpAny_pyIter_tuple hL
      exact ⟨_, rfl, h⟩
theorem call_enumB {prog : Program} {w : World} {A : Around} {E : Value → Shared → Prop} {s : Shared} {b : Bool} {l : Addr} {items : Array Value} {Q : Value → Shared → Prop} (hL : seqB b s.heap l items)
    (h : ∀ h', IsEnum h' (s.heap.objs.size + 1) s.heap.objs.size 0 .none → ItB b h' s.heap.objs.size l 0 →
      (∀ b o, s.heap.get? b = some o → h'.get? b = some o) → Q (.ref (s.heap.objs.size + 1)) { s with heap := h' }) :
    wpAny (model prog w) A (call (.type "enumerate") [.ref l]) Q E s := by
  cases b
  · exact call_enumerate_list hL fun h' a1 a2 a3 a4 => h h' a1 a2 a4
  · obtain ⟨⟨c, dct, dt, sl⟩, hl, hc, n, hd⟩ := hL
    replace hc : c = .type "tuple" := hc
    replace hd : dt = .seq items n := hd
    subst hc hd
    refine callType_new F.called_enumerate (by decide) (F.typeCall_enumerate_1 _) (F.newCall_enumerate_1 _) (fun obj => F.args_object_init_2 obj _) F.entry_enumerate_new
      (meets_enumT l items n dct sl) ⟨hl, ?_⟩
    have hz : (s.heap.push { cls := .type "tuple_iterator", data := .fields #[.ref l, .int 0 0] }).objs.size = s.heap.objs.size + 1 := Heap.size_push ..
    show _ ∧ _
    rw [hz]
    have he : IsEnum ((s.heap.push { cls := .type "tuple_iterator", data := .fields #[.ref l, .int 0 0] }).push
        { cls := .type "enumerate", data := .fields #[.none, .bool false, .ref s.heap.objs.size, rawInt 0, .none, .none] }) (s.heap.objs.size + 1) s.heap.objs.size 0 .none := by
      have := Heap.get?_push_size (s.heap.push { cls := .type "tuple_iterator", data := .fields #[.ref l, .int 0 0] })
        (o := { cls := .type "enumerate", data := .fields #[.none, .bool false, .ref s.heap.objs.size, rawInt 0, .none, .none] }) rfl
      rw [hz] at this; exact this
    refine ⟨⟨_, he, rfl⟩, h _ he ⟨_, Heap.get?_push_of_some _ (Heap.get?_push_size _ rfl), rfl, rfl⟩ fun b o x => Heap.get?_push_of_some _ (Heap.get?_push_of_some _ x)⟩
noncomputable def Ite (K : PySem.W.Frag) (b : Bool) (l : Addr) : It :=
  ⟨fun i H => ∃ xs x, SqB b K H l xs ∧ xs[i]? = some x,
   fun i H v H' => ∃ p x, v = .ref p ∧ H p = none ∧ H' = upd H p (.tup [.int i, x]) ∧ ∀ xs, SqB b K H l xs → xs[i]? = some x,
   fun i H => ∃ xs, SqB b K H l xs ∧ xs.length = i⟩
theorem turn_enum {P : Program} {w : World} {K : PySem.W.Frag} {es : List Expr} {k : Nat} {pos : Pos} {b : Bool} {e it l : Addr} (hd : e ≠ it) :
    Turn P w K (.Tuple es k pos) (Ite K b l) [e, it] e (fun i h => (∃ old, IsEnum h e it i old) ∧ ItB b h it l i) where
  mem := by simp
  obj := fun i h ⟨⟨old, hz⟩, h1⟩ c hc => by
    simp only [List.mem_cons, List.not_mem_nil, or_false] at hc
    rcases hc with e | e <;> subst e
    · exact ⟨_, hz, fun v q => by have q' : Data.fields _ = Data.cell v := q; cases q'⟩
    · exact h1.lt
  keep := fun i h h' ⟨⟨old, hz⟩, h1⟩ kk => ⟨⟨old, kk e (by simp) _ hz⟩, h1.at fun o q => kk it (by simp) o q⟩
  item := by
    intro X hP hw hK hc i pins s σ H E I hf st hg
    subst hP hw hK
    obtain ⟨⟨old, hz⟩, h1⟩ := st
    obtain ⟨xs, x, q1, e1⟩ := hg
    obtain ⟨its1, r1, p1⟩ := I.seqB q1
    obtain ⟨u1, hu1, ru1⟩ := r1.get e1
    have ne1 : ∀ f ∈ [e, it], l ≠ f := fun f hff => I.seq_ne q1 (hf f hff)
    have hlt : i < its1.toArray.size := by
      have := (List.getElem?_eq_some_iff.mp hu1).1
      simpa using this
    refine wpAny_pyNext_enum_itemD (drawsB b (show X.A.in1.handled = none from I.ok.hd hc) it l (ne1 it (by simp)) its1.toArray) hz ⟨h1, p1⟩ hlt hd (fun q => ?_) fun u h' tk hP a1 a2 a3 a4 a5 => ⟨_, rfl, ?_⟩
    · simp only [List.mem_cons, List.not_mem_nil, or_false] at q
      rcases q with q | q
      · exact hd q
      · exact ne1 e (by simp) q.symm
    have eu : u = u1 := by
      have : its1.toArray[i]? = some u1 := by simpa using hu1
      rw [this] at hP
      exact (Option.some.inj hP).symm
    subst eu
    refine wpAny_letOwnedTupleGo_enum a1 fun h'' hz' hs' => ?_
    have ne : s.heap.objs.size ≠ e := Nat.ne_of_gt (Heap.lt_size hz)
    have up : ∀ c o, c ∉ [e, it] → s.heap.get? c = some o → h''.get? c = some o := fun c o hc' q => by
      simp only [List.mem_cons, List.not_mem_nil, or_false, not_or] at hc'
      exact hs'.extBut _ _ hc'.1 (a5 c o hc'.1 hc'.2 q)
    have new : ObjOk X.prog X.w (upd H s.heap.objs.size (.tup [.int i, x])) h'' s.heap.objs.size (.tup [.int i, x]) :=
      ⟨by show 2 ≤ sizeLine; decide, [.int i tk, u], .cons ⟨tk, rfl⟩ (.cons ru1 .nil), ⟨_, hs'.extBut _ _ ne a3, rfl, _, rfl⟩⟩
    have I2 : Inv X pins σ (upd H s.heap.objs.size (.tup [.int i, x])) { s with heap := h'', toks := tk + 1 } := I.turnedNew (t' := tk + 1) hf up (Nat.le_refl _) new
    refine ⟨.ref s.heap.objs.size, _, I2, rfl, ⟨_, x, rfl, I.fresh, rfl, fun xs' q => by rw [I.seqB_inj q q1]; exact e1⟩, ⟨⟨u, by simpa using hz'⟩, a2.1.at fun o q => hs'.extBut _ _ (Ne.symm hd) q⟩, fun c hc' => ?_⟩
    have hcf := (hf c hc').1
    rw [upd_ne]
    · exact hcf
    · intro z
      subst z
      simp only [List.mem_cons, List.not_mem_nil, or_false] at hc'
      rcases hc' with z | z
      · exact ne z
      · obtain ⟨o, q, _⟩ := h1.lt; exact absurd (Heap.lt_size q) (by rw [← z]; exact Nat.lt_irrefl _)
  done := by
    intro X hP hw hK hc i pins s σ H E I hf st hg
    subst hP hw hK
    obtain ⟨⟨old, hz⟩, h1⟩ := st
    obtain ⟨xs, q1, e1⟩ := hg
    obtain ⟨its1, r1, p1⟩ := I.seqB q1
    have ne1 : ∀ f ∈ [e, it], l ≠ f := fun f hff => I.seq_ne q1 (hf f hff)
    have el : its1.toArray.size = i := by rw [List.size_toArray, ← r1.length, e1]
    refine wpAny_pyNext_enum_endD (drawsB b (show X.A.in1.handled = none from I.ok.hd hc) it l (ne1 it (by simp)) its1.toArray) hz ⟨by rw [el]; exact h1, p1⟩ fun h' hx => ⟨rfl, I.turnedL (t' := s.toks) hf fun c o hc' q => ?_⟩
    simp only [List.mem_cons, List.not_mem_nil, or_false, not_or] at hc'
    exact hx c o hc'.2 q
  self := fun _ _ _ _ _ st h => let ⟨⟨_, q⟩, _⟩ := st; wpAny_pyIter_enum q h
section
variable {X : Cx}
noncomputable def iEnum (K : PySem.W.Frag) (ta : TA) : TI := fun σ H R => ta σ H fun vs H1 => ∃ b l, vs = [.ref l] ∧ (∃ xs, SqB b K H1 l xs) ∧ R (Ite K b l) H1
theorem pi_enum {a : Expr} {ta : TA} {es : List Expr} {k : Nat} {tp p pos : Pos} (hg : Gl X "enumerate") (hm : X.mg "enumerate" = none) (ha : PA X [a] ta) (hv : bootBuiltins "enumerate" = some (.type "enumerate") := by decide +kernel)
    (hs : starEach [a] X.env = [(false, eval a X.env)] := by rfl) :
    PI X (.Tuple es k tp) (.Call (.Name "enumerate" p) [a] [] pos) (iEnum X.K ta) := by
  intro pins s σ H R I h
  refine Call_ (ld_blt I hg hm hv (PyProof.Rows.callWith_type1 (thn (ha pos pins s σ H _ I h) fun us s1 ⟨vs, H1, I1, r1, q1⟩ => ?_) hs rfl))
  obtain ⟨b, l, e, ⟨xs, q1⟩, q⟩ := q1
  subst e
  cases r1 with
  | cons r rr =>
    cases rr
    cases r
    obtain ⟨its1, v1, p1⟩ := I1.seqB q1
    refine call_enumB p1 fun h' a1 a2 kp => ?_
    refine wpAny_pyIter_enum a1 ?_
    refine ⟨s1.heap.objs.size + 1, [s1.heap.objs.size + 1, s1.heap.objs.size], _, _, H1, rfl, I1.kept (t' := s1.toks) kp, turn_enum (b := b) (l := l) (by simp), ⟨⟨_, a1⟩, a2⟩, fun c hc => ?_, q⟩
    have hle : s1.heap.objs.size ≤ c := by
      simp only [List.mem_cons, List.not_mem_nil, or_false] at hc
      rcases hc with e | e <;> subst e <;> first | exact Nat.le_refl _ | exact Nat.le_add_right _ _
    exact I1.fpOk hle (I1.hok.fresh hle)
end
end L2

namespace L2
open PySem PySem.Spec PyProof.Rows
theorem SqB.or {b : Bool} {K : PySem.W.Frag} {H : Hp} {a : Addr} {xs : List V} (h : SqB b K H a xs) : SqL K H a xs ∨ SqT K H a xs := by
  cases b
  · exact .inl h
  · exact .inr h
theorem SqB.up {b : Bool} {K : PySem.W.Frag} {H H' : Hp} {a : Addr} {xs : List V} (h : SqB b K H a xs) (s : Same H H') : SqB b K H' a xs := by
  cases b
  · exact s.seq h
  · exact s.tup h
theorem SqB.lst {K : PySem.W.Frag} {H : Hp} {a : Addr} {xs : List V} (h : H a = some (.lst xs)) : SqB false K H a xs := SqL.of h
theorem SqB.tup {K : PySem.W.Frag} {H : Hp} {a : Addr} {xs : List V} (h : H a = some (.tup xs)) : SqB true K H a xs := SqT.of h
noncomputable def Its (K : PySem.W.Frag) (b : Bool) (a : Addr) : It := match b with | false => Itl K a | true => Itt K a
theorem Its.go {K : PySem.W.Frag} {b : Bool} {a : Addr} {xs : List V} {x : V} {i : Nat} {H : Hp} (h : SqB b K H a xs) (e : xs[i]? = some x) : (Its K b a).go i H := by
  cases b
  · exact ⟨xs, x, h, e⟩
  · exact ⟨xs, x, h, e⟩
theorem Its.stop {K : PySem.W.Frag} {b : Bool} {a : Addr} {xs : List V} {i : Nat} {H : Hp} (h : SqB b K H a xs) (e : xs.length ≤ i) : (Its K b a).stop i H := by
  cases b
  · exact ⟨xs, h, e⟩
  · exact ⟨xs, h, e⟩
theorem Its.yld {K : PySem.W.Frag} {b : Bool} {a : Addr} {xs : List V} {i : Nat} {H H' : Hp} {x : V} (h : SqB b K H a xs) (y : (Its K b a).yld i H x H') : H' = H ∧ xs[i]? = some x := by
  cases b
  · exact ⟨y.1, y.2 xs h⟩
  · exact ⟨y.1, y.2 xs h⟩
section
variable {X : Cx}
noncomputable def iSeq (K : PySem.W.Frag) (tl : TE) : TI := fun σ H R => tl σ H fun x H1 => ∃ b a, x = .ref a ∧ (∃ xs, SqB b K H1 a xs) ∧ R (Its K b a) H1
theorem pi_seq {tg l : Expr} {tl : TE} (hl : PE X l tl) : PI X tg l (iSeq X.K tl) := by
  intro pins s σ H R I h
  refine thn (hl pins s σ H _ I h) fun v s1 ⟨x, H1, I1, r1, q1⟩ => ?_
  obtain ⟨b, a, e, ⟨xs, hq⟩, q⟩ := q1
  subst e
  cases r1
  cases b
  · obtain ⟨its, rv, p, hz⟩ := I1.list hq
    refine wpAny_pyIter_list p.isList ?_
    refine ⟨s1.heap.objs.size, [s1.heap.objs.size], _, _, H1, rfl, I1.kept (t' := s1.toks) fun b o e => Heap.get?_push_of_some _ e, turn_list a _, ⟨_, Heap.get?_push_size _ rfl, rfl, rfl⟩, fun b hb => ?_, q⟩
    have e : b = s1.heap.objs.size := by simpa using hb
    subst e
    exact I1.fpOk (Nat.le_refl _) (I1.hok.fresh (Nat.le_refl _))
  · obtain ⟨its, rv, p, hz⟩ := I1.tuple hq
    refine wpAny_pyIter_tuple (show s1.heap.IsTuple a its.toArray from p) ?_
    refine ⟨s1.heap.objs.size, [s1.heap.objs.size], _, _, H1, rfl, I1.kept (t' := s1.toks) fun b o e => Heap.get?_push_of_some _ e, turn_tuple a _, ⟨_, Heap.get?_push_size _ rfl, rfl, rfl⟩, fun b hb => ?_, q⟩
    have e : b = s1.heap.objs.size := by simpa using hb
    subst e
    exact I1.fpOk (Nat.le_refl _) (I1.hok.fresh (Nat.le_refl _))
noncomputable def rIxB (K : PySem.W.Frag) : R2 := fun x y H Q => ∃ b p xs i v, x = .ref p ∧ y = .int i ∧ SqB b K H p xs ∧ atI xs i = some v ∧ Q v H
theorem ix_B : IxR X (rIxB X.K) := by
  intro value slice pins s σ H x y v u Q I rx ry h
  obtain ⟨b, p, xs, i, v', e1, e2, hq, ha, q⟩ := h
  cases b
  · exact ix_list value slice pins s σ H x y v u Q I rx ry ⟨p, xs, i, v', e1, e2, hq, ha, q⟩
  · exact ix_tup value slice pins s σ H x y v u Q I rx ry ⟨p, xs, i, v', e1, e2, hq, ha, q⟩
noncomputable def rLenB (K : PySem.W.Frag) : List V → Hp → VK → Prop := fun xs H Q => ∃ b p ys, xs = [.ref p] ∧ SqB b K H p ys ∧ Q (.int ys.length) H
theorem call_lenB : CallR X (.builtin "len") (rLenB X.K) := by
  intro pins s σ H xs us Q I r h
  obtain ⟨b, p, ys, e, hq, q⟩ := h
  exact call_len_seq pins s σ H xs us Q I r ⟨p, ys, e, hq.or, q⟩
noncomputable def rListB (K : PySem.W.Frag) : List V → Hp → VK → Prop := fun xs H Q => ∃ b p ys, xs = [.ref p] ∧ SqB b K H p ys ∧ ∀ l, H l = none → Q (.ref l) (upd H l (.lst ys))
theorem call_listB : CallR X (.type "list") (rListB X.K) := by
  intro pins s σ H xs us Q I r h
  obtain ⟨b, p, ys, e, hq, q⟩ := h
  exact call_list_of pins s σ H xs us Q I r ⟨p, ys, e, hq.or, q⟩
noncomputable def rTupB (K : PySem.W.Frag) : List V → Hp → VK → Prop := fun xs H Q => ∃ p ys, xs = [.ref p] ∧ ((SqL K H p ys ∧ ∀ l, H l = none → Q (.ref l) (upd H l (.tup ys))) ∨ (SqT K H p ys ∧ Q (.ref p) H))
theorem call_tupB : CallR X (.type "tuple") (rTupB X.K) := call_tuple_of
end
theorem for_seq {K : PySem.W.Frag} {b : Bool} {a : Addr} {xs : List V} {g : TG} {tb : TS} {D : Ends} {σ : St} {H : Hp} (Pv : Nat → St → Hp → Prop) (h0 : Pv 0 σ H) (hl : ∀ i σ H, i ≤ xs.length → Pv i σ H → SqB b K H a xs)
    (hs : ∀ i x σ H, xs[i]? = some x → Pv i σ H → g x σ H fun σ2 H2 => tb { D with nx := Pv (i + 1), ct := Pv (i + 1), bk := D.nx } σ2 H2) (hd : ∀ σ H, Pv xs.length σ H → D.nx σ H) :
    ∃ W : Nat → Nat → St → Hp → Prop, (∃ m, W 0 m σ H) ∧ ∀ i m σ H, W i m σ H →
      ((Its K b a).stop i H ∧ D.nx σ H) ∨ ((Its K b a).go i H ∧ ∃ N : St → Hp → Prop, (∀ σ' H', N σ' H' → ∃ m', m' < m ∧ W (i + 1) m' σ' H') ∧ ∀ x H', (Its K b a).yld i H x H' → g x σ H' fun σ2 H2 => tb { D with nx := N, ct := N, bk := D.nx } σ2 H2) := by
  cases b
  · exact for_list Pv h0 hl hs hd
  · exact for_tup Pv h0 hl hs hd
theorem for_enum {K : PySem.W.Frag} {b : Bool} {a : Addr} {xs : List V} {g : TG} {tb : TS} {D : Ends} {σ : St} {H : Hp} (Pv : Nat → St → Hp → Prop) (h0 : Pv 0 σ H) (hl : ∀ i σ H, i ≤ xs.length → Pv i σ H → SqB b K H a xs)
    (hs : ∀ i x p σ H, xs[i]? = some x → Pv i σ H → H p = none → g (.ref p) σ (upd H p (.tup [.int i, x])) fun σ2 H2 => tb { D with nx := Pv (i + 1), ct := Pv (i + 1), bk := D.nx } σ2 H2) (hd : ∀ σ H, Pv xs.length σ H → D.nx σ H) :
    ∃ W : Nat → Nat → St → Hp → Prop, (∃ m, W 0 m σ H) ∧ ∀ i m σ H, W i m σ H →
      ((Ite K b a).stop i H ∧ D.nx σ H) ∨ ((Ite K b a).go i H ∧ ∃ N : St → Hp → Prop, (∀ σ' H', N σ' H' → ∃ m', m' < m ∧ W (i + 1) m' σ' H') ∧ ∀ x H', (Ite K b a).yld i H x H' → g x σ H' fun σ2 H2 => tb { D with nx := N, ct := N, bk := D.nx } σ2 H2) := by
  refine ⟨fun i m σ H => m = xs.length - i ∧ i ≤ xs.length ∧ Pv i σ H, ⟨xs.length, by simp, Nat.zero_le _, h0⟩, ?_⟩
  rintro i m σ H ⟨rfl, hi, p⟩
  have q := hl i σ H hi p
  by_cases hlt : i < xs.length
  · refine .inr ⟨⟨xs, xs[i], q, by simp [hlt]⟩, Pv (i + 1), fun σ' H' p' => ⟨xs.length - (i + 1), by omega, rfl, hlt, p'⟩, fun x H' y => ?_⟩
    obtain ⟨r, x, rfl, hr, rfl, hx⟩ := y
    exact hs i x r σ H (hx xs q) p hr
  · have e : i = xs.length := by omega
    subst e
    exact .inl ⟨⟨xs, q, rfl⟩, hd σ H p⟩
noncomputable def SameX (a : Addr) (H H' : Hp) : Prop := ∀ b o, b ≠ a → H b = some o → H' b = some o
theorem Same.x {a : Addr} {H H' : Hp} (s : Same H H') : SameX a H H' := fun b o _ e => s b o e
section
variable {J : It} {g : TG} {tt : TOx} {te : TE} {n : Nat} {fr : List (Str × Nat)} {σ : St} {a : Addr} {H : Hp} {Q : VK} {K : PySem.W.Frag}
theorem cg_inv (len : Nat) (P : Nat → List V → Hp → Prop) (ha : H a = none) (hz : len ≤ 1000) (h0 : P 0 [] (upd H a (.lst [])))
    (hl : ∀ i zs H1, P i zs H1 → zs.length ≤ i) (mono : ∀ i zs H1 H2, P i zs H1 → SameX a H1 H2 → P i zs H2)
    (hgo : ∀ i H1, i < len → Same H H1 → J.go i H1) (hstop : ∀ H1, Same H H1 → J.stop len H1)
    (he : ∀ i H1 zs, i < len → Same H H1 → H1 a = some (.lst zs) → P i zs H1 → ∀ (ys : St) x H3, ys.length = n → J.yld i H1 x H3 → ∀ C : Option V → Hp → Prop,
      (∀ y H2, Same H1 H2 → P (i + 1) (zs ++ [y]) H2 → C (some y) H2) → (∀ H2, Same H1 H2 → P (i + 1) zs H2 → C none H2) →
      g x (ys ++ frees fr σ) H3 fun σ4 H4 => (∃ ys' : St, ys'.length = n ∧ σ4 = ys' ++ frees fr σ) ∧ tt σ4 H4 C)
    (hd : ∀ H1 ys, Same H H1 → H1 a = some (.lst ys) → P len ys H1 → Q (.ref a) H1) : CompWG J g tt n fr σ a H Q := by
  refine ⟨fun i m H1 => m = len - i ∧ i ≤ len ∧ Same H H1 ∧ ∃ zs, H1 a = some (.lst zs) ∧ P i zs H1, ⟨len, by simp, Nat.zero_le _, Same.new ha, [], upd_same, h0⟩, ?_⟩
  rintro i m H1 ⟨rfl, hi, s1, zs, ez, p⟩
  by_cases hlt : i < len
  · refine .inr ⟨hgo i H1 hlt s1, fun H' => i + 1 ≤ len ∧ Same H H' ∧ ∃ zs, H' a = some (.lst zs) ∧ P (i + 1) zs H', fun H' q => ⟨len - (i + 1), by omega, rfl, q⟩, fun ys x H3 hys hy => ?_⟩
    refine he i H1 zs hlt s1 ez p ys x H3 hys hy _ (fun y H2 s2 p2 => ?_) fun H2 s2 p2 => ?_
    · refine ⟨zs, s2 _ _ ez, small1000 (by have := hl i zs H1 p; omega), hlt, Same.over ha (s1.trans s2), _, upd_same, mono _ _ _ _ p2 fun b o hb e => ?_⟩
      rw [upd_ne hb]
      exact e
    · exact ⟨hlt, s1.trans s2, zs, s2 _ _ ez, p2⟩
  · have e : i = len := by omega
    subst e
    exact .inl ⟨hstop H1 s1, hd H1 zs s1 ez p⟩
theorem cg_rel (len : Nat) (R : Nat → V → Hp → Prop) (ha : H a = none) (hz : len ≤ 1000) (mono : ∀ i y H1 H2, R i y H1 → SameX a H1 H2 → R i y H2)
    (hgo : ∀ i H1, i < len → Same H H1 → J.go i H1) (hstop : ∀ H1, Same H H1 → J.stop len H1)
    (he : ∀ i H1 zs, i < len → Same H H1 → H1 a = some (.lst zs) → ∀ (ys : St) x H3, ys.length = n → J.yld i H1 x H3 → ∀ Q' : VK, (∀ y H2, Same H1 H2 → R i y H2 → Q' y H2) →
      g x (ys ++ frees fr σ) H3 fun σ4 H4 => (∃ ys' : St, ys'.length = n ∧ σ4 = ys' ++ frees fr σ) ∧ te σ4 H4 Q')
    (hd : ∀ H1 ys, Same H H1 → H1 a = some (.lst ys) → ys.length = len → (∀ j y, ys[j]? = some y → R j y H1) → Q (.ref a) H1) : CompWG J g (tEl te) n fr σ a H Q := by
  refine cg_inv len (fun i zs H1 => zs.length = i ∧ ∀ j y, zs[j]? = some y → R j y H1) ha hz ⟨rfl, fun j y e => by simp at e⟩ (fun i zs H1 p => Nat.le_of_eq p.1) (fun i zs H1 H2 p s => ⟨p.1, fun j y e => mono _ _ _ _ (p.2 j y e) s⟩) hgo hstop ?_ fun H1 ys s e p => hd H1 ys s e p.1 p.2
  intro i H1 zs hi s1 ez p ys x H3 hys hy C hC _
  refine he i H1 zs hi s1 ez ys x H3 hys hy _ fun y H2 s2 r => hC y H2 s2 ⟨by simp [p.1], fun j z e => ?_⟩
  by_cases hj : j < zs.length
  · rw [List.getElem?_append_left hj] at e
    exact mono _ _ _ _ (p.2 j z e) s2.x
  · rw [List.getElem?_append_right (by omega)] at e
    have e0 : j - zs.length = 0 := by
      by_cases h0 : j - zs.length = 0
      · exact h0
      · rw [List.getElem?_eq_none (by simp; omega)] at e; cases e
    rw [e0] at e
    cases Option.some.inj e
    have : j = i := by have := p.1; omega
    rw [this]
    exact r
theorem cg_seq {b : Bool} {l : Addr} {xs : List V} (R : Nat → V → Hp → Prop) (ha : H a = none) (hS : SqB b K H l xs) (hz : xs.length ≤ 1000) (mono : ∀ i y H1 H2, R i y H1 → SameX a H1 H2 → R i y H2)
    (he : ∀ i x H1 zs, xs[i]? = some x → Same H H1 → H1 a = some (.lst zs) → ∀ Q' : VK, (∀ y H2, Same H1 H2 → R i y H2 → Q' y H2) → te (some x :: frees fr σ) H1 Q')
    (hd : ∀ H1 ys, Same H H1 → H1 a = some (.lst ys) → ys.length = xs.length → (∀ j y, ys[j]? = some y → R j y H1) → Q (.ref a) H1) : CompWG (Its K b l) (gName 0) (tEl te) 1 fr σ a H Q := by
  refine cg_rel xs.length R ha hz mono (fun i H1 hi s => Its.go (hS.up s) (x := xs[i]) (by simp [hi])) (fun H1 s => Its.stop (hS.up s) (Nat.le_refl _)) ?_ hd
  intro i H1 zs hi s1 ez ys x H3 hys hy Q' hQ'
  obtain ⟨e1, e2⟩ := Its.yld (hS.up s1) hy
  subst e1
  match ys, hys with
  | [o], _ => exact ⟨⟨[some x], rfl, rfl⟩, he i x H3 zs e2 s1 ez Q' hQ'⟩
theorem cg_range {lo : Int} {len : Nat} (R : Nat → V → Hp → Prop) (ha : H a = none) (hz : len ≤ 1000) (mono : ∀ i y H1 H2, R i y H1 → SameX a H1 H2 → R i y H2)
    (he : ∀ (i : Nat) H1 zs, i < len → Same H H1 → H1 a = some (.lst zs) → ∀ Q' : VK, (∀ y H2, Same H1 H2 → R i y H2 → Q' y H2) → te (some (.int (lo + i)) :: frees fr σ) H1 Q')
    (hd : ∀ H1 ys, Same H H1 → H1 a = some (.lst ys) → ys.length = len → (∀ j y, ys[j]? = some y → R j y H1) → Q (.ref a) H1) : CompWG (Itr lo len) (gName 0) (tEl te) 1 fr σ a H Q := by
  refine cg_rel len R ha hz mono (fun i H1 hi s => hi) (fun H1 s => Nat.le_refl _) ?_ hd
  intro i H1 zs hi s1 ez ys x H3 hys hy Q' hQ'
  obtain ⟨e1, e2⟩ := hy
  subst e1 e2
  match ys, hys with
  | [o], _ => exact ⟨⟨[_], rfl, rfl⟩, he i H3 zs hi s1 ez Q' hQ'⟩
end
noncomputable def MatB (b1 b2 : Bool) (K : PySem.W.Frag) (H : Hp) (a : Addr) (rows : List (List Int)) : Prop := ∃ ps : List Addr, SqB b1 K H a (ps.map V.ref) ∧ ps.length = rows.length ∧ ∀ (i : Nat) (p : Addr) (r : List Int), ps[i]? = some p → rows[i]? = some r → SqB b2 K H p (r.map V.int)
theorem MatB.up {b1 b2 : Bool} {K : PySem.W.Frag} {H H' : Hp} {a : Addr} {rows : List (List Int)} (h : MatB b1 b2 K H a rows) (s : Same H H') : MatB b1 b2 K H' a rows := let ⟨ps, h1, h2, h3⟩ := h; ⟨ps, h1.up s, h2, fun i p r e1 e2 => (h3 i p r e1 e2).up s⟩
noncomputable def RowR (a : Addr) (f : Nat → List Int) (j : Nat) (y : V) (H : Hp) : Prop := ∃ p, y = .ref p ∧ p ≠ a ∧ H p = some (.lst ((f j).map V.int))
theorem RowR.mono {a : Addr} {f : Nat → List Int} (i : Nat) (y : V) (H1 H2 : Hp) (h : RowR a f i y H1) (s : SameX a H1 H2) : RowR a f i y H2 := let ⟨p, e, n, q⟩ := h; ⟨p, e, n, s _ _ n q⟩
end L2

namespace L2
open PySem PySem.Spec PyProof.Rows
noncomputable def iT : Nat → PyData → Bool
  | _, .int _ => true
  | n + 1, .list xs => xs.all (iT n)
  | n + 1, .tuple xs => xs.all (iT n)
  | _, _ => false
theorem iT_lay : ∀ (n : Nat) (d : PyData), iT n d = true → d.canLay0 = true ∧ d.depth ≤ n
  | 0, .int _, _ => by simp [PyData.canLay0, PyData.depth]
  | n + 1, .int _, _ => by simp [PyData.canLay0, PyData.depth]
  | n + 1, .list xs, h => by
    have all : ∀ ys : List PyData, ys.all (iT n) = true → PyData.canLayAll0 ys = true ∧ PyData.depthAll ys ≤ n := by
      intro ys
      induction ys with
      | nil => intro _; simp [PyData.canLayAll0, PyData.depthAll]
      | cons y r ih =>
        intro hy
        rw [List.all_cons, Bool.and_eq_true] at hy
        have h1 := iT_lay n y hy.1
        have h2 := ih hy.2
        simp only [PyData.canLayAll0, PyData.depthAll, Bool.and_eq_true]
        exact ⟨⟨h1.1, h2.1⟩, by omega⟩
    have := all xs (by simpa [iT] using h)
    simp only [PyData.canLay0, PyData.depth]
    exact ⟨this.1, by omega⟩
  | n + 1, .tuple xs, h => by
    have all : ∀ ys : List PyData, ys.all (iT n) = true → PyData.canLayAll0 ys = true ∧ PyData.depthAll ys ≤ n := by
      intro ys
      induction ys with
      | nil => intro _; simp [PyData.canLayAll0, PyData.depthAll]
      | cons y r ih =>
        intro hy
        rw [List.all_cons, Bool.and_eq_true] at hy
        have h1 := iT_lay n y hy.1
        have h2 := ih hy.2
        simp only [PyData.canLayAll0, PyData.depthAll, Bool.and_eq_true]
        exact ⟨⟨h1.1, h2.1⟩, by omega⟩
    have := all xs (by simpa [iT] using h)
    simp only [PyData.canLay0, PyData.depth]
    exact ⟨this.1, by omega⟩
theorem iT_mix : ∀ (n : Nat) (d d' : PyData), iT n d = true → iT n d' = true → SeqAt.noMix d d' = true := by
  intro n
  induction n with
  | zero => intro d d' h h'; cases d <;> simp [iT] at h <;> cases d' <;> simp [iT] at h' <;> simp [SeqAt.noMix]
  | succ n ih =>
    have all : ∀ ys zs : List PyData, ys.all (iT n) = true → zs.all (iT n) = true → SeqAt.noMixAll ys zs = true := by
      intro ys
      induction ys with
      | nil => intro zs _ _; cases zs <;> simp [SeqAt.noMixAll]
      | cons y r ihr =>
        intro zs hy hz
        cases zs with
        | nil => simp [SeqAt.noMixAll]
        | cons z t =>
          rw [List.all_cons, Bool.and_eq_true] at hy hz
          simp only [SeqAt.noMixAll, Bool.and_eq_true]
          exact ⟨ih y z hy.1 hz.1, ihr t hy.2 hz.2⟩
    intro d d' h h'
    cases d <;> simp only [iT, Bool.false_eq_true] at h <;> cases d' <;> simp only [iT, Bool.false_eq_true] at h' <;> simp only [SeqAt.noMix]
    · exact all _ _ h h'
    · exact all _ _ h h'
theorem iT_same : ∀ (n : Nat) (d d' : PyData), iT n d = true → iT n d' = true → (same d d' = true ↔ d = d') := by
  intro n
  induction n with
  | zero => intro d d' h h'; cases d <;> simp [iT] at h <;> cases d' <;> simp [iT] at h' <;> simp [same]
  | succ n ih =>
    have all : ∀ ys zs : List PyData, ys.all (iT n) = true → zs.all (iT n) = true → (sameAll ys zs = true ↔ ys = zs) := by
      intro ys
      induction ys with
      | nil => intro zs _ _; cases zs <;> simp [sameAll]
      | cons y r ihr =>
        intro zs hy hz
        cases zs with
        | nil => simp [sameAll]
        | cons z t =>
          rw [List.all_cons, Bool.and_eq_true] at hy hz
          simp only [sameAll, Bool.and_eq_true, List.cons.injEq]
          rw [ih y z hy.1 hz.1, ihr t hy.2 hz.2]
    intro d d' h h'
    cases d <;> simp only [iT, Bool.false_eq_true] at h <;> cases d' <;> simp only [iT, Bool.false_eq_true] at h' <;> simp only [same, beq_iff_eq, PyData.int.injEq, PyData.list.injEq, PyData.tuple.injEq, reduceCtorEq, Bool.false_eq_true]
    · exact all _ _ h h'
    · exact all _ _ h h'
theorem iT_shaped {n : Nat} {d : PyData} (hn : n ≤ 64) (h : iT n d = true) : SeqAt.shaped d = true := by
  have := iT_lay n d h
  unfold SeqAt.shaped
  rw [Bool.and_eq_true]
  exact ⟨this.1, decide_eq_true (by omega)⟩
section
variable {K : PySem.W.Frag} {H : Hp} {x y : V} {d d' : PyData} {Q : VK}
theorem eqD_of (n : Nat) (hn : n ≤ 64) (h1 : Dt K H x d) (h2 : Dt K H y d') (t1 : iT n d = true) (t2 : iT n d' = true) {b : Bool} (hb : b = true ↔ d = d') (q : Q (.bl b) H) : rEqD K x y H Q := by
  refine ⟨d, d', h1, h2, iT_shaped hn t1, iT_shaped hn t2, iT_mix n d d' t1 t2, ?_⟩
  have := iT_same n d d' t1 t2
  have e : same d d' = b := by
    cases hs : same d d' <;> cases b <;> simp_all
  rw [e]
  exact q
theorem neD_of (n : Nat) (hn : n ≤ 64) (h1 : Dt K H x d) (h2 : Dt K H y d') (t1 : iT n d = true) (t2 : iT n d' = true) {b : Bool} (hb : b = true ↔ d = d') (q : Q (.bl (!b)) H) : rNeD K x y H Q := by
  refine ⟨d, d', h1, h2, iT_shaped hn t1, iT_shaped hn t2, iT_mix n d d' t1 t2, ?_⟩
  have := iT_same n d d' t1 t2
  have e : same d d' = b := by
    cases hs : same d d' <;> cases b <;> simp_all
  rw [e]
  exact q
end
noncomputable def seqD (b : Bool) (ds : List PyData) : PyData := match b with | false => .list ds | true => .tuple ds
noncomputable def intsD (b : Bool) (ns : List Int) : PyData := seqD b (ns.map PyData.int)
noncomputable def matD (b1 b2 : Bool) (rows : List (List Int)) : PyData := seqD b1 (rows.map (intsD b2))
theorem seqD_inj {b : Bool} {xs ys : List PyData} : seqD b xs = seqD b ys ↔ xs = ys := by cases b <;> simp [seqD]
theorem map_inj {α β : Type} {f : α → β} (hf : ∀ x y, f x = f y → x = y) : ∀ {xs ys : List α}, xs.map f = ys.map f ↔ xs = ys
  | [], [] => by simp
  | [], _ :: _ => by simp
  | _ :: _, [] => by simp
  | x :: r, y :: t => by
    rw [List.map_cons, List.map_cons, List.cons.injEq, List.cons.injEq, map_inj hf]
    exact ⟨fun h => ⟨hf _ _ h.1, h.2⟩, fun h => ⟨by rw [h.1], h.2⟩⟩
theorem intsD_inj {b : Bool} {ns ms : List Int} : intsD b ns = intsD b ms ↔ ns = ms := by
  unfold intsD
  rw [seqD_inj, map_inj fun x y h => by injection h]
theorem matD_inj {b1 b2 : Bool} {A B : List (List Int)} : matD b1 b2 A = matD b1 b2 B ↔ A = B := by
  unfold matD
  rw [seqD_inj, map_inj fun x y h => intsD_inj.mp h]
theorem iT_ints (b : Bool) (n : Nat) (ns : List Int) : iT (n + 1) (intsD b ns) = true := by
  have : (ns.map PyData.int).all (iT n) = true := by
    rw [List.all_eq_true]
    intro d hd
    obtain ⟨i, _, rfl⟩ := List.mem_map.mp hd
    cases n <;> rfl
  cases b <;> simpa [intsD, seqD, iT] using this
theorem iT_mat (b1 b2 : Bool) (n : Nat) (rows : List (List Int)) : iT (n + 2) (matD b1 b2 rows) = true := by
  have : (rows.map (intsD b2)).all (iT (n + 1)) = true := by
    rw [List.all_eq_true]
    intro d hd
    obtain ⟨i, _, rfl⟩ := List.mem_map.mp hd
    exact iT_ints b2 n i
  cases b1 <;> simpa [matD, seqD, iT] using this
theorem Dt.seqB {b : Bool} {K : PySem.W.Frag} {H : Hp} {a : Addr} {xs : List V} {ds : List PyData} (h : SqB b K H a xs) (hd : Dts K H xs ds) : Dt K H (.ref a) (seqD b ds) := by
  cases b
  · exact .lst h hd
  · exact .tup h hd
theorem Dt.intsB {b : Bool} {K : PySem.W.Frag} {H : Hp} {a : Addr} {ns : List Int} (h : SqB b K H a (ns.map V.int)) : Dt K H (.ref a) (intsD b ns) := Dt.seqB h (Dts.ints ns)
theorem Dt.matB {b1 b2 : Bool} {K : PySem.W.Frag} {H : Hp} {a : Addr} {rows : List (List Int)} (h : MatB b1 b2 K H a rows) : Dt K H (.ref a) (matD b1 b2 rows) := by
  obtain ⟨ps, h1, h2, h3⟩ := h
  refine Dt.seqB h1 ?_
  clear h1
  induction ps generalizing rows with
  | nil =>
    cases rows with
    | nil => exact .nil
    | cons r t => simp at h2
  | cons p ps ih =>
    cases rows with
    | nil => simp at h2
    | cons r t =>
      refine .cons (Dt.intsB (h3 0 p r rfl rfl)) (ih (by simpa using h2) fun i q z e1 e2 => h3 (i + 1) q z (by simpa using e1) (by simpa using e2))
end L2

namespace L2
open PySem PySem.Spec PyProof.Rows
section
variable {wi : TI} {g : TG} {tt : TOx} {te : TE} {tc : TT} {n : Nat} {fr : List (Str × Nat)} {σ : St} {H : Hp} {Q : VK}
theorem compE_st (h : ∀ B : TE, B = te → wi σ H fun J H1 => ∀ a, H1 a = none → CompWG J g (tEl B) n fr σ a H1 Q) : tCompG wi g (tEl te) n fr σ H Q := h _ rfl
theorem compI_st (h : ∀ (C : TT) (B : TE), C = tc → B = te → wi σ H fun J H1 => ∀ a, H1 a = none → CompWG J g (tElIf C B) n fr σ a H1 Q) : tCompG wi g (tElIf tc te) n fr σ H Q := h _ _ rfl rfl
end
noncomputable def seqO (b : Bool) (xs : List V) : HO := match b with | false => .lst xs | true => .tup xs
noncomputable def rSlB (K : PySem.W.Frag) : V → Option Int → Option Int → Hp → VK → Prop := fun x lo hi H Q => ∃ b a xs, x = .ref a ∧ SqB b K H a xs ∧
  (b = true → ¬ (HT.sIx xs.length 0 lo = 0 ∧ HT.sIx xs.length xs.length hi = xs.length)) ∧ ∀ p, H p = none → Q (.ref p) (upd H p (seqO b (cutV xs lo hi)))
theorem sl_B {X : Cx} : SlR X (rSlB X.K) := by
  intro pins s σ H x v vl vu lo hi sl Q I rx hs pl pu h
  obtain ⟨b, a, xs, e, hq, hw, q⟩ := h
  cases b
  · exact sl_list pins s σ H x v vl vu lo hi sl Q I rx hs pl pu ⟨a, xs, e, hq, q⟩
  · exact sl_tup pins s σ H x v vl vu lo hi sl Q I rx hs pl pu ⟨a, xs, e, hq, hw rfl, q⟩
noncomputable def MatL (H : Hp) (a : Addr) (rows : List (List Int)) : Prop := ∃ ps : List Addr, H a = some (.lst (ps.map V.ref)) ∧ ps.length = rows.length ∧ ∀ (i : Nat) (p : Addr) (r : List Int), ps[i]? = some p → rows[i]? = some r → p ≠ a ∧ H p = some (.lst (r.map V.int))
theorem MatL.b {K : PySem.W.Frag} {H : Hp} {a : Addr} {rows : List (List Int)} (h : MatL H a rows) : MatB false false K H a rows := let ⟨ps, h1, h2, h3⟩ := h; ⟨ps, SqB.lst h1, h2, fun i p r e1 e2 => SqB.lst (h3 i p r e1 e2).2⟩
theorem MatL.up {H H' : Hp} {a : Addr} {rows : List (List Int)} (h : MatL H a rows) (s : Same H H') : MatL H' a rows := let ⟨ps, h1, h2, h3⟩ := h; ⟨ps, s _ _ h1, h2, fun i p r e1 e2 => ⟨(h3 i p r e1 e2).1, s _ _ (h3 i p r e1 e2).2⟩⟩
theorem MatB.row {b1 b2 : Bool} {K : PySem.W.Frag} {H : Hp} {a : Addr} {rows : List (List Int)} (h : MatB b1 b2 K H a rows) {i : Nat} {r : List Int} (e : rows[i]? = some r) : ∃ ps : List Addr, ∃ p, SqB b1 K H a (ps.map V.ref) ∧ (ps.map V.ref)[i]? = some (.ref p) ∧ (ps.map V.ref).length = rows.length ∧ SqB b2 K H p (r.map V.int) := by
  obtain ⟨ps, h1, h2, h3⟩ := h
  have hi : i < ps.length := by have := (List.getElem?_eq_some_iff.mp e).1; omega
  exact ⟨ps, ps[i], h1, by simp [hi], by simp [h2], h3 i _ r (by simp [hi]) e⟩
theorem MatB.walk {b1 b2 : Bool} {K : PySem.W.Frag} {H : Hp} {a : Addr} {rows : List (List Int)} (h : MatB b1 b2 K H a rows) : ∃ xs : List V, SqB b1 K H a xs ∧ xs.length = rows.length ∧ ∀ (i : Nat) x, xs[i]? = some x → ∃ p r, x = .ref p ∧ rows[i]? = some r ∧ SqB b2 K H p (r.map V.int) := by
  obtain ⟨ps, h1, h2, h3⟩ := h
  refine ⟨_, h1, by simp [h2], fun i x e => ?_⟩
  rw [List.getElem?_map] at e
  cases q : ps[i]? with
  | none => rw [q] at e; cases e
  | some p =>
    rw [q] at e
    have hi : i < rows.length := by have := (List.getElem?_eq_some_iff.mp q).1; omega
    exact ⟨p, rows[i], (Option.some.inj e).symm, by simp [hi], h3 i p _ q (by simp [hi])⟩
theorem atI_at {α : Type} {xs : List α} {k : Nat} {x : α} {i : Int} (h : xs[k]? = some x) (hi : i = k) : atI xs i = some x := by
  subst hi
  exact atI_nat h
theorem ints_at {ns : List Int} {i : Nat} {x : V} (h : (ns.map V.int)[i]? = some x) : ∃ n, ns[i]? = some n ∧ x = .int n := by
  rw [List.getElem?_map] at h
  cases e : ns[i]? with
  | none => rw [e] at h; cases h
  | some n => rw [e] at h; exact ⟨n, rfl, (Option.some.inj h).symm⟩
theorem int_at {ns : List Int} {i : Nat} {n : Int} (h : ns[i]? = some n) : (ns.map V.int)[i]? = some (.int n) := by rw [List.getElem?_map, h]; rfl
theorem getD_of {ns : List Int} {k : Nat} {n : Int} (h : ns[k]? = some n) : ns.getD k 0 = n := by rw [List.getD_eq_getElem?_getD, h]; rfl
theorem getD_at {ns : List Int} {k : Nat} (h : k < ns.length) : ns[k]? = some (ns.getD k 0) := by simp [h]
theorem getD_mem {ns : List Int} {k : Nat} (h : k < ns.length) : ns.getD k 0 ∈ ns := by
  rw [show ns.getD k 0 = ns[k] by simp [h]]
  exact List.getElem_mem h
noncomputable def colI (k : Nat) (rows : List (List Int)) : List Int := rows.map fun r => r.getD k 0
noncomputable def dotI (ms ns : List Int) : Int := (List.zipWith (· * ·) ms ns).sum
noncomputable def turnM (w : Nat) (rows : List (List Int)) : List (List Int) := (List.range w).map fun k => colI k rows
noncomputable def mulM (w : Nat) (A B : List (List Int)) : List (List Int) := A.map fun r => (List.range w).map fun k => dotI r (colI k B)
end L2
namespace L2
open PySem PySem.Spec PyProof.Rows
section
variable {K : PySem.W.Frag} {g : TG} {tb : TS} {σ : St} {H : Hp} {nx : St → Hp → Prop} {rt : VK}
noncomputable abbrev LoopW (J : It) (g : TG) (tb : TS) (nx : St → Hp → Prop) (rt : VK) (σ : St) (H : Hp) : Prop := ∃ W : Nat → Nat → St → Hp → Prop, (∃ m, W 0 m σ H) ∧ ∀ i m σ H, W i m σ H →
  (J.stop i H ∧ nx σ H) ∨ (J.go i H ∧ ∃ N : St → Hp → Prop, (∀ σ' H', N σ' H' → ∃ m', m' < m ∧ W (i + 1) m' σ' H') ∧ ∀ x H', J.yld i H x H' → g x σ H' fun σ2 H2 => tb { nx := N, rt := rt, bk := nx, ct := N } σ2 H2)
theorem fr_range {lo : Int} {n : Nat} (Pv : Nat → St → Hp → Prop) (h0 : Pv 0 σ H)
    (hs : ∀ i σ H, i < n → Pv i σ H → g (.int (lo + i)) σ H fun σ2 H2 => tb { nx := Pv (i + 1), rt := rt, bk := nx, ct := Pv (i + 1) } σ2 H2) (hd : ∀ σ H, Pv n σ H → nx σ H) : LoopW (Itr lo n) g tb nx rt σ H :=
  for_range (D := { nx := nx, rt := rt, bk := nx, ct := nx }) Pv h0 hs hd
theorem fr_seq {b : Bool} {a : Addr} {xs : List V} (Pv : Nat → St → Hp → Prop) (h0 : Pv 0 σ H) (hl : ∀ i σ H, i ≤ xs.length → Pv i σ H → SqB b K H a xs)
    (hs : ∀ i x σ H, xs[i]? = some x → Pv i σ H → g x σ H fun σ2 H2 => tb { nx := Pv (i + 1), rt := rt, bk := nx, ct := Pv (i + 1) } σ2 H2) (hd : ∀ σ H, Pv xs.length σ H → nx σ H) : LoopW (Its K b a) g tb nx rt σ H :=
  for_seq (D := { nx := nx, rt := rt, bk := nx, ct := nx }) Pv h0 hl hs hd
theorem fr_enum {b : Bool} {a : Addr} {xs : List V} (Pv : Nat → St → Hp → Prop) (h0 : Pv 0 σ H) (hl : ∀ i σ H, i ≤ xs.length → Pv i σ H → SqB b K H a xs)
    (hs : ∀ i x p σ H, xs[i]? = some x → Pv i σ H → H p = none → g (.ref p) σ (upd H p (.tup [.int i, x])) fun σ2 H2 => tb { nx := Pv (i + 1), rt := rt, bk := nx, ct := Pv (i + 1) } σ2 H2) (hd : ∀ σ H, Pv xs.length σ H → nx σ H) : LoopW (Ite K b a) g tb nx rt σ H :=
  for_enum (D := { nx := nx, rt := rt, bk := nx, ct := nx }) Pv h0 hl hs hd
end
theorem mat_ix {b1 b2 : Bool} {K : PySem.W.Frag} {H : Hp} {a : Addr} {rows : List (List Int)} {i k : Nat} {r : List Int} {x : Int} {I J : Int} {Q : VK} (h : MatB b1 b2 K H a rows) (e : rows[i]? = some r) (e2 : r[k]? = some x) (hi : I = i) (hk : J = k) (q : Q (.int x) H) :
    rIxB K (.ref a) (.int I) H fun v H1 => rIxB K v (.int J) H1 Q := by
  obtain ⟨ps, p, k1, k2, k3, k4⟩ := h.row e
  exact ⟨b1, a, _, _, _, rfl, rfl, k1, atI_at k2 hi, b2, p, _, _, _, rfl, rfl, k4, atI_at (int_at e2) hk, q⟩
theorem mat_row {b1 b2 : Bool} {K : PySem.W.Frag} {H : Hp} {a : Addr} {rows : List (List Int)} {i : Nat} {r : List Int} {I : Int} {Q : VK} (h : MatB b1 b2 K H a rows) (e : rows[i]? = some r) (hi : I = i) (q : ∀ p, SqB b2 K H p (r.map V.int) → Q (.ref p) H) :
    rIxB K (.ref a) (.int I) H Q := by
  obtain ⟨ps, p, k1, k2, k3, k4⟩ := h.row e
  exact ⟨b1, a, _, _, _, rfl, rfl, k1, atI_at k2 hi, q p k4⟩
theorem mat_len {b1 b2 : Bool} {K : PySem.W.Frag} {H : Hp} {a : Addr} {rows : List (List Int)} {Q : VK} (h : MatB b1 b2 K H a rows) (q : Q (.int rows.length) H) : rLenB K [.ref a] H Q := by
  obtain ⟨ps, h1, h2, h3⟩ := h
  refine ⟨b1, a, _, rfl, h1, ?_⟩
  rw [List.length_map, h2]
  exact q
theorem ints_len {b : Bool} {K : PySem.W.Frag} {H : Hp} {a : Addr} {ns : List Int} {Q : VK} (h : SqB b K H a (ns.map V.int)) (q : Q (.int ns.length) H) : rLenB K [.ref a] H Q := by
  refine ⟨b, a, _, rfl, h, ?_⟩
  rw [List.length_map]
  exact q
end L2

namespace L2
open PySem PySem.Spec PyProof.Rows
noncomputable def Itq (lo st : Int) (n : Nat) : It := ⟨fun i _ => i < n, fun i H x H' => H' = H ∧ x = .int (lo + i * st), fun i _ => n ≤ i⟩
theorem turn_rangeS {P : Program} {w : World} {K : PySem.W.Frag} {tg : Expr} (it : Addr) (lo st : Int) (n : Nat) : Turn P w K tg (Itq lo st n) [it] it (fun i h => IsRangeIter h it (lo + (i : Nat) * st) ((n : Int) - (i : Nat)) st) where
  mem := by simp
  obj := fun i h st b hb => by
    have e : b = it := by simpa using hb
    subst e
    exact ⟨_, st, fun v z => by
      have z' : Data.fields _ = Data.cell v := z
      cases z'⟩
  keep := fun i h h' st k => k it (by simp) _ st
  item := by
    intro X hP hw hK hc i pins s σ H E I hf hst hg
    subst hP hw hK
    obtain ⟨f0, f1, f2, f3, f4, f5⟩ := hf it (by simp)
    have W := Walks.range (prog := X.prog) (w := X.w) (I.ok.hd hc) it lo st n
    refine W.item i s _ _ hg hst fun v h' tk hv st' kk => ?_
    obtain ⟨t, rfl⟩ := hv
    have I1 : Inv X pins σ H { s with heap := h', toks := tk } := I.turned (fun b o hb e => kk b o (by simpa using hb) e) f0 f1 f3 f4 f5
    exact ⟨_, rfl, go_of (s := { s with heap := h', toks := tk }) (n := "range_iterator") st' rfl rfl (by decide) ⟨.int (lo + i * st), H, I1, ⟨t, rfl⟩, ⟨rfl, rfl⟩, st', fun b hb => (hf b hb).1⟩⟩
  done := by
    intro X hP hw hK hc i pins s σ H E I hf st hg
    subst hP hw hK
    obtain ⟨f0, f1, f2, f3, f4, f5⟩ := hf it (by simp)
    exact wpAny_pyNext_range_end (I.ok.hd hc) st (by have : n ≤ i := hg; omega) fun h' eb => ⟨rfl, I.turned (t' := s.toks) (fun b o hb e => eb b o hb e) f0 f1 f3 f4 f5⟩
  self := fun _ _ _ _ _ st h => wpAny_pyIter_rangeiter st h
theorem small_step {a b c : Int} (ha : 0 ≤ a) (ha' : a < 2 ^ 40) (hb0 : 0 ≤ b) (hb : b < 2 ^ 40) (hc : 0 < c) (hc' : c < 2 ^ 40) : Builtin.Range.small a b c = true := by
  unfold Builtin.Range.small Builtin.Range.rangeSize
  have q : a < b → (b - a - 1) / c + 1 ≤ 2 ^ 40 := fun h => by
    have := Int.ediv_le_self c (show 0 ≤ b - a - 1 by omega)
    omega
  have q0 : a < b → 0 ≤ (b - a - 1) / c := fun h => Int.ediv_nonneg (by omega) (by omega)
  simp only [Builtin.Range.rangeFitsLong, if_pos (show c > 0 from hc)]
  by_cases h : a < b
  · have q1 := q h
    have q2 := q0 h
    rw [if_pos h]
    generalize (b - a - 1) / c = z at q1 q2
    simp only [Bool.and_eq_true, Bool.or_eq_true, decide_eq_true_eq, beq_iff_eq]
    omega
  · rw [if_neg h]
    simp only [Bool.and_eq_true, Bool.or_eq_true, decide_eq_true_eq, beq_iff_eq]
    omega
section
variable {X : Cx} {tg : Expr}
noncomputable def iRng3 (ta : TA) : TI := fun σ H R => ta σ H fun vs H1 => ∃ i j c : Int, vs = [.int i, .int j, .int c] ∧ (0 ≤ i ∧ i < 2 ^ 40 ∧ 0 ≤ j ∧ j < 2 ^ 40 ∧ 0 < c ∧ c < 2 ^ 40) ∧ R (Itq i c (Builtin.Range.rangeSize i j c).toNat) H1
theorem pi_range3 {a b c : Expr} {ta : TA} {p pos : Pos} (hg : Gl X "range") (hm : X.mg "range" = none) (ha : PA X [a, b, c] ta) (hs : starEach [a, b, c] X.env = [(false, eval a X.env), (false, eval b X.env), (false, eval c X.env)] := by rfl)
    (hs2 : starEach [b, c] X.env = [(false, eval b X.env), (false, eval c X.env)] := by rfl) : PI X tg (.Call (.Name "range" p) [a, b, c] [] pos) (iRng3 ta) := by
  intro pins s σ H R I h
  refine Call_ (ld_blt I hg hm boot_range (PyProof.Rows.callWith_type1 (thn (ha pos pins s σ H _ I h) fun us s1 ⟨vs, H1, I1, r1, q1⟩ => ?_) (by rw [hs, hs2]) (by rw [hs2]; rfl)))
  obtain ⟨i, j, k, e, ⟨q1, q2, q3, q4, q5, q6⟩, q⟩ := q1
  subst e
  cases r1 with
  | cons r rr =>
    cases rr with
    | cons r' rr =>
      cases rr with
      | cons r'' rr =>
        cases rr
        obtain ⟨t, rfl⟩ := r
        obtain ⟨t', rfl⟩ := r'
        obtain ⟨t'', rfl⟩ := r''
        refine call_range_3 (by omega) ?_ (.inl (PyProof.noPylong_of_log2 (Nat.lt_of_lt_of_le ((Nat.log2_lt (by omega)).mpr (show k.natAbs < 2 ^ 40 by omega)) (by decide))))
        refine wpAny_pyIter_range (IsRange.new ..) (small_step q1 q2 q3 q4 q5 q6) ?_
        have I2 : Inv X pins σ H1 { s1 with heap := s1.heap.push { cls := .type "range", data := .fields #[.int i t, .int j t', .int k t''] }, toks := s1.toks } := I1.kept fun b o e => Heap.get?_push_of_some _ e
        refine ⟨(s1.heap.push { cls := .type "range", data := .fields #[.int i t, .int j t', .int k t''] }).objs.size, [(s1.heap.push { cls := .type "range", data := .fields #[.int i t, .int j t', .int k t''] }).objs.size], _, _, H1, rfl,
          I2.kept (t' := s1.toks) fun b o e => Heap.get?_push_of_some _ e, turn_rangeS _ i k (Builtin.Range.rangeSize i j k).toNat, ?_, fun b hb => ?_, q⟩
        · have nn : 0 ≤ Builtin.Range.rangeSize i j k := by
            unfold Builtin.Range.rangeSize
            rw [if_pos (show k > 0 from q5)]
            split
            · have := Int.ediv_nonneg (show 0 ≤ j - i - 1 by omega) (show 0 ≤ k by omega)
              omega
            · omega
          have e1 : i + ((0 : Nat) : Int) * k = i := by simp
          have e2 : (((Builtin.Range.rangeSize i j k).toNat : Nat) : Int) - ((0 : Nat) : Int) = Builtin.Range.rangeSize i j k := by omega
          show IsRangeIter _ _ (i + ((0 : Nat) : Int) * k) ((((Builtin.Range.rangeSize i j k).toNat : Nat) : Int) - ((0 : Nat) : Int)) k
          rw [e1, e2]
          exact Heap.get?_push_size _ rfl
        · have e : b = (s1.heap.push { cls := .type "range", data := .fields #[.int i t, .int j t', .int k t''] }).objs.size := by simpa using hb
          subst e
          exact I2.fpOk (Nat.le_refl _) (I2.hok.fresh (Nat.le_refl _))
end
section
variable {g : TG} {tb : TS} {σ : St} {H : Hp} {nx : St → Hp → Prop} {rt : VK}
theorem fr_step {lo st : Int} {n : Nat} (Pv : Nat → St → Hp → Prop) (h0 : Pv 0 σ H)
    (hs : ∀ i σ H, i < n → Pv i σ H → g (.int (lo + i * st)) σ H fun σ2 H2 => tb { nx := Pv (i + 1), rt := rt, bk := nx, ct := Pv (i + 1) } σ2 H2) (hd : ∀ σ H, Pv n σ H → nx σ H) : LoopW (Itq lo st n) g tb nx rt σ H := by
  refine ⟨fun i m σ H => m = n - i ∧ i ≤ n ∧ Pv i σ H, ⟨n, by simp, Nat.zero_le _, h0⟩, ?_⟩
  rintro i m σ H ⟨rfl, hi, p⟩
  by_cases hlt : i < n
  · refine .inr ⟨hlt, Pv (i + 1), fun σ' H' p' => ⟨n - (i + 1), by omega, rfl, hlt, p'⟩, fun x H' y => ?_⟩
    obtain ⟨e, y⟩ := y
    subst e y
    exact hs i σ _ hlt p
  · have e : i = n := by omega
    subst e
    exact .inl ⟨Nat.le_refl _, hd σ H p⟩
end
noncomputable def RefRows (a : Addr) (H : Hp) (zs : List V) (M : List (List Int)) : Prop := ∃ ps : List Addr, zs = ps.map V.ref ∧ ps.length = M.length ∧ ∀ (j : Nat) (p : Addr) (r : List Int), ps[j]? = some p → M[j]? = some r → p ≠ a ∧ H p = some (.lst (r.map V.int))
theorem RefRows.nil {a : Addr} {H : Hp} : RefRows a H [] [] := ⟨[], rfl, rfl, fun j p r e => by simp at e⟩
theorem RefRows.len {a : Addr} {H : Hp} {zs : List V} {M : List (List Int)} (h : RefRows a H zs M) : zs.length = M.length := let ⟨ps, e, l, _⟩ := h; by rw [e, List.length_map, l]
theorem RefRows.mono {a : Addr} {H H' : Hp} {zs : List V} {M : List (List Int)} (h : RefRows a H zs M) (s : SameX a H H') : RefRows a H' zs M := let ⟨ps, e, l, q⟩ := h; ⟨ps, e, l, fun j p r e1 e2 => ⟨(q j p r e1 e2).1, s _ _ (q j p r e1 e2).1 (q j p r e1 e2).2⟩⟩
theorem RefRows.snoc {a p : Addr} {H : Hp} {zs : List V} {M : List (List Int)} {r : List Int} (h : RefRows a H zs M) (ne : p ≠ a) (hp : H p = some (.lst (r.map V.int))) : RefRows a H (zs ++ [.ref p]) (M ++ [r]) := by
  obtain ⟨ps, rfl, h2, h3⟩ := h
  refine ⟨ps ++ [p], by simp, by simp [h2], fun i q z e1 e2 => ?_⟩
  by_cases hi : i < ps.length
  · rw [List.getElem?_append_left hi] at e1
    rw [List.getElem?_append_left (by omega)] at e2
    exact h3 i q z e1 e2
  · have e0 : i = ps.length := by
      have := (List.getElem?_eq_some_iff.mp e1).1
      simp at this
      omega
    subst e0
    rw [List.getElem?_append_right (Nat.le_refl _)] at e1
    rw [h2, List.getElem?_append_right (Nat.le_refl _)] at e2
    simp at e1 e2
    subst e1 e2
    exact ⟨ne, hp⟩
theorem RefRows.mat {a : Addr} {H : Hp} {zs : List V} {M : List (List Int)} (h : H a = some (.lst zs)) (r : RefRows a H zs M) : MatL H a M := by
  obtain ⟨ps, rfl, h2, h3⟩ := r
  exact ⟨ps, h, h2, h3⟩
theorem cut_ints (ns : List Int) (lo hi : Option Int) : cutV (ns.map V.int) lo hi = ((ns.drop (HT.sIx ns.length 0 lo)).take (HT.sIx ns.length ns.length hi - HT.sIx ns.length 0 lo)).map V.int := by
  unfold cutV
  rw [List.length_map, List.map_take, List.map_drop]
theorem cut_to {ns : List Int} {k : Nat} (h : k ≤ ns.length) : cutV (ns.map V.int) none (some (k : Int)) = (ns.take k).map V.int := by
  rw [cut_ints, HT.sIx_none, HT.sIx_nat, Nat.min_eq_left h]
  simp
theorem cut_from {ns : List Int} {k : Nat} (h : k ≤ ns.length) : cutV (ns.map V.int) (some (k : Int)) none = (ns.drop k).map V.int := by
  rw [cut_ints, HT.sIx_none, HT.sIx_nat, Nat.min_eq_left h, List.take_of_length_le (by simp)]
end L2

namespace L2
open PySem PySem.Spec PyProof.Rows
section
variable {K : PySem.W.Frag} {H : Hp} {a a1 : Addr} {M : List (List Int)} {σ : St} {Q : VK} {b1 b2 : Bool}
noncomputable def MatT (H : Hp) (a : Addr) (rows : List (List Int)) : Prop := ∃ ps : List Addr, H a = some (.lst (ps.map V.ref)) ∧ ps.length = rows.length ∧ ∀ (i : Nat) (p : Addr) (r : List Int), ps[i]? = some p → rows[i]? = some r → H p = some (.tup (r.map V.int))
theorem copy_tup (hM : MatB b1 false K H a M) (hl : M.length ≤ 1000) (ha1 : H a1 = none) (hQ : ∀ H1, Same H H1 → MatT H1 a1 M → Q (.ref a1) H1) : CompWG (Its K b1 a) (gName 0) (tEl (tCB (rTupB K) (tCons (tVar 0) tNil))) 1 [] σ a1 H Q := by
  obtain ⟨xs, x1, x2, x3⟩ := hM.walk
  refine cg_seq (fun j y H1 => ∃ p r, y = .ref p ∧ M[j]? = some r ∧ p ≠ a1 ∧ H1 p = some (.tup (r.map V.int))) ha1 x1 (by omega) (fun i y H1 H2 ⟨p, r, e1, e2, e3, e4⟩ s => ⟨p, r, e1, e2, e3, s _ _ e3 e4⟩) ?_ ?_
  · intro i x H1 zs ex s1 ez Q' hQ'
    obtain ⟨p, r, rfl, er, hp⟩ := x3 i x ex
    exact ⟨_, rfl, p, _, rfl, .inl ⟨hp.up s1, fun l hl1 => hQ' _ _ (Same.new hl1) ⟨l, r, rfl, er, Ne.symm (ne_of_none ez hl1), upd_same⟩⟩⟩
  · intro H1 ys s1 e1 hly hr1
    have hps : ∃ ps : List Addr, ys = ps.map V.ref := by
      clear e1 hly
      have : ∀ (zs : List V), (∀ (j : Nat) y, zs[j]? = some y → ∃ p : Addr, y = .ref p) → ∃ ps : List Addr, zs = ps.map V.ref := by
        intro zs
        induction zs with
        | nil => intro _; exact ⟨[], rfl⟩
        | cons z r ih =>
          intro hz
          obtain ⟨p, e⟩ := hz 0 z rfl
          obtain ⟨ps, e2⟩ := ih fun j y q => hz (j + 1) y (by simpa using q)
          exact ⟨p :: ps, by rw [e, e2]; rfl⟩
      exact this ys fun j y e => let ⟨p, r, e1, _⟩ := hr1 j y e; ⟨p, e1⟩
    obtain ⟨ps, rfl⟩ := hps
    refine hQ H1 s1 ⟨ps, e1, by simp at hly; omega, fun i p r e2 e3 => ?_⟩
    obtain ⟨p', r', e4, e5, _, e6⟩ := hr1 i (.ref p) (by simp [e2])
    cases e4
    rw [e3] at e5
    cases e5
    exact e6
theorem MatT.tuple {l : Addr} (h : MatT H a M) (hl : H l = none) : ∃ zs, H a = some (.lst zs) ∧ MatB true true K (upd H l (.tup zs)) l M := by
  obtain ⟨ps, h1, h2, h3⟩ := h
  exact ⟨_, h1, ps, SqB.tup upd_same, h2, fun i p r e1 e2 => SqB.tup (Same.new hl _ _ (h3 i p r e1 e2))⟩
end
end L2

namespace L2
open PySem PySem.Spec PyProof.Rows
theorem pe_globE {X : Cx} {x : Str} {v : V} {pos : Pos} (hg : Gl X x) (h : ∃ u, X.mg x = some u ∧ RelV v u) (hd : (x == ("__debug__" : Str)) = false := by decide) : PE X (.Name x pos) (tC v) := by
  obtain ⟨u, e, r⟩ := h
  exact pe_glob hg e r hd
end L2
namespace L2
open PySem PySem.Spec PyProof.Rows
noncomputable def MkI (te : TE) (n : Int) : Prop := ∀ σ H Q, Q (.int n) H → te σ H Q
theorem MkI.pos (n : Int) : MkI (tC (.int n)) n := fun _ _ _ q => q
theorem MkI.neg (n : Int) : MkI (tUn (rU fun i => .int (-i)) (tC (.int n))) (-n) := fun _ _ _ q => ⟨n, rfl, q⟩
noncomputable def MkIs (ta : TA) (ns : List Int) : Prop := ∀ σ H Q, Q (ns.map V.int) H → ta σ H Q
theorem MkIs.nil : MkIs tNil [] := fun _ _ _ q => q
theorem MkIs.cons {te : TE} {ta : TA} {n : Int} {ns : List Int} (h : MkI te n) (h2 : MkIs ta ns) : MkIs (tCons te ta) (n :: ns) := fun σ H Q q => h σ H _ (h2 σ H _ q)
noncomputable def MkR (te : TE) (ns : List Int) : Prop := ∀ σ H Q, (∀ p H', Same H H' → H p = none → H' p = some (.lst (ns.map V.int)) → Q (.ref p) H') → te σ H Q
noncomputable def MkRs (ta : TA) (M : List (List Int)) : Prop := ∀ σ H Q, (∀ ps H', Same H H' → RefRowsN H H' ps M → Q (ps.map V.ref) H') → ta σ H Q
where RefRowsN (H H' : Hp) (ps : List Addr) (M : List (List Int)) : Prop := ps.length = M.length ∧ ∀ (j : Nat) (p : Addr) (r : List Int), ps[j]? = some p → M[j]? = some r → H' p = some (.lst (r.map V.int))
theorem MkRs.nil : MkRs tNil [] := fun _ H Q q => q [] H (Same.refl _) ⟨rfl, fun j p r e => by simp at e⟩
theorem MkRs.cons {te : TE} {ta : TA} {ns : List Int} {M : List (List Int)} (h : MkR te ns) (h2 : MkRs ta M) : MkRs (tCons te ta) (ns :: M) := fun σ H Q q => h σ H _ fun p H1 s1 hp e1 => h2 σ H1 _ fun ps H2 s2 r => q (p :: ps) H2 (s1.trans s2) ⟨by simp [r.1], fun j p' r' e e' => by
  cases j with
  | zero => simp at e e'; subst e e'; exact s2 _ _ e1
  | succ j => exact r.2 j p' r' (by simpa using e) (by simpa using e')⟩
noncomputable def MkM (te : TE) (M : List (List Int)) : Prop := ∀ σ H Q, (∀ p H', Same H H' → H p = none → MatL H' p M → Q (.ref p) H') → te σ H Q
noncomputable def Mats (H : Hp) (p : Addr) (Ms : List (List (List Int))) : Prop := ∃ ps : List Addr, H p = some (.lst (ps.map V.ref)) ∧ ps.length = Ms.length ∧ ∀ (i : Nat) (q : Addr) (M : List (List Int)), ps[i]? = some q → Ms[i]? = some M → MatL H q M
theorem Mats.up {H H' : Hp} {p : Addr} {Ms : List (List (List Int))} (h : Mats H p Ms) (s : Same H H') : Mats H' p Ms := let ⟨ps, h1, h2, h3⟩ := h; ⟨ps, s _ _ h1, h2, fun i q M e1 e2 => (h3 i q M e1 e2).up s⟩
noncomputable def MkMs (ta : TA) (Ms : List (List (List Int))) : Prop := ∀ σ H Q, (∀ (ps : List Addr) H', Same H H' → ps.length = Ms.length → (∀ (i : Nat) (q : Addr) (M : List (List Int)), ps[i]? = some q → Ms[i]? = some M → MatL H' q M) → Q (ps.map V.ref) H') → ta σ H Q
theorem MkMs.nil : MkMs tNil [] := fun _ H Q q => q [] H (Same.refl _) rfl fun j p r e => by simp at e
theorem MkMs.cons {te : TE} {ta : TA} {M : List (List Int)} {Ms : List (List (List Int))} (h : MkM te M) (h2 : MkMs ta Ms) : MkMs (tCons te ta) (M :: Ms) := fun σ H Q q => h σ H _ fun p H1 s1 _ e1 => h2 σ H1 _ fun ps H2 s2 l r => q (p :: ps) H2 (s1.trans s2) (by simp [l]) fun j p' r' e e' => by
  cases j with
  | zero => simp at e e'; subst e e'; exact e1.up s2
  | succ j => exact r j p' r' (by simpa using e) (by simpa using e')
theorem MkMs.lst {ta : TA} {Ms : List (List (List Int))} (h : MkMs ta Ms) (hz : Ms.length ≤ 1000) {σ : St} {H : Hp} {Q : VK} (q : ∀ p H', Same H H' → Mats H' p Ms → Q (.ref p) H') : tLst ta σ H Q := h σ H _ fun ps H1 s1 l r => ⟨by rw [List.length_map, l]; exact Nat.le_of_lt (small1000 hz), fun a ha =>
  q a _ (s1.trans (Same.new ha)) ⟨ps, upd_same, l, fun i q M e1 e2 => (r i q M e1 e2).up (Same.new ha)⟩⟩
theorem Mats.at {K : PySem.W.Frag} {H : Hp} {p : Addr} {Ms : List (List (List Int))} {i : Nat} {M : List (List Int)} {I : Int} {Q : VK} (h : Mats H p Ms) (e : Ms[i]? = some M) (hi : I = i) (k : ∀ q, MatL H q M → Q (.ref q) H) : rIxB K (.ref p) (.int I) H Q := by
  obtain ⟨ps, h1, h2, h3⟩ := h
  have hlt : i < ps.length := by have := (List.getElem?_eq_some_iff.mp e).1; omega
  exact ⟨false, p, _, _, _, rfl, rfl, SqB.lst h1, atI_at (show (ps.map V.ref)[i]? = some (.ref ps[i]) by simp [hlt]) hi, k _ (h3 i _ M (by simp [hlt]) e)⟩
noncomputable def MatD (H0 H : Hp) (a : Addr) (rows : List (List Int)) : Prop := ∃ ps : List Addr, H a = some (.lst (ps.map V.ref)) ∧ ps.length = rows.length ∧ ps.Nodup ∧ ∀ (i : Nat) (p : Addr) (r : List Int), ps[i]? = some p → rows[i]? = some r → p ≠ a ∧ H0 p = none ∧ H p = some (.lst (r.map V.int))
theorem MatD.up {H0 H H' : Hp} {a : Addr} {rows : List (List Int)} (h : MatD H0 H a rows) (s : Same H H') : MatD H0 H' a rows := let ⟨ps, h1, h2, n, h3⟩ := h; ⟨ps, s _ _ h1, h2, n, fun i p r e1 e2 => ⟨(h3 i p r e1 e2).1, (h3 i p r e1 e2).2.1, s _ _ (h3 i p r e1 e2).2.2⟩⟩
theorem MatD.row {H0 H : Hp} {a : Addr} {rows : List (List Int)} {i : Nat} {r : List Int} (h : MatD H0 H a rows) (e : rows[i]? = some r) : ∃ zs p, H a = some (.lst zs) ∧ zs[i]? = some (.ref p) ∧ zs.length = rows.length ∧ p ≠ a ∧ H0 p = none ∧ H p = some (.lst (r.map V.int)) ∧ ∀ r', MatD H0 (upd H p (.lst (r'.map V.int))) a (rows.set i r') := by
  obtain ⟨ps, h1, h2, hn, h3⟩ := h
  have hi : i < ps.length := by have := (List.getElem?_eq_some_iff.mp e).1; omega
  have hp := h3 i ps[i] r (by simp [hi]) e
  refine ⟨_, ps[i], h1, by simp [hi], by simp [h2], hp.1, hp.2.1, hp.2.2, fun r' => ⟨ps, by rw [upd_ne (Ne.symm hp.1)]; exact h1, by simp [h2], hn, fun j q z e1 e2 => ?_⟩⟩
  by_cases hj : j = i
  · subst hj
    have eq : q = ps[j] := by simp [hi] at e1; exact e1.symm
    subst eq
    rw [List.getElem?_set_self (by omega)] at e2
    cases e2
    exact ⟨hp.1, hp.2.1, upd_same⟩
  · rw [List.getElem?_set_ne (Ne.symm hj)] at e2
    obtain ⟨n1, n3, n2⟩ := h3 j q z e1 e2
    have : q ≠ ps[i] := fun w => by
      have hjl := (List.getElem?_eq_some_iff.mp e1)
      obtain ⟨hjl, ej⟩ := hjl
      exact hj ((List.getElem_inj hn).mp (ej.trans w))
    exact ⟨n1, n3, by rw [upd_ne this]; exact n2⟩
section
variable {K : PySem.W.Frag} {H : Hp} {a a1 : Addr} {M : List (List Int)} {σ : St} {Q : VK} {b1 b2 : Bool}
end
end L2
namespace L2
open PySem PySem.Spec PyProof.Rows
noncomputable def litI : Expr → Option Int
  | .Constant (.int i) _ _ => some i
  | .UnaryOp .USub (.Constant (.int i) _ _) _ => some (-i)
  | _ => none
section
variable {X : Cx}
theorem PE.weak {e : Expr} {t u : TE} (h : PE X e t) (w : ∀ σ H Q, u σ H Q → t σ H Q) : PE X e u := fun pins s σ H Q I q => h pins s σ H Q I (w σ H Q q)
theorem PA.weak {es : List Expr} {t u : TA} (h : PA X es t) (w : ∀ σ H Q, u σ H Q → t σ H Q) : PA X es u := fun pos pins s σ H Q I q => h pos pins s σ H Q I (w σ H Q q)
theorem pe_litI {e : Expr} {n : Int} (h : litI e = some n) : PE X e (tC (.int n)) ∧ ∀ es, starEach (e :: es) X.env = (false, eval e X.env) :: starEach es X.env := by
  unfold litI at h
  split at h
  · cases h; exact ⟨pe_int, fun _ => rfl⟩
  · cases h
    exact ⟨(pe_un un_neg pe_int).weak fun σ H Q q => ⟨_, rfl, q⟩, fun _ => rfl⟩
  · cases h
end
end L2
namespace L2
open PySem
theorem swapL {es : List Expr} {pos : Pos} {t : Option Expr} {l : Nat} {env : Env} : swapsWith (.List es pos) t l env = pure false := by cases t <;> rfl
theorem swapB {a b : Expr} {op : Operator} {pos : Pos} {t : Option Expr} {l : Nat} {env : Env} : swapsWith (.BinOp a op b pos) t l env = pure false := by cases t <;> rfl
end L2
namespace L2
open PySem PySem.Spec PyProof.Rows
noncomputable def isList : Expr → Bool
  | .List _ _ => true
  | _ => false
end L2

namespace L2
open PySem PySem.Spec PyProof.Rows
section
variable {X : Cx}
theorem bools_get : ∀ {bs : List Bool} {its : List Value}, Vals (bs.map V.bl) its → ∀ (i : Nat) (v : Value), its[i]? = some v → ∃ b, bs[i]? = some b ∧ v = .bool b
  | [], _, .nil, i, v, e => by simp at e
  | b :: r, _, .cons h q, i, v, e => by
    cases i with
    | zero => simp at e; subst e; exact ⟨b, rfl, h⟩
    | succ i => simpa using bools_get (bs := r) q i v (by simpa using e)
theorem range_anyB : ∀ bs : List Bool, ((List.range bs.length).any fun i => (bs[i]?).getD false) = bs.any id
  | [] => rfl
  | b :: bs => by
    have ih := range_anyB bs
    rw [List.length_cons, List.range_succ_eq_map, List.any_cons, List.any_cons, List.any_map]
    show (b || _) = (b || _)
    congr 1
theorem call_any (hc : X.calm = true) : CallR X (.builtin "any") (fun xs H Q => ∃ (p : Addr) (bs : List Bool), xs = [.ref p] ∧ SqL X.K H p (bs.map V.bl) ∧ Q (.bl (bs.any id)) H) := by
  intro pins s σ H xs us Q I r h
  obtain ⟨p, bs, rfl, hq, q⟩ := h
  obtain ⟨u, rfl, rx⟩ := vals1 r
  cases rx
  obtain ⟨its, rv, pl, hz⟩ := I.list hq
  have hl : s.heap.IsList p its.toArray := pl.isList
  have hlt : p < s.heap.objs.size := by obtain ⟨_, e, _⟩ := hl; exact Heap.lt_size e
  have hlen : its.toArray.size = bs.length := by
    have := rv.length
    simpa using this.symm
  refine call_any_walk (wpAny_pyIter_list hl ?_)
  refine ⟨s.heap.objs.size, [s.heap.objs.size, p], [s.heap.objs.size], its.toArray.size, _, _, fun i => (bs[i]?).getD false, rfl, Walks.list (A := X.A.in1) (I.ok.hd hc) _ p (Nat.ne_of_lt hlt) its.toArray,
    ⟨⟨_, Heap.get?_push_size _ rfl, rfl, rfl⟩, hl.push _⟩, fun i v s' Q' E' hP hQ => ?_, fun h' tk hk => ?_⟩
  · obtain ⟨b, e, rfl⟩ := bools_get rv i v (by simpa using hP)
    simp only [e, Option.getD_some] at hQ
    exact wpAny_truthy_bool hQ
  · rw [hlen, range_anyB bs]
    refine ⟨.bl (bs.any id), H, I.kept (t' := tk) fun b x e => hk b x (fun hm => by rw [List.mem_singleton.mp hm] at e; exact Nat.lt_irrefl _ (Heap.lt_size e)) (Heap.get?_push_of_some _ e), rfl, q⟩
end
end L2

namespace L2
open PySem PySem.Spec PyProof.Rows
section
variable {X : Cx} {a b c d : Expr} {ta tb tc td : TE} {pos : Pos}
end
section
variable {prog : Program} {w : World} {A : Around} {E : Value → Shared → Prop} {s : Shared}
end
section
variable {X : Cx} {pos : Pos}
end
end L2

namespace L2
open PySem PySem.Spec PyProof.Rows
section
variable {X : Cx}
end

section
variable {prog : Program} {w : World} {A : Around} {E : Value → Shared → Prop} {s : Shared}
set_option maxRecDepth 100000 in
end
section
variable {X : Cx}
end
section
variable {X : Cx} {tg : Expr}
end
end L2

namespace L2
open PySem PySem.Spec PyProof.Rows
theorem entry_unchain : entryFor table "proto.unchain" = some Builtin.«proto.unchain» := entryFor_of_fast (by kernel_rfl)
section
variable {prog : Program} {w : World} {A : Around} {E : Value → Shared → Prop} {s : Shared}
theorem raise_over {α : Type} {a e : Addr} {oe oa : Obj} {vs va : Array Value} {Q : α → Shared → Prop} (hh : A.handled = some (.ref e)) (hne : e ≠ a) (he : s.heap.get? e = some oe) (hd : oe.data = .fields vs) (h2 : vs[2]? = some .none)
    (ha : s.heap.get? a = some oa) (hda : oa.data = .fields va) (hz : 2 < va.size) (h : E (.ref a) { s with heap := s.heap.update a (Obj.mapFields (·.setIfInBounds 2 (.ref e))) }) :
    wpAny (model prog w) A (raiseNew (.ref a) : Sem α) Q E s := by
  unfold raiseNew
  refine wpAny_bind (wpAny_handled ?_)
  rw [hh]
  dsimp only
  have n1 : ((Value.ref e != Value.ref a) = true) := by simp [hne]
  rw [if_pos n1]
  refine wpAny_bind (wpAny_holding (wpAny_runValue (codeAny_builtin entry_unchain ?_)))
  unfold Builtin.«proto.unchain»
  dsimp only
  refine wpAny_bind (wpAny_field he hd h2 ?_)
  rw [if_pos (by rfl)]
  refine wpAny_bind (wpAny_pure (wpAny_pure ?_))
  unfold updateField
  refine wpAny_bind (wpAny_bind (wpAny_load ha ?_))
  rw [hda]
  dsimp only
  rw [if_pos hz]
  exact wpAny_update ha (wpAny_throw h)
end
section
variable {prog : Program} {w : World} {A : Around} {E : Value → Shared → Prop} {env : Env}
variable {nm q : Str} {C N : Addr} {bs bm : List Value} {hdct : Bool} {sn : List Str} {sub : List Value} {ab : Bool} {col : Option Bool} {dd : Option Addr} {k0 k1 k2 k3 k5 : Option Value} {newId : String}
noncomputable abbrev over (h : Heap) (e e0 : Addr) : Heap := ((h.update e (Obj.mapFields (fun x => x.setIfInBounds 3 Value.none))).update e (Obj.mapFields (fun x => x.setIfInBounds 4 (Value.bool true)))).update e (Obj.mapFields (·.setIfInBounds 2 (.ref e0)))
theorem raiseFN {s : Shared} {x c : Sem Value} {e0 : Addr} {Q : Flow → Shared → Prop} (hbase : bm.contains (.type "BaseException") = true) (hh : A.handled = some (.ref e0))
    (hcv : ∀ (s : Shared) (Q : Value → Shared → Prop), Q .none s → wpAny (model prog w) A c Q E s)
    (h : wpAny (model prog w) A x (fun v s₁ => ∃ e t, v = .ref e ∧ s₁.heap.get? C = some (excClassObj nm q C N bs bm hdct sn sub ab col dd k0 k1 k2 k3 k5 newId) ∧
      s₁.heap.get? e = some { cls := .ref C, data := .fields #[.ref t, .none, .none, .none, .bool false, .none] } ∧ (∃ oe vs, e0 ≠ e ∧ s₁.heap.get? e0 = some oe ∧ oe.data = .fields vs ∧ vs[2]? = some .none) ∧ E (.ref e) { s₁ with heap := over s₁.heap e e0 }) E s) :
    wpAny (model prog w) A (raiseStmt env (some x) (some c)) Q E s := by
  have hcB : (Value.ref C :: bm).contains (.type "BaseException") = true := by rw [List.contains_cons, hbase, Bool.or_true]
  unfold raiseStmt
  refine wpAny_bind (wpAny_mono h (fun v s₁ h₁ => ?_) fun _ _ x => x)
  obtain ⟨e, t, rfl, hC, he, ⟨oe, vs, ne, h0, hd0, hn0⟩, hE⟩ := h₁
  obtain ⟨hp, g, d, tk, os⟩ := s₁
  refine wpAny_bind (wpAny_holding (hcv _ _ (wpAny_bind (wpAny_pure ?_))))
  dsimp only
  repeat (first | with_reducible refine wpAny_loadPart_at he ?_ | with_reducible refine wpAny_loadPart_at hC ?_ | (with_reducible refine wpAny_isSubtype_exc hC ?_; rw [hcB]) | wp_step)
  have nCe : C ≠ e := fun z => by
    rw [z] at hC
    have h' := he.symm.trans hC
    simp [excClassObj] at h'
  have g1 : (hp.update e (Obj.mapFields (fun x => x.setIfInBounds 3 Value.none))).get? e = some { cls := .ref C, data := .fields #[.ref t, .none, .none, .none, .bool false, .none] } := Heap.get?_update_self _ he rfl
  have g2 : ((hp.update e (Obj.mapFields (fun x => x.setIfInBounds 3 Value.none))).update e (Obj.mapFields (fun x => x.setIfInBounds 4 (Value.bool true)))).get? e = some { cls := .ref C, data := .fields #[.ref t, .none, .none, .none, .bool true, .none] } := Heap.get?_update_self _ g1 rfl
  have c2 : ((hp.update e (Obj.mapFields (fun x => x.setIfInBounds 3 Value.none))).update e (Obj.mapFields (fun x => x.setIfInBounds 4 (Value.bool true)))).get? C = some (excClassObj nm q C N bs bm hdct sn sub ab col dd k0 k1 k2 k3 k5 newId) := by
    rw [Heap.get?_update_other _ _ (Ne.symm nCe), Heap.get?_update_other _ _ (Ne.symm nCe)]; exact hC
  repeat (first | with_reducible refine wpAny_loadPart_at g2 ?_ | with_reducible refine wpAny_loadPart_at c2 ?_ | wp_step)
  exact raise_over hh ne (by show ((hp.update e _).update e _).get? e0 = some oe; rw [Heap.get?_update_other _ _ (Ne.symm ne), Heap.get?_update_other _ _ (Ne.symm ne)]; exact h0) hd0 hn0 g2 rfl (by simp) hE
end
section
variable {prog : Program} {w : World} {A : Around} {E : Value → Shared → Prop} {s : Shared} {env : Env}
variable {nm q : Str} {C N : Addr} {bs bm bmB : List Value} {hdct : Bool} {sn : List Str} {sub : List Value} {ab : Bool} {col : Option Bool} {dd : Option Addr} {k0 k1 k2 k3 k5 : Option Value} {B newId initId : String}
theorem raise_callFN (F : ExcBaseFacts B newId initId bmB) {mN : Str → Option Value} {x : Str} {np cpos pos npos : Pos} {kd : Nat} {args : List Expr} {e0 : Addr} {Q : Flow → Shared → Prop}
    (hbase : bm.contains (.type "BaseException") = true) (hh : A.handled = some (.ref e0)) (hplain : (backTo cpos (starEach args env)).any (·.1) = false) (hni : mN "__init__" = none)
    (h : wpAny (model prog w) A (eval (.Name x np) env) (fun f s₁ => f = .ref C ∧ wpAny (model prog w) A (evalArgs (.ref C) true (backTo cpos (starEach args env)) [])
      (fun a s₂ => a.kw = [] ∧ a.pos.length ≤ sizeLine ∧ s₂.heap.get? C = some (excClassObj nm q C N bs bm hdct sn sub ab col dd k0 k1 k2 k3 k5 newId) ∧ s₂.heap.Ns N mN ∧ OwnTail s₂.heap bmB bm ∧ (∃ oe vs, s₂.heap.get? e0 = some oe ∧ oe.data = .fields vs ∧ vs[2]? = some .none) ∧
        ∀ h' e, Heap.MadeExcOf s₂.heap h' e (.ref C) a.pos → E (.ref e) { s₂ with heap := over h' e e0 }) E s₁) E s) :
    wpAny (model prog w) A (exec (.Raise (some (.Call (.Name x np) args [] cpos)) (some (.Constant .none kd npos)) pos) env) Q E s := by
  rw [arm_exec_Raise]
  simp only [evalOpt, Option.map]
  refine wpAny_bind (wpAny_standAt (raiseFN (C := C) (nm := nm) (q := q) (N := N) (bs := bs) (bm := bm) (hdct := hdct) (sn := sn) (sub := sub) (ab := ab) (col := col) (dd := dd) (k0 := k0) (k1 := k1) (k2 := k2) (k3 := k3) (k5 := k5) (newId := newId) hbase hh ?_ (wpAny_bind (wpAny_mono (wpAny_Call_ofName (wpAny_mono h (fun f s₁ h₁ => ?_) fun _ _ x => x)) (fun v s₃ h₃ => wpAny_bind (wpAny_standAt (wpAny_pure h₃))) fun _ _ x => x))))
  · intro s Q hQ
    refine wpAny_bind (wpAny_Constant_none ?_)
    exact wpAny_bind (wpAny_standAt (wpAny_pure hQ))
  obtain ⟨rfl, h₁⟩ := h₁
  unfold callWith
  refine wpAny_bind (wpAny_holding (wpAny_mono h₁ (fun a s₂ h₂ => wpAny_bind (wpAny_standAt ?_)) fun _ _ x => x))
  obtain ⟨apos, akw⟩ := a
  obtain ⟨hkw, hlen, hC, hn, T, ⟨oe, vs, z1, z2, z3⟩, h₂⟩ := h₂
  obtain rfl : akw = [] := hkw
  obtain ⟨hp, g, d, tk, os⟩ := s₂
  simp only [hplain]
  refine wpAny_bind (wpAny_keeperOf_exc hC ?_)
  refine wpAny_bind (wpAny_call_exc_subT (hrest := hlen) F T hC hn hni fun h' e hm => wpAny_bind (wpAny_holding (wpAny_point (wpAny_pure ?_))))
  obtain ⟨t, ht, _, _⟩ := hm.there
  exact ⟨e, t, rfl, hm.keeps _ _ hC, ht, ⟨oe, vs, (fun z => by rw [z] at z1; have := hm.new; rw [z1] at this; cases this), hm.keeps _ _ z1, z2, z3⟩, h₂ h' e hm⟩
end
theorem over_keeps {h h1 : Heap} {e e0 : Addr} {cls : Value} {args : List Value} (hx : Heap.MadeExcOf h h1 e cls args) : ∀ b o, h.get? b = some o → (over h1 e e0).get? b = some o := fun b o hb => by
  have n : e ≠ b := fun z => by rw [← z] at hb; have := hx.new; rw [hb] at this; cases this
  rw [Heap.get?_update_other _ _ n, Heap.get?_update_other _ _ n, Heap.get?_update_other _ _ n]
  exact hx.keeps b o hb

section
variable {M : Model} {A : Around} {E : Value → Shared → Prop} {s : Shared}
theorem leavesO3 {base h : Heap} {env : Env} {outer : List Env} {L e e0 : Addr} {cls : Value} {args : List Value} {Q : Unit → Shared → Prop} (hfr : A.frames = some (env :: outer)) (hf : env.frame = some L) (hkb : base.StaysIn h) (hl : h.FunFrames base (env :: outer)) {h1 : Heap} (hx : Heap.MadeExcOf h h1 e cls args) (hs : s.heap = over h1 e e0)
    (hQ : ∀ h' t, Heap.FlyingW base outer e cls (.ref t) h' → Dc h' e (some 0) → s.heap.UpToSlots h' → Q () { s with heap := h' }) : wpAny M A (leaving env (.ref e)) Q E s := by
  obtain ⟨t, ht, _, _⟩ := hx.there
  have fr : ∀ b, h.get? b = none → base.get? b = none := fun b hb => by
    cases hq : base.get? b with
    | none => rfl
    | some o' => rw [hkb b o' hq] at hb; cases hb
  have kp : ∀ b o, h.get? b = some o → s.heap.get? b = some o := fun b o hb => by rw [hs]; exact over_keeps hx b o hb
  have he : s.heap.get? e = some { cls := cls, data := .fields #[.ref t, .none, .ref e0, .none, .bool true, .none] } := by
    rw [hs]
    exact Heap.get?_update_self _ (Heap.get?_update_self _ (Heap.get?_update_self _ ht rfl) rfl) rfl
  unfold leaving noteFrame
  simp only [hf]
  refine wpAny_bind (wpAny_bind (wpAny_field he rfl (x := .none) rfl ?_))
  rw [if_neg (by decide)]
  refine entry3 hfr (hl.of_keeps fun b o hb _ => ⟨o, kp b o hb, rfl⟩) hf he (fun b o hb => kp b o (hkb b o hb)) (fr e hx.new) rfl (by simp) (a0 := .ref t) rfl (od := some 0) (fun q => by cases q) fun h1 ⟨x1, x2, x3, x4⟩ c1 => ?_
  exact lands3 (s := { s with heap := h1 }) ⟨x1, fr e hx.new, x2, x3⟩ c1 fun h2 ⟨k1, k2, ⟨_, _, k3⟩, k4⟩ c2 u2 => hQ h2 t ⟨k1, k2, k3, k4⟩ c2 (Heap.UpToSlots.trans x4 u2)
end
noncomputable def LandsO (X : Cx) (EX : XE) : Prop := ∀ (pins : List (Addr × Obj)) (σ : St) (H : Hp) (s : Shared) (h1 : Heap) (e e0 : Addr) (C : Value) (vs : List Value), Inv X pins σ H s → Heap.MadeExcOf s.heap h1 e C vs → EX σ C (some 0) H → X.xe (.ref e) { s with heap := over h1 e e0 }
section
variable {P : Program} {w : World} {K : PySem.W.Frag} {mg : Str → Option Value} {base : Heap} {N : List Str} {qual : Str} {scope : Scope} {f : Addr} {cd : Value} {A : Around} {outer : List Env} {s₀ : Shared} {H₀ : Hp} {E : XK}
theorem landsO_def : LandsO (cxOf (CX1 P w) P w K mg base N qual scope f cd A outer s₀ H₀ E) (fun _ C od H => E C od H) := by
  intro pins σ H s h' e e0 C vs I M hE
  have hfu := I.stack
  have hid := PySem.W.funFrames_hide (as := frs (cxOf (CX1 P w) P w K mg base N qual scope f cd A outer s₀ H₀ E).stack) hfu (fun env he a ha => List.mem_filterMap.mpr ⟨env, he, ha⟩)
  refine leavesO3 (s := { s with heap := over h' e e0 }) (h := s.heap) I.ok.frames rfl (fun b o q => PySem.W.of_hideAll _ q) hid M rfl fun h'' t fl'' c1 sm => ?_
  obtain ⟨un, ok, cv⟩ := fly_out I rfl rfl rfl fl''.1 ((Heap.UpToSlots.of_keeps (over_keeps M)).trans sm) fun b o q hb _ => PySem.W.hideAll_get _ q hb
  exact ⟨e, C, some 0, H, _, _, rfl, I.os, I.bare, un, ok, fl'', cv, c1, hE⟩
end
noncomputable def tTryRN (K : PySem.W.Frag) (C0 C1 : Addr) (EX : XE) (tb : XE → TS) (ta : TA) : TS := fun D σ H =>
  tb (fun σ' C od H' => PySem.W.exmOne K C (.ref C0) = some true ∧ od = none ∧ ∀ e, H' e = none → ta σ' (upd H' e (ExcAt e C none)) fun vs H1 => vs.length ≤ sizeLine ∧ H1 e = some (ExcAt e C none) ∧ EX σ' (.ref C1) (some 0) H1) D σ H
section
variable {X : Cx} {EX : XE} {C0 C1 : Addr} {x y : Str} {np hpos pos np2 cpos npos rpos : Pos} {kd : Nat} {body : List Stmt} {e₀ : Expr} {rest : List Expr} {tb : XE → TS} {ta : TA} {bmB : List Value} {B newId initId : String}
theorem ps_tryRN (hst : X.stack = X.env :: X.outer) (hfr : X.env.frame = some X.env.locals) (hex : X.ex = []) (hx : LandsO X EX) (hp : ∀ e, PassesOwnAt (model X.prog X.w) (X.A.mark (some (.ref e))) X.A X.env X.xe)
    (hg : Gl X x) (hm : X.mg x = some (.ref C0)) (hg1 : Gl X y) (hm1 : X.mg y = some (.ref C1)) (hC : PySem.W.excIn X.K C1 bmB newId = true) (FB : ExcBaseFacts B newId initId bmB) (hb : ∀ pn E EX, Lands (X.body pn E) EX → PSs (X.body pn E) body (tb EX)) (ha : ∀ e, PA (X.suite e) (e₀ :: rest) ta)
    (hdb : (x == ("__debug__" : Str)) = false := by decide) (hdb1 : (y == ("__debug__" : Str)) = false := by decide) (he : starEach (e₀ :: rest) X.env = (false, eval e₀ X.env) :: starEach rest X.env := by rfl) (hpl : (backTo cpos (starEach rest X.env)).any (·.1) = false := by rfl) :
    PS X (.Try body [.ExceptHandler (some (.Name x np)) none [.Raise (some (.Call (.Name y np2) (e₀ :: rest) [] cpos)) (some (.Constant .none kd npos)) rpos] hpos] [] [] pos) (tTryRN X.K C0 C1 EX tb ta) := by
  intro pins s σ H D I h
  refine wpAny_Try_except (wpAny_mono (hb (X.pn ++ pins) (fun ev s₁ => wpAny (model X.prog X.w) X.A (noteFrame ev X.env) (fun _ s₂ => wpAny (model X.prog X.w) X.A (setFlight ev none) (fun _ s₃ =>
    wpAny (model X.prog X.w) X.A (handleBy ev X.env [.ExceptHandler (some (.Name x np)) none [.Raise (some (.Call (.Name y np2) (e₀ :: rest) [] cpos)) (some (.Constant .none kd npos)) rpos] hpos]) (SP X pins D) X.xe s₃) X.xe s₂) X.xe s₁) _ ?_ [] s σ H D I.intry h) (fun f s1 q => ?_) fun _ _ q => q)
  · intro pins' σ' H' s1 e C od J F hE
    obtain ⟨hmt, rfl, hsuite⟩ := hE
    have J1 : Inv X pins σ' H' s1 := J.offtry
    obtain ⟨⟨B', a0, fl, cov, cvp⟩, c1⟩ := F
    have fl' : Heap.FlyingW B' (X.env :: X.outer) e C a0 s1.heap := hst ▸ fl
    have hfrm : X.A.frames = some (X.env :: X.outer) := I.ok.frames.trans (by rw [hst])
    have pn1 : ∀ p ∈ X.pn ++ pins, B'.get? p.1 = some p.2 := fun p hp => cvp p (List.mem_append_left _ hp)
    have notB : ∀ b o, B'.get? b = some o → b ≠ e := fun b o q z => by have := fl'.2.1; rw [← z, q] at this; cases this
    obtain ⟨oe1, vs1, he1, hc1, hd1, _⟩ := fl'.first
    have nfr : e ∉ frs X.stack := fun hm => by
      obtain ⟨_, o, ho, nf⟩ := J1.stack.mem hm
      rw [he1] at ho
      cases ho
      exact nf vs1 hd1
    have hEn : H' e = none := by
      cases q : H' e with
      | none => rfl
      | some v => exact absurd rfl (notB e _ (cov e _ he1 nfr (.inr ⟨v, q⟩)))
    have hE0 : X.s₀.heap.get? e = none := by
      cases q : X.s₀.heap.get? e with
      | none => rfl
      | some o => exact absurd rfl (notB e _ (cov e _ he1 nfr (.inl ⟨o, q⟩)))
    refine note3 hfrm hfr fl' c1 fun h4 held4 c4 sm4 => ?_
    refine lands3 (s := { s1 with heap := h4 }) held4 c4 fun h5 fl5 c5 sm5 => ?_
    have J5 : Inv X pins σ' H' { s1 with heap := h5 } := J1.flown hst hfr hex fl5.1 (sm4.trans sm5) cov pn1
    have J5' : Inv (X.suite e) pins σ' H' { s1 with heap := h5 } := J5.insuite
    obtain ⟨ob, hob, hobc⟩ := fl5.there
    refine wpAny_handleBy_cons (codeAny_handlers_test (ld_glob (X := X.suite e) J5' hg hm ?_ hdb)) (by intro q; cases q)
    have LT : PySem.W.Looks (model X.prog X.w) h5 (typeOf (.ref e)) C := by
      rw [← hobc]
      exact (PySem.W.Looks.ld hob).andThen .now
    refine (PySem.W.exm_one J5.kIn LT hmt).here ?_
    show codeAny _ _ _ _ _
    refine codeAny_handlers_suite ?_
    refine landsA3 (s := { s1 with heap := h5 }) fl5 c5 fun h6 fl6 c6 sm6 => ?_
    have J6 : Inv X pins σ' H' { s1 with heap := h6 } := J1.flown hst hfr hex fl6.1 ((sm4.trans sm5).trans sm6) cov pn1
    obtain ⟨oe, vs, he6, hc6, hd6, _⟩ := fl6.first
    obtain ⟨oe', vs', he6', hd6', hn6⟩ := c6
    rw [he6] at he6'; cases he6'; rw [hd6] at hd6'; cases hd6'
    have J7 := J6.trackE he6 hc6 hd6 hn6 hEn hE0 fun p hp => notB _ _ (pn1 p hp)
    have J7' := J7.insuite (e := e)
    obtain ⟨bm, N, nm, q, bs, hd, sn, sub, ab, col, dd, k0, k1, k2, k3, k5, mN, hcls, hns, hni, T⟩ := excObj J7.mod.kin hC
    have hpl' : (backTo cpos (starEach (e₀ :: rest) X.env)).any (·.1) = false := by
      rw [he]
      show (false || (backTo cpos (starEach rest X.env)).any (·.1)) = false
      rw [hpl]
      rfl
    refine wpAny_execs_cons (raise_callFN (C := C1) (nm := nm) (q := q) (N := N) (bs := bs) (bm := bm) (hdct := hd) (sn := sn) (sub := sub) (ab := ab) (col := col) (dd := dd) (k0 := k0) (k1 := k1) (k2 := k2) (k3 := k3) (k5 := k5) FB (mN := mN) (e0 := e) (T.hasType FB.hasBase) rfl hpl' hni
      (ld_glob (X := X.suite e) J7' hg1 hm1 ⟨rfl, ?_⟩ hdb1))
    have hw := ha e cpos pins _ σ' _ _ J7' (hsuite e hEn)
    rw [he] at hw ⊢
    refine Calls.evalArgs_plain (wpAny_mono hw (fun us s2 ⟨ws, H2, I2, r, z, h2e, q2⟩ => ⟨rfl, ?_, I2.bk _ _ hcls, hns.keeps I2.bk, T.keeps I2.bk, ?_, fun h' e2 M => hp e _ _ (hx pins σ' H2 s2 h' e2 e _ us (I2.offsuite I.ok) M q2)⟩) fun _ _ q => q.elim)
    · show us.length ≤ sizeLine
      rw [← r.length]
      exact z
    · obtain ⟨⟨o, k1, k2, k3, vs2, k4, k5⟩, _⟩ := (show ObjOk X.prog X.w H2 s2.heap _ (ExcAt _ _ _) from I2.hok _ _ h2e)
      exact ⟨o, vs2, k1, k4, k5 rfl⟩
  · cases f with
    | next => exact wpAny_execs_nil (SP.offtry q)
    | brk => exact SP.offtry q
    | cont => exact SP.offtry q
    | ret u => exact SP.offtry q
end
end L2

namespace L2
open PySem PySem.Spec PyProof.Rows
open Builtin Builtin.Str
section
variable {X : Cx}
theorem vals_strs : ∀ {xs : List Str} {us : List Value}, Vals (xs.map V.str) us → ∃ l : List (Str × Tok), us = strValues l ∧ l.map (·.1) = xs
  | [], us, r => by have e := r.zero; exact ⟨[], e, rfl⟩
  | x :: xs, us, r => by
    cases r with
    | cons a b =>
      obtain ⟨t, rfl⟩ := a
      obtain ⟨l, rfl, e⟩ := vals_strs b
      exact ⟨(x, t) :: l, rfl, by rw [List.map_cons, e]⟩
theorem strs_vals : ∀ l : List (Str × Tok), Vals ((l.map (·.1)).map V.str) (strValues l)
  | [] => .nil
  | p :: l => .cons ⟨p.2, rfl⟩ (strs_vals l)
noncomputable def rSplit : V → List V → Hp → VK → Prop := fun x vs H Q => ∃ u y, x = .str u ∧ vs = [.str y] ∧ (y.length == 0) = false ∧ u.length ≤ sizeLine ∧ (partsBetween u (occurrences u y 0 u.length (u.length + 1)) y.length).length ≤ sizeLine ∧
  ∀ l, H l = none → Q (.ref l) (upd H l (.lst ((Txt.split u y).map V.str)))
theorem mt_split : MtM X "str.split" rSplit := by
  intro pins s σ H x vs v us Q I rx rv h
  obtain ⟨u, y, rfl, rfl, hy, hu, hp, q⟩ := h
  obtain ⟨t, rfl⟩ := rx
  obtain ⟨z, rfl, rz⟩ := rv.one
  obtain ⟨t', rfl⟩ := rz
  have q0 := q _ I.fresh
  have own : ∀ (l : List (Str × Tok)) (tk : Nat), l.map (·.1) = Txt.split u y → l.length ≤ sizeLine → EP X pins σ Q (.ref s.heap.objs.size) { s with heap := s.heap.push { cls := .type "list", data := .seq (strValues l).toArray }, toks := tk } := fun l tk e hz => by
    rw [← e] at q0
    exact ⟨.ref _, _, I.lnew (t' := tk) (strs_vals l) (by simpa using hz), rfl, q0⟩
  cases h1 : (decide (u.length < y.length) || decide (strKind u < strKind y))
  · cases hf : (occurrences u y 0 u.length (u.length + 1)).isEmpty
    · refine call_meets F.slot_str_split (typeIs_str _ _ _) F.entry_str_split (F.args_str_split_2 _ _) (meets_str_split_sep u y t t' h1 hy hf hu hp) ?_
      show EP X pins σ Q _ { s with toks := _, heap := s.heap.push { cls := .type "list", data := .seq (strsFrom s.toks (partsBetween u (occurrences u y 0 u.length (u.length + 1)) y.length)).toArray } }
      rw [strsFrom_eq]
      refine own (numbered s.toks _) _ ((numbered_texts _ _).trans ((if_neg (ne_true_of_eq_false h1)).trans (if_neg (ne_true_of_eq_false hf))).symm) ?_
      have := congrArg List.length (numbered_texts s.toks (partsBetween u (occurrences u y 0 u.length (u.length + 1)) y.length))
      rw [List.length_map] at this
      rw [this]
      exact hp
    · exact call_meets F.slot_str_split (typeIs_str _ _ _) F.entry_str_split (F.args_str_split_2 _ _) (meets_str_split_not_found u y t t' h1 hy hf)
        (own [(u, t)] _ ((if_neg (ne_true_of_eq_false h1)).trans (if_pos hf)).symm (by show 1 ≤ sizeLine; decide))
  · exact call_meets F.slot_str_split (typeIs_str _ _ _) F.entry_str_split (F.args_str_split_2 _ _) (meets_str_split_cannot_occur u y t t' h1)
      (own [(u, t)] _ (if_pos h1).symm (by show 1 ≤ sizeLine; decide))
noncomputable def rJoin (K : PySem.W.Frag) : V → List V → Hp → VK → Prop := fun x vs H Q => ∃ (b : Bool) (u : Str) (p : Addr) (xs : List Str), x = .str u ∧ vs = [.ref p] ∧ SqB b K H p (xs.map V.str) ∧ JoinOk u xs = true ∧ Q (.str (Txt.join u xs)) H
theorem mt_join : MtM X "str.join" (rJoin X.K) := by
  intro pins s σ H x vs v us Q I rx rv h
  obtain ⟨b, u, p, xs, rfl, rfl, hq, hok, q⟩ := h
  obtain ⟨t, rfl⟩ := rx
  obtain ⟨z, rfl, rz⟩ := rv.one
  cases rz
  have hok' := hok
  unfold JoinOk at hok'
  rw [Bool.not_eq_true'] at hok'
  cases b with
  | false =>
    obtain ⟨its, r, pl, hz⟩ := I.list hq
    obtain ⟨l, rfl, e⟩ := vals_strs r
    subst e
    exact call_meets F.slot_str_join (typeIs_str _ _ _) F.entry_str_join (F.args_str_join_2 _ _) (meets_str_join_list u t p l hok') ⟨pl.isList, post_join l ⟨joinFit_length hok', fun t' k => ⟨.str _, H, I.tok _, ⟨_, rfl⟩, q⟩⟩⟩
  | true =>
    obtain ⟨its, r, pl, hz⟩ := I.tuple hq
    obtain ⟨l, rfl, e⟩ := vals_strs r
    subst e
    obtain ⟨o, ho, hc, n, hd⟩ := pl
    exact call_meets F.slot_str_join (typeIs_str _ _ _) F.entry_str_join (F.args_str_join_2 _ _) (meets_str_join_tuple u t p l hok') ⟨⟨o, n, ho, hc, hd⟩, post_join l ⟨joinFit_length hok', fun t' k => ⟨.str _, H, I.tok _, ⟨_, rfl⟩, q⟩⟩⟩
noncomputable def Itx (x : Str) : It := ⟨fun i _ => i < x.cps.size, fun i H y H' => H' = H ∧ ∃ c, x.cps[i]? = some c ∧ y = .str ⟨#[c]⟩, fun i _ => x.cps.size ≤ i⟩
theorem turn_str {P : Program} {w : World} {K : PySem.W.Frag} {tg : Expr} (x : Str) (t : Tok) (it : Addr) (ty : String) (hty : ty = "str_ascii_iterator" ∨ ty = "str_iterator") : Turn P w K tg (Itx x) [it] it (fun i h => h.IsStrIter it ty x t i) where
  mem := by simp
  obj := fun i h st b hb => by
    have e : b = it := by simpa using hb
    subst e
    obtain ⟨o, e, c, d⟩ := st
    exact ⟨o, e, fun v z => by rw [d] at z; cases z⟩
  keep := fun i h h' st k => by
    obtain ⟨o, e, c, d⟩ := st
    exact ⟨o, k it (by simp) o e, c, d⟩
  item := by
    intro X hP hw hK hc i pins s σ H E I hf st hg
    subst hP hw hK
    have hg' : i < x.cps.size := hg
    obtain ⟨c, hx⟩ : ∃ c, x.cps[i]? = some c := ⟨_, Array.getElem?_eq_getElem hg'⟩
    obtain ⟨f0, f1, f2, f3, f4, f5⟩ := hf it (by simp)
    have fin : ∀ h', h'.IsStrIter it ty x t (i + 1) → Heap.SameBut it s.heap h' → ∃ u, some (Value.str ⟨#[c]⟩ s.toks) = some u ∧
      wpAny (model X.prog X.w) X.A (letOwnedTupleGo tg (.ref it) u) (fun _ s2 => ∃ y H', Inv X pins σ H' s2 ∧ RelV y u ∧ (Itx x).yld i H y H' ∧ s2.heap.IsStrIter it ty x t (i + 1) ∧ ∀ b ∈ [it], H' b = none) E { s with heap := h', toks := s.toks + 1 } := fun h' st' sb => by
      have I1 : Inv X pins σ H { s with heap := h', toks := s.toks + 1 } := I.turned (t' := s.toks + 1) (fun b o hb e => (sb.2 b hb).trans e) f0 f1 f3 f4 f5
      obtain ⟨o, e, c', d⟩ := id st'
      refine ⟨_, rfl, go_of (s := { s with heap := h', toks := s.toks + 1 }) e c' d (by rcases hty with rfl | rfl <;> decide) ⟨.str ⟨#[c]⟩, H, I1, ⟨_, rfl⟩, ⟨rfl, c, hx, rfl⟩, st', fun b hb => (hf b hb).1⟩⟩
    rcases hty with rfl | rfl
    · exact wpAny_pyNext_ascii_item st hx fin
    · exact wpAny_pyNext_wide_item st hx fin
  done := by
    intro X hP hw hK hc i pins s σ H E I hf st hg
    subst hP hw hK
    have hg' : x.cps.size ≤ i := hg
    have hx : x.cps[i]? = none := Array.getElem?_eq_none hg'
    obtain ⟨f0, f1, f2, f3, f4, f5⟩ := hf it (by simp)
    rcases hty with rfl | rfl
    · exact wpAny_pyNext_ascii_end (I.ok.hd hc) st hx fun h' eb => ⟨rfl, I.turned (t' := s.toks) (fun b o hb e => eb b o hb e) f0 f1 f3 f4 f5⟩
    · exact wpAny_pyNext_wide_end (I.ok.hd hc) st hx fun h' eb => ⟨rfl, I.turned (t' := s.toks) (fun b o hb e => eb b o hb e) f0 f1 f3 f4 f5⟩
  self := fun _ _ _ _ _ st h => by
    rcases hty with rfl | rfl
    · exact wpAny_pyIter_striter_ascii st h
    · exact wpAny_pyIter_striter_wide st h
noncomputable def iStr (tl : TE) : TI := fun σ H R => tl σ H fun x H1 => ∃ z, x = .str z ∧ R (Itx z) H1
theorem pi_str {tg l : Expr} {tl : TE} (hl : PE X l tl) : PI X tg l (iStr tl) := by
  intro pins s σ H R I h
  refine thn (hl pins s σ H _ I h) fun v s1 ⟨x, H1, I1, r1, q1⟩ => ?_
  obtain ⟨z, rfl, q⟩ := q1
  obtain ⟨t, rfl⟩ := r1
  have fin : ∀ ty, (ty = "str_ascii_iterator" ∨ ty = "str_iterator") → PIE X pins σ tg R (.ref s1.heap.objs.size) { s1 with heap := s1.heap.push { cls := .type ty, data := .fields #[.str z t, .int 0 0] } } := fun ty hty => by
    refine ⟨s1.heap.objs.size, [s1.heap.objs.size], _, _, H1, rfl, I1.kept (t' := s1.toks) fun b o e => Heap.get?_push_of_some _ e, turn_str z t _ ty hty, ⟨_, Heap.get?_push_size _ rfl, rfl, rfl⟩, fun b hb => ?_, q⟩
    have e : b = s1.heap.objs.size := by simpa using hb
    subst e
    exact I1.fpOk (Nat.le_refl _) (I1.hok.fresh (Nat.le_refl _))
  cases ha : z.cps.all (· < 128)
  · exact wpAny_pyIter_wide ha (fin _ (.inr rfl))
  · exact wpAny_pyIter_ascii ha (fin _ (.inl rfl))
end
section
variable {fr : List (Str × Nat)} {σ : St} {a : Addr} {H : Hp} {Q : VK} {te : TE}
theorem cg_str {z : Str} (R : Nat → V → Hp → Prop) (ha : H a = none) (hz : z.cps.size ≤ 1000) (mono : ∀ i y H1 H2, R i y H1 → SameX a H1 H2 → R i y H2)
    (he : ∀ (i : Nat) c H1 zs, z.cps[i]? = some c → Same H H1 → H1 a = some (.lst zs) → ∀ Q' : VK, (∀ y H2, Same H1 H2 → R i y H2 → Q' y H2) → te (some (.str ⟨#[c]⟩) :: frees fr σ) H1 Q')
    (hd : ∀ H1 ys, Same H H1 → H1 a = some (.lst ys) → ys.length = z.cps.size → (∀ j y, ys[j]? = some y → R j y H1) → Q (.ref a) H1) : CompWG (Itx z) (gName 0) (tEl te) 1 fr σ a H Q := by
  refine cg_rel z.cps.size R ha hz mono (fun i H1 hi s => hi) (fun H1 s => Nat.le_refl _) ?_ hd
  intro i H1 zs hi s1 ez ys x H3 hys hy Q' hQ'
  obtain ⟨e1, c, hc, e2⟩ := hy
  subst e1 e2
  match ys, hys with
  | [o], _ => exact ⟨⟨[_], rfl, rfl⟩, he i c H3 zs hc s1 ez Q' hQ'⟩
end
theorem fr_str {z : Str} {g : TG} {tb : TS} {nx : St → Hp → Prop} {rt : VK} {σ : St} {H : Hp} (Pv : Nat → St → Hp → Prop) (h0 : Pv 0 σ H)
    (hs : ∀ i c σ H, z.cps[i]? = some c → Pv i σ H → g (.str ⟨#[c]⟩) σ H fun σ2 H2 => tb { nx := Pv (i + 1), rt := rt, bk := nx, ct := Pv (i + 1) } σ2 H2) (hd : ∀ σ H, Pv z.cps.size σ H → nx σ H) : LoopW (Itx z) g tb nx rt σ H := by
  refine ⟨fun i m σ H => m = z.cps.size - i ∧ i ≤ z.cps.size ∧ Pv i σ H, ⟨z.cps.size, by simp, Nat.zero_le _, h0⟩, ?_⟩
  rintro i m σ H ⟨rfl, hi, p⟩
  by_cases hlt : i < z.cps.size
  · refine .inr ⟨hlt, Pv (i + 1), fun σ' H' p' => ⟨z.cps.size - (i + 1), by omega, rfl, hlt, p'⟩, fun x H' y => ?_⟩
    obtain ⟨e, c, hc, y⟩ := y
    subst e y
    exact hs i c σ _ hc p
  · have e : i = z.cps.size := by omega
    subst e
    exact .inl ⟨Nat.le_refl _, hd σ H p⟩
theorem join_split {u y : Str} (hy : (y.length == 0) = false) : Txt.join y (Txt.split u y) = u := by
  unfold Txt.join Txt.split
  have one : glued y [u] = u := by
    rw [StrLaws.glued_eq_join]
    rfl
  split
  · exact one
  · split
    · exact one
    · exact StrLaws.glued_between_self u y _
noncomputable def litS : Expr → Option Str
  | .Constant (.str x) _ _ => some x
  | _ => none
noncomputable def litSs : List Expr → Option (List Str)
  | [] => some []
  | e :: es => match litS e, litSs es with | some n, some ns => some (n :: ns) | _, _ => none
noncomputable def tStrsA (ss : List Str) : TA := fun _ H Q => Q (ss.map V.str) H
theorem pa_strs {X : Cx} : ∀ {es : List Expr} {ss : List Str}, litSs es = some ss → PA X es (tStrsA ss)
  | [], ss, h => by
    cases h
    intro pos pins s σ H Q I q
    exact pa_nil pos pins s σ H Q I q
  | e :: es, ss, h => by
    unfold litSs at h
    split at h
    · rename_i n ns e1 e2
      cases h
      have ih := pa_strs (X := X) e2
      unfold litS at e1
      split at e1
      · cases e1
        intro pos pins s σ H Q I q
        exact pa_cons pe_str ih rfl pos pins s σ H Q I q
      · cases e1
    · cases h
end L2

namespace L2
open PySem PySem.Spec PyProof.Rows
theorem funFrames_same {base h h' : Heap} : ∀ {l : List Env}, h.FunFrames base l → (∀ env ∈ l, ∀ a, env.frame = some a → h'.get? a = h.get? a) → h'.FunFrames base l
  | [], _, _ => trivial
  | env :: _, ⟨hk, ⟨L, o, hf, hn, ho, hd⟩, hr⟩, hin => ⟨hk, ⟨L, o, hf, hn, (hin env (.head _) L hf).trans ho, hd⟩, funFrames_same hr fun e he => hin e (.tail _ he)⟩
theorem fly_out2 {X : Cx} {pins : List (Addr × Obj)} {σ : St} {H : Hp} {s : Shared} {h'' B : Heap} (I : Inv X pins σ H s) (hst : X.stack = X.env :: X.outer) (hfr : X.env.frame = some X.env.locals) (hex : X.ex = [])
    (stay : B.StaysIn h'') (frm : ∀ b, b ∈ X.fs → ∀ o, s.heap.get? b = some o → (∀ vs, o.data ≠ .fields vs) → ∃ sl, h''.get? b = some { o with slots := sl }) (cov : Cov (frs X.stack) X.s₀.heap H s.heap B) :
    Un X.fs [] X.H₀ H X.s₀.heap h'' ∧ HOk X.prog X.w H h'' ∧ Cov X.fs X.s₀.heap H h'' B := by
  have u := I.base
  rw [hex] at u
  have hfs : frs X.stack = X.env.locals :: X.fs := by
    rw [hst]
    unfold frs
    rw [List.filterMap_cons, hfr]
    rfl
  have old : ∀ b o, X.s₀.heap.get? b = some o → b ∉ X.fs → b ∉ frs X.stack := fun b o e hb hm => by
    rw [hfs] at hm
    rcases List.mem_cons.mp hm with z | z
    · exact absurd (Nat.lt_of_lt_of_le (Heap.lt_size e) I.ok.above) (by rw [z]; exact Nat.lt_irrefl _)
    · exact hb z
  have trk : ∀ b v, H b = some v → b ∉ frs X.stack := fun b v e hm => by
    have := I.stkFree b hm
    rw [e] at this
    cases this
  have keepO : ∀ b o, s.heap.get? b = some o → b ∉ frs X.stack → ((∃ o', X.s₀.heap.get? b = some o') ∨ ∃ v, H b = some v) → h''.get? b = some o := fun b o e hb hc => stay b o (cov b o e hb hc)
  have frm' : ∀ b, b ∈ X.fs → ∀ o, s.heap.get? b = some o → ∃ sl, h''.get? b = some { o with slots := sl } := fun b hb o e => by
    obtain ⟨_, o', e', nf⟩ := I.funs.mem hb
    rw [e] at e'
    cases e'
    exact frm b hb o e nf
  refine ⟨⟨fun b o e n hb hx => ?_, fun b o e n hb hx => ?_, u.free, fun b o e hx => ?_, u.tups, u.frzs, u.tbls⟩, fun a o ha => ?_, fun b o e hb hc => ?_⟩
  · exact keepO b o (u.keep b o e n hb hx) (old b o e hb) (.inl ⟨o, e⟩)
  · obtain ⟨sl, e1⟩ := u.slot b o e n hb hx
    obtain ⟨sl', e2⟩ := frm' b hb _ e1
    exact ⟨sl', e2⟩
  · obtain ⟨o1, e1⟩ := u.there b o e hx
    by_cases hb : b ∈ X.fs
    · obtain ⟨sl, e2⟩ := frm' b hb _ e1
      exact ⟨_, e2⟩
    · exact ⟨o1, keepO b o1 e1 (old b o e hb) (.inl ⟨o, e⟩)⟩
  · refine (I.hok a o ha).stay (fun b v hb q => ?_) (fun _ q => q) fun _ _ q => q
    rcases hb with hb | hb
    · subst hb
      exact keepO b v q (trk b o ha) (.inr ⟨o, ha⟩)
    · exact keepO b v q (trk b _ hb) (.inr ⟨_, hb⟩)
  · rcases hc with ⟨o', e'⟩ | ⟨v, e'⟩
    · obtain ⟨o1, e1⟩ := u.there b o' e' (by simp)
      have q := keepO b o1 e1 (old b o' e' hb) (.inl ⟨o', e'⟩)
      rw [e] at q
      cases q
      exact cov b o e1 (old b o' e' hb) (.inl ⟨o', e'⟩)
    · obtain ⟨o1, e1⟩ := (I.hok b v e').there
      have q := keepO b o1 e1 (trk b v e') (.inr ⟨v, e'⟩)
      rw [e] at q
      cases q
      exact cov b o e1 (trk b v e') (.inr ⟨v, e'⟩)
noncomputable def LandsH (X : Cx) (EX : Value → Hp → Prop) : Prop := X.stack = X.env :: X.outer ∧ X.env.frame = some X.env.locals ∧ X.ex = [] ∧
  ∀ (pins : List (Addr × Obj)) (σ : St) (H : Hp) (s : Shared) (h2 B : Heap) (e : Addr) (C a0 : Value), Inv X pins σ H s →
    (∀ b, b ∈ X.fs → ∀ o, s.heap.get? b = some o → (∀ vs, o.data ≠ .fields vs) → ∃ sl, h2.get? b = some { o with slots := sl }) →
    Heap.HeldW B X.stack e C a0 X.env.locals h2 → Cov (frs X.stack) X.s₀.heap H s.heap B → EX C H → X.xe (.ref e) { s with heap := h2 }
section
variable {P : Program} {w : World} {K : PySem.W.Frag} {mg : Str → Option Value} {base : Heap} {N : List Str} {qual : Str} {scope : Scope} {f : Addr} {cd : Value} {A : Around} {outer : List Env} {s₀ : Shared} {H₀ : Hp} {E : XK}
theorem landsH_def : LandsH (cxOf (CX1 P w) P w K mg base N qual scope f cd A outer s₀ H₀ E) (fun C H => E C (some 0) H) := by
  refine ⟨rfl, rfl, rfl, ?_⟩
  intro pins σ H s h2 B e C a0 I frm held cov hE
  show wpAny _ _ (leaving _ (.ref e)) _ _ _
  unfold leaving
  refine wpAny_bind (wpAny_noteFrame_againW rfl held.2.2.2 ?_)
  refine wpAny_landsW (s := { s with heap := h2 }) held fun h'' fl sm => ?_
  obtain ⟨k1, k2, ⟨_, _, k3⟩, k4⟩ := fl
  obtain ⟨un, ok, cv⟩ := fly_out2 I rfl rfl rfl k1 (fun b hb o e nf => by
    obtain ⟨sl, e1⟩ := frm b hb o e nf
    obtain ⟨sl2, e2⟩ := sm b _ e1 nf
    exact ⟨sl2, e2⟩) cov
  have c0 : Dc h'' e (some 0) := by
    obtain ⟨oe, vs, he, _, hd, _⟩ := Heap.FlyingW.first (base := B) (l := _) ⟨k1, k2, k3, k4⟩
    exact ⟨oe, vs, he, hd, fun q => by cases q⟩
  exact ⟨e, C, some 0, H, B, a0, rfl, I.os, I.bare, un, ok, ⟨k1, k2, k3, k4⟩, cv, c0, hE⟩
end
section
variable {M : Model} {A : Around} {E : Value → Shared → Prop} {s : Shared} {env : Env}
theorem setFlight_heldW {base : Heap} {l : List Env} {e L : Addr} {cls a0 : Value} {Q : Unit → Shared → Prop} (R : Heap.HeldW base l e cls a0 L s.heap)
    (h : ∀ h', Heap.HeldW base l e cls a0 L h' → s.heap.UpToSlots h' → Q () { s with heap := h' }) : wpAny M A (setFlight (.ref e) (some L)) Q E s := by
  obtain ⟨hkb, hen, hl, oe, vs, T, oT, ts, he, hcls, hd, h1, hnT, hTe, hT, hdT, h3⟩ := R
  have hsz3 : 3 < ts.size := (Array.getElem?_eq_some_iff.mp h3).1
  have other : ∀ b, b ≠ T → (s.heap.update T (Obj.mapFields (·.setIfInBounds 3 ((some L).elim Value.none fun f => rawInt f)))).get? b = s.heap.get? b :=
    fun b hb => Heap.get?_update_other _ _ (Ne.symm hb)
  have noRecord : ∀ b o, s.heap.get? b = some o → (∀ vs, o.data ≠ .fields vs) → b ≠ T := fun b o hb hnf q => by
    rw [q, hT] at hb; injection hb with hb; subst hb; exact hnf ts hdT
  unfold setFlight
  refine wpAny_bind (wpAny_field he hd h1 ?_)
  rw [if_pos (show (Value.ref T != Value.none) = true from by simp)]
  refine wpAny_setField hT hdT hsz3 (h _ ⟨fun b o hbo => (other b fun q => by rw [q, hnT] at hbo; cases hbo).trans (hkb b o hbo), hen,
    hl.of_keeps fun b o hb hnf => ⟨o, (other b (noRecord b o hb hnf)).trans hb, rfl⟩, ?_⟩ fun b o hb hnf => ⟨o.slots, (other b (noRecord b o hb hnf)).trans hb⟩)
  exact ⟨oe, vs, T, _, _, (other e (Ne.symm hTe)).trans he, hcls, hd, h1, hnT, hTe, Heap.get?_update_self _ hT (Obj.isFreed_of_fields (Obj.data_mapFields hdT _)), Obj.data_mapFields hdT _, by simp [hsz3]⟩
theorem passOn_heldW {base : Heap} {l : List Env} {e L : Addr} {cls a0 : Value} {what : String} {Q : Value → Shared → Prop} (hf : env.frame = some L) (R : Heap.HeldW base l e cls a0 L s.heap)
    (h : ∀ h', Heap.HeldW base l e cls a0 L h' → s.heap.UpToSlots h' → E (.ref e) { s with heap := h' }) : wpAny M A (PySem.passOn what (.ref e) env : Sem Value) Q E s := by
  have R' := R
  obtain ⟨hkb, hen, hl, oe, vs, T, oT, ts, he, hcls, hd, h1, hnT, hTe, hT, hdT, h3⟩ := R
  unfold PySem.passOn
  refine wpAny_bind (wpAny_field he hd h1 ?_)
  rw [if_neg (by simp)]
  rw [hf]
  refine wpAny_bind (setFlight_heldW R' fun h' r u => ?_)
  exact wpAny_throw (h h' r u)
end
theorem codeAny_compLoop_genX {prog : Program} {w : World} {A : Around} {R : Result → Shared → Prop} {s : Shared} {elt target iter : Expr} {ifs : List Expr} {scope : Scope} {pos : Pos} {it acc : Value} {env : Env} (I : Nat → Shared → Prop)
    (turn : ∀ n s, I n s → wpAny (model prog w) A (pyNext it) (fun r s₁ => match r with
      | none => R (.ok .next) s₁
      | some v => wpAny (model prog w) A (letOwnedTupleGo target it v) (fun _ s₁' => wpAny (model prog w) A (assign target env v) (fun _ s₂ => turnOf elt ifs env (model prog w) A (fun o s₃ => match o with
          | some x => wpAny (model prog w) A (call (.builtin "list.append") [acc, x]) (fun _ s₄ => ∃ m, m < n ∧ I m s₄) (notedBy (model prog w) A env fun x s' => R (.error x) s') s₃
          | none => ∃ m, m < n ∧ I m s₃)
          (notedBy (model prog w) A env fun x s' => R (.error x) s') s₂) (notedBy (model prog w) A env fun x s' => R (.error x) s') s₁') (fun _ _ => False) s₁) (fun _ _ => False) s)
    (n : Nat) (h : I n s) (hifs : ifs.length ≤ 1) :
    codeAny (model prog w) A (.compLoop (.ListComp elt [⟨target, iter, ifs, 0⟩] scope pos) 0 it acc env) R s := by
  refine codeAny_loop rfl I (fun n s hI => ?_) n h
  show wpAny _ _ ((compTurn (.ListComp elt [⟨target, iter, ifs, 0⟩] scope pos) 0 it acc env).onRaise (fun x => do noteFrame x env; theTreesLotGoes x)) _ _ s
  refine wpAny_noted ?_
  have T := turn n s hI
  match ifs, hifs, T with
  | [], _, T =>
    rw [compTurn_list1]
    refine wpAny_bind (wpAny_standAt (wpAny_bind (wpAny_mono T (fun r s₁ h₁ => ?_) fun _ _ h' => h'.elim)))
    cases r with
    | none => exact wpAny_pure h₁
    | some v =>
      refine wpAny_bind (wpAny_mono h₁ (fun _ s₁' h₁' => ?_) fun _ _ h' => h'.elim)
      exact wpAny_bind (wpAny_mono h₁' (fun _ s₂ h₂ => wpAny_bind (wpAny_bind (wpAny_mono (show wpAny _ _ _ _ _ _ from h₂) (fun x s₃ h₃ => wpAny_bind (wpAny_mono h₃
        (fun _ s₄ h₄ => wpAny_pure (wpAny_pure ⟨rfl, h₄⟩)) fun _ _ h' => h')) fun _ _ h' => h'))) fun _ _ h' => h')
  | [c], _, T =>
    have e1 : compTurn (.ListComp elt [⟨target, iter, [c], 0⟩] scope pos) 0 it acc env = (standAt iter.pos >>= fun _ => pyNext it >>= fun r => match r with
      | none => pure (.done .next)
      | some v => letOwnedTupleGo target it v >>= fun _ => assign target env v >>= fun _ => isTrue c env (eval c env) >>= fun ok =>
        (if ok = true then (eval elt env >>= fun x => call (.builtin "list.append") [acc, x] >>= fun _ => pure ()) >>= fun _ => again (.compLoop (.ListComp elt [⟨target, iter, [c], 0⟩] scope pos) 0 it acc env)
          else again (.compLoop (.ListComp elt [⟨target, iter, [c], 0⟩] scope pos) 0 it acc env))) := by
      unfold compTurn
      simp only [List.forIn_cons, List.forIn_nil, if_true, bind_assoc, pure_bind, List.getElem?_cons_zero]
      rfl
    rw [e1]
    refine wpAny_bind (wpAny_standAt (wpAny_bind (wpAny_mono T (fun r s₁ h₁ => ?_) fun _ _ h' => h'.elim)))
    cases r with
    | none => exact wpAny_pure h₁
    | some v =>
      refine wpAny_bind (wpAny_mono h₁ (fun _ s₁' h₁' => ?_) fun _ _ h' => h'.elim)
      refine wpAny_bind (wpAny_mono h₁' (fun _ s₂ h₂ => wpAny_bind (wpAny_mono (show wpAny _ _ _ _ _ _ from h₂) (fun b s₃ h₃ => ?_) fun _ _ h' => h')) fun _ _ h' => h')
      cases b with
      | true =>
        rw [if_pos rfl] at h₃ ⊢
        exact wpAny_bind (wpAny_bind (wpAny_mono h₃ (fun x s₄ h₄ => wpAny_bind (wpAny_mono h₄ (fun _ s₅ h₅ => wpAny_pure (wpAny_pure ⟨rfl, h₅⟩)) fun _ _ h' => h')) fun _ _ h' => h'))
      | false =>
        rw [if_neg Bool.false_ne_true] at h₃ ⊢
        exact wpAny_pure ⟨rfl, h₃⟩
  | _ :: _ :: _, hifs, T =>
    exact absurd hifs (by simp)

section
variable {M : Model} {A : Around} {E : Value → Shared → Prop} {s : Shared} {env : Env}
noncomputable def compPostX (M : Model) (A : Around) (E : Value → Shared → Prop) (RO : Value → Addr → Shared → Prop) (acc : Value) (cenv : Env) (r : Result) (s' : Shared) : Prop :=
  match r with
  | .ok _ => RO acc cenv.locals s'
  | .error x => ∃ m, s'.heap.Ns cenv.locals m ∧ ∀ h', Heap.SameBut cenv.locals s'.heap h' → ∀ cenv' : Env, cenv'.frame = cenv.frame → wpAny M A (PySem.passOn "comprehension.variables-let-go" x cenv' : Sem Value) (fun _ _ => False) E { s' with heap := h' }
theorem comprehension_freeX {e : Expr} {scope : Scope} {pos : Pos} {newAcc first : Sem Value} {g : Comprehension} {gs : List Comprehension} {cl : List (Str × Addr)} {use : Option (Value → Sem Unit)}
    {Q : Value → Shared → Prop}
    (hcl : clausesOf e = g :: gs) (hs : ∀ x, foldedSetIterable g.iter env x = pure x) (hclos : closureFor scope env = pure cl)
    (hkind : scope.kind = .function) (hnames : ∀ x ∈ scope.names, x.2 = .local → scope.names.lookup x.1 = some .local)
    (h : wpAny M A first (fun x s₁ => wpAny M A (pyIter x) (fun it s₂ => wpAny M A newAcc (fun acc s₃ =>
      wpAny M A (newFunctionEnv scope env.globals cl [] env.qual none .none (some env)) (fun cenv s₄ =>
        codeAny M A (.compStart e 0 it acc { cenv with scope := relabel scope env }) (compPostX M A E (fun a C s' => compPost M A E use Q a C (.ok .next) s') acc cenv) s₄) E s₃) E s₂) E s₁) E s) :
    wpAny M A (comprehension e scope env pos newAcc false first use) Q E s := by
  unfold comprehension
  rw [hclos, hcl]
  refine wpAny_bind (wpAny_mono h (fun x s₁ h₁ => wpAny_bind (wpAny_standAt (wpAny_bind (wpAny_of_eq (hs x) (wpAny_bind (wpAny_holding (wpAny_mono h₁ (fun it s₂ h₂ =>
    wpAny_standIf (wpAny_bind (wpAny_mono h₂ (fun acc s₃ h₃ => wpAny_bind (wpAny_pure (wpAny_bind (wpAny_mono h₃ (fun cenv s₄ h₄ => ?_) fun _ _ h' => h')))) fun _ _ h' => h')))
      fun _ _ h' => h'))))))) fun _ _ h' => h')
  dsimp only
  have hv : ∀ x ∈ (scope.names.filter fun x => (x.2 == .local || x.2 == .cell) && x.1 != (".0" : Str)).reverse, x.2 = .local →
      Env.kindOf { cenv with scope := relabel scope env } x.1 = some .local := fun x hx hl => lookup_relabel_local (hnames x (List.mem_filter.mp (List.mem_reverse.mp hx)).1 hl)
  refine wpAny_holding (wpAny_bind (wpAny_attempt (wpAny_holding (wpAny_run (codeAny_mono h₄ fun r s' hr => ?_)))))
  cases r with
  | ok f =>
    cases use with
    | none =>
      obtain ⟨m, hn, hr⟩ := hr
      exact wpAny_bind (wpAny_holding (wpAny_comp_letGo (cenv := { cenv with scope := relabel scope env }) hkind _ s' m hv hn fun h' m' _ hs' => wpAny_pure (hr h' hs')))
    | some u =>
      refine wpAny_bind (wpAny_rule (wpAny_bind (wpAny_holding (wpAny_mono hr (fun _ s'' hr' => ?_) fun _ _ h' => h'))))
      obtain ⟨m, hn, hr'⟩ := hr'
      exact wpAny_bind (wpAny_comp_letGo (cenv := { cenv with scope := relabel scope env }) hkind _ s'' m (fun x hx hl => by
        rcases List.mem_append.mp hx with h1 | h1
        · exact hv x (List.mem_of_mem_drop h1) hl
        · exact hv x (List.mem_of_mem_take h1) hl) hn fun h' m' _ hs' => wpAny_pure (hr' h' hs'))
  | error x =>
    obtain ⟨m, hn, hr⟩ := hr
    exact wpAny_bind (wpAny_holding (wpAny_comp_letGo (cenv := { cenv with scope := relabel scope env }) hkind _ s' m hv hn fun h' m' _ hs' => wpAny_mono (hr h' hs' _ rfl) (fun _ _ f => f.elim) fun _ _ y => y))
end

noncomputable def cxCompX (X : Cx) (scope : Scope) (N : List Str) (s : Shared) (H : Hp) (fp : List Addr) (XE : Value → Shared → Prop) : Cx := { cxCompG X scope N s H fp with xe := XE }
theorem Inv.xe {X : Cx} {scope : Scope} {N : List Str} {s0 : Shared} {H0 : Hp} {fp : List Addr} {pins : List (Addr × Obj)} {σ : St} {H : Hp} {s : Shared} (XE : Value → Shared → Prop) (I : Inv (cxCompG X scope N s0 H0 fp) pins σ H s) : Inv (cxCompX X scope N s0 H0 fp XE) pins σ H s :=
  ⟨⟨I.ok.mod, I.ok.kind, I.ok.glob, I.ok.blt, I.ok.above, I.ok.inj, I.ok.has, I.ok.cab, I.ok.hd, I.ok.frames, I.ok.stk, I.ok.exf, I.ok.bs, I.ok.bsz, I.ok.noex, I.ok.exfs, I.ok.funs, I.ok.frf⟩,
    I.os, I.bare, I.base, I.loc, I.cell, I.free, I.freeC, I.pin, I.hok, I.len⟩
noncomputable abbrev Cov2 (fs ex : List Addr) (h₀ : Heap) (H : Hp) (h B : Heap) : Prop := ∀ b o, h.get? b = some o → b ∉ fs → ((b ∉ ex ∧ ∃ o', h₀.get? b = some o') ∨ ∃ u, H b = some u) → B.get? b = some o
noncomputable def LandsC (X : Cx) (EX : Value → Hp → Prop) : Prop := ∀ (pins : List (Addr × Obj)) (σ : St) (H : Hp) (s : Shared) (e : Addr) (C : Value) (B : Heap) (a0 : Value), Inv X pins σ H s → Heap.FlyingW B X.stack e C a0 s.heap →
  Cov2 (frs X.stack) X.ex X.s₀.heap H s.heap B → EX C H → X.xe (.ref e) s
section
variable {X : Cx} {sc scope : Scope} {xs : List Str} {fr : List (Str × Nat)} {elt tg iter : Expr} {ifs : List Expr} {g : TG} {tt : TOx} {EX : Value → Hp → Prop} {RO : Value → Addr → Shared → Prop}
theorem comp_coreX {pins : List (Addr × Obj)} {σ : St} {H : Hp} {s : Shared} {pos : Pos} {J : It} {fp : List Addr} {it : Addr} {tn : Nat → Heap → Prop} {Q : VK} {E : Value → Shared → Prop}
    (c : CompOkG X sc scope xs fr) (hc : X.calm = true) (hX : LandsH X EX) (hifs : ifs.length ≤ 1) (I : Inv X pins σ H s) (T : Turn X.prog X.w X.K tg J fp it tn) (t0 : tn 0 s.heap) (hf : ∀ b ∈ fp, FpOk X pins H b)
    (hg : ∀ (s₃ : Shared) (H₃ : Hp) (fp : List Addr) (XE : Value → Shared → Prop), (cxCompX X scope (xs ++ fr.map (·.1)) s₃ H₃ fp XE).env.scope = relab sc scope → PG (cxCompX X scope (xs ++ fr.map (·.1)) s₃ H₃ fp XE) tg g)
    (he : ∀ (s₃ : Shared) (H₃ : Hp) (fp : List Addr) (XE : Value → Shared → Prop), (cxCompX X scope (xs ++ fr.map (·.1)) s₃ H₃ fp XE).env.scope = relab sc scope → LandsC (cxCompX X scope (xs ++ fr.map (·.1)) s₃ H₃ fp XE) EX → POx (cxCompX X scope (xs ++ fr.map (·.1)) s₃ H₃ fp XE) elt ifs tt)
    (hw : ∀ a, H a = none → CompWG J g tt xs.length fr σ a H Q)
    (hRR : ∀ a C H' s' m, s'.heap.Ns C m → Inv X pins σ H' s' → FpOk X pins H' C → Q (.ref a) H' → RO (.ref a) C s') :
    wpAny (model X.prog X.w) X.A (newList []) (fun acc s₃ => wpAny (model X.prog X.w) X.A (newFunctionEnv scope X.env.globals (clOf X.env scope.names []) [] X.env.qual none .none (some X.env)) (fun cenv s₄ =>
      codeAny (model X.prog X.w) X.A (.compStart (.ListComp elt [⟨tg, iter, ifs, 0⟩] scope pos) 0 (.ref it) acc { cenv with scope := relabel scope X.env }) (compPostX (model X.prog X.w) X.A X.xe RO acc cenv) s₄) E s₃) E s := by
  obtain ⟨W, ⟨m0, w0⟩, turn⟩ := hw s.heap.objs.size I.fresh
  refine wpAny_newObj_type (newEnv_own ?_)
  have I3 : Inv X pins σ (upd H s.heap.objs.size (.lst [])) { s with heap := s.heap.push { cls := .type "list", dict := none, data := .seq ([] : List Value).toArray } } := I.lnew (ys := []) (its := []) (t' := s.toks) .nil (Nat.zero_le _)
  have kp : ∀ b o, s.heap.get? b = some o → (s.heap.push { cls := .type "list", dict := none, data := .seq ([] : List Value).toArray }).get? b = some o := fun b o e => Heap.get?_push_of_some _ e
  have un0 : Un (frs X.stack) fp H (upd H s.heap.objs.size (.lst [])) s.heap (s.heap.push { cls := .type "list", dict := none, data := .seq ([] : List Value).toArray }) := Un.laid kp (Nat.le_refl _) I.fresh
  dsimp only
  generalize hH2 : s.heap.push { cls := .type "list", dict := none, data := .seq ([] : List Value).toArray } = hp2 at I3 kp un0 ⊢
  have hsz : s.heap.objs.size ≤ hp2.objs.size := by rw [← hH2, Heap.size_push]; exact Nat.le_succ _
  have ft : ∀ b ∈ fp, ∃ o, s.heap.get? b = some o := fun b hb => let ⟨o, e, _⟩ := T.obj _ _ t0 b hb; ⟨o, e⟩
  have nea : ∀ b ∈ fp, b ≠ s.heap.objs.size := fun b hb => let ⟨_, e⟩ := ft b hb; Nat.ne_of_lt (Heap.lt_size e)
  have f3 : ∀ b ∈ fp, FpOk X pins (upd H s.heap.objs.size (.lst [])) b ∧ ∃ o, hp2.get? b = some o := fun b hb => by
    obtain ⟨o, e⟩ := ft b hb
    exact ⟨⟨by rw [upd_ne (nea b hb)]; exact (hf b hb).1, (hf b hb).2⟩, o, kp b o e⟩
  have J0' := comp_startG c I3 f3
  have k4 : ∀ b o, hp2.get? b = some o → (pushCells (hp2.push { cls := .type "dict", data := .dict #[] }) scope.names).get? b = some o := fun b o e => pushCells_keeps _ _ b o (Heap.get?_push_of_some _ e)
  have t4 : tn 0 (pushCells (hp2.push { cls := .type "dict", data := .dict #[] }) scope.names) := T.keep 0 _ _ t0 fun b hb o e => k4 b o (kp b o e)
  have esc : ∀ (s₃ : Shared) (H₃ : Hp) (fp : List Addr) (XE : Value → Shared → Prop), (cxCompX X scope (xs ++ fr.map (·.1)) s₃ H₃ fp XE).env.scope = relab sc scope := fun _ _ _ _ => relab_is c.hsc
  obtain ⟨XE, hXE⟩ : ∃ XE : Value → Shared → Prop, XE = notedBy (model X.prog X.w) X.A (compEnvC scope (cellsFrom (hp2.objs.size + 1) scope.names (clOf X.env scope.names [])) hp2.objs.size X.env) (fun x s' => compPostX (model X.prog X.w) X.A X.xe RO (.ref s.heap.objs.size) (newEnv scope hp2.objs.size X.env.globals (cellsFrom (hp2.objs.size + 1) scope.names (clOf X.env scope.names [])) X.env.qual none .none (some X.env) X.env.builtins) (.error x) s') := ⟨_, rfl⟩
  have J0 := J0'.xe XE
  have lands : LandsC (cxCompX X scope (xs ++ fr.map (·.1)) { s with heap := hp2 } (upd H s.heap.objs.size (.lst [])) fp XE) EX := by
    obtain ⟨hst, hfr, hex, hX⟩ := hX
    intro pins' σ' H3 s3 e C B a0 K3 fl cov hE
    obtain ⟨m4, hn4, _⟩ := K3.loc
    have K5 : Inv X pins σ H3 s3 := I.call' K3.os (un0.trans K3.base) K3.hok K3.bare fun b hb => let f := hf b hb; ⟨f.2.2.2.1, f.2.1, f.2.2.2.2.1, f.2.2.2.2.2⟩
    show XE (.ref e) s3
    rw [hXE]
    show wpAny _ _ (noteFrame (.ref e) X.env) _ _ s3
    refine wpAny_looks_onW (I.ok.frames.trans (by rw [hst])) hfr (hst ▸ fl) fun h4 held4 sm4 => ?_
    obtain ⟨o4, es4, ep4, ho4, hd4, hk4, hm4⟩ := hn4
    obtain ⟨sl4, ho4'⟩ := sm4 hp2.objs.size o4 ho4 (fun vs z => by rw [hd4] at z; cases z)
    refine ⟨m4, ⟨_, es4, ep4, ho4', hd4, hk4, hm4⟩, fun h' hs' cenv' hcf => ?_⟩
    obtain ⟨g1, g2, g3, oe, vs, T, oT, ts, he, hcls, hd, h1, hnT, hTe, hT, hdT, h3⟩ := held4
    have ne : e ≠ hp2.objs.size := fun z => by
      rw [z, ho4'] at he
      cases he
      have hd' : o4.data = .fields vs := hd
      rw [hd4] at hd'
      cases hd'
    have nT : T ≠ hp2.objs.size := fun z => by
      rw [z, ho4'] at hT
      cases hT
      have hd' : o4.data = .fields ts := hdT
      rw [hd4] at hd'
      cases hd'
    have nfr : ∀ b ∈ frs X.stack, b ≠ hp2.objs.size := fun b hb z => by
      obtain ⟨_, o, ho, _⟩ := I.stack.mem hb
      exact absurd (Nat.lt_of_lt_of_le (Heap.lt_size ho) hsz) (by rw [z]; exact Nat.lt_irrefl _)
    have hst' : Heap.StaysIn (PySem.W.hideAll B [hp2.objs.size]) B := fun b o q => PySem.W.of_hideAll _ q
    have held5 : Heap.HeldW (PySem.W.hideAll B [hp2.objs.size]) X.stack e C a0 X.env.locals h' := by
      refine ⟨fun b o q => ?_, PySem.W.fresh_of_stays hst' g2, funFrames_same (PySem.W.funFrames_base hst' (hst ▸ g3)) fun env hv a ha => hs'.2 a (nfr a (List.mem_filterMap.mpr ⟨env, hv, ha⟩)), oe, vs, T, oT, ts, (hs'.2 e ne).trans he, hcls, hd, h1, PySem.W.fresh_of_stays hst' hnT, hTe, (hs'.2 T nT).trans hT, hdT, h3⟩
      have nb : b ≠ hp2.objs.size := fun z => by
        rw [z, PySem.W.hideAll_none _ (by simp)] at q
        cases q
      exact (hs'.2 b nb).trans (g1 b o (PySem.W.of_hideAll _ q))
    refine passOn_heldW (hcf.trans hfr) held5 fun h5 held6 sm6 => ?_
    refine hX pins σ H3 s3 h5 _ e C a0 K5 (fun b hb o e1 nf => ?_) held6 (fun b o e1 hb hc => ?_) hE
    · obtain ⟨sl, e2⟩ := sm4 b o e1 nf
      have nb : b ≠ hp2.objs.size := nfr b (by
        rw [hst]
        unfold frs
        rw [List.filterMap_cons, hfr]
        exact List.mem_cons_of_mem _ hb)
      obtain ⟨sl', e3⟩ := sm6 b _ ((hs'.2 b nb).trans e2) nf
      exact ⟨sl', e3⟩
    · have nb : b ≠ hp2.objs.size ∧ ((b ∉ fp ∧ ∃ o', hp2.get? b = some o') ∨ ∃ u, H3 b = some u) := by
        rcases hc with ⟨o', e'⟩ | ⟨u, e'⟩
        · obtain ⟨o2, e2⟩ := I.base.there b o' e' (by rw [hex]; simp)
          refine ⟨fun z => ?_, .inl ⟨fun hb' => ?_, o2, kp b o2 e2⟩⟩
          · exact absurd (Heap.lt_size (kp b o2 e2)) (by rw [z]; exact Nat.lt_irrefl _)
          · have := (hf b hb').2.2.2.1
            rw [hex] at this
            rcases this with z | z
            · simp at z
            · exact absurd (Heap.lt_size e') (Nat.not_lt.mpr z)
        · refine ⟨fun z => ?_, .inr ⟨u, e'⟩⟩
          have : H3 hp2.objs.size = none := K3.free
          rw [← z, e'] at this
          cases this
      exact PySem.W.hideAll_get _ (cov b o e1 hb nb.2) (by simp [nb.1])
  subst hXE
  have stat : ∀ {H' : Hp}, (∀ b ∈ fp, H' b = none) → ∀ b ∈ fp, FpOk (cxCompX X scope (xs ++ fr.map (·.1)) { s with heap := hp2 } (upd H s.heap.objs.size (.lst [])) fp (notedBy (model X.prog X.w) X.A (compEnvC scope (cellsFrom (hp2.objs.size + 1) scope.names (clOf X.env scope.names [])) hp2.objs.size X.env) (fun x s' => compPostX (model X.prog X.w) X.A X.xe RO (.ref s.heap.objs.size) (newEnv scope hp2.objs.size X.env.globals (cellsFrom (hp2.objs.size + 1) scope.names (clOf X.env scope.names [])) X.env.qual none .none (some X.env) X.env.builtins) (.error x) s'))) [] H' b := fun hn b hb => by
    obtain ⟨e1, e2⟩ := J0.ok.exf b hb
    exact ⟨hn b hb, e1, J0.ok.exfs b hb, .inl hb, e2, fun p hp => absurd (show p ∈ ([] : List (Addr × Obj)) from hp) (by simp)⟩
  have loop : codeAny (model X.prog X.w) X.A (.compLoop (.ListComp elt [⟨tg, iter, ifs, 0⟩] scope pos) 0 (.ref it) (.ref s.heap.objs.size) (compEnvC scope (cellsFrom (hp2.objs.size + 1) scope.names (clOf X.env scope.names [])) hp2.objs.size X.env))
      (compPostX (model X.prog X.w) X.A X.xe RO (.ref s.heap.objs.size) (newEnv scope hp2.objs.size X.env.globals (cellsFrom (hp2.objs.size + 1) scope.names (clOf X.env scope.names [])) X.env.qual none .none (some X.env) X.env.builtins)) { s with heap := pushCells (hp2.push { cls := .type "dict", data := .dict #[] }) scope.names } := by
    refine codeAny_compLoop_genX (fun n s' => ∃ i, ∃ ys : St, ∃ H', ys.length = xs.length ∧ Inv (cxCompX X scope (xs ++ fr.map (·.1)) { s with heap := hp2 } (upd H s.heap.objs.size (.lst [])) fp (notedBy (model X.prog X.w) X.A (compEnvC scope (cellsFrom (hp2.objs.size + 1) scope.names (clOf X.env scope.names [])) hp2.objs.size X.env) (fun x s' => compPostX (model X.prog X.w) X.A X.xe RO (.ref s.heap.objs.size) (newEnv scope hp2.objs.size X.env.globals (cellsFrom (hp2.objs.size + 1) scope.names (clOf X.env scope.names [])) X.env.qual none .none (some X.env) X.env.builtins) (.error x) s'))) [] (ys ++ frees fr σ) H' s' ∧ tn i s'.heap ∧ (∀ b ∈ fp, H' b = none) ∧ W i n H')
      ?_ m0 ⟨0, xs.map fun _ => none, _, by simp, J0, t4, fun b hb => (f3 b hb).1.1, w0⟩ hifs
    rintro n s3 ⟨i, ys, H3, hys, K3, st3, fr3, w3⟩
    rcases turn i n H3 w3 with ⟨stop, qn⟩ | ⟨go, N, hN, step⟩
    · refine thn (T.done (cxCompX X scope (xs ++ fr.map (·.1)) { s with heap := hp2 } (upd H s.heap.objs.size (.lst [])) fp (notedBy (model X.prog X.w) X.A (compEnvC scope (cellsFrom (hp2.objs.size + 1) scope.names (clOf X.env scope.names [])) hp2.objs.size X.env) (fun x s' => compPostX (model X.prog X.w) X.A X.xe RO (.ref s.heap.objs.size) (newEnv scope hp2.objs.size X.env.globals (cellsFrom (hp2.objs.size + 1) scope.names (clOf X.env scope.names [])) X.env.qual none .none (some X.env) X.env.builtins) (.error x) s'))) rfl rfl rfl hc i [] s3 _ H3 (fun _ _ => False) K3 (stat fr3) st3 stop) fun r s4 ⟨hr, K4⟩ => ?_
      subst hr
      obtain ⟨m4, hn4, _⟩ := K4.loc
      have K5 : Inv X pins σ H3 s4 := I.call' K4.os (un0.trans K4.base) K4.hok K4.bare fun b hb => let f := hf b hb; ⟨f.2.2.2.1, f.2.1, f.2.2.2.2.1, f.2.2.2.2.2⟩
      exact hRR _ _ H3 s4 m4 hn4 K5 (I.fpOk hsz K4.free) qn
    · refine thn (T.item (cxCompX X scope (xs ++ fr.map (·.1)) { s with heap := hp2 } (upd H s.heap.objs.size (.lst [])) fp (notedBy (model X.prog X.w) X.A (compEnvC scope (cellsFrom (hp2.objs.size + 1) scope.names (clOf X.env scope.names [])) hp2.objs.size X.env) (fun x s' => compPostX (model X.prog X.w) X.A X.xe RO (.ref s.heap.objs.size) (newEnv scope hp2.objs.size X.env.globals (cellsFrom (hp2.objs.size + 1) scope.names (clOf X.env scope.names [])) X.env.qual none .none (some X.env) X.env.builtins) (.error x) s'))) rfl rfl rfl hc i [] s3 _ H3 (fun _ _ => False) K3 (stat fr3) st3 go) fun r s4 ⟨u, hr, h4⟩ => ?_
      subst hr
      refine thn h4 fun _ s5 ⟨y, H5, K5, r5, y5, st5, fr5⟩ => ?_
      have K5' := K5.pinned (stat fr5) (T.obj _ _ st5)
      refine thn (hg _ _ _ _ (esc _ _ _ _) _ s5 _ H5 y u _ K5' r5 (step ys y H5 hys y5)) fun _ s6 ⟨σ6, H6, K6, ⟨ys6, hl6, e6⟩, q6⟩ => ?_
      subst e6
      have fin : ∀ (s8 : Shared) (H8 : Hp), Inv (cxCompX X scope (xs ++ fr.map (·.1)) { s with heap := hp2 } (upd H s.heap.objs.size (.lst [])) fp (notedBy (model X.prog X.w) X.A (compEnvC scope (cellsFrom (hp2.objs.size + 1) scope.names (clOf X.env scope.names [])) hp2.objs.size X.env) (fun x s' => compPostX (model X.prog X.w) X.A X.xe RO (.ref s.heap.objs.size) (newEnv scope hp2.objs.size X.env.globals (cellsFrom (hp2.objs.size + 1) scope.names (clOf X.env scope.names [])) X.env.qual none .none (some X.env) X.env.builtins) (.error x) s'))) ([] ++ pinsAt fp s5.heap) (ys6 ++ frees fr σ) H8 s8 → N H8 →
          ∃ m, m < n ∧ ∃ i, ∃ ys : St, ∃ H', ys.length = xs.length ∧ Inv (cxCompX X scope (xs ++ fr.map (·.1)) { s with heap := hp2 } (upd H s.heap.objs.size (.lst [])) fp (notedBy (model X.prog X.w) X.A (compEnvC scope (cellsFrom (hp2.objs.size + 1) scope.names (clOf X.env scope.names [])) hp2.objs.size X.env) (fun x s' => compPostX (model X.prog X.w) X.A X.xe RO (.ref s.heap.objs.size) (newEnv scope hp2.objs.size X.env.globals (cellsFrom (hp2.objs.size + 1) scope.names (clOf X.env scope.names [])) X.env.qual none .none (some X.env) X.env.builtins) (.error x) s'))) [] (ys ++ frees fr σ) H' s8 ∧ tn i s8.heap ∧ (∀ b ∈ fp, H' b = none) ∧ W i m H' := by
        intro s8 H8 K8 n8
        obtain ⟨m', hm, w8⟩ := hN H8 n8
        refine ⟨m', hm, i + 1, ys6, H8, hl6, K8.unpinned, T.keep _ _ _ st5 fun b hb o e => (K8.pin (b, o) (List.mem_append_right _ (List.mem_append_right _ (mem_pinsAt hb e)))).1, fun b hb => ?_, w8⟩
        obtain ⟨o, e, d⟩ := T.obj _ _ st5 b hb
        exact (K8.pin (b, o) (List.mem_append_right _ (List.mem_append_right _ (mem_pinsAt hb e)))).2.1
      have h7 := he _ _ _ _ (esc _ _ _ _) lands _ s6 _ H6 _ K6 q6
      have mono : ∀ {Q Q' : Option Value → Shared → Prop} {E : Value → Shared → Prop} {s' : Shared} {env : Env}, (∀ o s1, Q o s1 → Q' o s1) → turnOf elt ifs env (model X.prog X.w) X.A Q E s' → turnOf elt ifs env (model X.prog X.w) X.A Q' E s' := by
        intro Q Q' E s' env hq ht
        unfold turnOf at ht ⊢
        match ifs, hifs, ht with
        | [], _, ht => exact wpAny_mono ht (fun x s1 q => hq _ _ q) fun _ _ e => e
        | [c], _, ht =>
          refine wpAny_mono ht (fun b s1 q => ?_) fun _ _ e => e
          split at q
          · rename_i hb; rw [if_pos hb]; exact wpAny_mono q (fun x s2 q => hq _ _ q) fun _ _ e => e
          · rename_i hb; rw [if_neg hb]; exact hq _ _ q
        | _ :: _ :: _, hifs, _ => exact absurd hifs (by simp)
      refine mono (fun o s7 ⟨z7, H7, K7, r7, q7⟩ => ?_) h7
      cases o with
      | none =>
        cases z7 with
        | none => exact fin s7 H7 K7 q7
        | some z => exact r7.elim
      | some v7 =>
        cases z7 with
        | none => exact r7.elim
        | some z7 =>
          obtain ⟨zs, hz, hl, w7⟩ := q7
          exact thn (mt_append _ s7 _ H7 (.ref s.heap.objs.size) [z7] (.ref s.heap.objs.size) [v7] (fun _ H8 => N H8) K7 rfl (.cons r7 .nil) ⟨_, zs, z7, rfl, rfl, hz, hl, w7⟩) fun _ s8 ⟨_, H8, K8, _, n8⟩ => fin s8 H8 K8 n8
  exact codeAny_compStart_list loop (T.self _ 0 _ _ _ t4 loop)
variable {wi : TI}
theorem ps_setCX {pos spos py : Pos} {y : Str} {i : Nat} (c : CompOkG X sc scope xs fr) (hc : X.calm = true) (hX : LandsH X EX) (hN : X.N.Nodup) (hy : X.N[i]? = some y) (hl : X.env.scope.names.lookup y = some .local) (hi : PI X tg iter wi)
    (hg : ∀ (s₃ : Shared) (H₃ : Hp) (fp : List Addr) (XE : Value → Shared → Prop), (cxCompX X scope (xs ++ fr.map (·.1)) s₃ H₃ fp XE).env.scope = relab sc scope → PG (cxCompX X scope (xs ++ fr.map (·.1)) s₃ H₃ fp XE) tg g)
    (he : ∀ (s₃ : Shared) (H₃ : Hp) (fp : List Addr) (XE : Value → Shared → Prop), (cxCompX X scope (xs ++ fr.map (·.1)) s₃ H₃ fp XE).env.scope = relab sc scope → LandsC (cxCompX X scope (xs ++ fr.map (·.1)) s₃ H₃ fp XE) EX → POx (cxCompX X scope (xs ++ fr.map (·.1)) s₃ H₃ fp XE) elt ifs tt)
    (hsw : swapsWith (.ListComp elt [⟨tg, iter, ifs, 0⟩] scope pos) (some (.Name y py)) spos.line X.env = pure true := by rfl)
    (hifs : ifs.length ≤ 1 := by exact Nat.le_of_ble_eq_true rfl) (hs : ∀ x, foldedSetIterable iter X.env x = pure x := by intro _; rfl) : PS X (.Assign [.Name y py] (.ListComp elt [⟨tg, iter, ifs, 0⟩] scope pos) spos) (tSetC i (tCompG wi g tt xs.length fr)) := by
  intro pins s σ H D I h
  rw [exec_Assign_Name_used _ _ _ _ hsw]
  refine wpAny_bind (wpAny_standAt (wpAny_bind ?_))
  show wpAny _ _ (do let _ ← comprehension (.ListComp elt [⟨tg, iter, ifs, 0⟩] scope pos) scope X.env _ (newList []) false (eval iter X.env) (some (assign (.Name y py) X.env))) _ _ s
  refine wpAny_bind (wpAny_mono (comprehension_freeX (use := some (assign (.Name y py) X.env)) (Q := fun _ s' => SP X pins D .next s') rfl hs (closure_is (c.cells I)) c.kind c.loc
    (thn (hi pins s σ H _ I h) fun v s1 h1 => thn h1 fun itv s2 h2 => ?_)) (fun _ s' hq => wpAny_pure (wpAny_pure hq)) fun _ _ e => e)
  obtain ⟨it, fp, tn, J, H2, e, I2, T, t2, f2, hw⟩ := h2
  subst e
  refine comp_coreX (RO := fun a C s' => compPost (model X.prog X.w) X.A X.xe (some (assign (.Name y py) X.env)) (fun _ s' => SP X pins D .next s') a C (.ok .next) s') (Q := fun v H1 => D.nx (σ.set i (some v)) H1) c hc hX hifs I2 T t2 f2 hg he hw ?_
  intro a C H' s' m hn K f q
  show wpAny _ _ (assign (.Name y py) X.env (.ref a)) _ _ _
  refine wpAny_assign_Name (store_ok2 K hN hy (.inl hl) (show RelV (.ref a) (.ref a) from rfl) (fun s'' K2 ⟨b, sb, hb⟩ => ?_) (.inr hl))
  have hCb : C ≠ b := by
    rcases hb with e | e
    · rw [e]; exact f.2.1
    · exact Ne.symm (f.2.2.2.2.1 y b e)
  refine ⟨m, hn.sameBut sb hCb, fun h' hs' => ?_⟩
  exact ⟨_, H', K2.turned (t' := s''.toks) (fun b o hb e => (hs'.2 b hb).trans e) f.1 f.2.1 f.2.2.2.1 f.2.2.2.2.1 f.2.2.2.2.2, q⟩
end
section
variable {X : Cx} {EX : Value → Hp → Prop} {k : Nat} {f : Addr} {fd : FuncData} {ps : List Str} {sp : Sp} {dvs : List V} {ds : List Value} {x : Str} {p pos : Pos} {e : Expr} {es : List Expr} {t : TA}
theorem run_fnXC {pins : List (Addr × Obj)} {σ : St} {H : Hp} {s : Shared} {Q : VK} {us : List Value} {vs : List V} (F : FnOk X.prog X.w X.K X.mg X.base (CX1 X.prog X.w) k f fd ps sp) (hr : Room k X.A) (hb : Binds X.K fd ps ds) (hd : Vals dvs ds) (hx : LandsC X EX)
    (I : Inv X pins σ H s) (r : Vals vs us) (h : sp (vs ++ dvs) H Q fun C _ H' => EX C H') : wpAny (model X.prog X.w) X.A (call (.ref f) us) (EP X pins σ Q) X.xe s := by
  have r2 : Vals (vs ++ dvs) (us ++ ds) := r.append hd
  have hl : (us ++ ds).length = ps.length := by rw [← r2.length]; exact F.len _ _ _ _ h
  refine wpAny_call (codeAny_mono (F.run X.A X.stack s H ⟨us, []⟩ (us ++ ds) (vs ++ dvs) Q _ hr I.env0 (hb s us I.kIn hl) r2 h) fun r s' hq => ?_)
  cases r with
  | error ev =>
    obtain ⟨e, C, od, H', B, a0, rfl, os, bare, un, ok, fl, cov, _, q⟩ := hq
    have J : Inv X pins σ H' s' := I.call' os un ok bare fun b z => absurd z (by simp)
    refine hx pins σ H' s' e C B a0 J fl (fun b o e1 hb hc => cov b o e1 hb ?_) q
    rcases hc with ⟨nx, o', e'⟩ | hc
    · obtain ⟨o2, e2⟩ := I.base.there b o' e' nx
      exact .inl ⟨o2, e2⟩
    · exact .inr hc
  | ok fl =>
    cases fl with
    | ret u => exact I.after hq
    | next => exact False.elim hq
    | brk => exact False.elim hq
    | cont => exact False.elim hq
theorem pe_callXC (F : FnOk X.prog X.w X.K X.mg X.base (CX1 X.prog X.w) k f fd ps sp) (hr : Room k X.A) (hg : Gl X x) (hm : X.mg x = some (.ref f)) (hk : PySem.W.keepIn X.K (.ref f) = true) (hb : Binds X.K fd ps ds) (hd : Vals dvs ds) (hx : LandsC X EX)
    (ha : PA X (e :: es) t) (hdb : (x == ("__debug__" : Str)) = false := by decide) (he : starEach (e :: es) X.env = (false, eval e X.env) :: starEach es X.env := by rfl) (hpl : (backTo pos (starEach es X.env)).any (·.1) = false := by rfl) :
    PE X (.Call (.Name x p) (e :: es) [] pos) (tCallX sp dvs (fun _ C _ H => EX C H) t) := by
  intro pins s σ H Q I h
  refine wpAny_Call_Name_kw (ld_glob I hg hm ?_ hdb)
  refine PySem.W.callWith_K (h₀ := X.base) I.ok.mod.kin hk (thn (ha pos pins s σ H _ I h) fun us s1 ⟨vs, H1, I1, r, q⟩ => ⟨I1.kIn, ?_⟩) he hpl
  exact run_fnXC F hr hb hd hx I1 r q
end
end L2

namespace L2
open PySem PySem.Spec PyProof.Rows
open Builtin Builtin.Str
section
variable {X : Cx}
theorem mt_startsw : MtM X "str.startswith" (fun x vs H Q => ∃ u y, x = .str u ∧ vs = [.str y] ∧ Q (.bl (Txt.startswith u y)) H) := by
  intro pins s σ H x vs v us Q I rx rv h
  obtain ⟨u, y, rfl, rfl, q⟩ := h
  obtain ⟨t, rfl⟩ := rx
  obtain ⟨z, rfl, rz⟩ := rv.one
  obtain ⟨t', rfl⟩ := rz
  exact SC.startswith ⟨.bl _, H, I, rfl, q⟩
end
noncomputable def Itv (K : PySem.W.Frag) (l : Addr) (n : Nat) : It :=
  ⟨fun i H => ∃ xs, SqL K H l xs ∧ xs.length = n ∧ i < n, fun i H x H' => H' = H ∧ ∀ xs, SqL K H l xs → xs[n - 1 - i]? = some x, fun i _ => n ≤ i⟩
section
variable {X : Cx}
end
end L2
namespace L2
open PySem PySem.Spec PyProof.Rows
section
variable {prog : Program} {w : World} {A : Around} {E : Value → Shared → Prop} {s : Shared}
end
noncomputable def Izs (K : PySem.W.Frag) (b1 : Bool) (l1 : Addr) (zt : Str) : It :=
  ⟨fun i H => ∃ xs x c, SqB b1 K H l1 xs ∧ xs[i]? = some x ∧ zt.cps[i]? = some c,
   fun i H v H' => ∃ p x c, v = .ref p ∧ H p = none ∧ H' = upd H p (.tup [x, .str ⟨#[c]⟩]) ∧ (∀ xs, SqB b1 K H l1 xs → xs[i]? = some x) ∧ zt.cps[i]? = some c,
   fun i H => ∃ xs, SqB b1 K H l1 xs ∧ (xs[i]? = none ∨ zt.cps[i]? = none)⟩
section
variable {X : Cx}
end
end L2
namespace L2
open PySem PySem.Spec PyProof.Rows
open Builtin Builtin.Str
section
variable {X : Cx}
noncomputable def rSlE : V → Option Int → Option Int → Hp → VK → Prop := fun x lo hi H Q => ∃ u, x = .str u ∧ u.length ≤ sizeLine ∧ Q (.str (Txt.slice u lo hi)) H
theorem sl_E : SlR X rSlE := by
  intro pins s σ H x v vl vu lo hi sl Q I rx hs pl pu h
  obtain ⟨z, rfl, hz, q⟩ := h
  obtain ⟨t, rfl⟩ := rx
  refine ⟨"str", _, slot_str_getitem.lookup, typeIs_str _ _ _, ?_⟩
  have part : ∀ {v : Value} {o : Option Int}, IsPart v o → ∃ l : Option (Int × Tok), v = partValue l ∧ l.map (·.1) = o := fun p => by
    cases p with
    | none => exact ⟨none, rfl, rfl⟩
    | int i t => exact ⟨some (i, t), rfl, rfl⟩
  obtain ⟨l, rfl, el⟩ := part pl
  obtain ⟨u, rfl, eu⟩ := part pu
  refine wpAny_getItem_str_slice (l := l) (u := u) (st := none) hs rfl ?_
  have hle := PyProof.Txt.length_slice_le z lo hi
  subst el eu
  unfold Txt.slice at q hle
  unfold sliceMade slicePicked
  split
  · rename_i hc
    rw [if_pos (by simpa using hc)] at q
    exact ⟨.str z, H, I, ⟨_, rfl⟩, q⟩
  · rename_i hc
    rw [if_neg (by simpa using hc)] at q hle
    exact ⟨Nat.le_trans hle hz, .str _, H, I.tok _, ⟨_, rfl⟩, q⟩
end
end L2
namespace L2
open PySem PySem.Spec PyProof.Rows
section
variable {X : Cx}
end
end L2

namespace L2
open PySem PySem.Spec PyProof.Rows
section
variable {X : Cx}
noncomputable def rIntS : List V → Hp → VK → Prop := fun xs H Q => ∃ x n, xs = [.str x] ∧ PySem.intText? x = some n ∧ x.length ≤ 640 ∧ Q (.int n) H
theorem call_intS : CallR X (.type "int") rIntS := by
  intro pins s σ H xs us Q I r h
  obtain ⟨x, n, rfl, hn, hl, q⟩ := h
  obtain ⟨u, rfl, t, rfl⟩ := vals1 r
  exact PySem.W.KIN.call_text hn hl ⟨.int n, H, I.tok _, ⟨_, rfl⟩, q⟩
end
end L2
namespace L2
open PySem PySem.Spec PyProof.Rows
section
variable {X : Cx}
theorem mt_find : MtM X "str.find" (fun x vs H Q => ∃ u y, x = .str u ∧ vs = [.str y] ∧ Q (.int (Txt.find u y)) H) := by
  intro pins s σ H x vs v us Q I rx rv h
  obtain ⟨u, y, rfl, rfl, q⟩ := h
  obtain ⟨t, rfl⟩ := rx
  obtain ⟨z, rfl, rz⟩ := rv.one
  obtain ⟨t', rfl⟩ := rz
  exact SC.find ⟨.int _, H, I.tok _, ⟨_, rfl⟩, q⟩
noncomputable def PEk (X : Cx) (e : Expr) (t : TE) : Prop :=
  ∀ (pins : List (Addr × Obj)) (s : Shared) (σ : St) (H : Hp) (Q : VK), 1 ≤ s.toks → Inv X pins σ H s → t σ H Q → wpAny (model X.prog X.w) X.A (eval e X.env) (EP X pins σ Q) X.xe s
noncomputable def PSk (X : Cx) (st : Stmt) (t : TS) : Prop :=
  ∀ (pins : List (Addr × Obj)) (s : Shared) (σ : St) (H : Hp) (D : Ends), 1 ≤ s.toks → Inv X pins σ H s → t D σ H → wpAny (model X.prog X.w) X.A (exec st X.env) (SP X pins D) X.xe s
noncomputable def tRepl (K : PySem.W.Frag) (y z : Str) (to : TE) : TE := fun σ H Q => to σ H fun x H1 => tyV K "str" x H1 ∧ ∃ u, x = .str u ∧ u.length ≤ 1048576 ∧ Q (.str (Txt.replace u y z)) H1
theorem pe_replK {o : Expr} {to : TE} {y z : Str} {j1 j2 : Nat} {p1 p2 apos cpos : Pos} (ho : PE X o to) (hyz : (y == z) = false := by decide +kernel) (hz : z.length ≤ 14 := by decide +kernel)
    (hbase : attributeBase o "replace" X.env (eval o X.env) = eval o X.env := by rfl) (hline : (apos.endLine == cpos.line) = true := by rfl) :
    PEk X (.Call (.Attribute o "replace" apos) [.Constant (.str y) j1 p1, .Constant (.str z) j2 p2] [] cpos) (tRepl X.K y z to) := by
  intro pins s σ H Q ht I h
  refine wpAny_Call_method_late hbase rfl hline rfl (wpAny_with_toks ht (wpAny_mono (ho pins s σ H _ I h) (fun v s1 ⟨x, H1, I1, r1, ty, u, eu, hl, q1⟩ h1 => ?_) fun _ _ e _ => e))
  obtain ⟨k1, k2⟩ := tyV_is I1 r1 ty
  refine ⟨"str", "str.replace", PySem.F.plainAttrs_str, PySem.F.slot_str_replace, PySem.F.type_str_replace, k1, k2, ?_⟩
  refine Calls.callWith_builtin (by rfl) (Calls.evalArgs_plain ?_)
  show wpAny _ _ (spliced ((false, eval (.Constant (.str y) j1 p1) X.env) :: (false, eval (.Constant (.str z) j2 p2) X.env) :: [])) _ _ s1
  refine Calls.spliced_cons (Calls.Constant_str (Calls.spliced_cons (Calls.Constant_str (Calls.spliced_nil ?_))))
  subst eu
  obtain ⟨t, rfl⟩ := r1
  exact SC.replaceW (Nat.pos_iff_ne_zero.mp h1) (Nat.succ_ne_zero _) (Nat.ne_of_lt (Nat.lt_succ_self _)) hyz hl hz fun t' k => ⟨.str _, H1, (I1.tok _), ⟨_, rfl⟩, q1⟩
theorem ps_setK {i : Nat} {x : Str} {e : Expr} {te : TE} {pos pos' : Pos} (hN : X.N.Nodup) (hi : X.N[i]? = some x) (hx : Loc X.env.scope x) (he : PEk X e te) (hs : swapsWith e (some (.Name x pos')) pos.line X.env = pure false := by rfl) (hf : X.fn x = true ∨ X.env.scope.names.lookup x = some .local := by first | exact .inl rfl | exact .inr rfl | assumption) :
    PSk X (.Assign [.Name x pos'] e pos) (tAsg te (gName i)) := by
  intro pins s σ H D ht I h
  refine wpAny_Assign_Name (thn (he pins s σ H _ ht I h) fun v s1 ⟨y, H1, I1, r1, q1⟩ => ?_) hs
  exact store_ok I1 hN hi hx r1 (fun s2 I2 => ⟨_, H1, I2, q1⟩) hf
theorem pe_bmK {o e : Expr} {es : List Expr} {to : TE} {t : TA} {name : Str} {apos cpos : Pos} {T id : String} {r : V → List V → Hp → VK → Prop} (pa : PlainAttrs T) (slot : Slot T name id) (hty : typeOf (.builtin id) = pure (.type "method_descriptor")) (hm : MtR X id r) (ho : PEk X o to) (ha : PA X (e :: es) t)
    (hbase : attributeBase o name X.env (eval o X.env) = eval o X.env := by rfl)
    (hfew : ((backTo cpos (starEach (e :: es) X.env)).all (fun x => !x.1) && (backToKw cpos (keywordEach [] X.env)).all (fun x => x.1.isSome)
      && decide ((e :: es).length + ([] : List Keyword).length + (if ([] : List Keyword).isEmpty then 0 else 1) < 30)) = true := by rfl)
    (hline : (apos.endLine == cpos.line) = true := by rfl) (hs : starEach (e :: es) X.env = (false, eval e X.env) :: starEach es X.env := by rfl) (hplain : (backTo cpos (starEach es X.env)).any (·.1) = false := by rfl) :
    PEk X (.Call (.Attribute o name apos) (e :: es) [] cpos) (tBM X.K T r to t) := by
  intro pins s σ H Q ht I h
  refine wpAny_Call_method_late hbase hfew hline rfl (thn (ho pins s σ H _ ht I h) fun v s1 ⟨x, H1, I1, r1, ty, q1⟩ => ?_)
  obtain ⟨h1, h2⟩ := tyV_is I1 r1 ty
  refine ⟨T, id, pa, slot, hty, h1, h2, ?_⟩
  have hA := ha cpos pins s1 σ H1 _ I1 q1
  rw [hs] at hA ⊢
  refine Calls.callWith_builtin (by show (false || (backTo cpos (starEach es X.env)).any (·.1)) = false; rw [hplain] <;> rfl) (Calls.evalArgs_plain ?_)
  exact thn hA fun us s2 ⟨vs, H2, I2, r2, q2⟩ => hm pins s2 σ H2 x vs v us Q I2 r1 r2 q2
noncomputable def PTk (X : Cx) (e : Expr) (t : TT) : Prop :=
  ∀ (pins : List (Addr × Obj)) (s : Shared) (σ : St) (H : Hp) (Q : Bool → Hp → Prop), Inv X pins σ H s → t σ H Q → wpAny (model X.prog X.w) X.A (isTrue e X.env (eval e X.env)) (fun b s' => 1 ≤ s'.toks ∧ TP X pins σ Q b s') X.xe s
theorem pt_bmK {o : Expr} {to : TE} {y : Str} {name : Str} {j1 : Nat} {p1 apos cpos : Pos} {T id : String} {r : V → List V → Hp → VK → Prop} (pa : PlainAttrs T) (slot : Slot T name id) (hty : typeOf (.builtin id) = pure (.type "method_descriptor")) (hm : MtR X id r) (ho : PE X o to)
    (hbase : attributeBase o name X.env (eval o X.env) = eval o X.env := by rfl) (hline : (apos.endLine == cpos.line) = true := by rfl)
    (he : ∀ whole, isTrue (.Call (.Attribute o name apos) [.Constant (.str y) j1 p1] [] cpos) X.env whole = (do let v ← whole; standAt (Expr.pos (.Call (.Attribute o name apos) [.Constant (.str y) j1 p1] [] cpos)); holding [v] (truthy v)) := by intro _; rfl) :
    PTk X (.Call (.Attribute o name apos) [.Constant (.str y) j1 p1] [] cpos) (tB (tBM X.K T r to (tCons (tC (.str y)) tNil))) := by
  intro pins s σ H Q I h
  have key : wpAny (model X.prog X.w) X.A (eval (.Call (.Attribute o name apos) [.Constant (.str y) j1 p1] [] cpos) X.env) (fun u s' => 1 ≤ s'.toks ∧ EP X pins σ (fun x H1 => ∃ d, x = .bl d ∧ Q d H1) u s') X.xe s := by
    refine wpAny_Call_method_late hbase rfl hline rfl (thn (ho pins s σ H _ I h) fun v s1 ⟨x, H1, I1, r1, ty, q1⟩ => ?_)
    obtain ⟨h1, h2⟩ := tyV_is I1 r1 ty
    refine ⟨T, id, pa, slot, hty, h1, h2, ?_⟩
    refine Calls.callWith_builtin (by rfl) (Calls.evalArgs_plain ?_)
    show wpAny _ _ (spliced ((false, eval (.Constant (.str y) j1 p1) X.env) :: [])) _ _ s1
    refine Calls.spliced_cons (Calls.Constant_str (Calls.spliced_nil ?_))
    have hl : 1 ≤ ({ s1 with toks := s1.toks + 1 } : Shared).toks := Nat.succ_le_succ (Nat.zero_le _)
    exact wpAny_mono (wpAny_toks_of hl (hm pins { s1 with toks := s1.toks + 1 } σ H1 x [.str y] v [.str y s1.toks] _ (I1.tok _) r1 (.cons ⟨_, rfl⟩ .nil) q1)) (fun _ _ q => q) fun _ _ q => q.2
  refine isTrue_plain (thn key fun v s1 ⟨h1, x, H1, I1, r1, q1⟩ => ?_) (he _)
  obtain ⟨d, rfl, q⟩ := q1
  cases r1
  exact wpAny_truthy_bool ⟨h1, H1, I1, q⟩
theorem pss_ifK {c : Expr} {a : List Stmt} {tc : TT} {t : TS} {st : Stmt} {u : TS} {rest : List Stmt} {v : TS} {pos : Pos} (hc : PTk X c tc) (ha : PSs X a t) (h2 : PSk X st u) (h3 : PSs X rest v) : PSs X (.If c a [] pos :: st :: rest) (tSeq (tIfS tc t tNext) (tSeq u v)) := by
  intro pins s σ H D I h
  have h' : tc σ H fun b H1 => if b = true then t { D with nx := tSeq u v D } σ H1 else tNext { D with nx := tSeq u v D } σ H1 := h
  have two : ∀ (s1 : Shared) (σ1 : St) (H1 : Hp), 1 ≤ s1.toks → Inv X pins σ1 H1 s1 → tSeq u v D σ1 H1 → wpAny (model X.prog X.w) X.A (execs (st :: rest) X.env) (SP X pins D) X.xe s1 := by
    intro s1 σ1 H1 ht I1 q
    refine wpAny_execs_cons (thn (h2 pins s1 σ1 H1 { D with nx := v D } ht I1 q) fun f s2 q => ?_)
    cases f with
    | next =>
      obtain ⟨σ', H', I', q⟩ := q
      exact h3 pins s2 σ' H' D I' q
    | ret v => exact q
    | brk => exact q
    | cont => exact q
  refine wpAny_execs_cons (wpAny_If (thn (hc pins s σ H _ I h') fun d s1 ⟨ht, H1, I1, q1⟩ => ?_))
  cases d with
  | true =>
    refine wpAny_with_toks ht (wpAny_mono (ha pins s1 σ H1 { D with nx := tSeq u v D } I1 q1) (fun f s2 q ht2 => ?_) fun _ _ e _ => e)
    cases f with
    | next =>
      obtain ⟨σ', H', I', q⟩ := q
      exact two s2 σ' H' ht2 I' q
    | ret v => exact q
    | brk => exact q
    | cont => exact q
  | false =>
    refine wpAny_with_toks ht (wpAny_mono (pss_nil pins s1 σ H1 { D with nx := tSeq u v D } I1 q1) (fun f s2 q ht2 => ?_) fun _ _ e _ => e)
    cases f with
    | next =>
      obtain ⟨σ', H', I', q⟩ := q
      exact two s2 σ' H' ht2 I' q
    | ret v => exact q
    | brk => exact q
    | cont => exact q
end
end L2
namespace L2
open PySem PySem.Spec PyProof.Rows
section
variable {prog : Program} {w : World} {A : Around} {E : Value → Shared → Prop} {s : Shared}
end
section
variable {X : Cx}
end
end L2

namespace L2
open PySem PySem.Spec PyProof.Rows
section
variable {X : Cx} {o : Expr} {m : Str} {apos pos : Pos} {ta : TE} {sp : Addr → Sp} {k : Nat} {Fm : Addr → Prop}
end
section
variable {X : Cx}
end
end L2

namespace L2
open PySem PySem.Spec PyProof.Rows

section
variable {κ : Type} [DecidableEq κ]
noncomputable def valV (kvs : List (κ × V)) (k : κ) : Option V := (kvs.find? fun kv => decide (kv.1 = k)).map (·.2)
noncomputable def putK (kvs : List (κ × V)) (k : κ) (v : V) : List (κ × V) :=
  if (kvs.any fun kv => decide (kv.1 = k)) = true then kvs.map (fun kv => if kv.1 = k then (kv.1, v) else kv) else kvs ++ [(k, v)]
noncomputable def dropK (kvs : List (κ × V)) (k : κ) : List (κ × V) := kvs.filter fun kv => decide (kv.1 ≠ k)

theorem valV_pos {p : κ × V} {r : List (κ × V)} {k : κ} (e : p.1 = k) : valV (p :: r) k = some p.2 := by simp [valV, List.find?_cons, e]
theorem valV_neg {p : κ × V} {r : List (κ × V)} {k : κ} (e : ¬ p.1 = k) : valV (p :: r) k = valV r k := by simp [valV, List.find?_cons, e]
theorem valV_any (k : κ) : ∀ kvs : List (κ × V), (kvs.any fun kv => decide (kv.1 = k)) = (valV kvs k).isSome
  | [] => rfl
  | p :: r => by
    rw [List.any_cons]
    by_cases e : p.1 = k
    · simp only [valV_pos e, decide_eq_true e, Bool.true_or, Option.isSome_some]
    · rw [valV_neg e, decide_eq_false e, Bool.false_or]; exact valV_any k r
theorem valV_map (k j : κ) (y : V) : ∀ kvs : List (κ × V), valV (kvs.map fun kv => if kv.1 = k then (kv.1, y) else kv) j = (valV kvs j).map fun x => if j = k then y else x
  | [] => rfl
  | p :: r => by
    have ih := valV_map k j y r
    rw [List.map_cons]
    by_cases h : p.1 = k
    · rw [if_pos h]
      by_cases e : p.1 = j
      · rw [valV_pos (p := (p.1, y)) e, valV_pos e, Option.map_some, if_pos (e.symm.trans h)]
      · rw [valV_neg (p := (p.1, y)) e, valV_neg e, ih]
    · rw [if_neg h]
      by_cases e : p.1 = j
      · rw [valV_pos (p := p) e, valV_pos e, Option.map_some, if_neg (fun z => h (e.trans z))]
      · rw [valV_neg (p := p) e, valV_neg e, ih]
theorem valV_snoc (k j : κ) (y : V) : ∀ kvs : List (κ × V), valV kvs k = none → valV (kvs ++ [(k, y)]) j = if j = k then some y else valV kvs j
  | [], _ => by
    by_cases e : k = j
    · rw [if_pos e.symm]; exact valV_pos (p := (k, y)) e
    · rw [if_neg (fun z => e z.symm)]; exact valV_neg (p := (k, y)) e
  | p :: r, hn => by
    rw [List.cons_append]
    have hk : ¬ p.1 = k := fun z => by rw [valV_pos z] at hn; cases hn
    rw [valV_neg hk] at hn
    have ih := valV_snoc k j y r hn
    by_cases e : p.1 = j
    · rw [valV_pos e, valV_pos e, if_neg (fun z => hk (e.trans z))]
    · rw [valV_neg e, valV_neg e, ih]
theorem valV_put (kvs : List (κ × V)) (k j : κ) (y : V) : valV (putK kvs k y) j = if j = k then some y else valV kvs j := by
  unfold putK
  by_cases a : (kvs.any fun kv => decide (kv.1 = k)) = true
  · rw [if_pos a, valV_map]
    rw [valV_any] at a
    by_cases e : j = k
    · obtain ⟨x, hx⟩ := Option.isSome_iff_exists.mp a
      rw [if_pos e, e, hx, Option.map_some, if_pos rfl]
    · rw [if_neg e]
      cases valV kvs j with
      | none => rfl
      | some x => rw [Option.map_some, if_neg e]
  · rw [if_neg a]
    refine valV_snoc k j y kvs ?_
    rw [valV_any] at a
    cases q : valV kvs k with
    | none => rfl
    | some x => rw [q] at a; exact (a rfl).elim
theorem length_putK (kvs : List (κ × V)) (k : κ) (v : V) : (putK kvs k v).length ≤ kvs.length + 1 := by
  unfold putK
  split
  · rw [List.length_map]; omega
  · rw [List.length_append, List.length_cons, List.length_nil]; omega
theorem RelO.isSome_eq {o : Option V} {u : Option Value} (r : RelO o u) : o.isSome = u.isSome := by
  cases o with
  | none => cases u with
    | none => rfl
    | some _ => exact (show False from r).elim
  | some _ => cases u with
    | none => exact (show False from r).elim
    | some _ => rfl
theorem RelO.getD {o : Option V} {u : Option Value} {d : V} {d' : Value} (r : RelO o u) (rd : RelV d d') : RelV (o.getD d) (u.getD d') := by
  cases o with
  | none => cases u with
    | none => exact rd
    | some _ => exact (show False from r).elim
  | some _ => cases u with
    | none => exact (show False from r).elim
    | some _ => exact r

theorem KV.val {kvs : List (κ × V)} {vs : List (κ × Value)} (r : KV kvs vs) (k : κ) : RelO (valV kvs k) (valueAt vs k) := by
  unfold KV at r
  induction r with
  | nil => exact True.intro
  | @cons p q ps qs h t ih =>
    obtain ⟨h1, h2⟩ := h
    by_cases e : p.1 = k
    · have e' : q.1 = k := h1.symm.trans e
      have b : valueAt (q :: qs) k = some q.2 := by simp [valueAt, List.find?_cons, e']
      rw [valV_pos e, b]; exact h2
    · have e' : ¬ q.1 = k := fun z => e (h1.trans z)
      have b : valueAt (q :: qs) k = valueAt qs k := by simp [valueAt, List.find?_cons, e']
      rw [valV_neg e, b]; exact ih
theorem KV.any {kvs : List (κ × V)} {vs : List (κ × Value)} (r : KV kvs vs) (k : κ) : (kvs.any fun kv => decide (kv.1 = k)) = vs.any fun kv => decide (kv.1 = k) := by
  unfold KV at r
  induction r with
  | nil => rfl
  | cons h t ih => rw [List.any_cons, List.any_cons, ih, h.1]
theorem KV.repl {kvs : List (κ × V)} {vs : List (κ × Value)} (r : KV kvs vs) (k : κ) {y : V} {u : Value} (ry : RelV y u) :
    KV (kvs.map fun kv => if kv.1 = k then (kv.1, y) else kv) (vs.map fun kv => if kv.1 = k then (kv.1, u) else kv) := by
  unfold KV at r ⊢
  induction r with
  | nil => exact .nil
  | @cons p q ps qs h t ih =>
    rw [List.map_cons, List.map_cons]
    refine .cons ?_ ih
    obtain ⟨h1, h2⟩ := h
    by_cases e : p.1 = k
    · rw [if_pos e, if_pos (h1.symm.trans e)]; exact ⟨h1, ry⟩
    · rw [if_neg e, if_neg (fun z => e (h1.trans z))]; exact ⟨h1, h2⟩
theorem KV.put {kvs : List (κ × V)} {vs : List (κ × Value)} (r : KV kvs vs) (k : κ) {y : V} {u : Value} (ry : RelV y u) : KV (putK kvs k y) (stored vs k u) := by
  unfold putK stored
  rw [r.any k]
  by_cases e : (vs.any fun kv => decide (kv.1 = k)) = true
  · rw [if_pos e, if_pos e]; exact r.repl k ry
  · rw [if_neg e, if_neg e]; exact Paired.snoc r ⟨rfl, ry⟩
theorem KV.drop {kvs : List (κ × V)} {vs : List (κ × Value)} (r : KV kvs vs) (k : κ) : KV (dropK kvs k) (without vs k) := by
  unfold KV at r ⊢
  unfold dropK without
  induction r with
  | nil => exact .nil
  | @cons p q ps qs h t ih =>
    obtain ⟨h1, h2⟩ := h
    rw [List.filter_cons, List.filter_cons]
    by_cases e : p.1 = k
    · have a : ¬ decide (p.1 ≠ k) = true := by simp [e]
      have b : ¬ decide (q.1 ≠ k) = true := by simp [h1.symm.trans e]
      rw [if_neg a, if_neg b]; exact ih
    · have e' : ¬ q.1 = k := fun z => e (h1.trans z)
      have a : decide (p.1 ≠ k) = true := by simp [e]
      have b : decide (q.1 ≠ k) = true := by simp [e']
      rw [if_pos a, if_pos b]; exact .cons ⟨h1, h2⟩ ih
theorem KV.length {kvs : List (κ × V)} {vs : List (κ × Value)} (r : KV kvs vs) : kvs.length = vs.length := Paired.length r
end


theorem kV_is {P : Program} {w : World} {k : Key} {u : Value} (r : RelV (kV k) u) : (mixKind P w).is k u = true := by
  cases k with
  | inl i => obtain ⟨t, e⟩ := (show ∃ t, u = Value.int i t from r); subst e; exact mixKind_int P w i t
  | inr x => obtain ⟨t, e⟩ := (show ∃ t, u = Value.str x t from r); subst e; exact mixKind_str P w x t
theorem items_are {P : Program} {w : World} : ∀ {ks : List Key} {us : List Value}, Vals (ks.map kV) us → ItemsAre (mixKind P w) ks us
  | [], _, r => by rw [List.map_nil] at r; cases r; exact .nil
  | k :: ks, _, r => by
    rw [List.map_cons] at r
    cases r with
    | cons h t => exact .cons (kV_is h) (items_are t)

noncomputable abbrev KT (H : Hp) : List (List Key × V) → List (List Key × Addr × Value) → Prop := Paired fun p q => p.1 = q.1 ∧ H q.2.1 = some (.tup (p.1.map kV)) ∧ RelV p.2 q.2.2
theorem KT.val {H : Hp} {kvs : List (List Key × V)} {xs : List (List Key × Addr × Value)} (r : KT H kvs xs) (k : List Key) : RelO (valV kvs k) ((atKey xs k).map (·.2)) := by
  induction r with
  | nil => exact True.intro
  | @cons p q ps qs h t ih =>
    obtain ⟨h1, _, h2⟩ := h
    by_cases e : p.1 = k
    · have e' : q.1 = k := h1.symm.trans e
      have b : atKey (q :: qs) k = some q.2 := by simp [atKey, List.find?_cons, e']
      rw [valV_pos e, b]; exact h2
    · have e' : ¬ q.1 = k := fun z => e (h1.trans z)
      have b : atKey (q :: qs) k = atKey qs k := by simp [atKey, List.find?_cons, e']
      rw [valV_neg e, b]; exact ih
theorem KT.repl {H : Hp} {kvs : List (List Key × V)} {xs : List (List Key × Addr × Value)} (r : KT H kvs xs) (k : List Key) {y : V} {u : Value} (ry : RelV y u) :
    KT H (kvs.map fun kv => if kv.1 = k then (kv.1, y) else kv) (xs.map (putAt k u)) := by
  induction r with
  | nil => exact .nil
  | @cons p q ps qs h t ih =>
    rw [List.map_cons, List.map_cons]
    refine .cons ?_ ih
    obtain ⟨h1, h2, h3⟩ := h
    unfold putAt
    by_cases e : p.1 = k
    · rw [if_pos e, if_pos (h1.symm.trans e)]; exact ⟨h1, h2, ry⟩
    · rw [if_neg e, if_neg (fun z => e (h1.trans z))]; exact ⟨h1, h2, h3⟩
theorem KT.put {H : Hp} {kvs : List (List Key × V)} {xs : List (List Key × Addr × Value)} (r : KT H kvs xs) (k : List Key) {b : Addr} {y : V} {u : Value} (hb : H b = some (.tup (k.map kV))) (ry : RelV y u) :
    KT H (putK kvs k y) (storedH xs k b u) := by
  have e : (kvs.any fun kv => decide (kv.1 = k)) = (atKey xs k).isSome := by
    rw [valV_any, (r.val k).isSome_eq, Option.isSome_map]
  unfold putK storedH
  rw [e]
  by_cases q : (atKey xs k).isSome = true
  · rw [if_pos q, if_pos q]; exact r.repl k ry
  · rw [if_neg q, if_neg q]; exact Paired.snoc r ⟨rfl, hb, ry⟩
theorem KT.keeps {H H' : Hp} {kvs : List (List Key × V)} {xs : List (List Key × Addr × Value)} (r : KT H kvs xs) (ht : ∀ b ys, H b = some (.tup ys) → H' b = some (.tup ys)) : KT H' kvs xs :=
  Paired.mapP r fun _ _ z => ⟨z.1, ht _ _ z.2.1, z.2.2⟩

section
variable {P : Program} {w : World} {H : Hp} {h : Heap} {a : Addr}
theorem rd_of {u : HO} (ok : HOk P w H h) (e : Rd H a u) : ObjOk P w H h a u := e.ok ok
theorem dk_rd {kvs : List (Key × V)} (ok : HOk P w H h) (e : Rd H a (.dK kvs)) : kvs.length ≤ sizeLine ∧ (a == sysModules) = false ∧ ∃ vs, KV kvs vs ∧ h.DictOf (mixKind P w) a vs :=
  show ObjOk P w H h a (.dK kvs) from rd_of ok e
theorem dk_of {kvs : List (Key × V)} (ok : HOk P w H h) (e : H a = some (.dK kvs)) : kvs.length ≤ sizeLine ∧ (a == sysModules) = false ∧ ∃ vs, KV kvs vs ∧ h.DictOf (mixKind P w) a vs := dk_rd ok (.inl e)
theorem key_of {ks : List Key} (ok : HOk P w H h) (e : H a = some (.tup (ks.map kV))) : (tupleKind (mixKind P w)).is h ks a := by
  obtain ⟨_, its, r, o, h1, h2, n, h3⟩ := (show ObjOk P w H h a (.tup (ks.map kV)) from ok a _ e)
  exact ⟨o, its.toArray, n, h1, h2, h3, by simpa using items_are r⟩
theorem dt_rd {kvs : List (List Key × V)} (ok : HOk P w H h) (e : Rd H a (.dT kvs)) : kvs.length ≤ sizeLine ∧ (a == sysModules) = false ∧
    ∃ xs, KT H kvs xs ∧ h.DictOfH (tupleKind (mixKind P w)) a xs := by
  obtain ⟨z, y, xs, r, o, es, ep, h1, h2, h3, h4, h5⟩ := (show ObjOk P w H h a (.dT kvs) from rd_of ok e)
  refine ⟨z, y, xs, r, o, es, ep, h1, h2, h3, h4, fun x hx => ?_, h5⟩
  have all : ∀ {l : List (List Key × V)} {m : List (List Key × Addr × Value)}, KT H l m → ∀ x ∈ m, (tupleKind (mixKind P w)).is h x.1 x.2.1 := by
    intro l m q
    induction q with
    | nil => intro x hx; exact nomatch hx
    | @cons p q ps qs hq t ih =>
      intro x hx
      rcases List.mem_cons.mp hx with e | hx
      · subst e
        exact key_of ok (by rw [← hq.1]; exact hq.2.1)
      · exact ih x hx
  exact all r x hx
theorem dt_of {kvs : List (List Key × V)} (ok : HOk P w H h) (e : H a = some (.dT kvs)) : kvs.length ≤ sizeLine ∧ (a == sysModules) = false ∧
    ∃ xs, KT H kvs xs ∧ h.DictOfH (tupleKind (mixKind P w)) a xs := dt_rd ok (.inl e)
end

noncomputable def DGet (H : Hp) (a : Addr) (y : V) (r : Option V) : Prop :=
  (∃ kvs k, Rd H a (.dK kvs) ∧ y = kV k ∧ r = valV kvs k) ∨ ∃ kvs k b, Rd H a (.dT kvs) ∧ y = .ref b ∧ H b = some (.tup (k.map kV)) ∧ r = valV kvs k
noncomputable def DPut (H : Hp) (a : Addr) (y v : V) (H' : Hp) : Prop :=
  (∃ kvs k, H a = some (.dK kvs) ∧ y = kV k ∧ kvs.length < sizeLine ∧ H' = upd H a (.dK (putK kvs k v))) ∨
  ∃ kvs k b, H a = some (.dT kvs) ∧ y = .ref b ∧ H b = some (.tup (k.map kV)) ∧ kvs.length < sizeLine ∧ H' = upd H a (.dT (putK kvs k v))
theorem DGet.k {H : Hp} {a : Addr} {kvs : List (Key × V)} {k : Key} (e : H a = some (.dK kvs)) : DGet H a (kV k) (valV kvs k) := .inl ⟨kvs, k, .inl e, rfl, rfl⟩
theorem DPut.k {H : Hp} {a : Addr} {kvs : List (Key × V)} {k : Key} {v : V} (e : H a = some (.dK kvs)) (hl : kvs.length < sizeLine) : DPut H a (kV k) v (upd H a (.dK (putK kvs k v))) := .inl ⟨kvs, k, e, rfl, hl, rfl⟩
section
variable {X : Cx} {pins : List (Addr × Obj)} {σ : St} {H : Hp} {s : Shared} {a : Addr} {y v : V} {u r : Value} {o : Option V} {A : Around} {E : Value → Shared → Prop}

theorem Inv.big (I : Inv X pins σ H s) : sysModules < s.heap.objs.size := by
  have h : mainGlobals < s.heap.objs.size := (I.mod.glob.keeps I.bk).lt
  exact Nat.lt_trans (by decide) h

theorem d_in {Q : Value → Shared → Prop} (hu : A.units + 1 < cLine) (I : Inv X pins σ H s) (g : DGet H a y o) (ry : RelV y u) (h : ∀ s', Inv X pins σ H s' → Q (.bool o.isSome) s') :
    wpAny (model X.prog X.w) A (compareOp .In u (.ref a)) Q E s := by
  rcases g with ⟨kvs, k, e, ey, l⟩ | ⟨kvs, k, b, e, ey, eb, l⟩
  · subst ey
    obtain ⟨z, hd, vs, rel, dd⟩ := dk_rd I.hok e
    refine wpAny_in_of (kV_is ry) hd dd.mapOf ?_
    rw [← (rel.val k).isSome_eq, ← l]
    exact h _ (I.tok _)
  · subst ey
    cases (show u = Value.ref b from ry)
    obtain ⟨z, hd, xs, rel, dd⟩ := dt_rd I.hok e
    refine wpAny_in_heap (tupleKind_room_in1 hu) (key_of I.hok eb) hd dd ?_
    have q := (rel.val k).isSome_eq
    rw [Option.isSome_map] at q
    rw [← q, ← l]
    exact h _ (I.tok _)
theorem d_write {h' : Heap} {t' : Nat} {ob : HO} (I : Inv X pins σ H s) (mu : Mut (H a)) (hs : Heap.SameBut a s.heap h') (he : ∃ q, h'.get? a = some q) (new : ObjOk X.prog X.w (upd H a ob) h' a ob) :
    Inv X pins σ (upd H a ob) { s with heap := h', toks := t' } :=
  I.write (x := a) (e := a) mu (.inl rfl) (fun b q hb z => (hs.2 b hb).trans z) he new
theorem dk_new {P : Program} {w : World} {H' : Hp} {h' : Heap} {kvs : List (Key × V)} {vs : List (Key × Value)} (z : kvs.length ≤ sizeLine) (hd : (a == sysModules) = false) (rel : KV kvs vs) (dd : h'.DictOf (mixKind P w) a vs) :
    ObjOk P w H' h' a (.dK kvs) := ⟨z, hd, vs, rel, dd⟩
theorem d_setItem {H' : Hp} {Q : Unit → Shared → Prop} (hu : A.units + 1 < cLine) (I : Inv X pins σ H s) (g : DPut H a y v H') (ry : RelV y u) (rv : RelV v r) (h : ∀ s', Inv X pins σ H' s' → Q () s') :
    wpAny (model X.prog X.w) A (setItem (.ref a) u r) Q E s := by
  rcases g with ⟨kvs, k, e, ey, l, eH⟩ | ⟨kvs, k, b, e, ey, eb, l, eH⟩
  · subst ey eH
    obtain ⟨z, hd, vs, rel, dd⟩ := dk_of I.hok e
    have hz : vs.length ≤ sizeLine := by rw [← rel.length]; exact z
    have hl : (putK kvs k v).length ≤ sizeLine := by have := length_putK kvs k v; omega
    refine wpAny_setItem_pairs (hsz := hz) (kV_is ry) dd fun h' dd' hs => h _ ?_
    have he : ∃ q, h'.get? a = some q := let ⟨q, _, _, hq, _⟩ := dd'; ⟨q, hq⟩
    exact d_write I (by rw [e]; exact True.intro) hs he (dk_new hl hd (rel.put k rv) dd')
  · subst ey eH
    cases (show u = Value.ref b from ry)
    obtain ⟨z, hd, xs, rel, dd⟩ := dt_of I.hok e
    have hz : xs.length ≤ sizeLine := by rw [← Paired.length rel]; exact z
    have hl : (putK kvs k v).length ≤ sizeLine := by have := length_putK kvs k v; omega
    refine wpAny_setItem_heap (hsz := hz) (tupleKind_room_in1 hu) (key_of I.hok eb) dd fun h' dd' hs => h _ ?_
    obtain ⟨q, es, ep, hq, h2, h3, h4, _, h5⟩ := dd'
    refine d_write I (by rw [e]; exact True.intro) hs ⟨q, hq⟩ ⟨hl, hd, _, (rel.put k eb rv).keeps fun c ys ec => ?_, q, es, ep, hq, h2, h3, h4, h5⟩
    rw [upd_ne (ne_of ec e (fun z => nomatch z))]
    exact ec
end

section
variable {X : Cx} {pins : List (Addr × Obj)} {σ : St} {H : Hp} {s : Shared} {a : Addr} {kvs : List (Key × V)} {k : Key} {u : Value} {A : Around} {E : Value → Shared → Prop}
end


noncomputable def tDIn (ty td : TE) : TE := fun σ H Q => ty σ H fun y H1 => td σ H1 fun x H2 => ∃ a o, x = .ref a ∧ DGet H2 a y o ∧ Q (.bl o.isSome) H2
noncomputable def sDPut (td ty tv : TE) : TS := fun D σ H => tv σ H fun v H1 => td σ H1 fun x H2 => ty σ H2 fun y H3 => ∃ a H4, x = .ref a ∧ DPut H3 a y v H4 ∧ D.nx σ H4
section
variable {X : Cx} {o i e value : Expr} {pos pos' tpos : Pos} {td ty tv : TE}
theorem pc_din (hu : X.A.units + 1 < cLine) (hi : PE X i ty) (ho : PE X o td) : PC X .In i o (tDIn ty td) := by
  intro pins s σ H Q I h
  refine thn (hi pins s σ H _ I h) fun iv s1 ⟨y, H1, I1, ry, q1⟩ => thn (ho pins s1 σ H1 _ I1 q1) fun u s2 ⟨x, H2, I2, rx, a, ov, ex, g, q2⟩ => ?_
  subst ex
  obtain rfl : u = Value.ref a := rx
  exact d_in hu I2 g ry fun s3 I3 => ⟨.bl ov.isSome, H2, I3, rfl, q2⟩
theorem ps_dput (hu : X.A.units + 1 < cLine) (ho : PE X o td) (hi : PE X i ty) (hv : PE X value tv) (hs : swapsWith value (some (.Subscript o i pos')) pos.line X.env = pure false) :
    PS X (.Assign [.Subscript o i pos'] value pos) (sDPut td ty tv) := by
  intro pins s σ H D I h
  refine wpAny_Assign_Subscript (thn (hv pins s σ H _ I h) fun r s1 ⟨v, H1, I1, rv, q1⟩ => thn (ho pins s1 σ H1 _ I1 q1) fun u s2 ⟨x, H2, I2, rx, q2⟩ => thn (hi pins s2 σ H2 _ I2 q2) fun iv s3 ⟨y, H3, I3, ry, a, H4, ex, g, q3⟩ => ?_) hs
  subst ex
  obtain rfl : u = Value.ref a := rx
  exact d_setItem hu I3 g ry rv fun s4 I4 => ⟨σ, H4, I4, q3⟩
end


theorem dk_empty {P : Program} {w : World} {H : Hp} (h : Heap) (hb : sysModules < h.objs.size) : ObjOk P w H (h.push { cls := .type "dict", data := .dict #[] }) h.objs.size (.dK []) :=
  ⟨Nat.zero_le _, beq_eq_false_iff_ne.mpr (Ne.symm (Nat.ne_of_lt hb)), [], .nil, Heap.DictOf.new h⟩
noncomputable def tDNewK : TE := fun _ H Q => ∀ p, H p = none → Q (.ref p) (upd H p (.dK []))
section
variable {X : Cx} {pos : Pos}
theorem pe_dnewK : PE X (.Dict [] [] pos) tDNewK := fun pins s σ H Q I h =>
  wpAny_Dict_empty ⟨.ref s.heap.objs.size, _, I.laid (a := s.heap.objs.size) (o := .dK []) (t' := s.toks) (fun _ _ q => Heap.get?_push_of_some _ q) (Nat.le_refl _) (dk_empty s.heap I.big), rfl, h _ (I.hok.fresh (Nat.le_refl _))⟩
end

structure M2 (X : Cx) (o : Expr) (m : Str) (apos : Pos) (e f : Expr) (cpos : Pos) : Prop where
  base : attributeBase o m X.env (eval o X.env) = eval o X.env
  few : ((backTo cpos (starEach [e, f] X.env)).all (fun x => !x.1) && (backToKw cpos (keywordEach [] X.env)).all (fun x => x.1.isSome)
    && decide (([e, f] : List Expr).length + ([] : List Keyword).length + (if ([] : List Keyword).isEmpty then 0 else 1) < 30)) = true
  line : (apos.endLine == cpos.line) = true
  trees : backTo cpos (starEach [e, f] X.env) = [(false, eval e X.env), (false, eval f X.env)]

noncomputable def IsD (H : Hp) (a : Addr) : Prop := (∃ kvs, Rd H a (.dK kvs)) ∨ ∃ kvs, Rd H a (.dT kvs)
theorem isD_at {X : Cx} {pins : List (Addr × Obj)} {σ : St} {H : Hp} {s : Shared} {a : Addr} (I : Inv X pins σ H s) (d : IsD H a) :
    s.TypeIs (.ref a) "dict" ∧ (∀ b, Value.ref a = .ref b → ∃ ob, s.heap.get? b = some ob ∧ ob.dict = none) ∧ (a == sysModules) = false := by
  rcases d with ⟨kvs, e⟩ | ⟨kvs, e⟩
  · obtain ⟨_, hd, vs, _, dd⟩ := dk_rd I.hok e
    refine ⟨dd.typeIs, fun b q => ?_, hd⟩
    cases q
    obtain ⟨ob, _, _, h1, h2, _⟩ := dd
    exact ⟨ob, h1, h2.2.1⟩
  · obtain ⟨_, hd, xs, _, dd⟩ := dt_rd I.hok e
    refine ⟨dd.typeIs, fun b q => ?_, hd⟩
    cases q
    obtain ⟨ob, _, _, h1, h2, _⟩ := dd
    exact ⟨ob, h1, h2.2.1⟩

section
variable {X : Cx} {pins : List (Addr × Obj)} {σ : St} {H : Hp} {s : Shared} {a : Addr} {y d : V} {u r : Value} {o : Option V} {A : Around} {E : Value → Shared → Prop}
theorem d_get2 {Q : Value → Shared → Prop} (hu : A.units + 1 < cLine) (I : Inv X pins σ H s) (g : DGet H a y o) (ry : RelV y u) (rd : RelV d r) (h : ∀ w' s', Inv X pins σ H s' → RelV (o.getD d) w' → Q w' s') :
    wpAny (model X.prog X.w) A (call (.builtin "dict.get") [.ref a, u, r]) Q E s := by
  rcases g with ⟨kvs, k, e, ey, l⟩ | ⟨kvs, k, b, e, ey, eb, l⟩
  · subst ey
    obtain ⟨z, hd, vs, rel, dd⟩ := dk_rd I.hok e
    refine call_meetsIn PySem.F.slot_dict_get dd.typeIs PySem.F.entry_dict_get (PySem.F.args_dict_get_3 _ _ _) (meets_dict_get_default (mixKind X.prog X.w) a (kV_is ry) hd r) ⟨_, dd.mapOf, h _ _ (I.tok _) ?_⟩
    rw [l]
    exact (rel.val k).getD rd
  · subst ey
    cases (show u = Value.ref b from ry)
    obtain ⟨z, hd, xs, rel, dd⟩ := dt_rd I.hok e
    refine call_meetsIn PySem.F.slot_dict_get dd.typeIs PySem.F.entry_dict_get (PySem.F.args_dict_get_3 _ _ _) (meetsH_dict_get_default (tupleKind (mixKind X.prog X.w)) a b hd r) ⟨tupleKind_room_in1 hu, k, xs, key_of I.hok eb, dd, h _ _ (I.tok _) ?_⟩
    rw [l]
    exact (rel.val k).getD rd
end

noncomputable def tDGet2 (td ty tx : TE) : TE := fun σ H Q => td σ H fun x H1 => ∃ a, x = .ref a ∧ IsD H1 a ∧ ty σ H1 fun y H2 => tx σ H2 fun z H3 => ∃ o, DGet H3 a y o ∧ Q (o.getD z) H3
section
variable {X : Cx} {o e f : Expr} {apos cpos : Pos} {td ty tx : TE}
theorem pe_dget2 (hu : X.A.units + 1 < cLine) (ho : PE X o td) (he : PE X e ty) (hf : PE X f tx) (m : M2 X o "get" apos e f cpos) : PE X (.Call (.Attribute o "get" apos) [e, f] [] cpos) (tDGet2 td ty tx) := by
  intro pins s σ H Q I h
  refine wpAny_Call_method m.base m.few m.line PySem.F.plainAttrs_dict PySem.F.slot_dict_get PySem.F.type_dict_get (thn (ho pins s σ H _ I h) fun u s1 ⟨x, H1, I1, rx, a, ex, d, q1⟩ => ?_)
  subst ex
  obtain rfl : u = Value.ref a := rx
  obtain ⟨t1, t2, _⟩ := isD_at I1 d
  refine ⟨t1, t2, ?_⟩
  rw [m.trees]
  refine Calls.callWith_builtin rfl (Calls.evalArgs_plain (Calls.spliced_cons (thn (he pins s1 σ H1 _ I1 q1) fun iv s2 ⟨y, H2, I2, ry, q2⟩ =>
    Calls.spliced_cons (thn (hf pins s2 σ H2 _ I2 q2) fun fv s3 ⟨z, H3, I3, rz, ov, g, q3⟩ => Calls.spliced_nil ?_))))
  exact d_get2 hu I3 g ry rz fun w' s4 I4 rw' => ⟨_, H3, I4, rw', q3⟩
end

section
variable {X : Cx} {pins : List (Addr × Obj)} {σ : St} {H : Hp} {s : Shared} {a : Addr} {kvs : List (Key × V)} {A : Around} {E : Value → Shared → Prop}
end


section
variable {X : Cx} {pins : List (Addr × Obj)} {σ : St} {H : Hp} {s : Shared} {a : Addr} {y : V} {u : Value} {A : Around} {E : Value → Shared → Prop}
end
end L2
namespace L2
open PySem PySem.Spec PyProof.Rows
section
variable {κ : Type} [DecidableEq κ]
end
end L2

namespace L2
open PySem PySem.Spec PyProof.Rows
section
variable {X : Cx} {a b : Expr} {rest : List Expr} {ta : TE} {pos : Pos} {tA tB' : TT}
theorem pt_cmpK {op : CmpOp} {r : R2} {y : Str} {j : Nat} {p : Pos} (ho : OpR X (compareOp op) r) (ha : PE X a ta) (hm : behindInMarks op (.Constant (.str y) j p) = false) : PTk X (.Compare a [op] [.Constant (.str y) j p] pos) (tTest (tOp r ta (tC (.str y)))) := by
  intro pins s σ H Q I h
  refine wpAny_isTrue_Compare1 (thn (ha pins s σ H _ I h) fun v s1 ⟨x, H1, I1, r1, q1⟩ => Calls.Constant_str ?_) hm
  have hl : 1 ≤ ({ s1 with toks := s1.toks + 1 } : Shared).toks := Nat.succ_le_succ (Nat.zero_le _)
  refine wpAny_with_toks hl (wpAny_mono (ho pins { s1 with toks := s1.toks + 1 } σ H1 x (.str y) v (.str y s1.toks) _ (I1.tok _) r1 ⟨_, rfl⟩ q1) (fun c s3 ⟨z, H3, I3, r3, k, e, q3⟩ h3 => ?_) fun _ _ e _ => e)
  subst e
  cases r3
  exact wpAny_truthy_bool ⟨h3, H3, I3, q3⟩
theorem pt_orK (ha : PTk X a tA) (hb : PW X (.BoolOp .Or (b :: rest) pos) tB') : PTk X (.BoolOp .Or (a :: b :: rest) pos) (tOr tA tB') := by
  intro pins s σ H Q I h
  refine isTrue_or (thn (ha pins s σ H _ I h) fun c s1 ⟨h1, H1, I1, q1⟩ => ?_)
  cases c with
  | true => exact ⟨h1, H1, I1, q1⟩
  | false => exact wpAny_with_toks h1 (wpAny_mono (hb _ pins s1 σ H1 Q I1 q1) (fun _ _ q h2 => ⟨h2, q⟩) fun _ _ e _ => e)
end
end L2

namespace L2
open PySem PySem.Spec PyProof.Rows
section
variable {X : Cx}
noncomputable def rMulS : R2 := fun x y H Q => ∃ i n, x = .str i ∧ y = .int n ∧ MulOk i n ∧ Q (.str (Txt.mul i n)) H
theorem op_mulS : OpR X (binaryOp .Mult) rMulS := by
  intro pins s σ H x y v u Q I rx ry h
  obtain ⟨i, n, rfl, rfl, hz, q⟩ := h
  obtain ⟨t, rfl⟩ := rx
  obtain ⟨t', rfl⟩ := ry
  exact SB.mul hz fun t' tk => ⟨.str (Txt.mul i n), H, I.tok _, ⟨_, rfl⟩, q⟩
end
end L2

namespace L2
open PySem PySem.Spec PyProof.Rows
noncomputable def lnW (x : Str) (k : Nat) (f : Expr → Option Nat) : Expr → Option Nat
  | .Constant (.str y) _ _ => some y.length
  | .Name y _ => if y = x then some k else none
  | .BinOp a .Add b _ => match f a, f b with | some i, some j => if i + j ≤ 1000 then some (i + j) else none | _, _ => none
  | .BinOp (.Constant (.str y) _ _) .Mult b _ => if y = "0" ∧ litI b = some 98 then some 98 else none
  | _ => none
noncomputable def lnD (x : Str) (k : Nat) : Nat → Expr → Option Nat
  | 0 => fun _ => none
  | n + 1 => lnW x k (lnD x k n)
noncomputable def lnA (x : Str) (k b : Nat) : List Expr → Option Nat
  | [] => some 0
  | e :: es => match lnD x k 4 e, lnA x k b es with | some m, some n => if m ≤ b then some (n + 1) else none | _, _ => none
theorem mul98 : MulOk "0" 98 := by unfold MulOk; decide +kernel
theorem len98 : (Txt.mul "0" 98).length = 98 := by decide +kernel
theorem app_ln (x y : Str) : (x ++ y).length = x.length + y.length := Array.size_append
section
variable {X : Cx} {i k : Nat} {x : Str}
noncomputable abbrev TxE (i k : Nat) (σ : St) : Prop := ∃ z : Str, σ[i]? = some (some (.str z)) ∧ z.length ≤ k
noncomputable def tTx (i k m : Nat) : TE := fun σ H Q => TxE i k σ ∧ ∀ z : Str, z.length ≤ m → Q (.str z) H
noncomputable def tTxs (i k b n : Nat) : TA := fun σ H Q => TxE i k σ ∧ ∀ zs : List Str, zs.length = n → (∀ z ∈ zs, z.length ≤ b) → Q (zs.map V.str) H
noncomputable abbrev Pe27 (X : Cx) (i k m : Nat) (e : Expr) : Prop := PE X e (tTx i k m) ∧ ∀ es, starEach (e :: es) X.env = (false, eval e X.env) :: starEach es X.env
theorem pe_ln (hi : X.N[i]? = some x) (hv : Vis X.env.scope x) (h1 : (x == ("__debug__" : Str)) = false) (h2 : (x == ("__classdict__" : Str)) = false) : ∀ (n : Nat) (e : Expr) (m : Nat), lnD x k n e = some m → Pe27 X i k m e := by
  intro n
  induction n with
  | zero => intro e m h; cases h
  | succ n ih =>
    intro e m h
    replace h : lnW x k (lnD x k n) e = some m := h
    unfold lnW at h
    split at h
    · cases h
      exact ⟨pe_str.weak fun σ H Q q => q.2 _ (Nat.le_refl _), fun _ => rfl⟩
    · split at h
      · cases h
        subst ‹_ = x›
        exact ⟨(pv i hi hv h1 h2).weak fun σ H Q q => let ⟨z, e, l⟩ := q.1; ⟨_, e, q.2 z l⟩, fun _ => rfl⟩
      · cases h
    · split at h
      · rename_i i1 j1 ha hb
        split at h
        · cases h
          refine ⟨(pe_op op_add_str (ih _ _ ha).1 (ih _ _ hb).1).weak fun σ H Q q => ⟨q.1, fun z hz => ⟨q.1, fun y hy => ⟨z, y, rfl, rfl, ?_, q.2 _ ?_⟩⟩⟩, fun _ => rfl⟩
          · exact Nat.le_trans (Nat.add_le_add hz hy) (Nat.le_trans ‹_› (by decide))
          · rw [app_ln]; exact Nat.add_le_add hz hy
        · cases h
      · cases h
    · split at h
      · rename_i hc
        obtain ⟨rfl, hl⟩ := hc
        cases h
        exact ⟨(pe_op op_mulS pe_str (pe_litI hl).1).weak fun σ H Q q => ⟨_, _, rfl, rfl, mul98, q.2 _ (Nat.le_of_eq len98)⟩, fun _ => rfl⟩
      · cases h
    · cases h
theorem pa_ln {b : Nat} (hi : X.N[i]? = some x) (hv : Vis X.env.scope x) (h1 : (x == ("__debug__" : Str)) = false) (h2 : (x == ("__classdict__" : Str)) = false) : ∀ {es : List Expr} {n : Nat}, lnA x k b es = some n → PA X es (tTxs i k b n)
  | [], n, h => by
    cases h
    exact pa_nil.weak fun σ H Q q => q.2 [] rfl (fun _ h => by cases h)
  | e :: es, n, h => by
    unfold lnA at h
    split at h
    · rename_i m n' e1 e2
      split at h
      · cases h
        obtain ⟨p, st⟩ := pe_ln (k := k) hi hv h1 h2 4 e m e1
        refine (pa_cons p (pa_ln hi hv h1 h2 e2) (st es)).weak fun σ H Q q => ⟨q.1, fun z hz => ⟨q.1, fun zs hl hb => ?_⟩⟩
        refine q.2 (z :: zs) (by rw [List.length_cons, hl]) fun y hy => ?_
        rcases List.mem_cons.mp hy with rfl | hy
        · exact Nat.le_trans hz ‹_›
        · exact hb y hy
      · cases h
    · cases h
noncomputable def tTxL (i k b n : Nat) : TE := fun σ H Q => TxE i k σ ∧ ∀ l (zs : List Str) H', Same H H' → H' l = some (.lst (zs.map V.str)) → zs.length = n → (∀ z ∈ zs, z.length ≤ b) → Q (.ref l) H'
theorem pe_lnL {b n : Nat} {es : List Expr} {p : Pos} (hi : X.N[i]? = some x) (hv : Vis X.env.scope x) (h1 : (x == ("__debug__" : Str)) = false) (h2 : (x == ("__classdict__" : Str)) = false) (h : lnA x k b es = some n) (hn : n ≤ 100) : PE X (.List es p) (tTxL i k b n) := by
  refine (pe_lst (pa_ln hi hv h1 h2 h)).weak fun σ H Q q => ⟨q.1, fun zs hl hb => ⟨?_, fun p hp => ?_⟩⟩
  · rw [List.length_map, hl]; exact Nat.le_trans hn (by decide)
  · exact q.2 _ zs _ (Same.new hp) upd_same hl hb
noncomputable def asgX (x : Str) (k b : Nat) : Stmt → Option (Str × Nat)
  | .Assign [.Name y _] (.List es _) _ => (lnA x k b es).bind fun n => if n ≤ 100 then some (y, n) else none
  | _ => none
noncomputable def asgXC (x : Str) (k b : Nat) : Stmt → Option (Str × Str × Nat)
  | .Assign [.Name y _] (.BinOp (.Name z _) .Add (.List es _) _) _ => (lnA x k b es).bind fun n => if n ≤ 100 then some (y, z, n) else none
  | _ => none
variable {st : Stmt} {j b n : Nat} {y : Str}
theorem ps_lnL (h : asgX x k b st = some (y, n)) (hi : X.N[i]? = some x) (hv : Vis X.env.scope x) (h1 : (x == ("__debug__" : Str)) = false) (h2 : (x == ("__classdict__" : Str)) = false) (hN : X.N.Nodup) (hj : X.N[j]? = some y) (hx : X.env.scope.names.lookup y = some .local) : PS X st (tAsg (tTxL i k b n) (gName j)) := by
  unfold asgX at h
  split at h
  · rename_i y' p es q r
    cases he : lnA x k b es with
    | none => rw [he] at h; cases h
    | some n' =>
      rw [he] at h
      dsimp only [Option.bind_some] at h
      split at h
      · cases h
        exact ps_set hN hj (.inl hx) (pe_lnL hi hv h1 h2 he ‹_›) swapL (.inr hx)
      · cases h
  · cases h
theorem ps_lnC (h : asgXC x k b st = some (y, y, n)) (hi : X.N[i]? = some x) (hv : Vis X.env.scope x) (h1 : (x == ("__debug__" : Str)) = false) (h2 : (x == ("__classdict__" : Str)) = false) (hN : X.N.Nodup) (hj : X.N[j]? = some y) (hx : X.env.scope.names.lookup y = some .local) (v2 : (y == ("__debug__" : Str)) = false) (v3 : (y == ("__classdict__" : Str)) = false) : PS X st (tAsg (tOp rCat (tVar j) (tTxL i k b n)) (gName j)) := by
  unfold asgXC at h
  split at h
  · rename_i y' p z p1 es p2 p3 q
    cases he : lnA x k b es with
    | none => rw [he] at h; cases h
    | some n' =>
      rw [he] at h
      dsimp only [Option.bind_some] at h
      split at h
      · cases h
        exact ps_set hN hj (.inl hx) (pe_op op_cat (pv j hj (.inl hx) v2 v3) (pe_lnL hi hv h1 h2 he ‹_›)) swapB (.inr hx)
      · cases h
  · cases h
end
end L2

namespace Cw
open PySem L2
noncomputable def top (i : Nat) : Stmt := PySem.Challenge.pw_crystalwords_k18_refused_texts.main.body.getD i (.Pass ⟨0, 0, 0, 0⟩)
noncomputable abbrev s_copied : Stmt := top 1
noncomputable abbrev s_divisor : Stmt := top 19
noncomputable abbrev N_divisor : List Str := ["one", "other", "greater", "lesser", "remainder"]
noncomputable abbrev s_place : Stmt := top 21
noncomputable abbrev N_place : List Str := ["tops", "under", "common", "top"]
noncomputable abbrev s_without : Stmt := top 23
noncomputable abbrev N_without : List Str := ["rows", "i", "k"]
noncomputable abbrev s_determinant : Stmt := top 24
noncomputable abbrev N_determinant : List Str := ["rows", "total", "sign", "k", "number"]
noncomputable abbrev s_joined : Stmt := top 26
noncomputable abbrev N_joined : List Str := ["rows", "spot"]
noncomputable abbrev s_deed : Stmt := top 27
noncomputable abbrev N_deed : List Str := ["rows", "tops", "under", "axes"]
noncomputable abbrev s_read_whole : Stmt := top 32
noncomputable abbrev N_read_whole : List Str := ["text", "sign"]
noncomputable abbrev s_read_fraction : Stmt := top 33
noncomputable abbrev N_read_fraction : List Str := ["text", "pieces", "top", "bottom"]
noncomputable abbrev s_read_signed : Stmt := top 34
noncomputable abbrev N_read_signed : List Str := ["text", "pair"]
noncomputable abbrev s_read_amount : Stmt := top 35
noncomputable abbrev N_read_amount : List Str := ["text"]
noncomputable abbrev s_terms_of : Stmt := top 36
noncomputable abbrev N_terms_of : List Str := ["part", "terms"]
noncomputable abbrev s_read_part : Stmt := top 37
noncomputable abbrev N_read_part : List Str := ["part", "letters", "row", "alone", "term", "at"]
noncomputable abbrev s_parts_of : Stmt := top 38
noncomputable abbrev N_parts_of : List Str := ["text", "parts"]
noncomputable abbrev s_common_under : Stmt := top 39
noncomputable abbrev N_common_under : List Str := ["pairs", "under", "pair"]
noncomputable abbrev s_read : Stmt := top 40
noncomputable abbrev N_read : List Str := ["text", "parts", "told", "spot"]
noncomputable abbrev s_law_cell_at : Stmt := top 42
noncomputable abbrev N_law_cell_at : List Str := ["_law_script", "_law_k"]
noncomputable abbrev s_law_whole : Stmt := top 43
noncomputable abbrev N_law_whole : List Str := ["_law_found"]
noncomputable abbrev s_law_common : Stmt := top 44
noncomputable abbrev N_law_common : List Str := ["_law_one", "_law_other"]
noncomputable abbrev s_law_odd : Stmt := top 45
noncomputable abbrev N_law_odd : List Str := ["_law_cell", "_law_long", "_law_some"]
noncomputable abbrev s_law_term : Stmt := top 46
noncomputable abbrev N_law_term : List Str := ["_law_cell", "_law_letters", "_law_many"]
noncomputable abbrev s_law_part : Stmt := top 47
noncomputable abbrev N_law_part : List Str := ["_law_cell", "_law_letters", "_law_k", "_law_part_here", "_law_j", "_law_sign"]
noncomputable abbrev s_law_text : Stmt := top 48
noncomputable abbrev N_law_text : List Str := ["_law_cells", "_law_letters", "_law_parts", "_law_k", "_law_text_here", "_law_way", "_law_at", "_law_sign"]
noncomputable abbrev s_law_number : Stmt := top 49
noncomputable abbrev N_law_number : List Str := ["_law_word", "_law_sign"]
noncomputable abbrev s_law_alone : Stmt := top 50
noncomputable abbrev N_law_alone : List Str := ["_law_word", "_law_words", "_law_top", "_law_bottom"]
noncomputable abbrev s_law_row : Stmt := top 51
noncomputable abbrev N_law_row : List Str := ["_law_part_here", "_law_letters", "_law_words", "_law_row_here", "_law_word", "_law_by", "_law_letter", "_law_share"]
noncomputable abbrev s_law_sense : Stmt := top 52
noncomputable abbrev N_law_sense : List Str := ["_law_rows", "_law_a", "_law_b", "_law_c", "_law_one", "_law_two", "_law_three"]
noncomputable abbrev s_law_due : Stmt := top 53
noncomputable abbrev N_law_due : List Str := ["_law_text_here", "_law_parts", "_law_letters", "_law_rows", "_law_worths", "_law_part_here", "_law_row_here", "_law_under", "_law_top", "_law_bottom", "_law_tops"]
noncomputable abbrev s_law_kinds : Stmt := top 54
noncomputable abbrev N_law_kinds : List Str := ["_law_found", "_law_row_here"]
noncomputable abbrev s_law_later : Stmt := top 55
noncomputable abbrev N_law_later : List Str := ["_law_e"]
noncomputable abbrev s_law_only : Stmt := top 56
noncomputable abbrev N_law_only : List Str := ["_law_e"]
noncomputable abbrev s_law_right : Stmt := top 57
noncomputable abbrev N_law_right : List Str := ["_law_text_here", "_law_due_here", "_law_refused", "_law_only_here", "_law_found", "_law_e"]
noncomputable abbrev s_law : Stmt := top 58
noncomputable abbrev N_law : List Str := ["_law_script", "_law_at"]
theorem sc_divisor : FnScope N_divisor ["one", "other"] (defScope s_divisor) := ⟨rfl, rfl, rfl, by decide +kernel, rfl, by decide +kernel, by decide +kernel⟩
theorem sc_place : FnScope N_place ["tops", "under"] (defScope s_place) := ⟨rfl, rfl, rfl, by decide +kernel, rfl, by decide +kernel, by decide +kernel⟩
theorem sc_without : FnScope N_without ["rows", "i", "k"] (defScope s_without) := ⟨rfl, rfl, rfl, by decide +kernel, rfl, by decide +kernel, by decide +kernel⟩
theorem sc_determinant : FnScope N_determinant ["rows"] (defScope s_determinant) := ⟨rfl, rfl, rfl, by decide +kernel, rfl, by decide +kernel, by decide +kernel⟩
theorem sc_joined : FnScope N_joined ["rows", "spot"] (defScope s_joined) := ⟨rfl, rfl, rfl, by decide +kernel, rfl, by decide +kernel, by decide +kernel⟩
theorem sc_deed : FnScope N_deed ["rows", "tops", "under"] (defScope s_deed) := ⟨rfl, rfl, rfl, by decide +kernel, rfl, by decide +kernel, by decide +kernel⟩
theorem sc_read_whole : FnScope N_read_whole ["text"] (defScope s_read_whole) := ⟨rfl, rfl, rfl, by decide +kernel, rfl, by decide +kernel, by decide +kernel⟩
theorem sc_read_fraction : FnScope N_read_fraction ["text"] (defScope s_read_fraction) := ⟨rfl, rfl, rfl, by decide +kernel, rfl, by decide +kernel, by decide +kernel⟩
theorem sc_read_signed : FnScope N_read_signed ["text"] (defScope s_read_signed) := ⟨rfl, rfl, rfl, by decide +kernel, rfl, by decide +kernel, by decide +kernel⟩
theorem sc_read_amount : FnScope N_read_amount ["text"] (defScope s_read_amount) := ⟨rfl, rfl, rfl, by decide +kernel, rfl, by decide +kernel, by decide +kernel⟩
theorem sc_terms_of : FnScope N_terms_of ["part"] (defScope s_terms_of) := ⟨rfl, rfl, rfl, by decide +kernel, rfl, by decide +kernel, by decide +kernel⟩
theorem sc_read_part : FnScope N_read_part ["part", "letters"] (defScope s_read_part) := ⟨rfl, rfl, rfl, by decide +kernel, rfl, by decide +kernel, by decide +kernel⟩
theorem sc_parts_of : FnScope N_parts_of ["text"] (defScope s_parts_of) := ⟨rfl, rfl, rfl, by decide +kernel, rfl, by decide +kernel, by decide +kernel⟩
theorem sc_common_under : FnScope N_common_under ["pairs"] (defScope s_common_under) := ⟨rfl, rfl, rfl, by decide +kernel, rfl, by decide +kernel, by decide +kernel⟩
theorem sc_read : FnScope N_read ["text"] (defScope s_read) := ⟨rfl, rfl, rfl, by decide +kernel, rfl, by decide +kernel, by decide +kernel⟩
theorem sc_law_cell_at : FnScope N_law_cell_at ["_law_script", "_law_k"] (defScope s_law_cell_at) := ⟨rfl, rfl, rfl, by decide +kernel, rfl, by decide +kernel, by decide +kernel⟩
theorem sc_law_whole : FnScope N_law_whole ["_law_found"] (defScope s_law_whole) := ⟨rfl, rfl, rfl, by decide +kernel, rfl, by decide +kernel, by decide +kernel⟩
theorem sc_law_common : FnScope N_law_common ["_law_one", "_law_other"] (defScope s_law_common) := ⟨rfl, rfl, rfl, by decide +kernel, rfl, by decide +kernel, by decide +kernel⟩
theorem sc_law_odd : FnScope N_law_odd ["_law_cell"] (defScope s_law_odd) := ⟨rfl, rfl, rfl, by decide +kernel, rfl, by decide +kernel, by decide +kernel⟩
theorem sc_law_term : FnScope N_law_term ["_law_cell", "_law_letters"] (defScope s_law_term) := ⟨rfl, rfl, rfl, by decide +kernel, rfl, by decide +kernel, by decide +kernel⟩
theorem sc_law_part : FnScope N_law_part ["_law_cell", "_law_letters", "_law_k"] (defScope s_law_part) := ⟨rfl, rfl, rfl, by decide +kernel, rfl, by decide +kernel, by decide +kernel⟩
theorem sc_law_text : FnScope N_law_text ["_law_cells"] (defScope s_law_text) := ⟨rfl, rfl, rfl, by decide +kernel, rfl, by decide +kernel, by decide +kernel⟩
theorem sc_law_number : FnScope N_law_number ["_law_word"] (defScope s_law_number) := ⟨rfl, rfl, rfl, by decide +kernel, rfl, by decide +kernel, by decide +kernel⟩
theorem sc_law_alone : FnScope N_law_alone ["_law_word"] (defScope s_law_alone) := ⟨rfl, rfl, rfl, by decide +kernel, rfl, by decide +kernel, by decide +kernel⟩
theorem sc_law_row : FnScope N_law_row ["_law_part_here", "_law_letters"] (defScope s_law_row) := ⟨rfl, rfl, rfl, by decide +kernel, rfl, by decide +kernel, by decide +kernel⟩
theorem sc_law_sense : FnScope N_law_sense ["_law_rows"] (defScope s_law_sense) := ⟨rfl, rfl, rfl, by decide +kernel, rfl, by decide +kernel, by decide +kernel⟩
theorem sc_law_due : FnScope N_law_due ["_law_text_here"] (defScope s_law_due) := ⟨rfl, rfl, rfl, by decide +kernel, rfl, by decide +kernel, by decide +kernel⟩
theorem sc_law_kinds : FnScope N_law_kinds ["_law_found"] (defScope s_law_kinds) := ⟨rfl, rfl, rfl, by decide +kernel, rfl, by decide +kernel, by decide +kernel⟩
theorem sc_law_later : FnScope N_law_later ["_law_e"] (defScope s_law_later) := ⟨rfl, rfl, rfl, by decide +kernel, rfl, by decide +kernel, by decide +kernel⟩
theorem sc_law_only : FnScope N_law_only ["_law_e"] (defScope s_law_only) := ⟨rfl, rfl, rfl, by decide +kernel, rfl, by decide +kernel, by decide +kernel⟩
theorem sc_law_right : FnScope N_law_right ["_law_text_here"] (defScope s_law_right) := ⟨rfl, rfl, rfl, by decide +kernel, rfl, by decide +kernel, by decide +kernel⟩
theorem sc_law : FnScope N_law ["_law_script"] (defScope s_law) := ⟨rfl, rfl, rfl, by decide +kernel, rfl, by decide +kernel, by decide +kernel⟩
set_option genInjectivity false in
structure Adr where
  a_copied : Addr
  d_copied : FuncData
  a_divisor : Addr
  d_divisor : FuncData
  a_place : Addr
  d_place : FuncData
  a_without : Addr
  d_without : FuncData
  a_determinant : Addr
  d_determinant : FuncData
  a_joined : Addr
  d_joined : FuncData
  a_deed : Addr
  d_deed : FuncData
  a_read_whole : Addr
  d_read_whole : FuncData
  a_read_fraction : Addr
  d_read_fraction : FuncData
  a_read_signed : Addr
  d_read_signed : FuncData
  a_read_amount : Addr
  d_read_amount : FuncData
  a_terms_of : Addr
  d_terms_of : FuncData
  a_read_part : Addr
  d_read_part : FuncData
  a_parts_of : Addr
  d_parts_of : FuncData
  a_common_under : Addr
  d_common_under : FuncData
  a_read : Addr
  d_read : FuncData
  a_law_cell_at : Addr
  d_law_cell_at : FuncData
  a_law_whole : Addr
  d_law_whole : FuncData
  a_law_common : Addr
  d_law_common : FuncData
  a_law_odd : Addr
  d_law_odd : FuncData
  a_law_term : Addr
  d_law_term : FuncData
  a_law_part : Addr
  d_law_part : FuncData
  a_law_text : Addr
  d_law_text : FuncData
  a_law_number : Addr
  d_law_number : FuncData
  a_law_alone : Addr
  d_law_alone : FuncData
  a_law_row : Addr
  d_law_row : FuncData
  a_law_sense : Addr
  d_law_sense : FuncData
  a_law_due : Addr
  d_law_due : FuncData
  a_law_kinds : Addr
  d_law_kinds : FuncData
  a_law_later : Addr
  d_law_later : FuncData
  a_law_only : Addr
  d_law_only : FuncData
  a_law_right : Addr
  d_law_right : FuncData
  a_law : Addr
  d_law : FuncData
  a_CrystalError : Addr
  a_NoNumber : Addr
  a_NoChange : Addr
  a_NotKept : Addr
  a_TooMany : Addr
  a_NoDeed : Addr
  a_NoDrawing : Addr
  a_NoForm : Addr
  a_NoName : Addr
  a_NoPlace : Addr
  a_NoRow : Addr
  a_NoSheet : Addr
  a_NoText : Addr
  a_NotLeast : Addr
  a_NotWithin : Addr
  a_OffSheet : Addr
structure Txt (K : PySem.W.Frag) (mg : Str → Option Value) (t : Adr) : Prop where
  F_copied : Fun K "copied" "copied" s_copied t.a_copied t.d_copied
  m_copied : mg "copied" = some (.ref t.a_copied)
  b_copied : Binds K t.d_copied ["thing"] []
  F_divisor : Fun K "divisor" "divisor" s_divisor t.a_divisor t.d_divisor
  m_divisor : mg "divisor" = some (.ref t.a_divisor)
  b_divisor : Binds K t.d_divisor ["one", "other"] []
  F_place : Fun K "place" "place" s_place t.a_place t.d_place
  m_place : mg "place" = some (.ref t.a_place)
  b_place : Binds K t.d_place ["tops", "under"] []
  F_without : Fun K "without" "without" s_without t.a_without t.d_without
  m_without : mg "without" = some (.ref t.a_without)
  b_without : Binds K t.d_without ["rows", "i", "k"] []
  F_determinant : Fun K "determinant" "determinant" s_determinant t.a_determinant t.d_determinant
  m_determinant : mg "determinant" = some (.ref t.a_determinant)
  b_determinant : Binds K t.d_determinant ["rows"] []
  F_joined : Fun K "joined" "joined" s_joined t.a_joined t.d_joined
  m_joined : mg "joined" = some (.ref t.a_joined)
  b_joined : Binds K t.d_joined ["rows", "spot"] []
  F_deed : Fun K "deed" "deed" s_deed t.a_deed t.d_deed
  m_deed : mg "deed" = some (.ref t.a_deed)
  b_deed : Binds K t.d_deed ["rows", "tops", "under"] []
  F_read_whole : Fun K "read_whole" "read_whole" s_read_whole t.a_read_whole t.d_read_whole
  m_read_whole : mg "read_whole" = some (.ref t.a_read_whole)
  b_read_whole : Binds K t.d_read_whole ["text"] []
  F_read_fraction : Fun K "read_fraction" "read_fraction" s_read_fraction t.a_read_fraction t.d_read_fraction
  m_read_fraction : mg "read_fraction" = some (.ref t.a_read_fraction)
  b_read_fraction : Binds K t.d_read_fraction ["text"] []
  F_read_signed : Fun K "read_signed" "read_signed" s_read_signed t.a_read_signed t.d_read_signed
  m_read_signed : mg "read_signed" = some (.ref t.a_read_signed)
  b_read_signed : Binds K t.d_read_signed ["text"] []
  F_read_amount : Fun K "read_amount" "read_amount" s_read_amount t.a_read_amount t.d_read_amount
  m_read_amount : mg "read_amount" = some (.ref t.a_read_amount)
  b_read_amount : Binds K t.d_read_amount ["text"] []
  F_terms_of : Fun K "terms_of" "terms_of" s_terms_of t.a_terms_of t.d_terms_of
  m_terms_of : mg "terms_of" = some (.ref t.a_terms_of)
  b_terms_of : Binds K t.d_terms_of ["part"] []
  F_read_part : Fun K "read_part" "read_part" s_read_part t.a_read_part t.d_read_part
  m_read_part : mg "read_part" = some (.ref t.a_read_part)
  b_read_part : Binds K t.d_read_part ["part", "letters"] []
  F_parts_of : Fun K "parts_of" "parts_of" s_parts_of t.a_parts_of t.d_parts_of
  m_parts_of : mg "parts_of" = some (.ref t.a_parts_of)
  b_parts_of : Binds K t.d_parts_of ["text"] []
  F_common_under : Fun K "common_under" "common_under" s_common_under t.a_common_under t.d_common_under
  m_common_under : mg "common_under" = some (.ref t.a_common_under)
  b_common_under : Binds K t.d_common_under ["pairs"] []
  F_read : Fun K "read" "read" s_read t.a_read t.d_read
  m_read : mg "read" = some (.ref t.a_read)
  b_read : Binds K t.d_read ["text"] []
  F_law_cell_at : Fun K "_law_cell_at" "_law_cell_at" s_law_cell_at t.a_law_cell_at t.d_law_cell_at
  m_law_cell_at : mg "_law_cell_at" = some (.ref t.a_law_cell_at)
  b_law_cell_at : Binds K t.d_law_cell_at ["_law_script", "_law_k"] []
  F_law_whole : Fun K "_law_whole" "_law_whole" s_law_whole t.a_law_whole t.d_law_whole
  m_law_whole : mg "_law_whole" = some (.ref t.a_law_whole)
  b_law_whole : Binds K t.d_law_whole ["_law_found"] []
  F_law_common : Fun K "_law_common" "_law_common" s_law_common t.a_law_common t.d_law_common
  m_law_common : mg "_law_common" = some (.ref t.a_law_common)
  b_law_common : Binds K t.d_law_common ["_law_one", "_law_other"] []
  F_law_odd : Fun K "_law_odd" "_law_odd" s_law_odd t.a_law_odd t.d_law_odd
  m_law_odd : mg "_law_odd" = some (.ref t.a_law_odd)
  b_law_odd : Binds K t.d_law_odd ["_law_cell"] []
  F_law_term : Fun K "_law_term" "_law_term" s_law_term t.a_law_term t.d_law_term
  m_law_term : mg "_law_term" = some (.ref t.a_law_term)
  b_law_term : Binds K t.d_law_term ["_law_cell", "_law_letters"] []
  F_law_part : Fun K "_law_part" "_law_part" s_law_part t.a_law_part t.d_law_part
  m_law_part : mg "_law_part" = some (.ref t.a_law_part)
  b_law_part : Binds K t.d_law_part ["_law_cell", "_law_letters", "_law_k"] []
  F_law_text : Fun K "_law_text" "_law_text" s_law_text t.a_law_text t.d_law_text
  m_law_text : mg "_law_text" = some (.ref t.a_law_text)
  b_law_text : Binds K t.d_law_text ["_law_cells"] []
  F_law_number : Fun K "_law_number" "_law_number" s_law_number t.a_law_number t.d_law_number
  m_law_number : mg "_law_number" = some (.ref t.a_law_number)
  b_law_number : Binds K t.d_law_number ["_law_word"] []
  F_law_alone : Fun K "_law_alone" "_law_alone" s_law_alone t.a_law_alone t.d_law_alone
  m_law_alone : mg "_law_alone" = some (.ref t.a_law_alone)
  b_law_alone : Binds K t.d_law_alone ["_law_word"] []
  F_law_row : Fun K "_law_row" "_law_row" s_law_row t.a_law_row t.d_law_row
  m_law_row : mg "_law_row" = some (.ref t.a_law_row)
  b_law_row : Binds K t.d_law_row ["_law_part_here", "_law_letters"] []
  F_law_sense : Fun K "_law_sense" "_law_sense" s_law_sense t.a_law_sense t.d_law_sense
  m_law_sense : mg "_law_sense" = some (.ref t.a_law_sense)
  b_law_sense : Binds K t.d_law_sense ["_law_rows"] []
  F_law_due : Fun K "_law_due" "_law_due" s_law_due t.a_law_due t.d_law_due
  m_law_due : mg "_law_due" = some (.ref t.a_law_due)
  b_law_due : Binds K t.d_law_due ["_law_text_here"] []
  F_law_kinds : Fun K "_law_kinds" "_law_kinds" s_law_kinds t.a_law_kinds t.d_law_kinds
  m_law_kinds : mg "_law_kinds" = some (.ref t.a_law_kinds)
  b_law_kinds : Binds K t.d_law_kinds ["_law_found"] []
  F_law_later : Fun K "_law_later" "_law_later" s_law_later t.a_law_later t.d_law_later
  m_law_later : mg "_law_later" = some (.ref t.a_law_later)
  b_law_later : Binds K t.d_law_later ["_law_e"] []
  F_law_only : Fun K "_law_only" "_law_only" s_law_only t.a_law_only t.d_law_only
  m_law_only : mg "_law_only" = some (.ref t.a_law_only)
  b_law_only : Binds K t.d_law_only ["_law_e"] []
  F_law_right : Fun K "_law_right" "_law_right" s_law_right t.a_law_right t.d_law_right
  m_law_right : mg "_law_right" = some (.ref t.a_law_right)
  b_law_right : Binds K t.d_law_right ["_law_text_here"] []
  F_law : Fun K "law" "law" s_law t.a_law t.d_law
  m_law : mg "law" = some (.ref t.a_law)
  b_law : Binds K t.d_law ["_law_script"] []
  z_ValueError : mg "ValueError" = none
  z_abs : mg "abs" = none
  z_any : mg "any" = none
  z_bool : mg "bool" = none
  z_enumerate : mg "enumerate" = none
  z_int : mg "int" = none
  z_isinstance : mg "isinstance" = none
  z_len : mg "len" = none
  z_list : mg "list" = none
  z_max : mg "max" = none
  z_min : mg "min" = none
  z_range : mg "range" = none
  z_reversed : mg "reversed" = none
  z_str : mg "str" = none
  z_sum : mg "sum" = none
  z_tuple : mg "tuple" = none
  z_zip : mg "zip" = none
  m_CrystalError : mg "CrystalError" = some (.ref t.a_CrystalError)
  m_NoNumber : mg "NoNumber" = some (.ref t.a_NoNumber)
  m_NoChange : mg "NoChange" = some (.ref t.a_NoChange)
  m_NotKept : mg "NotKept" = some (.ref t.a_NotKept)
  m_TooMany : mg "TooMany" = some (.ref t.a_TooMany)
  m_NoDeed : mg "NoDeed" = some (.ref t.a_NoDeed)
  m_NoDrawing : mg "NoDrawing" = some (.ref t.a_NoDrawing)
  m_NoForm : mg "NoForm" = some (.ref t.a_NoForm)
  m_NoName : mg "NoName" = some (.ref t.a_NoName)
  m_NoPlace : mg "NoPlace" = some (.ref t.a_NoPlace)
  m_NoRow : mg "NoRow" = some (.ref t.a_NoRow)
  m_NoSheet : mg "NoSheet" = some (.ref t.a_NoSheet)
  m_NoText : mg "NoText" = some (.ref t.a_NoText)
  m_NotLeast : mg "NotLeast" = some (.ref t.a_NotLeast)
  m_NotWithin : mg "NotWithin" = some (.ref t.a_NotWithin)
  m_OffSheet : mg "OffSheet" = some (.ref t.a_OffSheet)
  g_LETTERS : ∃ u, mg "LETTERS" = some u ∧ RelV (.str "xyz") u
  g_FIGURES : ∃ u, mg "FIGURES" = some u ∧ RelV (.str "0123456789") u
  g_MOST_FIGURES : ∃ u, mg "MOST_FIGURES" = some u ∧ RelV (.int 100) u
  k_int : PySem.W.kitOne K (.type "int") (.type "int") = some true
  k_ib : PySem.W.kitOne K (.type "int") (.type "bool") = some false
  k_tt : PySem.W.kitOne K (.type "tuple") (.type "tuple") = some true
  k_ss : PySem.W.kitOne K (.type "str") (.type "str") = some true
  x_NoText : PySem.W.excIn K t.a_NoText [.type "ValueError", .type "Exception", .type "BaseException", .type "object"] "ValueError.__new__" = true
  x_NoPlace : PySem.W.excIn K t.a_NoPlace [.type "ValueError", .type "Exception", .type "BaseException", .type "object"] "ValueError.__new__" = true
  x_NoDeed : PySem.W.excIn K t.a_NoDeed [.type "ValueError", .type "Exception", .type "BaseException", .type "object"] "ValueError.__new__" = true
  dm : PySem.W.exmOne K (.ref t.a_NoDeed) (.ref t.a_NoDeed) = some true
  xm : PySem.W.exmOne K (.ref t.a_NoText) (.ref t.a_CrystalError) = some true
  e_cg : PySem.W.specialIn K (.builtin "object.__class__") "__get__" = some (some (.builtin "getset_descriptor.__get__"))
  e_tk : PySem.W.takesIn K (.builtin "object.__class__") = some true
  u_ga : PySem.W.findIn K (.ref t.a_NoText) "__getattribute__" = some (some (.builtin "BaseException.__getattribute__"))
  u_gt : PySem.W.findIn K (.ref t.a_NoText) "__getattr__" = some none
  u_ca : PySem.W.findIn K (.ref t.a_NoText) "__class__" = some (some (.builtin "object.__class__"))
  u_ob : PySem.W.mroIn K t.a_NoText (.type "object") = some true
  u_bx : PySem.W.mroIn K t.a_NoText (.type "BaseException") = some true
  u_VE : PySem.W.kitOne K (.ref t.a_NoText) (.type "ValueError") = some true
  u_NoNumber : PySem.W.kitOne K (.ref t.a_NoText) (.ref t.a_NoNumber) = some false
  u_NoChange : PySem.W.kitOne K (.ref t.a_NoText) (.ref t.a_NoChange) = some false
  u_NotKept : PySem.W.kitOne K (.ref t.a_NoText) (.ref t.a_NotKept) = some false
  u_TooMany : PySem.W.kitOne K (.ref t.a_NoText) (.ref t.a_TooMany) = some false
  u_NoDeed : PySem.W.kitOne K (.ref t.a_NoText) (.ref t.a_NoDeed) = some false
  u_NoDrawing : PySem.W.kitOne K (.ref t.a_NoText) (.ref t.a_NoDrawing) = some false
  u_NoForm : PySem.W.kitOne K (.ref t.a_NoText) (.ref t.a_NoForm) = some false
  u_NoName : PySem.W.kitOne K (.ref t.a_NoText) (.ref t.a_NoName) = some false
  u_NoPlace : PySem.W.kitOne K (.ref t.a_NoText) (.ref t.a_NoPlace) = some false
  u_NoRow : PySem.W.kitOne K (.ref t.a_NoText) (.ref t.a_NoRow) = some false
  u_NoSheet : PySem.W.kitOne K (.ref t.a_NoText) (.ref t.a_NoSheet) = some false
  u_NoText : PySem.W.kitOne K (.ref t.a_NoText) (.ref t.a_NoText) = some true
  u_NotLeast : PySem.W.kitOne K (.ref t.a_NoText) (.ref t.a_NotLeast) = some false
  u_NotWithin : PySem.W.kitOne K (.ref t.a_NoText) (.ref t.a_NotWithin) = some false
  u_OffSheet : PySem.W.kitOne K (.ref t.a_NoText) (.ref t.a_OffSheet) = some false
  bl : ∀ (s : Shared) (u : Value), BindsTo s t.d_law ⟨[u], []⟩ [("_law_script", u)]
local macro_rules | `(tactic| walk_at "rd2") => `(tactic| simp only [tSeq, tAsg, gName, tVar, tC, tOp, rd_rI0, rd_rI, rd_rU, tUn, tTest, tB, tIfS, tIf, tAnd, tOr, tNot, tAndV, tOrV, tNotV, tRet, tRetN, tNext, tDrop, tCall, tCallX, tCons, tNil, tCB, tTup, tLst, tPar, tSetC, tBM, tBM0, tSl, tPart, tNoPart, List.getElem?_cons_zero, List.getElem?_cons_succ, Option.some.injEq, exists_eq_left', exists_eq_left, List.set_cons_zero, List.set_cons_succ, List.cons.injEq, V.int.injEq, V.bl.injEq, V.ref.injEq, and_true, true_and, List.append_nil, ne_eq, exists_and_left, and_assoc, ↓reduceIte, Bool.not_true, Bool.not_false, Bool.false_eq_true])
noncomputable def gcdI (a b : Int) : Int := (Int.gcd a b : Int)
noncomputable def absI (u : Int) : Int := if u < 0 then -u else u
noncomputable def gl (u : Int) (ns : List Int) : Int := ns.foldl gcdI (absI u)
theorem absI_nonneg (u : Int) : 0 ≤ absI u := by unfold absI; split <;> omega
theorem absI_dvd {d u : Int} : d ∣ absI u ↔ d ∣ u := by
  unfold absI
  split
  · exact Int.dvd_neg
  · exact Iff.rfl
theorem dvd_foldl {d : Int} : ∀ (ns : List Int) (c : Int), d ∣ ns.foldl gcdI c ↔ d ∣ c ∧ ∀ t ∈ ns, d ∣ t
  | [], c => by simp
  | t :: r, c => by
    rw [List.foldl_cons, dvd_foldl r]
    unfold gcdI
    rw [Int.dvd_coe_gcd_iff]
    constructor
    · rintro ⟨⟨h1, h2⟩, h3⟩
      refine ⟨h1, fun x hx => ?_⟩
      rcases List.mem_cons.mp hx with e | e
      · rw [e]; exact h2
      · exact h3 x e
    · rintro ⟨h1, h2⟩
      exact ⟨⟨h1, h2 t List.mem_cons_self⟩, fun x hx => h2 x (List.mem_cons_of_mem _ hx)⟩
theorem dvd_gl {d u : Int} {ns : List Int} : d ∣ gl u ns ↔ d ∣ u ∧ ∀ t ∈ ns, d ∣ t := by
  unfold gl
  rw [dvd_foldl, absI_dvd]
theorem foldl_nonneg : ∀ (ns : List Int) (c : Int), 0 ≤ c → 0 ≤ ns.foldl gcdI c
  | [], _, h => h
  | t :: r, c, _ => foldl_nonneg r _ (Int.natCast_nonneg _)
theorem gl_nonneg (u : Int) (ns : List Int) : 0 ≤ gl u ns := foldl_nonneg ns _ (absI_nonneg u)
theorem gl_u (u : Int) (ns : List Int) : gl u ns ∣ u := (dvd_gl.mp (Int.dvd_refl _)).1
theorem gl_mem {u t : Int} {ns : List Int} (h : t ∈ ns) : gl u ns ∣ t := (dvd_gl.mp (Int.dvd_refl _)).2 t h
theorem gl_pos {u : Int} (ns : List Int) (h : u ≠ 0) : 0 < gl u ns := by
  have := gl_nonneg u ns
  rcases Int.lt_or_eq_of_le this with q | q
  · exact q
  · obtain ⟨k, e⟩ := gl_u u ns
    rw [← q, Int.zero_mul] at e
    exact absurd e h
theorem gl_snoc (u : Int) (ns : List Int) (t : Int) : gl u (ns ++ [t]) = gcdI (gl u ns) t := by unfold gl; rw [List.foldl_append]; rfl
noncomputable def cs (u : Int) (ns : List Int) : Int := if u < 0 then -(gl u ns) else gl u ns
theorem cs_ne {u : Int} (ns : List Int) (h : u ≠ 0) : cs u ns ≠ 0 := by
  have := gl_pos ns h
  unfold cs
  split <;> omega
theorem cs_dvd {u x : Int} {ns : List Int} (h : gl u ns ∣ x) : cs u ns ∣ x := by
  unfold cs
  split
  · exact Int.neg_dvd.mpr h
  · exact h
theorem fdiv_exact {c x : Int} (hc : c ≠ 0) (h : c ∣ x) : x.fdiv c * c = x := by
  obtain ⟨k, e⟩ := h
  subst e
  rw [Int.mul_comm c k, Int.mul_fdiv_cancel _ hc]
theorem under_pos {u : Int} (ns : List Int) (h : u ≠ 0) : 0 < u.fdiv (cs u ns) := by
  have e := fdiv_exact (cs_ne ns h) (cs_dvd (gl_u u ns))
  have g := gl_pos ns h
  rcases Int.lt_trichotomy (u.fdiv (cs u ns)) 0 with q | q | q
  · exfalso
    unfold cs at e q
    split at e
    · rename_i hu
      rw [if_pos hu] at q
      have := Int.mul_nonneg_of_nonpos_of_nonpos (Int.le_of_lt q) (show -(gl u ns) ≤ 0 by omega)
      omega
    · rename_i hu
      rw [if_neg hu] at q
      have := Int.mul_neg_of_neg_of_pos q g
      omega
  · rw [q, Int.zero_mul] at e
    exact absurd e.symm h
  · exact q
theorem cross {u t : Int} {ns : List Int} (h : u ≠ 0) (ht : t ∈ ns) : t * u.fdiv (cs u ns) = t.fdiv (cs u ns) * u := by
  have e1 := fdiv_exact (cs_ne ns h) (cs_dvd (gl_u u ns))
  have e2 := fdiv_exact (cs_ne ns h) (cs_dvd (gl_mem (u := u) ht))
  generalize u.fdiv (cs u ns) = a at *
  generalize t.fdiv (cs u ns) = b at *
  generalize cs u ns = c at *
  rw [← e2, ← e1, Int.mul_assoc, Int.mul_comm c a]
theorem gl_red {u : Int} {ns : List Int} (h : u ≠ 0) : gl (u.fdiv (cs u ns)) (ns.map fun t => t.fdiv (cs u ns)) = 1 := by
  have hc := cs_ne ns h
  have e1 := fdiv_exact hc (cs_dvd (gl_u u ns))
  have n := gl_nonneg (u.fdiv (cs u ns)) (ns.map fun t => t.fdiv (cs u ns))
  have d := dvd_gl.mp (Int.dvd_refl (gl (u.fdiv (cs u ns)) (ns.map fun t => t.fdiv (cs u ns))))
  generalize gl (u.fdiv (cs u ns)) (ns.map fun t => t.fdiv (cs u ns)) = g at *
  have key : g * cs u ns ∣ gl u ns := by
    refine dvd_gl.mpr ⟨?_, fun t ht => ?_⟩
    · have := Int.mul_dvd_mul d.1 (Int.dvd_refl (cs u ns))
      rw [e1] at this
      exact this
    · have := Int.mul_dvd_mul (d.2 _ (List.mem_map.mpr ⟨t, ht, rfl⟩)) (Int.dvd_refl (cs u ns))
      rw [fdiv_exact hc (cs_dvd (gl_mem (u := u) ht))] at this
      exact this
  have key2 : g * cs u ns ∣ 1 * cs u ns := by
    rw [Int.one_mul]
    unfold cs at key ⊢
    split at key
    · rename_i hu
      rw [if_pos hu]
      exact Int.dvd_neg.mpr key
    · rename_i hu
      rw [if_neg hu]
      exact key
  have : g ∣ 1 := Int.dvd_of_mul_dvd_mul_right hc key2
  have := Int.le_of_dvd (by decide) this
  rcases (show g = 0 ∨ g = 1 by omega) with q | q
  · subst q
    have z := d.1
    rw [Int.zero_dvd] at z
    rw [z, Int.zero_mul] at e1
    exact absurd e1.symm h
  · exact q
theorem gcd_fmodI (g l : Int) : Int.gcd l (Int.fmod g l) = Int.gcd g l := by
  rw [Int.fmod_def, Int.gcd_sub_mul_left_right, Int.gcd_comm]
theorem absI_gcd (a b : Int) : Int.gcd (if a < 0 then -a else a) (if b < 0 then -b else b) = Int.gcd a b := by
  split <;> split <;> simp
theorem absI_nn (a : Int) : 0 ≤ (if a < 0 then -a else a) := by split <;> omega
theorem gcd_end {g l a b : Int} (h : Int.gcd g l = Int.gcd a b) (hg : 0 ≤ g) (z : l = 0) : g = gcdI a b := by
  rw [z, Int.gcd_zero_right] at h
  unfold gcdI
  rw [← h]
  omega
noncomputable def sp_gcd : Sp := fun vs H Q _ => ∃ a b, vs = [.int a, .int b] ∧ Q (.int (gcdI a b)) H
noncomputable abbrev sp_divisor : Sp := sp_gcd
noncomputable abbrev sp_law_common : Sp := sp_gcd
noncomputable def PlaceAt (H : Hp) (p : Addr) (ns : List Int) (u : Int) : Prop := ∃ q, H p = some (.tup [.ref q, .int u]) ∧ H q = some (.tup (ns.map V.int))
theorem PlaceAt.up {H H' : Hp} {p : Addr} {ns : List Int} {u : Int} (h : PlaceAt H p ns u) (s : Same H H') : PlaceAt H' p ns u := let ⟨q, h1, h2⟩ := h; ⟨q, s _ _ h1, s _ _ h2⟩
noncomputable def small (n : Int) : Prop := n.natAbs < 2 ^ 8990
theorem small_log {c : Int} (h : small c) (z : c ≠ 0) : c.natAbs.log2 < 9000 := Nat.lt_of_lt_of_le ((Nat.log2_lt (by omega)).mpr h) (by decide)
theorem small_dvd {c u : Int} (h : small u) (z : u ≠ 0) (d : c ∣ u) : small c := by
  have := Int.natAbs_dvd_natAbs.mpr d
  have := Nat.le_of_dvd (by omega) this
  unfold small at *
  omega

noncomputable def redT (u : Int) (ns : List Int) : List Int := ns.map fun t => t.fdiv (cs u ns)
noncomputable def redU (u : Int) (ns : List Int) : Int := u.fdiv (cs u ns)
noncomputable def sp_place (K : PySem.W.Frag) (C : Addr) : Sp := fun vs H Q E => ∃ (b : Bool) (a : Addr) (ns : List Int) (u : Int), vs = [.ref a, .int u] ∧ SqB b K H a (ns.map V.int) ∧ ns.length ≤ 100 ∧ small u ∧
  ((u = 0 ∨ ns = []) → E (.ref C) none H) ∧ (u ≠ 0 → ns ≠ [] → ∀ p H', Same H H' → PlaceAt H' p (redT u ns) (redU u ns) → Q (.ref p) H')
theorem take_snoc {α : Type} {ns : List α} {i : Nat} {n : α} (h : ns[i]? = some n) : ns.take (i + 1) = ns.take i ++ [n] := by
  rw [List.take_add_one, h]
  rfl

noncomputable def minorM (i k : Nat) (rows : List (List Int)) : List (List Int) := (rows.eraseIdx i).map fun r => r.eraseIdx k
noncomputable def sg (k : Nat) : Int := if k % 2 = 0 then 1 else -1
noncomputable def altS (f : Nat → Int) : Nat → Int
  | 0 => 0
  | k + 1 => altS f k + sg k * f k
noncomputable def detM : Nat → List (List Int) → Int
  | 0, _ => 1
  | 1, rows => (rows.getD 0 []).getD 0 0
  | n + 2, rows => altS (fun k => (rows.getD 0 []).getD k 0 * detM (n + 1) (minorM 0 k rows)) (n + 2)
noncomputable def Sq (n : Nat) (rows : List (List Int)) : Prop := rows.length = n ∧ ∀ r ∈ rows, r.length = n
noncomputable def BitsM (B : Nat) (rows : List (List Int)) : Prop := ∀ r ∈ rows, ∀ x ∈ r, x.natAbs < 2 ^ B
theorem sg_succ (k : Nat) : -sg k = sg (k + 1) := by
  unfold sg
  by_cases h : k % 2 = 0
  · rw [if_pos h, if_neg (by omega)]
  · rw [if_neg h, if_pos (by omega)]
    rfl
theorem sg_abs (k : Nat) : (sg k).natAbs = 1 := by unfold sg; split <;> rfl
theorem Sq.minor {n i k : Nat} {rows : List (List Int)} (h : Sq (n + 1) rows) (hi : i < n + 1) (hk : k < n + 1) : Sq n (minorM i k rows) := by
  refine ⟨?_, fun r hr => ?_⟩
  · unfold minorM
    rw [List.length_map, List.length_eraseIdx, h.1, if_pos hi]
    rfl
  · obtain ⟨z, hz, rfl⟩ := List.mem_map.mp hr
    have hl := h.2 z (List.mem_of_mem_eraseIdx hz)
    rw [List.length_eraseIdx, hl, if_pos hk]
    rfl
theorem BitsM.minor {B i k : Nat} {rows : List (List Int)} (h : BitsM B rows) : BitsM B (minorM i k rows) := fun r hr x hx => by
  obtain ⟨z, hz, rfl⟩ := List.mem_map.mp hr
  exact h z (List.mem_of_mem_eraseIdx hz) x (List.mem_of_mem_eraseIdx hx)
theorem altS_abs {f : Nat → Int} {M : Nat} : ∀ n : Nat, (∀ k < n, (f k).natAbs ≤ M) → (altS f n).natAbs ≤ n * M
  | 0, _ => by simp [altS]
  | n + 1, h => by
    have h1 := altS_abs n fun k hk => h k (by omega)
    have h2 := h n (by omega)
    show (altS f n + sg n * f n).natAbs ≤ _
    have h3 := Int.natAbs_add_le (altS f n) (sg n * f n)
    rw [Int.natAbs_mul, sg_abs, Nat.one_mul] at h3
    rw [Nat.succ_mul]
    omega
theorem row0 {n : Nat} {rows : List (List Int)} (h : Sq (n + 1) rows) : rows[0]? = some (rows.getD 0 []) ∧ rows.getD 0 [] ∈ rows := by
  have hl : 0 < rows.length := by have := h.1; omega
  have e : rows.getD 0 [] = rows[0] := by simp [hl]
  rw [e]
  exact ⟨by simp [hl], List.getElem_mem hl⟩
theorem det_abs {B : Nat} : ∀ (n : Nat) (rows : List (List Int)), 1 ≤ n → n ≤ 4 → Sq n rows → BitsM B rows → (detM n rows).natAbs ≤ 2 ^ (n * (B + 2))
  | 0, _, h, _, _, _ => by omega
  | 1, rows, _, _, hs, hb => by
    have hr := row0 hs
    have hl : 0 < (rows.getD 0 []).length := by rw [hs.2 _ hr.2]; decide
    have := hb _ hr.2 _ (L2.getD_mem hl)
    show ((rows.getD 0 []).getD 0 0).natAbs ≤ _
    have : 2 ^ B ≤ 2 ^ (1 * (B + 2)) := Nat.pow_le_pow_right (by decide) (by omega)
    omega
  | n + 2, rows, _, h4, hs, hb => by
    have hr := row0 hs
    have key : ∀ k < n + 2, ((rows.getD 0 []).getD k 0 * detM (n + 1) (minorM 0 k rows)).natAbs ≤ 2 ^ B * 2 ^ ((n + 1) * (B + 2)) := fun k hk => by
      have hl : k < (rows.getD 0 []).length := by rw [hs.2 _ hr.2]; exact hk
      have h1 := hb _ hr.2 _ (L2.getD_mem hl)
      have h2 := det_abs (n + 1) (minorM 0 k rows) (by omega) (by omega) (hs.minor (by omega) hk) hb.minor
      rw [Int.natAbs_mul]
      exact Nat.mul_le_mul (Nat.le_of_lt h1) h2
    have := altS_abs (n + 2) key
    have e : 2 ^ ((n + 2) * (B + 2)) = 4 * (2 ^ B * 2 ^ ((n + 1) * (B + 2))) := by
      rw [← Nat.pow_add, show (4 : Nat) = 2 ^ 2 from rfl, ← Nat.pow_add]
      congr 1
      rw [Nat.add_mul, Nat.add_mul]
      omega
    show (altS _ (n + 2)).natAbs ≤ _
    rw [e]
    refine Nat.le_trans this (Nat.mul_le_mul_right _ (by omega))
theorem bits_of {x : Int} {B : Nat} (h : x.natAbs < 2 ^ B) : Builtin.Int.intBits x ≤ B := intBits_le_iff.mpr h
noncomputable def sp_without (K : PySem.W.Frag) : Sp := fun vs H Q _ => ∃ (b1 b2 : Bool) (a : Addr) (rows : List (List Int)) (i k w : Nat), vs = [.ref a, .int i, .int k] ∧ MatB b1 b2 K H a rows ∧ (∀ r ∈ rows, r.length = w) ∧ k < w ∧ w ≤ 1000 ∧ rows.length ≤ 1000 ∧
  ∀ r H', H r = none → Same H H' → MatL H' r (minorM i k rows) → Q (.ref r) H'
noncomputable def sp_determinant (K : PySem.W.Frag) : Nat → Sp
  | 0 => fun _ _ _ _ => False
  | n + 1 => fun vs H Q _ => ∃ (b1 b2 : Bool) (a : Addr) (rows : List (List Int)) (B : Nat), vs = [.ref a] ∧ MatB b1 b2 K H a rows ∧ Sq (n + 1) rows ∧ n ≤ 3 ∧ BitsM B rows ∧ B ≤ 1000000 ∧ ∀ H', Same H H' → Q (.int (detM (n + 1) rows)) H'
section
variable {g : TG} {tt : TOx} {fr : List (Str × Nat)} {σ : St} {a : Addr} {H : Hp} {Q : VK} {K : PySem.W.Frag}
theorem cg_enumI {b : Bool} {l : Addr} {xs : List V} (P : Nat → List V → Hp → Prop) (ha : H a = none) (hS : SqB b K H l xs) (hz : xs.length ≤ 1000) (h0 : P 0 [] (upd H a (.lst [])))
    (hl : ∀ i zs H1, P i zs H1 → zs.length ≤ i) (mono : ∀ i zs H1 H2, P i zs H1 → SameX a H1 H2 → P i zs H2)
    (he : ∀ i x H1 zs, xs[i]? = some x → Same H H1 → H1 a = some (.lst zs) → P i zs H1 → ∀ C : Option V → Hp → Prop,
      (∀ y H2, Same H1 H2 → P (i + 1) (zs ++ [y]) H2 → C (some y) H2) → (∀ H2, Same H1 H2 → P (i + 1) zs H2 → C none H2) → tt (some (.int i) :: some x :: frees fr σ) H1 C)
    (hd : ∀ H1 ys, Same H H1 → H1 a = some (.lst ys) → P xs.length ys H1 → Q (.ref a) H1) :
    CompWG (Ite K b l) (gTup K 2 (gCons (gName 0) (gCons (gName 1) gNil))) tt 2 fr σ a H Q := by
  refine cg_inv xs.length P ha hz h0 hl mono (fun i H1 hi s => ⟨xs, xs[i], hS.up s, by simp [hi]⟩) (fun H1 s => ⟨xs, hS.up s, rfl⟩) ?_ hd
  intro i H1 zs hi s1 ez p os x H3 hos hy C hC1 hC2
  obtain ⟨q, x, rfl, hp, rfl, hx⟩ := hy
  refine ⟨q, [.int i, x], rfl, SqT.of upd_same, rfl, _, [x], rfl, x, [], rfl, rfl, ?_⟩
  have sn : Same H1 (upd H1 q (.tup [.int i, x])) := Same.new hp
  match os, hos with
  | [o, o'], _ =>
    exact ⟨⟨[some (.int i), some x], rfl, rfl⟩, he i x _ zs (hx xs (hS.up s1)) (s1.trans sn) (sn _ _ ez) (mono _ _ _ _ p sn.x) C (fun y H2 s2 r => hC1 y H2 (sn.trans s2) r) fun H2 s2 r => hC2 H2 (sn.trans s2) r⟩
end
theorem SqB.cut {b : Bool} {K : PySem.W.Frag} {H : Hp} {p : Addr} {xs : List V} : SqB b K (upd H p (seqO b xs)) p xs := by
  cases b
  · exact SqB.lst upd_same
  · exact SqB.tup upd_same
theorem erase_take {α : Type} {rows : List α} {i0 t : Nat} {r : α} (e : rows[t]? = some r) : (rows.take (t + 1)).eraseIdx i0 = if t = i0 then (rows.take t).eraseIdx i0 else (rows.take t).eraseIdx i0 ++ [r] := by
  have ht : t < rows.length := (List.getElem?_eq_some_iff.mp e).1
  have hl : (rows.take t).length = t := by rw [List.length_take]; omega
  rw [List.take_add_one, e]
  show (rows.take t ++ [r]).eraseIdx i0 = _
  by_cases h : t = i0
  · rw [if_pos h, List.eraseIdx_append_of_length_le (by omega), hl, h, Nat.sub_self, List.eraseIdx_of_length_le (l := rows.take i0) (by rw [List.length_take]; omega)]
    simp
  · rw [if_neg h]
    by_cases h2 : i0 < t
    · rw [List.eraseIdx_append_of_lt_length (by omega)]
    · rw [List.eraseIdx_append_of_length_le (by omega), hl, List.eraseIdx_of_length_le (l := rows.take t) (by omega)]
      congr 1
      rw [List.eraseIdx_of_length_le]
      simp
      omega

noncomputable def DeedAt (K : PySem.W.Frag) (H : Hp) (p : Addr) (M : List (List Int)) (ts : List Int) (u : Int) : Prop := ∃ pr pt, H p = some (.tup [.ref pr, .ref pt, .int u]) ∧ MatB true true K H pr M ∧ H pt = some (.tup (ts.map V.int))
theorem DeedAt.up {K : PySem.W.Frag} {H H' : Hp} {p : Addr} {M : List (List Int)} {ts : List Int} {u : Int} (h : DeedAt K H p M ts u) (s : Same H H') : DeedAt K H' p M ts u := let ⟨pr, pt, h1, h2, h3⟩ := h; ⟨pr, pt, s _ _ h1, h2.up s, s _ _ h3⟩
noncomputable def sp_joined (K : PySem.W.Frag) : Sp := fun vs H Q _ => ∃ (b1 b2 : Bool) (a p : Addr) (M : List (List Int)) (ts : List Int) (u : Int), vs = [.ref a, .ref p] ∧ MatB b1 b2 K H a M ∧ PlaceAt H p ts u ∧ M.length ≤ 100 ∧ ∀ q H', Same H H' → DeedAt K H' q M ts u → Q (.ref q) H'
noncomputable def BitsL (B : Nat) (ns : List Int) : Prop := ∀ x ∈ ns, x.natAbs < 2 ^ B
structure Fine (d : Nat) (M : List (List Int)) (ts : List Int) (u : Int) : Prop where
  sq : Sq d M
  len : ts.length = d
  pos : 0 < u
  bm : BitsM 200000 M
  bt : BitsL 200000 ts
  bu : u < 2 ^ 1500
theorem small_lt {u : Int} {B : Nat} (h : u.natAbs < 2 ^ B) (hB : B ≤ 8990) : small u := Nat.lt_of_lt_of_le h (Nat.pow_le_pow_right (by decide) hB)
theorem BitsM.le {B C : Nat} {M : List (List Int)} (h : BitsM B M) (hc : B ≤ C) : BitsM C M := fun r hr x hx => Nat.lt_of_lt_of_le (h r hr x hx) (Nat.pow_le_pow_right (by decide) hc)

section
variable {P : Program} {w : World} {K : PySem.W.Frag} {mg : Str → Option Value} {base : Heap} {t : Adr}
theorem atI_ints {ns : List Int} {k : Int} (h0 : 0 ≤ k) (h1 : k < ns.length) : atI (ns.map V.int) k = some (.int (ns.getD k.toNat 0)) := by
  obtain ⟨j, rfl⟩ := Int.eq_ofNat_of_zero_le h0
  exact atI_at (int_at (getD_at (by omega))) rfl
noncomputable def sp_law_cell_at (K : PySem.W.Frag) : Sp := fun vs H Q _ => ∃ (p : Addr) (ns : List Int) (k : Int), vs = [.ref p, .int k] ∧ SqL K H p (ns.map V.int) ∧ 0 ≤ k ∧ Q (.int (ns.getD k.toNat 0)) H
noncomputable def sp_law_whole : Sp := fun vs H Q _ => ∃ i, vs = [.int i] ∧ Q (.bl true) H
theorem ok_law_cell_at (T : Txt K mg t) : FnOk P w K mg base CX0 1 t.a_law_cell_at t.d_law_cell_at ["_law_script", "_law_k"] (sp_law_cell_at K) := by
  refine T.F_law_cell_at.ok sc_law_cell_at (fun vs H Q E h => ?_) (fun cdv A outer s H vs Q E hr h => ?_)
  · obtain ⟨p, ns, k, rfl, _⟩ := h
    rfl
  · obtain ⟨p, ns, k, rfl, hS, h0, q⟩ := h
    refine ⟨_, (pss_cons (ps_if (pt_cmpR op_lt (pv 1) (pe_callB call_lenB rfl T.z_len (by decide +kernel) (pa_cons (pv 0) pa_nil)) (nomark _))
      (pss_one (ps_ret (pe_ix ix_B (pv 0) (pv 1) (fun _ _ => rfl))))
      pss_nil)
      (pss_one (ps_ret pe_int))), ?_⟩
    show tSeq _ _ _ [some (.ref p), some (.int k)] H
    walk_at "rd2"
    refine ints_len (b := false) hS ?_
    walk_at "rd2"
    by_cases z : k < ns.length
    · rw [decide_eq_true z]
      exact iteT ⟨false, p, _, _, _, rfl, rfl, hS, atI_ints h0 z, q⟩
    · rw [decide_eq_false z]
      refine iteF ?_
      have e : ns.getD k.toNat 0 = 0 := by
        rw [List.getD_eq_getElem?_getD, List.getElem?_eq_none (by omega)]
        rfl
      rw [e] at q
      exact q
theorem ok_law_whole (T : Txt K mg t) : FnOk P w K mg base CX0 1 t.a_law_whole t.d_law_whole ["_law_found"] sp_law_whole := by
  refine T.F_law_whole.ok sc_law_whole (fun vs H Q E h => ?_) (fun cdv A outer s H vs Q E hr h => ?_)
  · obtain ⟨i, rfl, _⟩ := h
    rfl
  · obtain ⟨i, rfl, q⟩ := h
    refine ⟨_, (pss_one (ps_ret (pe_and (pe_callB call_isi rfl T.z_isinstance (by decide +kernel) (pa_cons (pv 0) (pa_cons (pe_bltn (v := .ty "int") rfl T.z_int (by decide +kernel) rfl) pa_nil))) (pe_one (pe_not (pe_callB call_isi rfl T.z_isinstance (by decide +kernel) (pa_cons (pv 0) (pa_cons (pe_bltn (v := .ty "bool") rfl T.z_bool (by decide +kernel) rfl) pa_nil)))))))), ?_⟩
    show tRet _ _ [some (.int i)] H
    walk_at "rd2"
    refine ⟨_, _, _, _, rfl, .ty (.int i), rfl, T.k_int, ?_⟩
    walk_at "rd2"
    refine ⟨_, _, _, _, rfl, .ty (.int i), rfl, T.k_ib, ?_⟩
    walk_at "rd2"
    exact q

theorem rd_gcd {a b : Int} {H : Hp} {Q : VK} {E : XK} : sp_gcd [.int a, .int b] H Q E = Q (.int (gcdI a b)) H := propext ⟨fun ⟨_, _, e, q⟩ => by cases e; exact q, fun q => ⟨_, _, rfl, q⟩⟩
theorem ok_divisor (T : Txt K mg t) : FnOk P w K mg base CX0 1 t.a_divisor t.d_divisor ["one", "other"] sp_divisor := by
  refine T.F_divisor.ok sc_divisor (fun vs H Q E h => ?_) (fun cdv A outer s H vs Q E hr h => ?_)
  · obtain ⟨a, b, rfl, _⟩ := h
    rfl
  · obtain ⟨a, b, rfl, k⟩ := h
    refine ⟨_, (pss_cons (ps_set (i := 2) sc_divisor.nd rfl (Or.inl rfl) (pe_callB call_abs rfl T.z_abs (by decide +kernel) (pa_cons (pv 0) pa_nil)))
      (pss_cons (ps_set (i := 3) sc_divisor.nd rfl (Or.inl rfl) (pe_callB call_abs rfl T.z_abs (by decide +kernel) (pa_cons (pv 1) pa_nil)))
      (pss_cons (ps_while PassesOwn.never (pt_cmpR op_neZ (pv 3) pe_int (nomark _))
      (pss_cons (ps_set (i := 4) sc_divisor.nd rfl (Or.inl rfl) (pe_op op_modN (pv 2) (pv 3)))
      (pss_cons (ps_set (i := 2) sc_divisor.nd rfl (Or.inl rfl) (pv 3))
      (pss_one (ps_set (i := 3) sc_divisor.nd rfl (Or.inl rfl) (pv 4))))))
      (pss_one (ps_ret (pv 2)))))), ?_⟩
    show tSeq _ _ _ [some (.int a), some (.int b), none, none, none] H
    walk_at "rd2"
    refine ⟨fun m σ H1 => ∃ g l r, σ = [some (.int a), some (.int b), some (.int g), some (.int l), r] ∧ H1 = H ∧ 0 ≤ g ∧ 0 ≤ l ∧ Int.gcd g l = Int.gcd a b ∧ m = l.toNat,
      ⟨_, _, _, _, rfl, rfl, absI_nn a, absI_nn b, absI_gcd a b, rfl⟩, ?_⟩
    rintro m σ H1 ⟨g, l, r, rfl, rfl, hg, hl, e, rfl⟩
    walk_at "rd2"
    by_cases z : l = 0
    · rw [decide_eq_true z]
      refine iteF ?_
      rw [gcd_end e hg z]
      exact k
    · rw [decide_eq_false z]
      refine iteT ⟨fun σ' H' => σ' = [some (.int a), some (.int b), some (.int l), some (.int (g.fmod l)), some (.int (g.fmod l))] ∧ H' = H1, ?_, z, rfl, rfl⟩
      rintro σ' H' ⟨rfl, rfl⟩
      have l1 := Int.fmod_lt_of_pos g (show 0 < l by omega)
      have l2 := Int.fmod_nonneg_of_pos g (show 0 < l by omega)
      exact ⟨(g.fmod l).toNat, by omega, _, _, _, rfl, rfl, hl, l2, by rw [gcd_fmodI]; exact e, rfl⟩

theorem ok_law_common (T : Txt K mg t) : FnOk P w K mg base CX0 1 t.a_law_common t.d_law_common ["_law_one", "_law_other"] sp_law_common := by
  refine T.F_law_common.ok sc_law_common (fun vs H Q E h => ?_) (fun cdv A outer s H vs Q E hr h => ?_)
  · obtain ⟨a, b, rfl, _⟩ := h
    rfl
  · obtain ⟨a, b, rfl, k⟩ := h
    refine ⟨_, (pss_cons (ps_set (i := 0) sc_law_common.nd rfl (Or.inl rfl) (pe_callB call_abs rfl T.z_abs (by decide +kernel) (pa_cons (pv 0) pa_nil)))
      (pss_cons (ps_set (i := 1) sc_law_common.nd rfl (Or.inl rfl) (pe_callB call_abs rfl T.z_abs (by decide +kernel) (pa_cons (pv 1) pa_nil)))
      (pss_cons (ps_while PassesOwn.never (pt_cmpR op_gt (pv 1) pe_int (nomark _))
      (pss_one (ps_par (i := 0) (j := 1) rfl sc_law_common.nd rfl rfl (by decide) rfl rfl (pa_cons (pv 1) (pa_cons (pe_op op_modN (pv 0) (pv 1)) pa_nil)) rfl)))
      (pss_one (ps_ret (pv 0)))))), ?_⟩
    show tSeq _ _ _ [some (.int a), some (.int b)] H
    walk_at "rd2"
    refine ⟨fun m σ H1 => ∃ g l, σ = [some (.int g), some (.int l)] ∧ H1 = H ∧ 0 ≤ g ∧ 0 ≤ l ∧ Int.gcd g l = Int.gcd a b ∧ m = l.toNat,
      ⟨_, _, _, rfl, rfl, absI_nn a, absI_nn b, absI_gcd a b, rfl⟩, ?_⟩
    rintro m σ H1 ⟨g, l, rfl, rfl, hg, hl, e, rfl⟩
    walk_at "rd2"
    by_cases z : 0 < l
    · rw [decide_eq_true z]
      refine iteT ⟨fun σ' H' => σ' = [some (.int l), some (.int (g.fmod l))] ∧ H' = H1, ?_, by omega, rfl, rfl⟩
      rintro σ' H' ⟨rfl, rfl⟩
      have l1 := Int.fmod_lt_of_pos g z
      have l2 := Int.fmod_nonneg_of_pos g z
      exact ⟨(g.fmod l).toNat, by omega, _, _, rfl, rfl, hl, l2, by rw [gcd_fmodI]; exact e, rfl⟩
    · rw [decide_eq_false z]
      refine iteF ?_
      rw [gcd_end e hg (by omega)]
      exact k

theorem ok_place (T : Txt K mg t) : FnOk P w K mg base (CX1 P w) 2 t.a_place t.d_place ["tops", "under"] (sp_place K t.a_NoPlace) := by
  have G_divisor : FnOk P w K mg base CX0 1 t.a_divisor t.d_divisor ["one", "other"] sp_divisor := ok_divisor T
  refine T.F_place.okX sc_place (fun vs H Q E h => ?_) (fun cdv A outer s H vs Q E hr h => ?_)
  · obtain ⟨b, a, ns, u, rfl, _⟩ := h
    rfl
  · obtain ⟨b, a, ns, u, rfl, hS, hl, su, hE, hQ⟩ := h
    refine ⟨_, (pss_cons (ps_if (pt_cmpR op_eqZ (pv 1) pe_int (nomark _))
      (pss_one (ps_raise rfl landsN_def rfl T.m_NoPlace T.x_NoPlace PySem.F.excBase_ValueError (pa_cons pe_str pa_nil)))
      pss_nil)
      (pss_cons (ps_if (pt_cmpR op_eqZ (pe_callB call_lenB rfl T.z_len (by decide +kernel) (pa_cons (pv 0) pa_nil)) pe_int (nomark _))
      (pss_one (ps_raise rfl landsN_def rfl T.m_NoPlace T.x_NoPlace PySem.F.excBase_ValueError (pa_cons pe_str pa_nil)))
      pss_nil)
      (pss_cons (ps_set (i := 2) sc_place.nd rfl (Or.inr rfl) (pe_callB call_abs rfl T.z_abs (by decide +kernel) (pa_cons (pv 1) pa_nil)))
      (pss_cons (PS.nox (ps_for PassesOwn.never rfl (pi_seq (pv 0)) (pg_name (i := 3) sc_place.nd rfl (Or.inl rfl))
      (pss_one (ps_set (i := 2) sc_place.nd rfl (Or.inr rfl) (pe_call G_divisor (hr.mono (by omega)) rfl T.m_divisor T.F_divisor.kp T.b_divisor .nil pass0 (pa_cons (pv 2) (pa_cons (pv 3) pa_nil)))))))
      (pss_cons (ps_if (pt_cmpR op_lt (pv 1) pe_int (nomark _))
      (pss_one (ps_set (i := 2) sc_place.nd rfl (Or.inr rfl) (pe_un un_neg (pv 2))))
      pss_nil)
      (pss_one (ps_ret (pe_tup (pa_cons (pe_callTy call_tupB rfl T.z_tuple (by decide +kernel) (pa_cons (pe_compG (xs := ["top"]) (fr := [("common", 2)]) (g := (gName 0)) (tt := (tEl (tOp (rI CDivB fun i j => .int (i.fdiv j)) (tVar 0) (tVar 1)))) (compG_ok (sc := defScope s_place) (N := N_place) rfl rfl (by decide +kernel)) rfl (pi_seq (pv 0)) (fun _ _ _ hE1 => (pg_own (N := ["top", "common"]) (i := 0) hE1 rfl (by decide +kernel))) (fun _ _ _ hE1 => (po_el (pe_op op_fdivB (pv 0) (pv 1))))) pa_nil)) (pa_cons (pe_op op_fdivB (pv 1) (pv 2)) pa_nil)))))))))), ?_⟩
    show tSeq _ _ _ [some (.ref a), some (.int u), none, none] H
    refine st fun N1 e1 => ?_
    simp only [tRaise]
    walk_at "rd2"
    refine ite2 (fun z => ⟨by decide, hE (.inl (of_decide_eq_true z))⟩) (fun z => ?_)
    have hu : u ≠ 0 := fun q => z (decide_eq_true q)
    subst e1
    refine st fun N1 e1 => ?_
    simp only [tRaise]
    walk_at "rd2"
    refine ints_len hS ?_
    walk_at "rd2"
    refine ite2 (fun z => ⟨by decide, hE (.inr ?_)⟩) (fun z => ?_)
    · have := of_decide_eq_true z
      exact List.eq_nil_of_length_eq_zero (by omega)
    have hne : ns ≠ [] := fun q => z (decide_eq_true (by rw [q]; rfl))
    subst e1
    refine st fun N1 e1 => ?_
    walk_at "rd2"
    subst e1
    refine st fun N1 e1 => for_st fun B eB => ?_
    simp only [iSeq]
    walk_at "rd2"
    refine ⟨b, ⟨_, hS⟩, ?_⟩
    refine fr_seq (g := gName 3) (tb := B) (fun i σ H1 => ∃ v3, σ = [some (.ref a), some (.int u), some (.int (gl u (ns.take i))), v3] ∧ H1 = H) ⟨_, rfl, rfl⟩ (fun i σ H1 _ ⟨_, _, e⟩ => e ▸ hS) ?_ ?_
    · rintro i x σ H1 hi ⟨v3, rfl, rfl⟩
      obtain ⟨n, hn, rfl⟩ := ints_at hi
      subst eB
      walk_at "rd2"
      simp only [rd_gcd]
      rw [take_snoc hn, gl_snoc]
      first | trivial | exact ⟨_, rfl, rfl⟩
    · rintro σ H1 ⟨v3, rfl, rfl⟩
      rw [List.length_map, List.take_length]
      subst e1
      refine st fun N2 e2 => ?_
      have key2 : N2 [some (.ref a), some (.int u), some (.int (cs u ns)), v3] H1 := by
        subst e2
        have sc1 : small (cs u ns) := small_dvd su hu (cs_dvd (gl_u u ns))
        have hd : ∀ x, CDivB x (cs u ns) := fun x => ⟨cs_ne ns hu, small_log sc1 (cs_ne ns hu)⟩
        walk_at "rd2"
        refine compE_st fun B eB => ?_
        simp only [iSeq]
        walk_at "rd2"
        refine ⟨b, ⟨_, hS⟩, fun a1 ha1 => cg_seq (fun j y _ => ∃ n, ns[j]? = some n ∧ y = .int (n.fdiv (cs u ns))) ha1 hS (by rw [List.length_map]; omega) (fun _ _ _ _ r _ => r) ?_ ?_⟩
        · intro i x H2 zs hx _ _ Q' hQ'
          obtain ⟨n, hn, rfl⟩ := ints_at hx
          subst eB
          show tOp _ _ _ [some (.int n), some (.int (cs u ns))] H2 Q'
          walk_at "rd2"
          exact ⟨hd n, hQ' _ H2 (Same.refl _) ⟨n, hn, rfl⟩⟩
        · intro H2 ys s1 e1 hly hr2
          have ey : ys = (redT u ns).map V.int := by
            unfold redT
            rw [List.map_map]
            exact list_is (by simpa using hly) hr2
          subst ey
          refine ⟨a1, _, rfl, .inl ⟨SqL.of e1, fun l hl1 => ?_⟩⟩
          walk_at "rd2"
          refine ⟨hd u, (by show 2 ≤ sizeLine; decide), fun p hp => hQ hu hne p _ ((s1.trans (Same.new hl1)).trans (Same.new hp)) ⟨l, upd_same, ?_⟩⟩
          rw [upd_ne (ne_of_none upd_same hp)]
          exact upd_same
      walk_at "rd2"
      unfold cs at key2
      refine ite2 (fun z => ?_) (fun z => ?_)
      · rw [if_pos (of_decide_eq_true z)] at key2
        exact key2
      · rw [if_neg (fun q => z (decide_eq_true q))] at key2
        exact key2
theorem place_ix0 {H : Hp} {p : Addr} {ns : List Int} {u : Int} {Q : VK} (h : PlaceAt H p ns u) (q : ∀ x, H x = some (.tup (ns.map V.int)) → Q (.ref x) H) : rIxB K (.ref p) (.int 0) H Q := let ⟨x, h1, h2⟩ := h; ⟨true, p, _, _, _, rfl, rfl, SqB.tup h1, rfl, q x h2⟩
theorem place_ix1 {H : Hp} {p : Addr} {ns : List Int} {u : Int} {Q : VK} (h : PlaceAt H p ns u) (q : Q (.int u) H) : rIxB K (.ref p) (.int 1) H Q := let ⟨x, h1, h2⟩ := h; ⟨true, p, _, _, _, rfl, rfl, SqB.tup h1, rfl, q⟩
theorem ok_without (T : Txt K mg t) : FnOk P w K mg base CX0 1 t.a_without t.d_without ["rows", "i", "k"] (sp_without K) := by
  refine T.F_without.ok sc_without (fun vs H Q E h => ?_) (fun cdv A outer s H vs Q E hr h => ?_)
  · obtain ⟨b1, b2, a, rows, i, k, w, rfl, _⟩ := h
    rfl
  · obtain ⟨b1, b2, a, rows, i0, k, w, rfl, hM, hw, hk, hw1, hl1, hQ⟩ := h
    refine ⟨_, (pss_one (ps_ret (pe_compG (xs := ["at", "row"]) (fr := [("i", 1), ("k", 2)]) (g := (gTup K 2 (gCons (gName 0) (gCons (gName 1) gNil)))) (tt := (tElIf (tTest (tOp (rI0 fun i j => .bl (!decide (i = j))) (tVar 0) (tVar 2))) (tOp rCat (tCB (rListB K) (tCons (tSl (rSlB K) (tVar 1) tNoPart (tPart (tVar 3))) tNil)) (tCB (rListB K) (tCons (tSl (rSlB K) (tVar 1) (tPart (tOp (rI0 fun i j => .int (i + j)) (tVar 3) (tC (.int 1)))) tNoPart) tNil))))) (compG_ok (sc := defScope s_without) (N := N_without) rfl rfl (by decide +kernel)) rfl (pi_enum rfl T.z_enumerate (pa_cons (pv 0) pa_nil)) (fun _ _ _ hE1 => (pg_tup rfl (pgs_cons (pg_own (N := ["at", "row", "i", "k"]) (i := 0) hE1 rfl (by decide +kernel)) (pgs_cons (pg_own (N := ["at", "row", "i", "k"]) (i := 1) hE1 rfl (by decide +kernel)) pgs_nil)))) (fun _ _ _ hE1 => (po_if (pt_cmpR op_neZ (pv 0) (pv 2) (nomark _)) (pe_op op_cat (pe_callTy call_listB rfl T.z_list (by decide +kernel) (pa_cons (pe_slice sl_B (pv 1) po_none (po_some (pv 3))) pa_nil)) (pe_callTy call_listB rfl T.z_list (by decide +kernel) (pa_cons (pe_slice sl_B (pv 1) (po_some (pe_op op_add (pv 3) pe_int)) po_none) pa_nil)))))))), ?_⟩
    show tRet _ _ [some (.ref a), some (.int i0), some (.int k)] H
    walk_at "rd2"
    refine compI_st fun C0 B0 eC eB => ?_
    simp only [iEnum]
    walk_at "rd2"
    obtain ⟨xs, x1, x2, x3⟩ := hM.walk
    refine ⟨b1, ⟨_, x1⟩, fun a1 ha1 => ?_⟩
    refine cg_enumI (fun t zs H1 => RefRows a1 H1 zs (((rows.take t).eraseIdx i0).map fun (r : List Int) => r.eraseIdx k)) ha1 x1 (by omega) RefRows.nil ?_ (fun _ _ _ _ r s => r.mono s) ?_ ?_
    · intro i zs H1 p
      rw [p.len, List.length_map, List.length_eraseIdx]
      have := List.length_take_le i rows
      split <;> omega
    · intro i x H1 zs ex s1 ez p C hC1 hC2
      obtain ⟨q0, r, rfl, er, hp⟩ := x3 i x ex
      have hrw : r.length = w := hw r (List.mem_of_getElem? er)
      replace hp := hp.up s1
      rw [erase_take er] at hC1 hC2
      subst eC eB
      show tElIf _ _ [some (.int i), some (.ref q0), some (.int i0), some (.int k)] H1 C
      simp only [tElIf]
      walk_at "rd2"
      by_cases z : i = i0
      · subst z
        rw [if_pos rfl] at hC2
        rw [decide_eq_true rfl]
        exact hC2 H1 (Same.refl _) p
      · rw [if_neg z] at hC1
        rw [decide_eq_false (show ¬ (i : Int) = i0 by omega)]
        refine iteT ?_
        refine ⟨b2, q0, _, rfl, hp, fun _ => by rw [List.length_map, HT.sIx_none, HT.sIx_nat]; omega, fun q1 hq1 => ?_⟩
        have sq1 : SqB b2 K (upd H1 q1 (seqO b2 (cutV (r.map V.int) none (some (k : Int))))) q1 (cutV (r.map V.int) none (some (k : Int))) := SqB.cut
        have s2 : Same H1 (upd H1 q1 (seqO b2 (cutV (r.map V.int) none (some (k : Int))))) := Same.new hq1
        generalize upd H1 q1 _ = H2 at sq1 s2
        rw [cut_to (by omega)] at sq1
        refine ⟨b2, q1, _, rfl, sq1, fun q2 hq2 => ?_⟩
        have e2 : (upd H2 q2 (.lst ((r.take k).map V.int))) q2 = some (.lst ((r.take k).map V.int)) := upd_same
        have s3 : Same H2 (upd H2 q2 (.lst ((r.take k).map V.int))) := Same.new hq2
        generalize upd H2 q2 _ = H3 at e2 s3
        refine ⟨b2, q0, _, rfl, (hp.up s2).up s3, fun _ => by rw [List.length_map, HT.sIx_none, show (k : Int) + 1 = ((k + 1 : Nat) : Int) by omega, HT.sIx_nat]; omega, fun q3 hq3 => ?_⟩
        have sq3 : SqB b2 K (upd H3 q3 (seqO b2 (cutV (r.map V.int) (some ((k : Int) + 1)) none))) q3 (cutV (r.map V.int) (some ((k : Int) + 1)) none) := SqB.cut
        have s4 : Same H3 (upd H3 q3 (seqO b2 (cutV (r.map V.int) (some ((k : Int) + 1)) none))) := Same.new hq3
        generalize upd H3 q3 _ = H4 at sq3 s4
        rw [show (k : Int) + 1 = ((k + 1 : Nat) : Int) by omega, cut_from (by omega)] at sq3
        refine ⟨b2, q3, _, rfl, sq3, fun q4 hq4 => ?_⟩
        have s5 : Same H4 (upd H4 q4 (.lst ((r.drop (k + 1)).map V.int))) := Same.new hq4
        have e4 : (upd H4 q4 (.lst ((r.drop (k + 1)).map V.int))) q4 = some (.lst ((r.drop (k + 1)).map V.int)) := upd_same
        generalize upd H4 q4 _ = H5 at e4 s5
        refine ⟨q2, q4, _, _, rfl, rfl, s5 _ _ (s4 _ _ e2), e4, by rw [List.length_map, List.length_map, List.length_take, List.length_drop]; exact Nat.le_of_lt (small1000 (by omega)), fun q5 hq5 => ?_⟩
        have s15 : Same H1 (upd H5 q5 (.lst ((r.take k).map V.int ++ (r.drop (k + 1)).map V.int))) := (((s2.trans s3).trans s4).trans s5).trans (Same.new hq5)
        refine hC1 _ _ s15 ?_
        rw [List.map_append]
        refine (p.mono s15.x).snoc (fun e => ?_) ?_
        · subst e
          rw [s5 _ _ (s4 _ _ (s3 _ _ (s2 _ _ ez)))] at hq5
          cases hq5
        · rw [upd_same]; dsimp only; rw [List.eraseIdx_eq_take_drop_succ, List.map_append]
    · intro H1 ys s1 e1 p
      rw [x2, List.take_length] at p
      exact hQ a1 H1 ha1 s1 (RefRows.mat e1 p)
theorem ok_determinant (T : Txt K mg t) : ∀ n : Nat, FnOk P w K mg base CX0 (n + 1) t.a_determinant t.d_determinant ["rows"] (sp_determinant K n)
  | 0 => ⟨fun _ _ _ _ h => h.elim, fun _ _ _ _ _ _ _ _ _ _ _ _ _ h => h.elim⟩
  | n + 1 => by
    have G_determinant : FnOk P w K mg base CX0 (n + 1) t.a_determinant t.d_determinant ["rows"] (sp_determinant K n) := ok_determinant T n
    have G_without : FnOk P w K mg base CX0 1 t.a_without t.d_without ["rows", "i", "k"] (sp_without K) := ok_without T
    refine T.F_determinant.ok sc_determinant (fun vs H Q E h => ?_) (fun cdv A outer s H vs Q E hr h => ?_)
    · obtain ⟨b1, b2, a, rows, B, rfl, _⟩ := h
      rfl
    · obtain ⟨b1, b2, a, rows, B, rfl, hM, hs, hn, hb, hB, hQ⟩ := h
      refine ⟨_, (pss_cons (ps_if (pt_cmpR op_eqZ (pe_callB call_lenB rfl T.z_len (by decide +kernel) (pa_cons (pv 0) pa_nil)) pe_int (nomark _))
      (pss_one (ps_ret (pe_ix ix_B (pe_ix ix_B (pv 0) pe_int (fun _ _ => rfl)) pe_int (fun _ _ => rfl))))
      pss_nil)
      (pss_cons (ps_set (i := 1) sc_determinant.nd rfl (Or.inl rfl) pe_int)
      (pss_cons (ps_set (i := 2) sc_determinant.nd rfl (Or.inl rfl) pe_int)
      (pss_cons (ps_for PassesOwn.never rfl (pi_enum rfl T.z_enumerate (pa_cons (pe_ix ix_B (pv 0) pe_int (fun _ _ => rfl)) pa_nil)) (pg_tup rfl (pgs_cons (pg_name (i := 3) sc_determinant.nd rfl (Or.inl rfl)) (pgs_cons (pg_name (i := 4) sc_determinant.nd rfl (Or.inl rfl)) pgs_nil)))
      (pss_cons (ps_if (pt_cmpR op_neZ (pv 4) pe_int (nomark _))
      (pss_one (ps_aug (i := 1) sc_determinant.nd rfl (Or.inl rfl) (pe_op op_mulB (pe_op op_mulB (pv 2) (pv 4)) (pe_call G_determinant (hr.mono (by omega)) rfl T.m_determinant T.F_determinant.kp T.b_determinant .nil pass0 (pa_cons (pe_call G_without (hr.mono (by omega)) rfl T.m_without T.F_without.kp T.b_without .nil pass0 (pa_cons (pv 0) (pa_cons pe_int (pa_cons (pv 3) pa_nil)))) pa_nil))) ip_add))
      pss_nil)
      (pss_one (ps_set (i := 2) sc_determinant.nd rfl (Or.inl rfl) (pe_un un_neg (pv 2))))))
      (pss_one (ps_ret (pv 1))))))), ?_⟩
      show tSeq _ _ _ [some (.ref a), none, none, none, none] H
      obtain ⟨e0, m0⟩ := row0 hs
      have hl0 : (rows.getD 0 []).length = n + 1 := hs.2 _ m0
      refine st fun N1 e1 => ?_
      walk_at "rd2"
      refine mat_len hM ?_
      walk_at "rd2"
      rw [hs.1]
      by_cases z : n = 0
      · subst z
        rw [decide_eq_true (by rfl)]
        exact iteT (mat_ix hM e0 (getD_at (k := 0) (by omega)) rfl rfl (hQ H (Same.refl _)))
      · rw [decide_eq_false (show ¬ ((n + 1 : Nat) : Int) = 1 by omega)]
        refine iteF ?_
        obtain ⟨n, rfl⟩ : ∃ m, n = m + 1 := ⟨n - 1, by omega⟩
        subst e1
        refine st fun N1 e1 => ?_
        walk_at "rd2"
        subst e1
        refine st fun N1 e1 => ?_
        walk_at "rd2"
        subst e1
        refine st fun N1 e1 => for_st fun B0 eB => ?_
        simp only [iEnum]
        walk_at "rd2"
        refine mat_row hM e0 rfl fun p hp => ⟨b2, _, rfl, ⟨_, hp⟩, ?_⟩
        generalize hf : (fun k => (rows.getD 0 []).getD k 0 * detM (n + 1) (minorM 0 k rows)) = f
        refine fr_enum (nx := N1) (rt := Q) (fun k σ H1 => ∃ v3 v4, σ = [some (.ref a), some (.int (altS f k)), some (.int (sg k)), v3, v4] ∧ Same H H1) ⟨_, _, rfl, Same.refl _⟩ (fun _ _ _ _ ⟨_, _, _, s1⟩ => hp.up s1) ?_ ?_
        · rintro k x q σ H1 ex ⟨v3, v4, rfl, s1⟩ hq
          obtain ⟨x, ex', rfl⟩ := ints_at ex
          have hk : k < n + 2 := by have := (List.getElem?_eq_some_iff.mp ex').1; omega
          refine ⟨q, [.int k, .int x], rfl, SqT.of upd_same, rfl, _, _, rfl, _, _, rfl, rfl, ?_⟩
          replace s1 := s1.trans (Same.new (o := .tup [.int k, .int x]) hq)
          generalize upd H1 q (.tup [.int k, .int x]) = H2 at s1
          subst eB
          show tSeq _ _ _ [some (.ref a), some (.int (altS f k)), some (.int (sg k)), some (.int k), some (.int x)] H2
          refine st fun N2 e2 => ?_
          have key : ∀ H3 (tot : Int), Same H H3 → tot = altS f (k + 1) → N2 [some (.ref a), some (.int tot), some (.int (sg k)), some (.int k), some (.int x)] H3 := by
            intro H3 tot s3 et
            subst e2 et
            walk_at "rd2"
            rw [sg_succ]
            exact ⟨rfl, s3⟩
          walk_at "rd2"
          have hx0 : (rows.getD 0 []).getD k 0 = x := getD_of ex'
          have hfk : f k = x * detM (n + 1) (minorM 0 k rows) := by rw [← hf]; dsimp only; rw [hx0]
          have hsm := hs.minor (i := 0) (k := k) (by omega) hk
          have hbm : BitsM B (minorM 0 k rows) := hb.minor
          by_cases zx : x = 0
          · rw [decide_eq_true zx]
            refine iteF (key H2 _ s1 ?_)
            show _ = altS f k + sg k * f k
            rw [hfk, zx]
            simp
          · rw [decide_eq_false zx]
            refine iteT ?_
            simp only [tAug, ipI]
            walk_at "rd2"
            refine ⟨IntMulOk.of_left (by unfold sg; split <;> decide), b1, b2, a, rows, 0, k, _, rfl, hM.up s1, hs.2, hk, by omega, by rw [hs.1]; omega, fun r H3 _ s3 hR => ?_⟩
            refine ⟨false, false, r, _, B, rfl, hR.b, hsm, by omega, hbm, hB, fun H4 s4 => ?_⟩
            walk_at "rd2"
            have hxb := hb _ m0 x (by rw [← hx0]; exact L2.getD_mem (by omega))
            have hdb := det_abs (n + 1) _ (by omega) (by omega) hsm hbm
            refine ⟨PyProof.Rows.mulOk_of_bits (m := B + 1) (n := (n + 1) * (B + 2) + 1) (bits_of ?_) (bits_of ?_) ?_, ?_⟩
            · rw [Int.natAbs_mul, sg_abs, Nat.one_mul, Nat.pow_succ]; omega
            · rw [Nat.pow_succ]; have := Nat.two_pow_pos ((n + 1) * (B + 2)); omega
            · have : (n + 1) * (B + 2) ≤ 4 * 1000002 := Nat.mul_le_mul (by omega) (by omega)
              omega
            · refine key H4 _ ((s1.trans s3).trans s4) ?_
              show _ = altS f k + sg k * f k
              rw [hfk, Int.mul_assoc]
        · rintro σ H1 ⟨v3, v4, rfl, s1⟩
          subst e1
          walk_at "rd2"
          rw [List.length_map, hl0]
          have : altS f (n + 2) = detM (n + 2) rows := by rw [← hf]; rfl
          rw [this]
          exact hQ H1 s1

theorem deed_ix0 {H : Hp} {p : Addr} {M : List (List Int)} {ts : List Int} {u : Int} {Q : VK} (h : DeedAt K H p M ts u) (q : ∀ x, MatB true true K H x M → Q (.ref x) H) : rIxB K (.ref p) (.int 0) H Q := let ⟨x, y, h1, h2, h3⟩ := h; ⟨true, p, _, _, _, rfl, rfl, SqB.tup h1, rfl, q x h2⟩
theorem deed_ix1 {H : Hp} {p : Addr} {M : List (List Int)} {ts : List Int} {u : Int} {Q : VK} (h : DeedAt K H p M ts u) (q : ∀ x, H x = some (.tup (ts.map V.int)) → Q (.ref x) H) : rIxB K (.ref p) (.int 1) H Q := let ⟨x, y, h1, h2, h3⟩ := h; ⟨true, p, _, _, _, rfl, rfl, SqB.tup h1, rfl, q y h3⟩
theorem deed_ix2 {H : Hp} {p : Addr} {M : List (List Int)} {ts : List Int} {u : Int} {Q : VK} (h : DeedAt K H p M ts u) (q : Q (.int u) H) : rIxB K (.ref p) (.int 2) H Q := let ⟨x, y, h1, h2, h3⟩ := h; ⟨true, p, _, _, _, rfl, rfl, SqB.tup h1, rfl, q⟩
theorem copy_tupB {H : Hp} {a a1 : Addr} {M : List (List Int)} {σ : St} {Q : VK} {b1 b2 : Bool} (hM : MatB b1 b2 K H a M) (hl : M.length ≤ 1000) (ha1 : H a1 = none)
    (hQ : ∀ H1 zs, Same H H1 → H1 a1 = some (.lst zs) → (∀ l, H1 l = none → MatB true true K (upd H1 l (.tup zs)) l M) → Q (.ref a1) H1) : CompWG (Its K b1 a) (gName 0) (tEl (tCB (rTupB K) (tCons (tVar 0) tNil))) 1 [] σ a1 H Q := by
  cases b2 with
  | false =>
    refine copy_tup hM hl ha1 fun H1 s1 hT => ?_
    obtain ⟨zs, hz, _⟩ := id hT
    refine hQ H1 _ s1 hz fun l hl1 => ?_
    obtain ⟨zs', hz', hB⟩ := hT.tuple (K := K) hl1
    rw [hz] at hz'
    cases hz'
    exact hB
  | true =>
    obtain ⟨xs, x1, x2, x3⟩ := hM.walk
    refine cg_seq (fun j y _ => ∃ p r, y = .ref p ∧ M[j]? = some r ∧ SqB true K H p (r.map V.int)) ha1 x1 (by omega) (fun _ _ _ _ r _ => r) ?_ ?_
    · intro i x H1 zs ex s1 ez Q' hQ'
      obtain ⟨p, r, rfl, er, hp⟩ := x3 i x ex
      exact ⟨_, rfl, p, _, rfl, .inr ⟨hp.up s1, hQ' _ _ (Same.refl _) ⟨p, r, rfl, er, hp⟩⟩⟩
    · intro H1 ys s1 e1 hly hr1
      have hps : ∃ ps : List Addr, ys = ps.map V.ref := by
        clear e1 hly
        have : ∀ (zs : List V), (∀ (j : Nat) y, zs[j]? = some y → ∃ p : Addr, y = .ref p) → ∃ ps : List Addr, zs = ps.map V.ref := by
          intro zs
          induction zs with
          | nil => intro _; exact ⟨[], rfl⟩
          | cons z r ih =>
            intro hz
            obtain ⟨p, e⟩ := hz 0 z rfl
            obtain ⟨ps, e2⟩ := ih fun j y q => hz (j + 1) y (by simpa using q)
            exact ⟨p :: ps, by rw [e, e2]; rfl⟩
        exact this ys fun j y e => let ⟨p, r, e1, _⟩ := hr1 j y e; ⟨p, e1⟩
      obtain ⟨ps, rfl⟩ := hps
      refine hQ H1 _ s1 e1 fun l hl1 => ⟨ps, SqB.tup upd_same, by simp at hly; omega, fun i p r e2 e3 => ?_⟩
      obtain ⟨p', r', e4, e5, e6⟩ := hr1 i (.ref p) (by simp [e2])
      cases e4
      rw [e3] at e5
      cases e5
      exact e6.up (s1.trans (Same.new hl1))
theorem ok_joined (T : Txt K mg t) : FnOk P w K mg base CX0 1 t.a_joined t.d_joined ["rows", "spot"] (sp_joined K) := by
  refine T.F_joined.ok sc_joined (fun vs H Q E h => ?_) (fun cdv A outer s H vs Q E hr h => ?_)
  · obtain ⟨b1, b2, a, p, M, ts, u, rfl, _⟩ := h
    rfl
  · obtain ⟨b1, b2, a, p, M, ts, u, rfl, hM, hP, hl, hQ⟩ := h
    refine ⟨_, (pss_one (ps_ret (pe_tup (pa_cons (pe_callTy call_tupB rfl T.z_tuple (by decide +kernel) (pa_cons (pe_compG (xs := ["row"]) (fr := []) (g := (gName 0)) (tt := (tEl (tCB (rTupB K) (tCons (tVar 0) tNil)))) (compG_ok (sc := defScope s_joined) (N := N_joined) rfl rfl (by decide +kernel)) rfl (pi_seq (pv 0)) (fun _ _ _ hE1 => (pg_own (N := ["row"]) (i := 0) hE1 rfl (by decide +kernel))) (fun _ _ _ hE1 => (po_el (pe_callTy call_tupB rfl T.z_tuple (by decide +kernel) (pa_cons (pv 0) pa_nil))))) pa_nil)) (pa_cons (pe_ix ix_B (pv 1) pe_int (fun _ _ => rfl)) (pa_cons (pe_ix ix_B (pv 1) pe_int (fun _ _ => rfl)) pa_nil)))))), ?_⟩
    show tRet _ _ [some (.ref a), some (.ref p)] H
    walk_at "rd2"
    refine compE_st fun B eB => ?_
    simp only [iSeq]
    walk_at "rd2"
    obtain ⟨xs, x1, _⟩ := hM.walk
    refine ⟨b1, ⟨_, x1⟩, fun a1 ha1 => ?_⟩
    subst eB
    refine copy_tupB hM (by omega) ha1 fun H1 zs s1 hz hB => ?_
    refine ⟨a1, _, rfl, .inl ⟨SqL.of hz, fun l hl1 => ?_⟩⟩
    have s2 : Same H (upd H1 l (.tup zs)) := s1.trans (Same.new hl1)
    replace hB := hB l hl1
    generalize upd H1 l (.tup zs) = H2 at s2 hB
    refine place_ix0 (hP.up s2) fun x hx => place_ix1 (hP.up s2) ⟨(by show 3 ≤ sizeLine; decide), fun q hq => hQ q _ (s2.trans (Same.new hq)) ⟨l, x, upd_same, hB.up (Same.new hq), Same.new hq _ _ hx⟩⟩
noncomputable def GoodDeed (rows : List (List Int)) (tops : List Int) (u : Int) : Prop := (rows.length = 2 ∨ rows.length = 3) ∧ (∀ r ∈ rows, r.length = rows.length) ∧ tops.length = rows.length ∧ u ≠ 0 ∧ (detM rows.length rows = 1 ∨ detM rows.length rows = -1)
noncomputable def sp_deed (K : PySem.W.Frag) (C : Addr) : Sp := fun vs H Q E => ∃ (b1 b2 b3 : Bool) (a p : Addr) (rows : List (List Int)) (tops : List Int) (u : Int) (B : Nat), vs = [.ref a, .ref p, .int u] ∧ MatB b1 b2 K H a rows ∧ SqB b3 K H p (tops.map V.int) ∧ rows.length ≤ 100 ∧ tops.length ≤ 100 ∧ BitsM B rows ∧ B ≤ 1000000 ∧ small u ∧
  (¬ GoodDeed rows tops u → ∀ H', Same H H' → E (.ref C) none H') ∧ (GoodDeed rows tops u → ∀ q H', Same H H' → DeedAt K H' q rows (redT u tops) (redU u tops) → Q (.ref q) H')
theorem inV2 (L x y : Int) : inV (.int L) [.int x, .int y] = decide (L = x ∨ L = y) := by
  have e : inV (.int L) [.int x, .int y] = (eqV (.int x) (.int L) || (eqV (.int y) (.int L) || false)) := rfl
  have f : ∀ a b : Int, eqV (.int a) (.int b) = decide (a = b) := fun a b => by
    first | rfl | (unfold eqV; rfl) | (simp only [eqV]; by_cases h : a = b <;> simp [h])
  rw [e, f, f, Bool.or_false]
  by_cases h1 : x = L
  · rw [decide_eq_true h1, decide_eq_true (p := L = x ∨ L = y) (Or.inl h1.symm)]; rfl
  · rw [decide_eq_false h1]
    by_cases h2 : y = L
    · rw [decide_eq_true h2, decide_eq_true (p := L = x ∨ L = y) (Or.inr h2.symm)]; rfl
    · rw [decide_eq_false h2, decide_eq_false (p := L = x ∨ L = y) (by omega)]; rfl
theorem sp_det_mk {H : Hp} {Q : VK} {E : XK} {b1 b2 : Bool} {a : Addr} {rows : List (List Int)} {n B : Nat} (h1 : 1 ≤ n) (h3 : n ≤ 4) (hM : MatB b1 b2 K H a rows) (sq : Sq n rows) (hb : BitsM B rows) (hB : B ≤ 1000000) (q : ∀ H', Same H H' → Q (.int (detM n rows)) H') : sp_determinant K n [.ref a] H Q E := by
  match n, h1, h3, sq, q with
  | m + 1, _, h3, sq, q => exact ⟨b1, b2, a, rows, B, rfl, hM, sq, by omega, hb, hB, q⟩
theorem ok_deed (T : Txt K mg t) : FnOk P w K mg base (CX1 P w) 6 t.a_deed t.d_deed ["rows", "tops", "under"] (sp_deed K t.a_NoDeed) := by
  have G_place : FnOk P w K mg base (CX1 P w) 2 t.a_place t.d_place ["tops", "under"] (sp_place K t.a_NoPlace) := ok_place T
  have G_joined : FnOk P w K mg base CX0 1 t.a_joined t.d_joined ["rows", "spot"] (sp_joined K) := ok_joined T
  refine T.F_deed.okX sc_deed (fun vs H Q E h => ?_) (fun cdv A outer s H vs Q E hr h => ?_)
  · obtain ⟨b1, b2, b3, a, p, rows, tops, u, B, rfl, _⟩ := h
    rfl
  · obtain ⟨b1, b2, b3, a, p, rows, tops, u, B, rfl, hM, hS, hl1, hl2, hB, hB1, su, hE, hQ⟩ := h
    obtain ⟨n, hn3, hn⟩ : ∃ n : Nat, n ≤ 3 ∧ ((rows.length = 2 ∨ rows.length = 3) → n = rows.length) := by
      by_cases z : rows.length = 2 ∨ rows.length = 3
      · exact ⟨rows.length, by omega, fun _ => rfl⟩
      · exact ⟨0, by omega, fun h => absurd h z⟩
    have G_determinant : FnOk P w K mg base CX0 (n + 1) t.a_determinant t.d_determinant ["rows"] (sp_determinant K n) := ok_determinant T n
    refine ⟨_, (pss_cons (ps_set (i := 3) sc_deed.nd rfl (Or.inr rfl) (pe_callB call_lenB rfl T.z_len (by decide +kernel) (pa_cons (pv 0) pa_nil)))
      (pss_cons (ps_if (pt_cmpR op_notIn_seq (pv 3) (pe_tup (pa_cons pe_int (pa_cons pe_int pa_nil))) rfl)
      (pss_one (ps_raise rfl landsN_def rfl T.m_NoDeed T.x_NoDeed PySem.F.excBase_ValueError (pa_cons pe_str pa_nil)))
      pss_nil)
      (pss_cons (ps_if (PW.pt (pw_or (pt_val (pe_callB (call_any rfl) rfl T.z_any (by decide +kernel) (pa_cons (pe_compG (xs := ["row"]) (fr := [("axes", 3)]) (g := (gName 0)) (tt := (tEl (tOp (rI0 fun i j => .bl (!decide (i = j))) (tCB (rLenB K) (tCons (tVar 0) tNil)) (tVar 1)))) (compG_ok (sc := defScope s_deed) (N := N_deed) rfl rfl (by decide +kernel)) rfl (pi_seq (pv 0)) (fun _ _ _ hE1 => (pg_own (N := ["row", "axes"]) (i := 0) hE1 rfl (by decide +kernel))) (fun _ _ _ hE1 => (po_el (pe_cmpR op_neZ (pe_callB call_lenB rfl T.z_len (by decide +kernel) (pa_cons (pv 0) pa_nil)) (pv 1) (nomark _))))) pa_nil))) (pw_or1 (pt_cmpR op_neZ (pe_callB call_lenB rfl T.z_len (by decide +kernel) (pa_cons (pv 1) pa_nil)) (pv 3) (nomark _)))))
      (pss_one (ps_raise rfl landsN_def rfl T.m_NoDeed T.x_NoDeed PySem.F.excBase_ValueError (pa_cons pe_str pa_nil)))
      pss_nil)
      (pss_cons (ps_if (pt_cmpR op_eqZ (pv 2) pe_int (nomark _))
      (pss_one (ps_raise rfl landsN_def rfl T.m_NoDeed T.x_NoDeed PySem.F.excBase_ValueError (pa_cons pe_str pa_nil)))
      pss_nil)
      (pss_cons (ps_if (pt_cmpR op_notIn_seq (pe_call G_determinant (hr.mono (by omega)) rfl T.m_determinant T.F_determinant.kp T.b_determinant .nil pass0 (pa_cons (pv 0) pa_nil)) (pe_tup (pa_cons pe_int (pa_cons (pe_un un_neg pe_int) pa_nil))) rfl)
      (pss_one (ps_raise rfl landsN_def rfl T.m_NoDeed T.x_NoDeed PySem.F.excBase_ValueError (pa_cons pe_str pa_nil)))
      pss_nil)
      (pss_one (ps_ret (pe_call G_joined (hr.mono (by omega)) rfl T.m_joined T.F_joined.kp T.b_joined .nil pass0 (pa_cons (pv 0) (pa_cons (pe_call G_place (hr.mono (by omega)) rfl T.m_place T.F_place.kp T.b_place .nil passes1 (pa_cons (pv 1) (pa_cons (pv 2) pa_nil))) pa_nil)))))))))), ?_⟩
    show tSeq _ _ _ [some (.ref a), some (.ref p), some (.int u), none] H
    refine st fun N1 e1 => ?_
    walk_at "rd2"
    refine mat_len hM ?_
    subst e1
    refine st fun N1 e1 => ?_
    simp only [tRaise]
    walk_at "rd2"
    refine ⟨by show 2 ≤ sizeLine; decide, fun p1 hp1 => ?_⟩
    have s1 : Same H (upd H p1 (.tup [.int 2, .int 3])) := Same.new hp1
    refine ⟨p1, _, rfl, .inr (SqT.of upd_same), rfl, rfl, _, rfl, ?_⟩
    generalize upd H p1 (.tup [.int 2, .int 3]) = H1 at s1
    rw [inV2]
    by_cases hax : rows.length = 2 ∨ rows.length = 3
    case neg =>
      rw [decide_eq_false (by omega)]
      refine iteT ?_
      simp only [tRaise]
      walk_at "rd2"
      exact ⟨by decide, hE (fun g => hax g.1) _ s1⟩
    rw [decide_eq_true (by omega)]
    refine iteF ?_
    replace hn := hn hax
    subst hn
    subst e1
    refine st fun N1 e1 => ?_
    walk_at "rd2"
    refine compE_st fun C eC => ?_
    simp only [iSeq]
    walk_at "rd2"
    obtain ⟨xs, x1, x2, x3⟩ := (hM.up s1).walk
    refine ⟨b1, ⟨_, x1⟩, fun a1 ha1 => ?_⟩
    refine cg_seq (fun j y _ => ∃ r, rows[j]? = some r ∧ y = .bl (!decide (r.length = rows.length))) ha1 x1 (by omega) (fun _ _ _ _ r _ => r) ?_ ?_
    · intro i x H2 zs ex s2 ez Q' hQ'
      obtain ⟨pr, rr, rfl, er, hp⟩ := x3 i x ex
      subst eC
      show tOp _ _ _ [some (.ref pr), some (.int rows.length)] H2 Q'
      walk_at "rd2"
      refine ints_len (hp.up s2) ?_
      try walk_at "rd2"
      refine hQ' _ _ (Same.refl _) ⟨rr, er, ?_⟩
      by_cases z : rr.length = rows.length
      · rw [decide_eq_true z, decide_eq_true (by omega)]
      · rw [decide_eq_false z, decide_eq_false (by omega)]
    · intro H2 ys s2 e2 hly hr2
      have ey : ys = (rows.map fun r => !decide (r.length = rows.length)).map V.bl := by
        rw [List.map_map]
        exact list_is (by omega) hr2
      subst ey
      refine ⟨a1, rfl, _, SqL.of e2, ?_⟩
      try walk_at "rd2"
      have s02 := s1.trans s2
      by_cases hsq : ∀ r ∈ rows, r.length = rows.length
      case neg =>
        have hany : (rows.map fun r => !decide (r.length = rows.length)).any id = true := by
          rw [List.any_eq_true]
          obtain ⟨r, hr⟩ := Classical.not_forall.mp hsq
          obtain ⟨hr1, hr2⟩ := Classical.not_imp.mp hr
          exact ⟨true, List.mem_map.mpr ⟨r, hr1, by rw [decide_eq_false hr2]; rfl⟩, rfl⟩
        rw [hany]
        refine iteT ?_
        simp only [tRaise]
        walk_at "rd2"
        exact ⟨by decide, hE (fun g => hsq g.2.1) _ s02⟩
      have hany : (rows.map fun r => !decide (r.length = rows.length)).any id = false := by
        rw [List.any_eq_false]
        intro b hb
        obtain ⟨r, hr, rfl⟩ := List.mem_map.mp hb
        rw [decide_eq_true (hsq r hr)]
        decide
      rw [hany]
      refine iteF ?_
      refine ints_len (hS.up s02) ?_
      try walk_at "rd2"
      by_cases htl : tops.length = rows.length
      case neg =>
        rw [decide_eq_false (by omega)]
        refine iteT ?_
        simp only [tRaise]
        walk_at "rd2"
        exact ⟨by decide, hE (fun g => htl g.2.2.1) _ s02⟩
      rw [decide_eq_true (by omega)]
      refine iteF ?_
      subst e1
      refine st fun N1 e1 => ?_
      simp only [tRaise]
      walk_at "rd2"
      refine ite2 (fun z => ⟨by decide, hE (fun g => g.2.2.2.1 (of_decide_eq_true z)) _ s02⟩) (fun z => ?_)
      have hu : u ≠ 0 := fun q => z (decide_eq_true q)
      subst e1
      refine st fun N1 e1 => ?_
      walk_at "rd2"
      refine sp_det_mk (by omega) (by omega) (hM.up s02) ⟨rfl, hsq⟩ hB hB1 fun H3 s3 => ?_
      try walk_at "rd2"
      refine ⟨by show 2 ≤ sizeLine; decide, fun p2 hp2 => ?_⟩
      have s4 : Same H3 (upd H3 p2 (.tup [.int 1, .int (-1)])) := Same.new hp2
      refine ⟨p2, _, rfl, .inr (SqT.of upd_same), rfl, rfl, _, rfl, ?_⟩
      generalize upd H3 p2 (.tup [.int 1, .int (-1)]) = H4 at s4
      have s04 := (s02.trans s3).trans s4
      rw [inV2]
      by_cases hdt : detM rows.length rows = 1 ∨ detM rows.length rows = -1
      case neg =>
        rw [decide_eq_false hdt]
        refine iteT ?_
        simp only [tRaise]
        walk_at "rd2"
        exact ⟨by decide, hE (fun g => hdt g.2.2.2.2) _ s04⟩
      rw [decide_eq_true hdt]
      refine iteF ?_
      subst e1
      walk_at "rd2"
      refine ⟨b3, p, tops, u, rfl, hS.up s04, hl2, su, fun z => ?_, fun _ _ sp H5 s5 hP => ⟨b1, b2, a, sp, rows, _, _, rfl, hM.up (s04.trans s5), hP, hl1, fun q H6 s6 hq => hQ ⟨hax, hsq, htl, hu, hdt⟩ q H6 ((s04.trans s5).trans s6) hq⟩⟩
      rcases z with z | z
      · exact absurd z hu
      · rw [z] at htl
        simp at htl
        omega
theorem small_one : small 1 := small_lt (B := 1) (by decide) (by decide)
section
open PySem.NumText
theorem dg_all (n : Nat) : AllDigits ((Nat.toDigits 10 n).map Char.toNat) := fun c hc => by
  obtain ⟨ch, hch, e⟩ := List.mem_map.mp hc
  have r := Nat.isDigit_of_mem_toDigits (by decide) (by decide) hch
  rw [← e]
  simp only [Char.isDigit, Bool.and_eq_true, decide_eq_true_eq, UInt32.le_iff_toNat_le] at r
  exact r
noncomputable def dec (n : Nat) : Str := Str.ofString (toString (n : Int))
theorem dec_cps (n : Nat) : (dec n).cps.toList = (Nat.toDigits 10 n).map Char.toNat := by
  unfold dec
  rw [show toString ((n : Nat) : Int) = toString (Int.ofNat n) from rfl, PyProof.Rows.text_ofNat]
theorem dec_len {n k : Nat} (hk : 1 ≤ k) (h : n < 10 ^ k) : (dec n).length ≤ k := by
  have : (dec n).length = (dec n).cps.toList.length := by simp [Str.length]
  rw [this, dec_cps, List.length_map]
  exact PyProof.Rows.digits10_le hk h
theorem val_back' (m : Nat) : digitsVal ((Nat.toDigits 10 m).map Char.toNat) = m := PySem.W.KIN.val_back m
theorem str_ext {x y : Str} (h : x.cps.toList = y.cps.toList) : x = y := by
  cases x; cases y
  congr 1
  exact Array.toList_inj.mp h
theorem dvs (x y : Int) (h1 : y ≠ 0) (h2 : y.natAbs < 1073741824) : CDivB x y := ⟨h1, Nat.lt_of_lt_of_le ((Nat.log2_lt (by omega)).mpr (show y.natAbs < 2 ^ 30 from h2)) (by decide)⟩
theorem len_app (x y : Str) : (x ++ y).length = x.length + y.length := by
  show (x.cps ++ y.cps).size = _
  rw [Array.size_append]; rfl
theorem sizeLe {n : Nat} (h : n ≤ 100000) : n ≤ sizeLine := Nat.le_trans h (by decide)
theorem app_assoc (x y z : Str) : x ++ y ++ z = x ++ (y ++ z) := str_ext (by show (x.cps ++ y.cps ++ z.cps).toList = (x.cps ++ (y.cps ++ z.cps)).toList; simp)
theorem dec100 {n : Nat} (h : n < 10 ^ 100) : (dec n).length ≤ 100 := dec_len (by decide) h
theorem ix_BK {X : Cx} (h : X.K = K) : IxR X (rIxB K) := by
  subst h
  exact ix_B
theorem cg_seqI {b : Bool} {l : Addr} {xs : List V} (P : Nat → List V → Hp → Prop) (ha : H a = none) (hS : SqB b K H l xs) (hz : xs.length ≤ 1000) (h0 : P 0 [] (upd H a (.lst [])))
    (hl : ∀ i zs H1, P i zs H1 → zs.length ≤ i) (mono : ∀ i zs H1 H2, P i zs H1 → SameX a H1 H2 → P i zs H2)
    (he : ∀ i x H1 zs, xs[i]? = some x → Same H H1 → H1 a = some (.lst zs) → P i zs H1 → ∀ C : Option V → Hp → Prop,
      (∀ y H2, Same H1 H2 → P (i + 1) (zs ++ [y]) H2 → C (some y) H2) → (∀ H2, Same H1 H2 → P (i + 1) zs H2 → C none H2) → tt (some x :: frees fr σ) H1 C)
    (hd : ∀ H1 ys, Same H H1 → H1 a = some (.lst ys) → P xs.length ys H1 → Q (.ref a) H1) : CompWG (Its K b l) (gName 0) tt 1 fr σ a H Q := by
  refine cg_inv xs.length P ha hz h0 hl mono (fun i H1 hi s => Its.go (hS.up s) (x := xs[i]) (by simp [hi])) (fun H1 s => Its.stop (hS.up s) (Nat.le_refl _)) ?_ hd
  intro i H1 zs hi s1 ez p ys x H3 hys hy C hC1 hC2
  obtain ⟨e1, e2⟩ := Its.yld (hS.up s1) hy
  subst e1
  match ys, hys with
  | [o], _ => exact ⟨⟨[some x], rfl, rfl⟩, he i x H3 zs e2 s1 ez p C hC1 hC2⟩
theorem none_left {fr : List (Str × Nat)} {σ : St} {a : Addr} {H : Hp} {Q : VK} {b : Bool} {l : Addr} {ns : List Int} (ha : H a = none) (hS : SqB b K H l (ns.map V.int)) (hz : ns.length ≤ 1000)
    (hd : ∀ H1, Same H H1 → H1 a = some (.lst []) → Q (.ref a) H1) : CompWG (Its K b l) (gName 0) (tElIf (tNot (tB (tCall sp_law_whole [] E0 (tCons (tVar 0) tNil)))) (tVar 0)) 1 fr σ a H Q := by
  refine cg_seqI (fun _ zs _ => zs = []) ha hS (by rw [List.length_map]; exact hz) rfl (fun i zs H1 p => by rw [p]; exact Nat.zero_le _) (fun _ _ _ _ r _ => r) ?_ (fun H1 ys s1 e p => hd H1 s1 (by rw [e, p]))
  intro i x H1 zs ex s1 ez p C hC1 hC2
  obtain ⟨n, en, rfl⟩ := ints_at ex
  simp only [tElIf]
  walk_at "rd2"
  exact ⟨n, rfl, _, rfl, iteF (hC2 H1 (Same.refl _) p)⟩
theorem gcdI_mul (a b v : Int) (hv : 0 < v) : gcdI (a * v) (b * v) = gcdI a b * v := by
  unfold gcdI
  rw [Int.gcd_mul_right]
  have : ((v.natAbs : Nat) : Int) = v := by omega
  rw [Int.natCast_mul, this]
theorem gl_mul {u v : Int} (hv : 0 < v) (ts : List Int) : gl (u * v) (ts.map (· * v)) = gl u ts * v := by
  have h0 : ∀ (ts : List Int) (a : Int), (ts.map (· * v)).foldl gcdI (a * v) = ts.foldl gcdI a * v := by
    intro ts
    induction ts with
    | nil => intro a; rfl
    | cons t r ih => intro a; rw [List.map_cons, List.foldl_cons, List.foldl_cons, gcdI_mul _ _ _ hv, ih]
  unfold gl
  have : absI (u * v) = absI u * v := by
    unfold absI
    rcases Int.lt_or_le u 0 with l | l
    · have h2 : u * v < 0 := Int.mul_neg_of_neg_of_pos l hv
      rw [if_pos l, if_pos h2, Int.neg_mul]
    · have h2 : 0 ≤ u * v := Int.mul_nonneg l (Int.le_of_lt hv)
      rw [if_neg (by omega), if_neg (by omega)]
  rw [this, h0]
theorem low_dvd {u v : Int} {ts ns : List Int} (hv : 0 < v) (gu : gl u ts = 1) (hl : ts.length = ns.length) (h : ∀ (i : Nat) (x y : Int), ts[i]? = some x → ns[i]? = some y → x * v = y * u) : u ∣ v := by
  have e := gl_mul (u := u) hv ts
  rw [gu, Int.one_mul] at e
  rw [← e]
  refine dvd_gl.mpr ⟨Int.dvd_mul_right u v, fun t ht => ?_⟩
  obtain ⟨x, hx, rfl⟩ := List.mem_map.mp ht
  obtain ⟨i, hi, ei⟩ := List.getElem_of_mem hx
  have hi2 : i < ns.length := by omega
  have := h i x ns[i] (by simp [hi, ei]) (by simp [hi2])
  show u ∣ x * v
  rw [this]
  exact Int.dvd_mul_left _ _
theorem low_uniq {u v : Int} {ts ns : List Int} (hu : 0 < u) (hv : 0 < v) (gu : gl u ts = 1) (gv : gl v ns = 1) (hl : ts.length = ns.length) (h : ∀ (i : Nat) (x y : Int), ts[i]? = some x → ns[i]? = some y → x * v = y * u) : ts = ns ∧ u = v := by
  have h1 := low_dvd hv gu hl h
  have h2 := low_dvd hu gv hl.symm fun i x y e1 e2 => (h i y x e2 e1).symm
  have e : u = v := Int.dvd_antisymm (by omega) (by omega) h1 h2
  subst e
  refine ⟨List.ext_getElem hl fun i h1 h2 => ?_, rfl⟩
  exact Int.eq_of_mul_eq_mul_right (by omega) (h i _ _ (by simp [h1]) (by simp [h2]))
theorem red_cross {u : Int} {ns : List Int} (h : u ≠ 0) {i : Nat} {x y : Int} (e1 : ns[i]? = some x) (e2 : (redT u ns)[i]? = some y) : x * redU u ns = y * u := by
  unfold redT at e2
  rw [List.getElem?_map, e1] at e2
  cases e2
  exact cross h (List.mem_of_getElem? e1)
theorem Dt.place {H : Hp} {p : Addr} {ts : List Int} {u : Int} (h : PlaceAt H p ts u) : Dt K H (.ref p) (.tuple [intsD true ts, .int u]) := by
  obtain ⟨q, h1, h2⟩ := h
  exact .tup (SqT.of h1) (.cons (Dt.intsB (SqB.tup h2)) (.cons (.int u) .nil))
end
section
open PySem.NumText
noncomputable def comma : Str := ","
noncomputable def slash : Str := "/"
noncomputable def minus : Str := "-"
noncomputable def ten : Str := "0123456789"
theorem comma_is : comma = ⟨#[44]⟩ := by decide +kernel
theorem slash_is : slash = ⟨#[47]⟩ := by decide +kernel
theorem minus_is : minus = ⟨#[45]⟩ := by decide +kernel
noncomputable def digB (c : Nat) : Bool := decide (48 ≤ c) && decide (c ≤ 57)
noncomputable def inT (x : Str) (c : Nat) : Bool := !(Builtin.Str.occurrences x ⟨#[c]⟩ 0 x.length 1).isEmpty
theorem ext10 : ∀ i < 10, ten.cps.extract i (i + 1) = #[ten.cps.getD i 0] ∧ ten.cps.getD i 0 < 123 := by decide +kernel
theorem dig_small : ∀ c < 123, inT ten c = digB c := by decide +kernel
theorem big_of {x : Str} {n c : Nat} (hl : x.length = n) (h : ∀ i < n, x.cps.extract i (i + 1) = #[x.cps.getD i 0] ∧ x.cps.getD i 0 < 123) (hc : 123 ≤ c) : inT x c = false := by
  have e : Builtin.Str.occurrences x ⟨#[c]⟩ 0 x.length 1 = [] := PySem.W.occ_nil_of_no x ⟨#[c]⟩ 1 fun i hi => by
    have hi' : i < n := by rw [← hl]; exact hi
    obtain ⟨k1, k2⟩ := h i hi'
    show (x.cps.extract i (i + 1) == #[c]) = false
    rw [k1]
    have : x.cps.getD i 0 ≠ c := by omega
    simp only [beq_eq_false_iff_ne, ne_eq]
    intro z
    apply this
    simpa using z
  unfold inT
  rw [e]
  rfl
theorem dig_is (c : Nat) : inT ten c = digB c := by
  by_cases h : c < 123
  · exact dig_small c h
  · rw [big_of (n := 10) (by decide +kernel) ext10 (by omega)]
    unfold digB
    rw [decide_eq_false (show ¬ c ≤ 57 by omega), Bool.and_false]
noncomputable def wholeB (x : Str) : Bool := decide (1 ≤ x.length) && (decide (x.length ≤ 100) && (!(decide (x.cps.toList[0]? = some 48)) && x.cps.toList.all digB))
noncomputable def valN (x : Str) : Nat := digitsVal x.cps.toList
theorem len_list (x : Str) : x.cps.toList.length = x.length := by simp [Str.length]
theorem val_lt : ∀ (cs : List Nat) (a : Nat), AllDigits cs → cs.foldl (fun acc c => acc * 10 + (c - 48)) a < (a + 1) * 10 ^ cs.length
  | [], a, _ => by simp
  | c :: r, a, h => by
    have := val_lt r (a * 10 + (c - 48)) h.tail
    have hc := h.head
    rw [List.foldl_cons, List.length_cons, Nat.pow_succ]
    refine Nat.lt_of_lt_of_le this ?_
    rw [Nat.mul_comm (10 ^ r.length) 10, ← Nat.mul_assoc]
    exact Nat.mul_le_mul_right _ (by omega)
theorem whole_all {x : Str} (h : wholeB x = true) : AllDigits x.cps.toList ∧ x.cps.toList ≠ [] ∧ x.length ≤ 100 ∧ ∃ c r, x.cps.toList = c :: r ∧ 49 ≤ c := by
  unfold wholeB at h
  simp only [Bool.and_eq_true, decide_eq_true_eq, Bool.not_eq_true', decide_eq_false_iff_not, List.all_eq_true] at h
  obtain ⟨h1, h2, h3, h4⟩ := h
  have ha : AllDigits x.cps.toList := fun c hc => by
    have := h4 c hc
    unfold digB at this
    simpa using this
  have hl := len_list x
  cases e : x.cps.toList with
  | nil => rw [e] at hl; simp at hl; omega
  | cons c r =>
    refine ⟨e ▸ ha, by simp, h2, c, r, rfl, ?_⟩
    rw [e] at h3 ha
    have := ha.head
    have : c ≠ 48 := fun z => h3 (by rw [z]; rfl)
    omega
theorem char_back {cs : List Nat} (h : AllDigits cs) : (cs.map Char.ofNat).map Char.toNat = cs := by
  rw [List.map_map]
  conv => rhs; rw [← List.map_id cs]
  refine List.map_congr_left fun c hc => ?_
  have := h c hc
  have : c < 58 := by omega
  exact (show ∀ c < 58, (Char.ofNat c).toNat = c by decide) c this
theorem whole_dec {x : Str} (h : wholeB x = true) : dec (valN x) = x := by
  obtain ⟨h1, h2, h3, c, r, e, hc⟩ := whole_all h
  refine str_ext ?_
  rw [dec_cps]
  unfold valN
  rw [toDigits_digitsVal r.length x.cps.toList (by rw [e]; rfl) h1 (.inr ⟨c, r, e, hc⟩), char_back h1]
theorem whole_lt {x : Str} (h : wholeB x = true) : valN x < 10 ^ 100 := by
  obtain ⟨h1, h2, h3, _⟩ := whole_all h
  have := val_lt x.cps.toList 0 h1
  rw [len_list, Nat.zero_add, Nat.one_mul] at this
  exact Nat.lt_of_lt_of_le this (Nat.pow_le_pow_right (by decide) h3)
theorem whole_pos {x : Str} (h : wholeB x = true) : 0 < valN x := by
  obtain ⟨h1, h2, h3, c, r, e, hc⟩ := whole_all h
  rcases Nat.eq_zero_or_pos (valN x) with z | z
  · exfalso
    have e2 := whole_dec h
    rw [z] at e2
    rw [← e2] at e
    have : (dec 0).cps.toList = [48] := by decide +kernel
    rw [this] at e
    cases e
    omega
  · exact z
theorem dec_head {n : Nat} (h0 : 0 < n) : ∃ c r, (dec n).cps.toList = c :: r ∧ 49 ≤ c ∧ c ≤ 57 := by
  have ha := dg_all n
  rw [← dec_cps] at ha
  have hv : digitsVal (dec n).cps.toList = n := by rw [dec_cps, val_back']
  have t := toDigits_all _ ha
  rw [hv] at t
  have hl : (dec n).cps.toList.length = (Nat.toDigits 10 n).length := by rw [dec_cps, List.length_map]
  cases e : (dec n).cps.toList with
  | nil => rw [e] at hv; have : digitsVal [] = 0 := rfl; omega
  | cons c r =>
    have hc := ha c (by rw [e]; exact List.mem_cons_self)
    refine ⟨c, r, rfl, ?_, hc.2⟩
    by_cases z : c = 48
    · exfalso
      subst z
      rw [e, List.dropWhile_cons, if_pos (by rfl)] at t
      rw [e] at hl
      have hd : (r.dropWhile (· == 48)).length ≤ r.length := (List.dropWhile_suffix _).length_le
      split at t
      · have v := val_back' n
        rw [t] at v
        have v0 : digitsVal (['0'].map Char.toNat) = 0 := by decide
        omega
      · rename_i c2 r2 e2
        rw [t, List.length_map] at hl
        rw [e2] at hd
        simp only [List.length_cons] at hl hd
        omega
    · omega
theorem dec_all (n : Nat) : AllDigits (dec n).cps.toList := by rw [dec_cps]; exact dg_all n
theorem dec_whole {n : Nat} (h0 : 0 < n) (h : n < 10 ^ 100) : wholeB (dec n) = true ∧ valN (dec n) = n := by
  obtain ⟨c, r, e, h1, h2⟩ := dec_head h0
  have hl := len_list (dec n)
  refine ⟨?_, by unfold valN; rw [dec_cps, val_back']⟩
  unfold wholeB
  simp only [Bool.and_eq_true, decide_eq_true_eq, Bool.not_eq_true', decide_eq_false_iff_not, List.all_eq_true]
  refine ⟨by rw [e] at hl; simp at hl; omega, dec100 h, ?_, fun d hd => ?_⟩
  · rw [e]
    intro z
    have : c = 48 := by simpa using z
    omega
  · have := dec_all n d hd
    unfold digB
    simpa using this
theorem app_cut {c : Nat} : ∀ {p q X Y : List Nat}, c ∉ p → c ∉ q → p ++ c :: X = q ++ c :: Y → p = q ∧ X = Y
  | [], [], X, Y, _, _, e => by simpa using e
  | [], b :: q, X, Y, _, h, e => by
    simp only [List.nil_append, List.cons_append, List.cons.injEq] at e
    exact absurd (by rw [e.1]; exact List.mem_cons_self) h
  | a :: p, [], X, Y, h, _, e => by
    simp only [List.nil_append, List.cons_append, List.cons.injEq] at e
    exact absurd (by rw [← e.1]; exact List.mem_cons_self) h
  | a :: p, b :: q, X, Y, h1, h2, e => by
    simp only [List.cons_append, List.cons.injEq] at e
    obtain ⟨k1, k2⟩ := app_cut (p := p) (q := q) (fun z => h1 (List.mem_cons_of_mem _ z)) (fun z => h2 (List.mem_cons_of_mem _ z)) e.2
    exact ⟨by rw [e.1, k1], k2⟩
theorem join_cons (c : Nat) (p q : Str) (r : List Str) : (Str.join ⟨#[c]⟩ (p :: q :: r)).cps.toList = p.cps.toList ++ c :: (Str.join ⟨#[c]⟩ (q :: r)).cps.toList := by
  show (p ++ ⟨#[c]⟩ ++ Str.join ⟨#[c]⟩ (q :: r)).cps.toList = _
  simp only [Str.cps_append, Array.toList_append]
  simp
theorem join_inj (c : Nat) : ∀ (L M : List Str), L ≠ [] → M ≠ [] → (∀ p ∈ L, c ∉ p.cps.toList) → (∀ p ∈ M, c ∉ p.cps.toList) → (Str.join ⟨#[c]⟩ L).cps.toList = (Str.join ⟨#[c]⟩ M).cps.toList → L = M
  | [], _, h, _, _, _, _ => absurd rfl h
  | _, [], _, h, _, _, _ => absurd rfl h
  | [p], [q], _, _, _, _, e => by have e' : p = q := str_ext e; rw [e']
  | [p], q :: q' :: s, _, _, hp, _, e => by
    rw [join_cons] at e
    exact absurd (by rw [show (Str.join ⟨#[c]⟩ [p]) = p from rfl] at e; rw [e]; simp) (hp p List.mem_cons_self)
  | p :: p' :: r, [q], _, _, _, hq, e => by
    rw [join_cons] at e
    exact absurd (by rw [show (Str.join ⟨#[c]⟩ [q]) = q from rfl] at e; rw [← e]; simp) (hq q List.mem_cons_self)
  | p :: p' :: r, q :: q' :: s, _, _, hp, hq, e => by
    rw [join_cons, join_cons] at e
    obtain ⟨e1, e2⟩ := app_cut (hp p List.mem_cons_self) (hq q List.mem_cons_self) e
    have := join_inj c (p' :: r) (q' :: s) (by simp) (by simp) (fun z hz => hp z (List.mem_cons_of_mem _ hz)) (fun z hz => hq z (List.mem_cons_of_mem _ hz)) e2
    rw [str_ext e1, this]
theorem split_is {c : Nat} {u : Str} {L : List Str} (hne : L ≠ []) (hf : ∀ p ∈ L, c ∉ p.cps.toList) (e : Str.join ⟨#[c]⟩ L = u) : Txt.split u ⟨#[c]⟩ = L := by
  have h1 := PySem.StrLaws.join_split u ⟨#[c]⟩
  have h2 := PySem.StrLaws.split_free u c
  have h3 : Txt.split u ⟨#[c]⟩ ≠ [] := fun z => by
    have := PyProof.Rows.split_pos u ⟨#[c]⟩
    rw [z] at this
    simp at this
  exact join_inj c _ _ h3 hne h2 hf (by rw [h1, e])
theorem txt_join (y : Str) (L : List Str) : Txt.join y L = Str.join y L := by
  unfold Txt.join
  rw [PySem.StrLaws.glued_eq_join]
end
section
open PySem.NumText
noncomputable def fracL : List Str → Option (Int × Int)
  | [a] => if wholeB a = true then some ((valN a : Int), 1) else none
  | [a, b] => if wholeB a = true ∧ wholeB b = true ∧ valN b ≠ 1 ∧ gcdI (valN a) (valN b) = 1 then some ((valN a : Int), (valN b : Int)) else none
  | _ => none
noncomputable def fracV (x : Str) : Option (Int × Int) := fracL (Txt.split x slash)
noncomputable def tailS (x : Str) : Str := Txt.slice x (some 1) none
noncomputable def negP (p : Int × Int) : Int × Int := (-p.1, p.2)
noncomputable def numV (x : Str) : Option (Int × Int) := if x = "0" then some (0, 1) else if Txt.startswith x minus = true then (fracV (tailS x)).map negP else fracV x
structure GoodPr (p : Int × Int) : Prop where
  pos : 0 < p.2
  top : p.1.natAbs < 10 ^ 100
  bot : p.2.natAbs < 10 ^ 100
  low : gcdI p.1 p.2 = 1
noncomputable def fracW (n b : Nat) : Str := if b = 1 then dec n else dec n ++ slash ++ dec b
noncomputable def wordT (p : Int × Int) : Str := if p.1 < 0 then minus ++ fracW p.1.natAbs p.2.toNat else fracW p.1.natAbs p.2.toNat
theorem sw_minus {x : Str} : Txt.startswith x minus = true ↔ ∃ r, x.cps.toList = 45 :: r := by
  have l1 : minus.length = 1 := by decide +kernel
  have l2 : minus.cps = #[45] := by decide +kernel
  unfold Txt.startswith Builtin.Str.subAt
  rw [l1, l2]
  cases e : x.cps.toList with
  | nil =>
    have : x.length = 0 := by rw [← len_list, e]; rfl
    rw [this]
    simp
  | cons c r =>
    have hx : x = ⟨(c :: r).toArray⟩ := str_ext (by rw [e])
    subst hx
    have e1 : decide (0 + 1 ≤ (⟨(c :: r).toArray⟩ : Str).length) = true := decide_eq_true (by show 0 + 1 ≤ (c :: r).toArray.size; simp)
    rw [e1, Bool.true_and]
    have e2 : ((⟨(c :: r).toArray⟩ : Str).cps.extract 0 (0 + 1)) = #[c] := by simp
    rw [e2]
    simp
theorem tail_is {x : Str} {c : Nat} {r : List Nat} (e : x.cps.toList = c :: r) : (tailS x).cps.toList = r := by
  unfold tailS
  have hl : x.length = r.length + 1 := by rw [← len_list, e]; rfl
  rw [PyProof.Rows.slice_from_eq (b := (x.length : Int)) (by decide) (by omega) rfl]
  show (List.take _ (List.drop _ _)).toArray.toList = _
  rw [List.toList_toArray, show (1 : Int).toNat = 1 from rfl, e, hl]
  show List.take (((r.length + 1 : Nat) : Int) - 1).toNat r = r
  rw [List.take_of_length_le (by omega)]
theorem minus_app (y : Str) : (minus ++ y).cps.toList = 45 :: y.cps.toList := by
  show (minus.cps ++ y.cps).toList = _
  rw [Array.toList_append, minus_is]
  rfl
theorem tail_app (y : Str) : tailS (minus ++ y) = y := str_ext (tail_is (minus_app y))
theorem free_dig {x : Str} {c : Nat} (h : AllDigits x.cps.toList) (hc : c < 48) : c ∉ x.cps.toList := fun z => by
  have := h c z
  omega
theorem frac_good {x : Str} {p : Int × Int} (h : fracV x = some p) : GoodPr p ∧ 0 < p.1 ∧ fracW p.1.natAbs p.2.toNat = x := by
  unfold fracV at h
  have j := PySem.StrLaws.join_split x slash
  match e : Txt.split x slash with
  | [] => rw [e] at h; cases h
  | [a] =>
    rw [e] at h j
    have j' : a = x := j
    have h : (if wholeB a = true then some ((valN a : Int), (1 : Int)) else none) = some p := h
    split at h
    · rename_i ha
      cases h
      have h1 := whole_pos ha
      have h2 := whole_lt ha
      refine ⟨⟨by show (0 : Int) < 1; decide, h2, by show (1 : Int).natAbs < 10 ^ 100; decide, by show gcdI _ 1 = 1; unfold gcdI; simp⟩, by show (0 : Int) < (valN a : Int); omega, ?_⟩
      show fracW (valN a : Int).natAbs 1 = x
      unfold fracW
      rw [if_pos rfl, Int.natAbs_natCast, whole_dec ha, j']
    · cases h
  | [a, b] =>
    rw [e] at h j
    have j' : a ++ slash ++ b = x := j
    have h : (if wholeB a = true ∧ wholeB b = true ∧ valN b ≠ 1 ∧ gcdI (valN a) (valN b) = 1 then some ((valN a : Int), (valN b : Int)) else none) = some p := h
    split at h
    · rename_i hh
      obtain ⟨ha, hb, hn, hg⟩ := hh
      cases h
      have h1 := whole_pos ha
      have h2 := whole_lt ha
      have h3 := whole_pos hb
      have h4 := whole_lt hb
      refine ⟨⟨by show (0 : Int) < (valN b : Int); omega, h2, h4, hg⟩, by show (0 : Int) < (valN a : Int); omega, ?_⟩
      show fracW (valN a : Int).natAbs (valN b : Int).toNat = x
      unfold fracW
      rw [Int.toNat_natCast, if_neg hn, Int.natAbs_natCast, whole_dec ha, whole_dec hb, j']
    · cases h
  | a :: b :: c :: r => rw [e] at h; cases h
theorem frac_back {n b : Nat} (h1 : 0 < n) (h2 : n < 10 ^ 100) (h3 : 0 < b) (h4 : b < 10 ^ 100) (hg : gcdI (n : Int) (b : Int) = 1) : fracV (fracW n b) = some ((n : Int), (b : Int)) := by
  obtain ⟨w1, w2⟩ := dec_whole h1 h2
  obtain ⟨w3, w4⟩ := dec_whole h3 h4
  unfold fracW fracV
  by_cases z : b = 1
  · rw [if_pos z, slash_is, split_is (c := 47) (u := dec n) (L := [dec n]) (by simp) (fun p hp => by rw [List.mem_singleton.mp hp]; exact free_dig (dec_all n) (by decide)) rfl]
    show (if wholeB (dec n) = true then some ((valN (dec n) : Int), (1 : Int)) else none) = _
    rw [if_pos w1, w2, z]
    rfl
  · rw [if_neg z, slash_is, split_is (c := 47) (u := dec n ++ ⟨#[47]⟩ ++ dec b) (L := [dec n, dec b]) (by simp) (fun p hp => by
      rcases List.mem_cons.mp hp with q | q
      · rw [q]; exact free_dig (dec_all n) (by decide)
      · rw [List.mem_singleton.mp q]; exact free_dig (dec_all b) (by decide)) rfl]
    show (if wholeB (dec n) = true ∧ wholeB (dec b) = true ∧ valN (dec b) ≠ 1 ∧ gcdI (valN (dec n)) (valN (dec b)) = 1 then some ((valN (dec n) : Int), (valN (dec b) : Int)) else none) = _
    rw [if_pos ⟨w1, w3, by rw [w4]; exact z, by rw [w2, w4]; exact hg⟩, w2, w4]
theorem gcd_negL (a b : Int) : gcdI (-a) b = gcdI a b := by unfold gcdI; simp [Int.gcd]
theorem dec0 : dec 0 = "0" := by decide +kernel
theorem fracW_head {n b : Nat} (h : 0 < n) : ∃ c r, (fracW n b).cps.toList = c :: r ∧ 49 ≤ c ∧ c ≤ 57 := by
  obtain ⟨c, r, e, h1, h2⟩ := dec_head h
  unfold fracW
  split
  · exact ⟨c, r, e, h1, h2⟩
  · refine ⟨c, r ++ (slash ++ dec b).cps.toList, ?_, h1, h2⟩
    rw [app_assoc]
    show ((dec n).cps ++ (slash ++ dec b).cps).toList = _
    rw [Array.toList_append, e]
    rfl
theorem zero_cps : ("0" : Str).cps.toList = [48] := by decide +kernel
theorem num_back {p : Int × Int} (g : GoodPr p) : numV (wordT p) = some p := by
  obtain ⟨a, b⟩ := p
  have hb : 0 < b := g.pos
  have hb2 : b.natAbs < 10 ^ 100 := g.bot
  have ha : a.natAbs < 10 ^ 100 := g.top
  have hg : gcdI a b = 1 := g.low
  unfold wordT
  show numV (if a < 0 then minus ++ fracW a.natAbs b.toNat else fracW a.natAbs b.toNat) = some (a, b)
  have hbn : b.toNat = b.natAbs := by omega
  by_cases z : a = 0
  · subst z
    have b1 : b = 1 := by
      unfold gcdI at hg
      rw [Int.gcd_zero_left] at hg
      omega
    subst b1
    rw [if_neg (by decide)]
    have : fracW (0 : Int).natAbs (1 : Int).toNat = "0" := dec0
    rw [this]
    unfold numV
    rw [if_pos rfl]
  · have hn : 0 < a.natAbs := by omega
    have key : fracV (fracW a.natAbs b.toNat) = some ((a.natAbs : Int), b) := by
      rw [frac_back hn ha (by omega) (by omega) (by
        rw [show ((b.toNat : Nat) : Int) = b by omega]
        unfold gcdI at hg ⊢
        rw [← hg]
        simp [Int.gcd])]
      rw [show ((b.toNat : Nat) : Int) = b by omega]
    obtain ⟨c, r, e, h1, h2⟩ := fracW_head (b := b.toNat) hn
    by_cases s : a < 0
    · rw [if_pos s]
      unfold numV
      rw [if_neg (fun q => by
        have q2 := minus_app (fracW a.natAbs b.toNat)
        rw [q, zero_cps] at q2
        cases q2), if_pos (sw_minus.mpr ⟨_, minus_app _⟩), tail_app, key]
      show some (-(a.natAbs : Int), b) = some (a, b)
      rw [show -(a.natAbs : Int) = a by omega]
    · rw [if_neg s]
      unfold numV
      rw [if_neg (fun q => by
        rw [q, zero_cps] at e
        cases e
        omega), if_neg (fun q => by
        obtain ⟨r', e'⟩ := sw_minus.mp q
        rw [e] at e'
        cases e'
        omega), key]
      rw [show (a.natAbs : Int) = a by omega]
theorem slash_len : slash.length = 1 := by decide +kernel
theorem minus_len : minus.length = 1 := by decide +kernel
theorem fracW_len {n b : Nat} (h1 : n < 10 ^ 100) (h2 : b < 10 ^ 100) : (fracW n b).length ≤ 201 := by
  have d1 := dec100 h1
  have d2 := dec100 h2
  unfold fracW
  split
  · omega
  · rw [len_app, len_app, slash_len]; omega
end
section
noncomputable def lawU (ps : List (Int × Int)) : Int := ps.foldl (fun u p => (u * p.2).fdiv (gcdI u p.2)) 1
noncomputable def lawT (ps : List (Int × Int)) : List Int := ps.map fun p => p.1 * (lawU ps).fdiv p.2
noncomputable def proU (ps : List (Int × Int)) : Int := ps.foldl (fun u p => u * p.2) 1
noncomputable def proT (ps : List (Int × Int)) : List Int := ps.map fun p => p.1 * (proU ps).fdiv p.2
theorem lcm_step {u b : Int} (hu : 0 < u) (hb : 0 < b) : (u * b).fdiv (gcdI u b) = (Int.lcm u b : Int) := by
  have g : 0 < gcdI u b := by
    unfold gcdI
    have := Int.gcd_pos_of_ne_zero_left (a := u) b (by omega)
    omega
  have e : (Int.gcd u b : Int) * (Int.lcm u b : Int) = u * b := by
    have := Int.gcd_mul_lcm u b
    have h2 : ((Int.gcd u b * Int.lcm u b : Nat) : Int) = ((u.natAbs * b.natAbs : Nat) : Int) := by rw [this]
    push_cast at h2
    rw [show (u.natAbs : Int) = u by omega, show (b.natAbs : Int) = b by omega] at h2
    exact h2
  rw [← e]
  unfold gcdI at g ⊢
  rw [Int.mul_comm, Int.mul_fdiv_cancel _ (by omega)]
theorem fold_lcm : ∀ (ps : List (Int × Int)) (u : Int), 0 < u → (∀ p ∈ ps, 0 < p.2) → 0 < ps.foldl (fun u p => (u * p.2).fdiv (gcdI u p.2)) u ∧ u ∣ ps.foldl (fun u p => (u * p.2).fdiv (gcdI u p.2)) u ∧ (∀ p ∈ ps, p.2 ∣ ps.foldl (fun u p => (u * p.2).fdiv (gcdI u p.2)) u) ∧ ∀ m : Int, u ∣ m → (∀ p ∈ ps, p.2 ∣ m) → ps.foldl (fun u p => (u * p.2).fdiv (gcdI u p.2)) u ∣ m
  | [], u, hu, _ => ⟨hu, Int.dvd_refl _, fun p hp => by simp at hp, fun m h _ => h⟩
  | q :: r, u, hu, h => by
    have hq := h q List.mem_cons_self
    have e := lcm_step hu hq
    have hp : 0 < (Int.lcm u q.2 : Int) := by
      have := Int.lcm_pos (m := u) (n := q.2) (by omega) (by omega)
      omega
    obtain ⟨h1, h2, h3, h4⟩ := fold_lcm r (Int.lcm u q.2 : Int) hp fun p hp => h p (List.mem_cons_of_mem _ hp)
    rw [List.foldl_cons, e]
    refine ⟨h1, Int.dvd_trans (Int.dvd_lcm_left u q.2) h2, fun p hp => ?_, fun m k1 k2 => ?_⟩
    · rcases List.mem_cons.mp hp with z | z
      · rw [z]; exact Int.dvd_trans (Int.dvd_lcm_right u q.2) h2
      · exact h3 p z
    · exact h4 m (Int.coe_lcm_dvd k1 (k2 q List.mem_cons_self)) fun p hp => k2 p (List.mem_cons_of_mem _ hp)
theorem fold_pro : ∀ (ps : List (Int × Int)) (u : Int), 0 < u → (∀ p ∈ ps, 0 < p.2) → 0 < ps.foldl (fun u p => u * p.2) u ∧ u ∣ ps.foldl (fun u p => u * p.2) u ∧ ∀ p ∈ ps, p.2 ∣ ps.foldl (fun u p => u * p.2) u
  | [], u, hu, _ => ⟨hu, Int.dvd_refl _, fun p hp => by simp at hp⟩
  | q :: r, u, hu, h => by
    have hq := h q List.mem_cons_self
    obtain ⟨h1, h2, h3⟩ := fold_pro r (u * q.2) (Int.mul_pos hu hq) fun p hp => h p (List.mem_cons_of_mem _ hp)
    rw [List.foldl_cons]
    refine ⟨h1, Int.dvd_trans ⟨q.2, rfl⟩ h2, fun p hp => ?_⟩
    rcases List.mem_cons.mp hp with z | z
    · rw [z]; exact Int.dvd_trans ⟨u, by rw [Int.mul_comm]⟩ h2
    · exact h3 p z
theorem lawU_pos {ps : List (Int × Int)} (h : ∀ p ∈ ps, GoodPr p) : 0 < lawU ps := (fold_lcm ps 1 (by decide) fun p hp => (h p hp).pos).1
theorem lawU_dvd {ps : List (Int × Int)} (h : ∀ p ∈ ps, GoodPr p) : ∀ p ∈ ps, p.2 ∣ lawU ps := (fold_lcm ps 1 (by decide) fun p hp => (h p hp).pos).2.2.1
theorem lawU_least {ps : List (Int × Int)} (h : ∀ p ∈ ps, GoodPr p) {m : Int} (k : ∀ p ∈ ps, p.2 ∣ m) : lawU ps ∣ m := (fold_lcm ps 1 (by decide) fun p hp => (h p hp).pos).2.2.2 m (Int.one_dvd _) k
theorem proU_pos {ps : List (Int × Int)} (h : ∀ p ∈ ps, GoodPr p) : 0 < proU ps := (fold_pro ps 1 (by decide) fun p hp => (h p hp).pos).1
theorem proU_dvd {ps : List (Int × Int)} (h : ∀ p ∈ ps, GoodPr p) : ∀ p ∈ ps, p.2 ∣ proU ps := (fold_pro ps 1 (by decide) fun p hp => (h p hp).pos).2.2
theorem mul_div {u b : Int} (hb : 0 < b) (h : b ∣ u) : u.fdiv b * b = u := fdiv_exact (by omega) h
theorem law_low {ps : List (Int × Int)} (h : ∀ p ∈ ps, GoodPr p) : gl (lawU ps) (lawT ps) = 1 := by
  have hu := lawU_pos h
  have hu0 : lawU ps ≠ 0 := by omega
  have g0 := gl_pos (lawT ps) hu0
  have d0 := gl_u (lawU ps) (lawT ps)
  obtain ⟨m, em⟩ := d0
  have hd : lawU ps ∣ m := by
    refine lawU_least h fun p hp => ?_
    have gp := h p hp
    have d1 : gl (lawU ps) (lawT ps) ∣ p.1 * (lawU ps).fdiv p.2 := gl_mem (List.mem_map.mpr ⟨p, hp, rfl⟩)
    obtain ⟨n, en⟩ := d1
    have e2 := mul_div gp.pos (lawU_dvd h p hp)
    generalize (lawU ps).fdiv p.2 = f at *
    have e3 : p.1 * m = n * p.2 := by
      have : gl (lawU ps) (lawT ps) * (p.1 * m) = gl (lawU ps) (lawT ps) * (n * p.2) := by
        calc gl (lawU ps) (lawT ps) * (p.1 * m) = p.1 * (gl (lawU ps) (lawT ps) * m) := by grind
          _ = p.1 * lawU ps := by rw [← em]
          _ = p.1 * (f * p.2) := by rw [e2]
          _ = p.1 * f * p.2 := by rw [Int.mul_assoc]
          _ = gl (lawU ps) (lawT ps) * n * p.2 := by rw [en]
          _ = _ := by rw [Int.mul_assoc]
      exact Int.eq_of_mul_eq_mul_left (by omega) this
    have lo := gp.low
    unfold gcdI at lo
    have lo' : Int.gcd p.2 p.1 = 1 := by rw [Int.gcd_comm]; omega
    have dd : p.2 ∣ p.1 * m := ⟨n, by rw [e3, Int.mul_comm]⟩
    have dn := Int.natAbs_dvd_natAbs.mpr dd
    rw [Int.natAbs_mul] at dn
    exact Int.natAbs_dvd_natAbs.mp (Nat.Coprime.dvd_of_dvd_mul_left (show Nat.Coprime p.2.natAbs p.1.natAbs from lo') dn)
  have hm : 0 < m := by
    rcases Int.lt_trichotomy m 0 with z | z | z
    · have := Int.mul_neg_of_pos_of_neg g0 z; omega
    · rw [z, Int.mul_zero] at em; omega
    · exact z
  have le := Int.le_of_dvd hm hd
  have : gl (lawU ps) (lawT ps) * m ≤ 1 * m := by rw [← em]; omega
  have := Int.le_of_mul_le_mul_right this hm
  omega
theorem law_is_red {ps : List (Int × Int)} (h : ∀ p ∈ ps, GoodPr p) : redT (proU ps) (proT ps) = lawT ps ∧ redU (proU ps) (proT ps) = lawU ps := by
  have hp := proU_pos h
  have hl := lawU_pos h
  have p0 : proU ps ≠ 0 := by omega
  refine low_uniq (under_pos _ p0) hl (gl_red p0) (law_low h) (by simp [redT, proT, lawT]) fun i x y ex ey => ?_
  have e1 : ∃ p, ps[i]? = some p := by
    cases e : ps[i]? with
    | none => unfold lawT at ey; rw [List.getElem?_map, e] at ey; cases ey
    | some p => exact ⟨p, rfl⟩
  obtain ⟨p, e⟩ := e1
  have hm := List.mem_of_getElem? e
  have gp := h p hm
  have ea : (proT ps)[i]? = some (p.1 * (proU ps).fdiv p.2) := by unfold proT; rw [List.getElem?_map, e]; rfl
  have eb : y = p.1 * (lawU ps).fdiv p.2 := by unfold lawT at ey; rw [List.getElem?_map, e] at ey; cases ey; rfl
  have k := red_cross p0 ea ex
  have k1 := mul_div gp.pos (proU_dvd h p hm)
  have k2 := mul_div gp.pos (lawU_dvd h p hm)
  rw [eb]
  generalize (proU ps).fdiv p.2 = f1 at *
  generalize (lawU ps).fdiv p.2 = f2 at *
  generalize redU (proU ps) (proT ps) = r at *
  generalize proU ps = pu at *
  generalize lawU ps = lu at *
  have b0 : p.2 ≠ 0 := by have := gp.pos; omega
  have f0 : f1 ≠ 0 := fun z => by rw [z, Int.zero_mul] at k1; omega
  refine Int.eq_of_mul_eq_mul_left (a := f1 * p.2) (by rw [k1]; omega) ?_
  have : x * (f1 * p.2) = p.1 * f1 * r := by rw [k1]; exact k.symm
  calc f1 * p.2 * (x * lu) = x * (f1 * p.2) * lu := by grind
    _ = p.1 * f1 * r * lu := by rw [this]
    _ = f1 * p.2 * (p.1 * f2 * r) := by rw [← k2]; grind
theorem pro_le : ∀ (ps : List (Int × Int)) (u : Int), 0 < u → (∀ p ∈ ps, GoodPr p) → ∀ k : Nat, u < 10 ^ k → ps.foldl (fun u p => u * p.2) u < 10 ^ (k + 100 * ps.length)
  | [], u, _, _, k, h => by simpa using h
  | q :: r, u, hu, h, k, hk => by
    have hq := h q List.mem_cons_self
    have h2 : q.2 < 10 ^ 100 := by have := hq.bot; have := hq.pos; omega
    have := pro_le r (u * q.2) (Int.mul_pos hu hq.pos) (fun p hp => h p (List.mem_cons_of_mem _ hp)) (k + 100) (by
      rw [Int.pow_add]
      have a1 : u * q.2 < u * 10 ^ 100 := Int.mul_lt_mul_of_pos_left h2 hu
      have a2 : u * 10 ^ 100 < 10 ^ k * 10 ^ 100 := Int.mul_lt_mul_of_pos_right hk (by decide)
      omega)
    rw [List.foldl_cons, List.length_cons]
    rw [show k + 100 * (r.length + 1) = k + 100 + 100 * r.length by omega]
    exact this
theorem law_le {ps : List (Int × Int)} (h : ∀ p ∈ ps, GoodPr p) : lawU ps ≤ proU ps := Int.le_of_dvd (proU_pos h) (lawU_least h (proU_dvd h))
end
section
open PySem.NumText
noncomputable def repL (c : Nat) (z : List Nat) (x : List Nat) : List Nat := x.flatMap fun d => if d = c then z else [d]
theorem repL_app (c : Nat) (z a b : List Nat) : repL c z (a ++ b) = repL c z a ++ repL c z b := by unfold repL; rw [List.flatMap_append]
theorem repL_free {c : Nat} {z : List Nat} : ∀ {x : List Nat}, c ∉ x → repL c z x = x
  | [], _ => rfl
  | d :: r, h => by
    have h1 : ¬ d = c := fun e => h (by rw [e]; exact List.mem_cons_self)
    have h2 := repL_free (z := z) (x := r) fun q => h (List.mem_cons_of_mem _ q)
    unfold repL at *
    rw [List.flatMap_cons, if_neg h1, h2]
    rfl
theorem repL_len (c : Nat) {z : List Nat} (hz : z.length = 2) : ∀ x : List Nat, (repL c z x).length ≤ 2 * x.length
  | [] => by simp [repL]
  | d :: r => by
    have ih := repL_len c hz r
    unfold repL at *
    rw [List.flatMap_cons, List.length_append, List.length_cons]
    split
    · omega
    · simp only [List.length_singleton]; omega
theorem repL_join (c : Nat) (z : Str) : ∀ parts : List Str, (∀ p ∈ parts, c ∉ p.cps.toList) → (Str.join z parts).cps.toList = repL c z.cps.toList (Str.join ⟨#[c]⟩ parts).cps.toList
  | [], _ => by show ([] : List Nat) = repL c z.cps.toList []; rfl
  | [p], h => (repL_free (h p (List.mem_singleton.mpr rfl))).symm
  | p :: q :: r, h => by
    have ih := repL_join c z (q :: r) fun a ha => h a (List.mem_cons_of_mem _ ha)
    rw [join_cons]
    show (p ++ z ++ Str.join z (q :: r)).cps.toList = _
    simp only [Str.cps_append, Array.toList_append]
    rw [ih, repL_app, repL_free (h p List.mem_cons_self)]
    rw [show c :: (Str.join ⟨#[c]⟩ (q :: r)).cps.toList = [c] ++ (Str.join ⟨#[c]⟩ (q :: r)).cps.toList from rfl, repL_app]
    have : repL c z.cps.toList [c] = z.cps.toList := by unfold repL; simp
    rw [this, List.append_assoc]
theorem rep_is (x z : Str) (c : Nat) : (Txt.replace x ⟨#[c]⟩ z).cps.toList = repL c z.cps.toList x.cps.toList := by
  rw [PySem.StrLaws.replace_one, repL_join c z _ (PySem.StrLaws.split_free x c), PySem.StrLaws.join_split]
noncomputable def plus : Str := "+"
noncomputable def plusMinus : Str := "+-"
theorem plus_is : plus = ⟨#[43]⟩ := by decide +kernel
theorem plus_cps : plus.cps.toList = [43] := by decide +kernel
theorem pm_cps : plusMinus.cps.toList = [43, 45] := by decide +kernel
theorem minus_cps : minus.cps.toList = [45] := by decide +kernel
theorem app_cps (x y : Str) : (x ++ y).cps.toList = x.cps.toList ++ y.cps.toList := by show (x.cps ++ y.cps).toList = _; rw [Array.toList_append]
noncomputable def repM (x : Str) : Str := Txt.replace x minus plusMinus
theorem repM_cps (x : Str) : (repM x).cps.toList = repL 45 [43, 45] x.cps.toList := by unfold repM; rw [minus_is, rep_is, pm_cps]
theorem repM_len (x : Str) : (repM x).length ≤ 2 * x.length := by
  rw [← len_list, ← len_list, repM_cps]
  exact repL_len 45 rfl _
noncomputable def termsV (x : Str) : List Str := if Txt.startswith x minus = true then (Txt.split (repM x) plus).drop 1 else Txt.split (repM x) plus
theorem sw_one {x y : Str} {d : Nat} (hy : y.cps = #[d]) {c : Nat} {r : List Nat} (h : x.cps.toList = c :: r) : Txt.startswith x y = decide (c = d) := by
  have l1 : y.length = 1 := by show y.cps.size = 1; rw [hy]; rfl
  unfold Txt.startswith Builtin.Str.subAt
  rw [l1, hy]
  have hx : x = ⟨(c :: r).toArray⟩ := str_ext (by rw [h])
  subst hx
  have e1 : decide (0 + 1 ≤ (⟨(c :: r).toArray⟩ : Str).length) = true := decide_eq_true (by show 0 + 1 ≤ (c :: r).toArray.size; simp)
  rw [e1, Bool.true_and]
  have e2 : ((⟨(c :: r).toArray⟩ : Str).cps.extract 0 (0 + 1)) = #[c] := by simp
  rw [e2]
  by_cases z : c = d
  · subst z; simp
  · simp [z]
theorem sw_nil {x y : Str} {d : Nat} (hy : y.cps = #[d]) (h : x.cps.toList = []) : Txt.startswith x y = false := by
  have l1 : y.length = 1 := by show y.cps.size = 1; rw [hy]; rfl
  have l0 : x.length = 0 := by rw [← len_list, h]; rfl
  unfold Txt.startswith
  rw [l1, l0]
  rfl
noncomputable def plusOff (x : Str) : Str := if Txt.startswith x plus = true then Txt.slice x (some 1) none else x
noncomputable def catS (xs : List Str) : Str := xs.foldl (· ++ ·) ""
theorem nil_cps : ("" : Str).cps.toList = [] := by decide +kernel
theorem fold_cps : ∀ (xs : List Str) (a : Str), (xs.foldl (· ++ ·) a).cps.toList = a.cps.toList ++ xs.flatMap fun x => x.cps.toList
  | [], a => by simp
  | x :: r, a => by rw [List.foldl_cons, fold_cps r, app_cps, List.flatMap_cons, List.append_assoc]
theorem cat_cps (xs : List Str) : (catS xs).cps.toList = xs.flatMap fun x => x.cps.toList := by
  unfold catS
  rw [fold_cps, nil_cps, List.nil_append]
inductive Tm where
  | ltr (k : Nat) (n : Int)
  | alone (p : Int × Int)
noncomputable def amtT (n : Int) : Str := if n.natAbs = 1 then ("" : Str) else dec n.natAbs
noncomputable def letT (k : Nat) : Str := ⟨#[120 + k]⟩
noncomputable def Tm.neg : Tm → Bool
  | .ltr _ n => decide (n < 0)
  | .alone p => decide (p.1 < 0)
noncomputable def Tm.bod : Tm → Str
  | .ltr k n => amtT n ++ letT k
  | .alone p => fracW p.1.natAbs p.2.toNat
noncomputable def Tm.Good (d : Nat) : Tm → Prop
  | .ltr k n => k < d ∧ n ≠ 0 ∧ n.natAbs < 10 ^ 100
  | .alone p => GoodPr p ∧ p.1 ≠ 0
noncomputable def Tm.Of (R : List Int) (p : Int × Int) : Tm → Prop
  | .ltr k n => n = R.getD k 0
  | .alone q => q = p
noncomputable def Tm.txt (u : Tm) : Str := (if u.neg = true then minus else plus) ++ u.bod
noncomputable def Tm.tok (u : Tm) : Str := if u.neg = true then minus ++ u.bod else u.bod
theorem let_cps (k : Nat) : (letT k).cps.toList = [120 + k] := rfl
noncomputable def okC (c : Nat) : Prop := (48 ≤ c ∧ c ≤ 57) ∨ c = 47 ∨ (120 ≤ c ∧ c ≤ 122)
theorem dec_ok (n : Nat) : ∀ c ∈ (dec n).cps.toList, 48 ≤ c ∧ c ≤ 57 := fun c hc => dec_all n c hc
theorem amt_ok (n : Int) : ∀ c ∈ (amtT n).cps.toList, 48 ≤ c ∧ c ≤ 57 := fun c hc => by
  unfold amtT at hc
  split at hc
  · rw [nil_cps] at hc; cases hc
  · exact dec_ok _ c hc
theorem frac_ok (n b : Nat) : ∀ c ∈ (fracW n b).cps.toList, (48 ≤ c ∧ c ≤ 57) ∨ c = 47 := fun c hc => by
  unfold fracW at hc
  split at hc
  · exact .inl (dec_ok _ c hc)
  · rw [app_cps, app_cps, show slash.cps.toList = [47] from by decide +kernel] at hc
    simp only [List.mem_append, List.mem_singleton] at hc
    rcases hc with (h | h) | h
    · exact .inl (dec_ok _ c h)
    · exact .inr h
    · exact .inl (dec_ok _ c h)
theorem bod_ok {d : Nat} (hd : d ≤ 3) {u : Tm} (h : u.Good d) : ∀ c ∈ u.bod.cps.toList, okC c := fun c hc => by
  cases u with
  | ltr k n =>
    have hc : c ∈ (amtT n ++ letT k).cps.toList := hc
    rw [app_cps, let_cps] at hc
    rcases List.mem_append.mp hc with q | q
    · exact .inl (amt_ok n c q)
    · have := List.mem_singleton.mp q
      have := h.1
      exact .inr (.inr (by omega))
  | alone p =>
    rcases frac_ok _ _ c hc with q | q
    · exact .inl q
    · exact .inr (.inl q)
theorem bod_cons {d : Nat} (hd : d ≤ 3) {u : Tm} (h : u.Good d) : ∃ c r, u.bod.cps.toList = c :: r ∧ okC c := by
  have key : u.bod.cps.toList ≠ [] := by
    cases u with
    | ltr k n =>
      show (amtT n ++ letT k).cps.toList ≠ []
      rw [app_cps, let_cps]
      simp
    | alone p =>
      obtain ⟨c, r, e, _⟩ := fracW_head (n := p.1.natAbs) (b := p.2.toNat) (by have := h.2; omega)
      show (fracW _ _).cps.toList ≠ []
      rw [e]
      simp
  cases e : u.bod.cps.toList with
  | nil => exact absurd e key
  | cons c r => exact ⟨c, r, rfl, bod_ok hd h c (by rw [e]; exact List.mem_cons_self)⟩
theorem bod_free {d : Nat} (hd : d ≤ 3) {u : Tm} (h : u.Good d) {c : Nat} (hc : c < 47) : c ∉ u.bod.cps.toList := fun z => by
  rcases bod_ok hd h c z with q | q | q <;> omega
theorem txt_cps (u : Tm) : u.txt.cps.toList = (if u.neg = true then 45 else 43) :: u.bod.cps.toList := by
  unfold Tm.txt
  rw [app_cps]
  split
  · rw [minus_cps]; rfl
  · rw [plus_cps]; rfl
theorem tok_cps (u : Tm) : u.tok.cps.toList = (if u.neg = true then [45] else []) ++ u.bod.cps.toList := by
  unfold Tm.tok
  split
  · rw [app_cps, minus_cps]
  · rfl
theorem tok_free {d : Nat} (hd : d ≤ 3) {u : Tm} (h : u.Good d) {c : Nat} (hc : c < 45) : c ∉ u.tok.cps.toList := by
  rw [tok_cps]
  have := bod_free hd h (c := c) (by omega)
  split
  · simp only [List.singleton_append, List.mem_cons, not_or]
    exact ⟨by omega, this⟩
  · simpa using this
theorem txt_free {d : Nat} (hd : d ≤ 3) {u : Tm} (h : u.Good d) : 44 ∉ u.txt.cps.toList := by
  rw [txt_cps]
  have := bod_free hd h (c := 44) (by omega)
  simp only [List.mem_cons, not_or]
  exact ⟨by split <;> decide, this⟩
theorem rep_txt {d : Nat} (hd : d ≤ 3) {u : Tm} (h : u.Good d) : repL 45 [43, 45] u.txt.cps.toList = 43 :: u.tok.cps.toList := by
  have f := repL_free (z := [43, 45]) (bod_free hd h (c := 45) (by decide))
  rw [txt_cps, tok_cps]
  split
  · rw [show 45 :: u.bod.cps.toList = [45] ++ u.bod.cps.toList from rfl, repL_app, f]
    rfl
  · rw [show 43 :: u.bod.cps.toList = [43] ++ u.bod.cps.toList from rfl, repL_app, f]
    rfl
theorem rep_cat {d : Nat} (hd : d ≤ 3) : ∀ us : List Tm, (∀ v ∈ us, v.Good d) → repL 45 [43, 45] ((us.map Tm.txt).flatMap fun x => x.cps.toList) = (us.map Tm.tok).flatMap fun q => 43 :: q.cps.toList
  | [], _ => rfl
  | u :: r, h => by
    rw [List.map_cons, List.flatMap_cons, repL_app, rep_txt hd (h u List.mem_cons_self), rep_cat hd r fun v hv => h v (List.mem_cons_of_mem _ hv), List.map_cons, List.flatMap_cons]
theorem join_flat (c : Nat) : ∀ (p : Str) (ps : List Str), (Str.join ⟨#[c]⟩ (p :: ps)).cps.toList = p.cps.toList ++ ps.flatMap fun q => c :: q.cps.toList
  | p, [] => by rw [List.flatMap_nil, List.append_nil]; rfl
  | p, q :: r => by rw [join_cons, join_flat c q r, List.flatMap_cons]; rfl
noncomputable def partW (us : List Tm) : Str := plusOff (catS (us.map Tm.txt))
theorem part_cps {d : Nat} (hd : d ≤ 3) {u : Tm} {us : List Tm} (h : u.Good d) : (partW (u :: us)).cps.toList = (if u.neg = true then [45] else []) ++ (u.bod.cps.toList ++ (us.map Tm.txt).flatMap fun x => x.cps.toList) := by
  have e : (catS ((u :: us).map Tm.txt)).cps.toList = (if u.neg = true then 45 else 43) :: (u.bod.cps.toList ++ (us.map Tm.txt).flatMap fun x => x.cps.toList) := by
    rw [cat_cps, List.map_cons, List.flatMap_cons, txt_cps]
    rfl
  unfold partW plusOff
  rw [sw_one (by decide +kernel : plus.cps = #[43]) e]
  cases hn : u.neg with
  | true =>
    rw [hn] at e
    rw [if_neg (by decide), e]
    rfl
  | false =>
    rw [hn] at e
    rw [if_pos (by decide)]
    exact tail_is e
theorem terms_is {d : Nat} (hd : d ≤ 3) {u : Tm} {us : List Tm} (hg : ∀ v ∈ u :: us, v.Good d) : Txt.startswith (partW (u :: us)) plus = false ∧ termsV (partW (u :: us)) = (u :: us).map Tm.tok := by
  have gu := hg u List.mem_cons_self
  have gr : ∀ v ∈ us, v.Good d := fun v hv => hg v (List.mem_cons_of_mem _ hv)
  have e := part_cps (us := us) hd gu
  obtain ⟨c, r, ec, okc⟩ := bod_cons hd gu
  have c43 : c ≠ 43 := fun z => by subst z; rcases okc with q | q | q <;> omega
  have c45 : c ≠ 45 := fun z => by subst z; rcases okc with q | q | q <;> omega
  have fb := repL_free (z := [43, 45]) (bod_free hd gu (c := 45) (by decide))
  have fr := rep_cat hd us gr
  have toks : ∀ p ∈ (u :: us).map Tm.tok, 43 ∉ p.cps.toList := fun p hp => by
    obtain ⟨v, hv, rfl⟩ := List.mem_map.mp hp
    exact tok_free hd (hg v hv) (by decide)
  unfold termsV
  cases hn : u.neg with
  | true =>
    rw [hn] at e
    have e' : (partW (u :: us)).cps.toList = 45 :: (u.bod.cps.toList ++ (us.map Tm.txt).flatMap fun x => x.cps.toList) := e
    rw [sw_one (by decide +kernel : plus.cps = #[43]) e', sw_one (by decide +kernel : minus.cps = #[45]) e', if_pos (by decide)]
    refine ⟨by decide, ?_⟩
    have sp : Txt.split (repM (partW (u :: us))) plus = ("" : Str) :: (u :: us).map Tm.tok := by
      rw [plus_is]
      refine split_is (by simp) (fun p hp => ?_) (str_ext ?_)
      · rcases List.mem_cons.mp hp with q | q
        · rw [q, nil_cps]; simp
        · exact toks p q
      · have e2 : (partW (u :: us)).cps.toList = [45] ++ (u.bod.cps.toList ++ (us.map Tm.txt).flatMap fun x => x.cps.toList) := e'
        rw [join_flat, nil_cps, List.nil_append, List.map_cons, List.flatMap_cons, repM_cps, e2, repL_app, repL_app, fb, fr, tok_cps, hn]
        rfl
    rw [sp]
    rfl
  | false =>
    rw [hn] at e
    have e' : (partW (u :: us)).cps.toList = c :: (r ++ (us.map Tm.txt).flatMap fun x => x.cps.toList) := by
      rw [e, ec]; rfl
    rw [sw_one (by decide +kernel : plus.cps = #[43]) e', sw_one (by decide +kernel : minus.cps = #[45]) e', if_neg (by simp [c45])]
    refine ⟨decide_eq_false c43, ?_⟩
    rw [plus_is]
    refine split_is (by simp) toks (str_ext ?_)
    rw [List.map_cons, join_flat, repM_cps, e, repL_app, repL_app, fb, fr, tok_cps, hn]
    rfl
noncomputable def lets (n : Nat) : Str := Txt.slice ("xyz" : Str) none (some (n : Int))
noncomputable def findC (n c : Nat) : Int := if c = 120 then 0 else if c = 121 then 1 else if c = 122 ∧ n = 3 then 2 else -1
theorem lets2 : lets 2 = ("xy" : Str) := by decide +kernel
theorem lets3 : lets 3 = ("xyz" : Str) := by decide +kernel
theorem lets_len {n : Nat} (h : n = 2 ∨ n = 3) : (lets n).length = n := by rcases h with rfl | rfl <;> decide +kernel
theorem find_big {x : Str} {n c : Nat} (hl : x.length = n) (h : ∀ i < n, x.cps.extract i (i + 1) = #[x.cps.getD i 0] ∧ x.cps.getD i 0 < 123) (hc : 123 ≤ c) : Txt.find x ⟨#[c]⟩ = -1 := by
  have := big_of hl h hc
  unfold inT at this
  have e : Builtin.Str.occurrences x ⟨#[c]⟩ 0 x.length 1 = [] := by
    cases q : Builtin.Str.occurrences x ⟨#[c]⟩ 0 x.length 1 with
    | nil => rfl
    | cons a b => rw [q] at this; cases this
  unfold Txt.find
  rw [e]
theorem find_small2 : ∀ c < 123, Txt.find (lets 2) ⟨#[c]⟩ = findC 2 c := by decide +kernel
theorem find_small3 : ∀ c < 123, Txt.find (lets 3) ⟨#[c]⟩ = findC 3 c := by decide +kernel
theorem find_is {n : Nat} (h : n = 2 ∨ n = 3) (c : Nat) : Txt.find (lets n) ⟨#[c]⟩ = findC n c := by
  by_cases hc : c < 123
  · rcases h with rfl | rfl
    · exact find_small2 c hc
    · exact find_small3 c hc
  · have f : findC n c = -1 := by unfold findC; rw [if_neg (by omega), if_neg (by omega), if_neg (by omega)]
    rw [f]
    rcases h with rfl | rfl
    · exact find_big (n := 2) (by decide +kernel) (by decide +kernel) (by omega)
    · exact find_big (n := 3) (by decide +kernel) (by decide +kernel) (by omega)
theorem findC_range {n : Nat} (h : n = 2 ∨ n = 3) (c : Nat) : findC n c = -1 ∨ (0 ≤ findC n c ∧ findC n c < n) := by
  unfold findC
  split
  · right; omega
  · split
    · right; omega
    · split
      · right; omega
      · left; rfl
noncomputable def lastS (x : Str) : Str := Txt.slice x (some (-1)) none
noncomputable def initS (x : Str) : Str := Txt.slice x none (some (-1))
noncomputable def midS (x : Str) : Str := Txt.slice x (some 1) (some (-1))
theorem last_is {x : Str} {i : List Nat} {c : Nat} (e : x.cps.toList = i ++ [c]) : lastS x = ⟨#[c]⟩ := by
  have hl : x.length = i.length + 1 := by rw [← len_list, e]; simp
  have k := beq_iff_eq.mp (PyProof.Rows.slice_closes_from_neg (x := x) (i := -1) (a := (i.length : Int)) (b := (x.length : Int)) (by decide) (by omega) (by omega) rfl)
  unfold lastS
  rw [k, e, Int.toNat_natCast, List.drop_left, hl]
  have : (((i.length + 1 : Nat) : Int) - (i.length : Int)).toNat = 1 := by omega
  rw [this]
  rfl
theorem init_is {x : Str} {i : List Nat} {c : Nat} (e : x.cps.toList = i ++ [c]) : (initS x).cps.toList = i := by
  have hl : x.length = i.length + 1 := by rw [← len_list, e]; simp
  have k := beq_iff_eq.mp (PyProof.Rows.slice_closes_to_neg (x := x) (j := -1) (k := (i.length : Int)) (by decide) (by omega) (by omega))
  unfold initS
  rw [k, e]
  show (List.take ((i.length : Int) - 0).toNat (List.drop (0 : Int).toNat (i ++ [c]))).toArray.toList = i
  rw [List.toList_toArray, show ((i.length : Int) - 0).toNat = i.length by omega]
  exact List.take_left
theorem mid_is {x : Str} {i : List Nat} {a c : Nat} (e : x.cps.toList = a :: (i ++ [c])) : (midS x).cps.toList = i := by
  have hl : x.length = i.length + 2 := by rw [← len_list, e]; simp
  have k : midS x = Txt.slice x (some 1) (some (-1 + (x.length : Int))) := PySem.StrLaws.sliceText_neg_hi x (some 1) (j := -1) (by decide) (by omega)
  have k2 := beq_iff_eq.mp (PyProof.Rows.slice_closes (x := x) (i := 1) (j := -1 + (x.length : Int)) ⟨by decide, by omega, by rw [len_list]; omega⟩)
  rw [k, k2, e]
  show (List.take (-1 + (x.length : Int) - 1).toNat (i ++ [c])).toArray.toList = i
  rw [List.toList_toArray, show (-1 + (x.length : Int) - 1).toNat = i.length by omega]
  exact List.take_left
noncomputable def amtV (x : Str) : Option Int := if x = ("" : Str) then some 1 else if x = ("1" : Str) then none else if wholeB x = true then some (valN x : Int) else none
noncomputable def sgnV (x : Str) : Option (Int × Int) := if Txt.startswith x minus = true then (fracV (tailS x)).map negP else fracV x
noncomputable def atV (n : Nat) (x : Str) : Int := if x = ("" : Str) then -1 else Txt.find (lets n) (lastS x)
noncomputable def tmV (n : Nat) (s : List Int × (Int × Int)) (x : Str) : Option (List Int × (Int × Int)) :=
  if atV n x = -1 then (if s.2.1 = 0 then (sgnV x).map fun p => (s.1, p) else none)
  else if s.1.getD (atV n x).toNat 0 = 0 then (if Txt.startswith x minus = true then (amtV (midS x)).map fun a => (s.1.set (atV n x).toNat (-a), s.2) else (amtV (initS x)).map fun a => (s.1.set (atV n x).toNat a, s.2))
  else none
noncomputable def foldV (n : Nat) : List Str → List Int × (Int × Int) → Option (List Int × (Int × Int))
  | [], s => some s
  | x :: r, s => (tmV n s x).bind (foldV n r)
noncomputable def partV (n : Nat) (x : Str) : Option (List Int × (Int × Int)) := if Txt.startswith x plus = true then none else foldV n (termsV x) (List.replicate n 0, (0, 1))
theorem snoc_of {l : List Nat} (h : l ≠ []) : ∃ i c, l = i ++ [c] := ⟨l.dropLast, l.getLast h, (List.dropLast_concat_getLast h).symm⟩
theorem ne_empty {x : Str} (h : x.cps.toList ≠ []) : x ≠ ("" : Str) := fun e => h (by rw [e, nil_cps])
theorem at_range {n : Nat} (h : n = 2 ∨ n = 3) (x : Str) : atV n x = -1 ∨ (0 ≤ atV n x ∧ atV n x < n) := by
  unfold atV
  split
  · exact .inl rfl
  · rename_i hx
    have hne : x.cps.toList ≠ [] := fun e => hx (str_ext (by rw [e, nil_cps]))
    obtain ⟨i, c, e⟩ := snoc_of hne
    rw [last_is e, find_is h]
    exact findC_range h c
theorem valN_one : valN ("1" : Str) = 1 := by decide +kernel
theorem amt_back {n : Int} (h0 : n ≠ 0) (h : n.natAbs < 10 ^ 100) : amtV (amtT n) = some (n.natAbs : Int) := by
  unfold amtT
  split
  · rename_i e
    unfold amtV
    rw [if_pos rfl, e]
    rfl
  · rename_i e
    obtain ⟨w1, w2⟩ := dec_whole (n := n.natAbs) (by omega) h
    obtain ⟨c, r, e2, _⟩ := dec_head (n := n.natAbs) (by omega)
    unfold amtV
    rw [if_neg (ne_empty (by rw [e2]; simp)), if_neg (fun z => e (by rw [← w2, z, valN_one])), if_pos w1, w2]
theorem neg_iff {d : Nat} (hd : d ≤ 3) {u : Tm} (h : u.Good d) : Txt.startswith u.tok minus = u.neg := by
  obtain ⟨c, r, ec, okc⟩ := bod_cons hd h
  have e := tok_cps u
  cases hn : u.neg with
  | true =>
    rw [hn] at e
    rw [sw_one (by decide +kernel : minus.cps = #[45]) (c := 45) (r := u.bod.cps.toList) e]
    rfl
  | false =>
    rw [hn, ec] at e
    rw [sw_one (by decide +kernel : minus.cps = #[45]) (c := c) (r := r) e]
    exact decide_eq_false fun z => by subst z; rcases okc with q | q | q <;> omega
theorem findC_let {n k : Nat} (h : n = 2 ∨ n = 3) (hk : k < n) : findC n (120 + k) = (k : Int) := by
  unfold findC
  match k, hk with
  | 0, _ => rfl
  | 1, _ => rfl
  | 2, hk =>
    have : n = 3 := by omega
    subst this
    rfl
  | k + 3, hk => omega
theorem tm_ltr {n k : Nat} {m : Int} (hn : n = 2 ∨ n = 3) (g : (Tm.ltr k m).Good n) {s : List Int × (Int × Int)} (h0 : s.1.getD k 0 = 0) : tmV n s (Tm.ltr k m).tok = some (s.1.set k m, s.2) := by
  have hd : n ≤ 3 := by omega
  obtain ⟨g1, g2, g3⟩ := id g
  have e := tok_cps (Tm.ltr k m)
  have eb : (Tm.ltr k m).bod.cps.toList = (amtT m).cps.toList ++ [120 + k] := by
    show (amtT m ++ letT k).cps.toList = _
    rw [app_cps, let_cps]
  rw [eb, ← List.append_assoc] at e
  have ea : atV n (Tm.ltr k m).tok = (k : Int) := by
    unfold atV
    rw [if_neg (ne_empty (by rw [e]; simp)), last_is e, find_is hn, findC_let hn g1]
  unfold tmV
  rw [ea, if_neg (by omega), Int.toNat_natCast, if_pos h0, neg_iff hd g]
  cases hs : (Tm.ltr k m).neg with
  | true =>
    have hm : m < 0 := of_decide_eq_true hs
    rw [hs] at e
    have e2 : (Tm.ltr k m).tok.cps.toList = 45 :: ((amtT m).cps.toList ++ [120 + k]) := by rw [e]; rfl
    rw [if_pos rfl, str_ext (mid_is e2), amt_back g2 g3]
    show some (s.1.set k (-(m.natAbs : Int)), s.2) = _
    rw [show -(m.natAbs : Int) = m by omega]
  | false =>
    have hm : ¬ m < 0 := of_decide_eq_false hs
    rw [hs] at e
    have e2 : (Tm.ltr k m).tok.cps.toList = (amtT m).cps.toList ++ [120 + k] := by rw [e]; rfl
    rw [if_neg (by decide), str_ext (init_is e2), amt_back g2 g3]
    show some (s.1.set k (m.natAbs : Int), s.2) = _
    rw [show (m.natAbs : Int) = m by omega]
theorem tok_word (p : Int × Int) : (Tm.alone p).tok = wordT p := by
  unfold Tm.tok wordT
  show (if decide (p.1 < 0) = true then minus ++ fracW p.1.natAbs p.2.toNat else fracW p.1.natAbs p.2.toNat) = _
  by_cases h : p.1 < 0
  · rw [if_pos h, if_pos (by simpa using h)]
  · rw [if_neg h, if_neg (by simpa using h)]
theorem sgn_back {p : Int × Int} (g : GoodPr p) (h : p.1 ≠ 0) : sgnV (wordT p) = some p := by
  have k := num_back g
  unfold numV at k
  split at k
  · cases k
    exact absurd rfl h
  · unfold sgnV
    exact k
theorem tm_alone {n : Nat} {p : Int × Int} (hn : n = 2 ∨ n = 3) (g : (Tm.alone p).Good n) {s : List Int × (Int × Int)} (h0 : s.2.1 = 0) : tmV n s (Tm.alone p).tok = some (s.1, p) := by
  have hd : n ≤ 3 := by omega
  obtain ⟨c0, r0, ec, _⟩ := bod_cons hd g
  have e := tok_cps (Tm.alone p)
  have hne : (Tm.alone p).tok.cps.toList ≠ [] := by rw [e, ec]; simp
  obtain ⟨i, c, ei⟩ := snoc_of hne
  have hc : c ∈ (Tm.alone p).tok.cps.toList := by rw [ei]; simp
  have hc2 : c < 58 := by
    rw [e] at hc
    rcases List.mem_append.mp hc with q | q
    · split at q
      · have := List.mem_singleton.mp q; omega
      · cases q
    · rcases frac_ok _ _ c q with q | q <;> omega
  have ea : atV n (Tm.alone p).tok = -1 := by
    unfold atV
    rw [if_neg (ne_empty hne), last_is ei, find_is hn]
    unfold findC
    rw [if_neg (by omega), if_neg (by omega), if_neg (by omega)]
  unfold tmV
  rw [if_pos ea, if_pos h0, tok_word, sgn_back g.1 g.2]
  rfl
theorem getD_set {l : List Int} {k j : Nat} {m : Int} (hk : k < l.length) : (l.set k m).getD j 0 = if j = k then m else l.getD j 0 := by
  rw [List.getD_eq_getElem?_getD, List.getD_eq_getElem?_getD, List.getElem?_set]
  by_cases h : k = j
  · subst h
    rw [if_pos rfl, if_pos rfl, if_pos hk]
    rfl
  · rw [if_neg h, if_neg (fun z => h z.symm)]
theorem fold_ok {n : Nat} (hn : n = 2 ∨ n = 3) {R : List Int} {p : Int × Int} (hR : R.length = n) : ∀ (us : List Tm) (s : List Int × (Int × Int)), (∀ u ∈ us, u.Good n ∧ u.Of R p) → us.Nodup → s.1.length = n →
    (∀ k, k < n → (Tm.ltr k (R.getD k 0) ∈ us → s.1.getD k 0 = 0) ∧ (Tm.ltr k (R.getD k 0) ∉ us → s.1.getD k 0 = R.getD k 0)) → ((Tm.alone p ∈ us → s.2 = (0, 1)) ∧ (Tm.alone p ∉ us → s.2 = p)) → foldV n (us.map Tm.tok) s = some (R, p)
  | [], s, _, _, hl, h1, h2 => by
    obtain ⟨s1, s2⟩ := s
    have e2 : s2 = p := h2.2 (by simp)
    have e1 : s1 = R := by
      refine List.ext_getElem (by rw [hR]; exact hl) fun i hi1 hi2 => ?_
      have := (h1 i (by omega)).2 (by simp)
      simpa [List.getD_eq_getElem?_getD, hi1, hi2] using this
    rw [e1, e2]
    rfl
  | u :: r, s, hg, hnd, hl, h1, h2 => by
    obtain ⟨gu, ou⟩ := hg u List.mem_cons_self
    obtain ⟨nu, nr⟩ := List.nodup_cons.mp hnd
    have gr : ∀ v ∈ r, v.Good n ∧ v.Of R p := fun v hv => hg v (List.mem_cons_of_mem _ hv)
    rw [List.map_cons]
    unfold foldV
    cases u with
    | ltr k m =>
      have em : m = R.getD k 0 := ou
      have hk : k < n := gu.1
      rw [tm_ltr hn gu ((h1 k hk).1 (by rw [← em]; exact List.mem_cons_self))]
      show foldV n (r.map Tm.tok) (s.1.set k m, s.2) = _
      refine fold_ok hn hR r _ gr nr (by simp [hl]) (fun j hj => ?_) ⟨fun z => h2.1 (List.mem_cons_of_mem _ z), fun z => h2.2 fun q => ?_⟩
      · show (_ → (s.1.set k m).getD j 0 = 0) ∧ (_ → (s.1.set k m).getD j 0 = _)
        rw [getD_set (by omega)]
        by_cases hjk : j = k
        · subst hjk
          rw [if_pos rfl, ← em]
          exact ⟨fun z => absurd z nu, fun _ => rfl⟩
        · rw [if_neg hjk]
          refine ⟨fun z => (h1 j hj).1 (List.mem_cons_of_mem _ z), fun z => (h1 j hj).2 fun q => ?_⟩
          rcases List.mem_cons.mp q with q | q
          · injection q with q1 q2
            exact hjk q1
          · exact z q
      · rcases List.mem_cons.mp q with q | q
        · cases q
        · exact z q
    | alone q =>
      have eq : q = p := ou
      subst eq
      have z0 := h2.1 List.mem_cons_self
      rw [tm_alone hn gu (by rw [z0])]
      show foldV n (r.map Tm.tok) (s.1, q) = _
      refine fold_ok hn hR r _ gr nr hl (fun j hj => ⟨fun z => (h1 j hj).1 (List.mem_cons_of_mem _ z), fun z => (h1 j hj).2 fun w => ?_⟩) ⟨fun z => absurd z nu, fun _ => rfl⟩
      rcases List.mem_cons.mp w with w | w
      · cases w
      · exact z w
structure Wrt (n : Nat) (R : List Int) (p : Int × Int) (us : List Tm) : Prop where
  len : R.length = n
  pr : GoodPr p
  good : ∀ u ∈ us, u.Good n ∧ u.Of R p
  nd : us.Nodup
  ne : us ≠ []
  row : ∀ k, k < n → R.getD k 0 ≠ 0 → Tm.ltr k (R.getD k 0) ∈ us
  one : p.1 ≠ 0 → Tm.alone p ∈ us
theorem pr_zero {p : Int × Int} (g : GoodPr p) (h : p.1 = 0) : p = (0, 1) := by
  obtain ⟨a, b⟩ := p
  have h : a = 0 := h
  have lo : gcdI a b = 1 := g.low
  have hp : 0 < b := g.pos
  subst h
  unfold gcdI at lo
  rw [Int.gcd_zero_left] at lo
  have : b = 1 := by omega
  rw [this]
theorem part_back {n : Nat} (hn : n = 2 ∨ n = 3) {R : List Int} {p : Int × Int} {us : List Tm} (h : Wrt n R p us) : partV n (partW us) = some (R, p) := by
  have hd : n ≤ 3 := by omega
  match us, h with
  | [], h => exact absurd rfl h.ne
  | u :: r, h =>
    obtain ⟨t1, t2⟩ := terms_is (us := r) hd fun v hv => (h.good v hv).1
    unfold partV
    rw [t1, if_neg (by decide), t2]
    refine fold_ok hn h.len _ _ h.good h.nd (by simp) (fun k hk => ?_) ⟨fun _ => rfl, fun z => ?_⟩
    · have e0 : (List.replicate n (0 : Int)).getD k 0 = 0 := by simp [List.getD_eq_getElem?_getD, hk]
      refine ⟨fun _ => e0, fun z => ?_⟩
      rw [e0]
      by_cases q : R.getD k 0 = 0
      · exact q.symm
      · exact absurd (h.row k hk q) z
    · by_cases q : p.1 = 0
      · exact (pr_zero h.pr q).symm
      · exact absurd (h.one q) z
theorem amt_len {n : Int} (h : n.natAbs < 10 ^ 100) : (amtT n).length ≤ 100 := by
  unfold amtT
  split
  · rw [show ("" : Str).length = 0 from by decide +kernel]; omega
  · exact dec100 h
theorem plus_len : plus.length = 1 := by decide +kernel
theorem bod_len {d : Nat} {u : Tm} (h : u.Good d) : u.bod.length ≤ 201 := by
  cases u with
  | ltr k n =>
    show (amtT n ++ letT k).length ≤ 201
    have := amt_len h.2.2
    rw [len_app, show (letT k).length = 1 from rfl]
    omega
  | alone p => exact fracW_len h.1.top (by have := h.1.bot; have := h.1.pos; omega)
theorem txt_len {d : Nat} {u : Tm} (h : u.Good d) : 1 ≤ u.txt.length ∧ u.txt.length ≤ 202 := by
  have := bod_len h
  unfold Tm.txt
  rw [len_app]
  split
  · rw [minus_len]; omega
  · rw [plus_len]; omega
theorem cat_len {B : Nat} (xs : List Str) (h : ∀ x ∈ xs, x.length ≤ B) : (catS xs).length ≤ B * xs.length := by
  rw [← len_list, cat_cps]
  induction xs with
  | nil => simp
  | cons x r ih =>
    rw [List.flatMap_cons, List.length_append, List.length_cons, len_list, Nat.mul_succ]
    have := h x List.mem_cons_self
    have := ih fun y hy => h y (List.mem_cons_of_mem _ hy)
    omega
theorem off_len (x : Str) : (plusOff x).length ≤ x.length := by
  unfold plusOff
  split
  · exact PyProof.Txt.length_slice_le x (some 1) none
  · exact Nat.le_refl _
theorem partW_len {d : Nat} {us : List Tm} (h : ∀ u ∈ us, u.Good d) (hl : us.length ≤ 4) : (partW us).length ≤ 808 := by
  have := cat_len (B := 202) (us.map Tm.txt) fun x hx => by
    obtain ⟨u, hu, rfl⟩ := List.mem_map.mp hx
    exact (txt_len (h u hu)).2
  have h2 := off_len (catS (us.map Tm.txt))
  rw [List.length_map] at this
  unfold partW
  omega
theorem partW_free {n : Nat} (hn : n ≤ 3) {R : List Int} {p : Int × Int} {us : List Tm} (h : Wrt n R p us) : 44 ∉ (partW us).cps.toList := by
  match us, h with
  | [], h => exact absurd rfl h.ne
  | u :: r, h =>
    have gu := (h.good u List.mem_cons_self).1
    rw [part_cps hn gu]
    simp only [List.mem_append, not_or]
    refine ⟨by split <;> simp, bod_free hn gu (by decide), fun z => ?_⟩
    obtain ⟨x, hx, hc⟩ := List.mem_flatMap.mp z
    obtain ⟨v, hv, rfl⟩ := List.mem_map.mp hx
    exact txt_free hn (h.good v (List.mem_cons_of_mem _ hv)).1 hc
end
noncomputable def tupP (p : Int × Int) : HO := .tup [.int p.1, .int p.2]
noncomputable def PairsL (H : Hp) (l : Addr) (ps : List (Int × Int)) : Prop := ∃ ys, H l = some (.lst ys) ∧ ys.length = ps.length ∧ ∀ (j : Nat) (y : V), ys[j]? = some y → ∃ a p, y = .ref a ∧ ps[j]? = some p ∧ H a = some (tupP p)
theorem PairsL.up {H H' : Hp} {l : Addr} {ps : List (Int × Int)} (h : PairsL H l ps) (s : Same H H') : PairsL H' l ps := let ⟨ys, h1, h2, h3⟩ := h; ⟨ys, s _ _ h1, h2, fun j y e => let ⟨a, p, k1, k2, k3⟩ := h3 j y e; ⟨a, p, k1, k2, s _ _ k3⟩⟩
noncomputable def sp_read_whole (C : Addr) : Sp := fun vs H Q E => ∃ x : Str, vs = [.str x] ∧ x.length ≤ 3000 ∧ (wholeB x = false → E (.ref C) none H) ∧ (wholeB x = true → Q (.int (valN x)) H)
noncomputable def sp_read_opt (f : Str → Option (Int × Int)) (C : Addr) : Sp := fun vs H Q E => ∃ x : Str, vs = [.str x] ∧ x.length ≤ 3000 ∧ (f x = none → ∀ H', Same H H' → E (.ref C) none H') ∧ (∀ p, f x = some p → ∀ a H', Same H H' → H' a = some (tupP p) → Q (.ref a) H')
noncomputable abbrev sp_read_fraction (_ : PySem.W.Frag) (C : Addr) : Sp := sp_read_opt fracV C
noncomputable abbrev sp_read_signed (_ : PySem.W.Frag) (C : Addr) : Sp := sp_read_opt sgnV C
noncomputable def sp_parts_of (K : PySem.W.Frag) (C : Addr) : Sp := fun vs H Q E => ∃ x : Str, vs = [.str x] ∧ x.length ≤ 3000 ∧ (¬ ((Txt.split x comma).length = 2 ∨ (Txt.split x comma).length = 3) → ∀ H', Same H H' → E (.ref C) none H') ∧
  (((Txt.split x comma).length = 2 ∨ (Txt.split x comma).length = 3) → ∀ l H', Same H H' → H' l = some (.lst ((Txt.split x comma).map V.str)) → Q (.ref l) H')
noncomputable def sp_common_under (K : PySem.W.Frag) : Sp := fun vs H Q _ => ∃ (l : Addr) (ps : List (Int × Int)), vs = [.ref l] ∧ PairsL H l ps ∧ ps.length ≤ 3 ∧ (∀ p ∈ ps, GoodPr p) ∧ ∀ a q H', Same H H' → H' a = some (.tup [.ref q, .int (proU ps)]) → H' q = some (.lst ((proT ps).map V.int)) → Q (.ref a) H'
theorem parts_le (u : Str) (y : Str) (h : u.length ≤ 4000) : (Builtin.Str.partsBetween u (Builtin.Str.occurrences u y 0 u.length (u.length + 1)) y.length).length ≤ 4002 := by
  rw [PyProof.Rows.len_partsBetween]
  have := PySem.StrLaws.occ_length_le u y 0 u.length (u.length + 1)
  omega
theorem cut_ne (u y : Str) : 1 ≤ (Txt.split u y).length := PyProof.Rows.split_pos u y
theorem part_le {u x y : Str} (h : x ∈ Txt.split u y) : x.length ≤ u.length := by
  unfold Txt.split at h
  split at h
  · rw [List.mem_singleton.mp h]; exact Nat.le_refl _
  · split at h
    · rw [List.mem_singleton.mp h]; exact Nat.le_refl _
    · unfold Builtin.Str.partsBetween at h
      obtain ⟨⟨i, j⟩, _, rfl⟩ := List.mem_map.mp h
      exact strSub_length_le u i j
theorem slash_len0 : (slash.length == 0) = false := by decide +kernel
theorem comma_len0 : (comma.length == 0) = false := by decide +kernel
theorem proU_small {ps : List (Int × Int)} (h : ∀ p ∈ ps, GoodPr p) (hl : ps.length ≤ 3) : small (proU ps) := by
  have h1 := proU_pos h
  have h2 := pro_le ps 1 (by decide) h 1 (by decide)
  have h3 : (10 : Int) ^ (1 + 100 * ps.length) ≤ 10 ^ 301 := by
    have : (10 : Nat) ^ (1 + 100 * ps.length) ≤ 10 ^ 301 := Nat.pow_le_pow_right (by decide) (by omega)
    exact_mod_cast this
  unfold small
  have h4 : (proU ps).natAbs < 10 ^ 301 := by
    have e : ((proU ps).natAbs : Int) = proU ps := by omega
    have : ((proU ps).natAbs : Int) < 10 ^ 301 := by rw [e]; exact Int.lt_of_lt_of_le h2 h3
    exact_mod_cast this
  exact Nat.lt_of_lt_of_le h4 (show (10 : Nat) ^ 301 ≤ 2 ^ 8990 from Nat.le_trans (show (10 : Nat) ^ 301 ≤ 2 ^ 2000 by decide +kernel) (Nat.pow_le_pow_right (by decide) (by decide)))
theorem lawU_small {ps : List (Int × Int)} (h : ∀ p ∈ ps, GoodPr p) (hl : ps.length ≤ 3) : small (lawU ps) := by
  have := proU_small h hl
  have := law_le h
  have := lawU_pos h
  unfold small at *
  omega
theorem digs_all {x : Str} (h : wholeB x = true) : intText? x = some ((valN x : Nat) : Int) := PySem.intText_digits (whole_all h).1 (whole_all h).2.1 (by have := (whole_all h).2.2.1; omega)
theorem one_of {x : Str} : 1 ≤ x.length ↔ ¬ V.str x = V.str (Str.ofString "") := by
  constructor
  · intro h e
    have e2 : x = Str.ofString "" := by injection e
    rw [e2] at h
    exact absurd h (by decide +kernel)
  · intro h
    rcases Nat.eq_zero_or_pos x.length with z | z
    · refine absurd ?_ h
      obtain ⟨a⟩ := x
      have : a = #[] := Array.eq_empty_of_size_eq_zero z
      rw [this]
      rfl
    · exact z
theorem sw_zero {x : Str} : Txt.startswith x (Str.ofString "0") = decide (x.cps.toList[0]? = some 48) := by
  have l1 : (Str.ofString "0").length = 1 := by decide +kernel
  have l2 : (Str.ofString "0").cps = #[48] := by decide +kernel
  unfold Txt.startswith Builtin.Str.subAt
  rw [l1, l2]
  cases e : x.cps.toList with
  | nil =>
    have : x.length = 0 := by rw [← len_list, e]; rfl
    rw [this]
    simp
  | cons c r =>
    have hx : x = ⟨(c :: r).toArray⟩ := str_ext (by rw [e])
    subst hx
    have e1 : decide (0 + 1 ≤ (⟨(c :: r).toArray⟩ : Str).length) = true := decide_eq_true (by show 0 + 1 ≤ (c :: r).toArray.size; simp)
    rw [e1, Bool.true_and]
    have e2 : ((⟨(c :: r).toArray⟩ : Str).cps.extract 0 (0 + 1)) = #[c] := by simp
    rw [e2]
    by_cases z : c = 48
    · subst z; rfl
    · simp [z]
noncomputable def sp_read_amount (C : Addr) : Sp := fun vs H Q E => ∃ x : Str, vs = [.str x] ∧ x.length ≤ 3000 ∧ (amtV x = none → E (.ref C) none H) ∧ (∀ a, amtV x = some a → Q (.int a) H)
noncomputable def sp_terms_of (K : PySem.W.Frag) (C : Addr) : Sp := fun vs H Q E => ∃ x : Str, vs = [.str x] ∧ x.length ≤ 1400 ∧ (Txt.startswith x plus = true → ∀ H', Same H H' → E (.ref C) none H') ∧ (Txt.startswith x plus = false → ∀ l H', Same H H' → H' l = some (.lst ((termsV x).map V.str)) → Q (.ref l) H')
noncomputable def sp_read_part (K : PySem.W.Frag) (C : Addr) : Sp := fun vs H Q E => ∃ (x : Str) (n : Nat), vs = [.str x, .str (lets n)] ∧ (n = 2 ∨ n = 3) ∧ x.length ≤ 1400 ∧ (partV n x = none → ∀ H', Same H H' → E (.ref C) none H') ∧
  (∀ R p, partV n x = some (R, p) → ∀ a r q H', Same H H' → H r = none → H' a = some (.tup [.ref r, .ref q]) → H' r = some (.lst (R.map V.int)) → H' q = some (tupP p) → Q (.ref a) H')
noncomputable def parG (n : Nat) (x : Str) : List Int × (Int × Int) := (partV n x).getD ([], (0, 1))
noncomputable def matG (L : List Str) : List (List Int) := L.map fun x => (parG L.length x).1
noncomputable def prsG (L : List Str) : List (Int × Int) := L.map fun x => (parG L.length x).2
noncomputable def okR (L : List Str) : Prop := (L.length = 2 ∨ L.length = 3) ∧ ∀ x ∈ L, ∃ s, partV L.length x = some s
noncomputable def sp_law_kinds (K : PySem.W.Frag) : Sp := fun vs H Q _ => ∃ (p : Addr) (M : List (List Int)) (ts : List Int) (u : Int) (d : Nat), vs = [.ref p] ∧ DeedAt K H p M ts u ∧ Sq d M ∧ ts.length = d ∧ d ≤ 4 ∧ ∀ H', Same H H' → Q (.bl true) H'
theorem par_some {n : Nat} {x : Str} {s : List Int × (Int × Int)} (h : partV n x = some s) : parG n x = s := by unfold parG; rw [h]; rfl
theorem plus_len0 : (plus.length == 0) = false := by decide +kernel
theorem cg_seqP {K : PySem.W.Frag} {l a : Addr} {ys0 : List V} {ps : List (Int × Int)} {te : TE} {fr : List (Str × Nat)} {σ : St} {H : Hp} {Q : VK} (R : Nat → V → Hp → Prop) (ha : H a = none) (hl : H l = some (.lst ys0))
    (pk : ∀ (j : Nat) (y : V), ys0[j]? = some y → ∃ a p, y = .ref a ∧ ps[j]? = some p ∧ H a = some (tupP p)) (hz : ys0.length ≤ 1000) (mono : ∀ i y H1 H2, R i y H1 → SameX a H1 H2 → R i y H2)
    (he : ∀ i p H1 zs, ps[i]? = some p → Same H H1 → H1 a = some (.lst zs) → ∀ Q' : VK, (∀ y H2, Same H1 H2 → R i y H2 → Q' y H2) → te (some (.int p.1) :: some (.int p.2) :: frees fr σ) H1 Q')
    (hd : ∀ H1 ys, Same H H1 → H1 a = some (.lst ys) → ys.length = ys0.length → (∀ j y, ys[j]? = some y → R j y H1) → Q (.ref a) H1) : CompWG (Its K false l) (gTup K 2 (gCons (gName 0) (gCons (gName 1) gNil))) (tEl te) 2 fr σ a H Q := by
  have hS : SqB false K H l ys0 := SqB.lst hl
  refine cg_rel ys0.length R ha hz mono (fun i H1 hi s => Its.go (hS.up s) (x := ys0[i]) (by simp [hi])) (fun H1 s => Its.stop (hS.up s) (Nat.le_refl _)) ?_ hd
  intro i H1 zs hi s1 ez ys x H3 hys hy Q' hQ'
  obtain ⟨e1, e2⟩ := Its.yld (hS.up s1) hy
  subst e1
  obtain ⟨q, p, rfl, ep, hq⟩ := pk i x e2
  match ys, hys with
  | [o1, o2], _ => exact ⟨q, _, rfl, SqT.of (s1 _ _ hq), rfl, _, _, rfl, _, _, rfl, rfl, ⟨[_, _], rfl, rfl⟩, he i p H3 zs ep s1 ez Q' hQ'⟩
theorem proU_snoc {ps : List (Int × Int)} {i : Nat} {p : Int × Int} (h : ps[i]? = some p) : proU (ps.take (i + 1)) = proU (ps.take i) * p.2 := by
  unfold proU
  rw [take_snoc h, List.foldl_append]
  rfl
theorem lawU_snoc {ps : List (Int × Int)} {i : Nat} {p : Int × Int} (h : ps[i]? = some p) : lawU (ps.take (i + 1)) = (lawU (ps.take i) * p.2).fdiv (gcdI (lawU (ps.take i)) p.2) := by
  unfold lawU
  rw [take_snoc h, List.foldl_append]
  rfl
theorem good_take {ps : List (Int × Int)} (h : ∀ p ∈ ps, GoodPr p) (i : Nat) : ∀ p ∈ ps.take i, GoodPr p := fun p hp => h p (List.mem_of_mem_take hp)
theorem take_le3 {α : Type} {ps : List α} (h : ps.length ≤ 3) (i : Nat) : (ps.take i).length ≤ 3 := by rw [List.length_take]; omega
theorem small_bits {x : Int} (h : small x) : Builtin.Int.intBits x ≤ 8990 := intBits_le_iff.mpr h
theorem pr_bits {x : Int} (h : x.natAbs < 10 ^ 100) : Builtin.Int.intBits x ≤ 400 := intBits_le_iff.mpr (Nat.lt_of_lt_of_le h (show 10 ^ 100 ≤ 2 ^ 400 by decide +kernel))
theorem pr_div {p : Int × Int} (g : GoodPr p) (x : Int) : CDivB x p.2 := ⟨by have := g.pos; omega, Nat.lt_of_lt_of_le ((Nat.log2_lt (by have := g.pos; omega)).mpr (Nat.lt_of_lt_of_le g.bot (show 10 ^ 100 ≤ 2 ^ 400 by decide +kernel))) (by decide)⟩
theorem fdiv_small {u b : Int} (h : small u) : small (u.fdiv b) := Nat.lt_of_le_of_lt (natAbs_fdiv_le u b) h
theorem sq1 {rows : List (List Int)} (h : Sq 1 rows) : ∃ a, rows = [[a]] := by
  obtain ⟨hl, hr⟩ := h
  match rows, hl with
  | [r], _ =>
    have := hr r (by simp)
    match r, this with
    | [a], _ => exact ⟨a, rfl⟩
theorem len2 {r : List Int} (h : r.length = 2) : ∃ a b, r = [a, b] := by match r, h with | [a, b], _ => exact ⟨a, b, rfl⟩
theorem len3 {r : List Int} (h : r.length = 3) : ∃ a b c, r = [a, b, c] := by match r, h with | [a, b, c], _ => exact ⟨a, b, c, rfl⟩
theorem sq2 {rows : List (List Int)} (h : Sq 2 rows) : ∃ a b c d, rows = [[a, b], [c, d]] := by
  obtain ⟨hl, hr⟩ := h
  match rows, hl with
  | [r, s], _ =>
    obtain ⟨a, b, rfl⟩ := len2 (hr r (by simp))
    obtain ⟨c, d, rfl⟩ := len2 (hr s (by simp))
    exact ⟨a, b, c, d, rfl⟩
theorem sq3 {rows : List (List Int)} (h : Sq 3 rows) : ∃ a b c d e f g i j, rows = [[a, b, c], [d, e, f], [g, i, j]] := by
  obtain ⟨hl, hr⟩ := h
  match rows, hl with
  | [r, s, t], _ =>
    obtain ⟨a, b, c, rfl⟩ := len3 (hr r (by simp))
    obtain ⟨d, e, f, rfl⟩ := len3 (hr s (by simp))
    obtain ⟨g, i, j, rfl⟩ := len3 (hr t (by simp))
    exact ⟨a, b, c, d, e, f, g, i, j, rfl⟩
theorem det2 (a b c d : Int) : detM 2 [[a, b], [c, d]] = a * d - b * c := by
  simp [detM, altS, minorM, sg]
  try grind
theorem det3 (a b c d e f g i j : Int) : detM 3 [[a, b, c], [d, e, f], [g, i, j]] = (b * f - c * e) * g + (c * d - a * f) * i + (a * e - b * d) * j := by
  simp [detM, altS, minorM, sg]
  try grind
noncomputable def deedD (M : List (List Int)) (ts : List Int) (u : Int) : PyData := .tuple [matD true true M, intsD true ts, .int u]
theorem deedD_inj {M N : List (List Int)} {ts ns : List Int} {u v : Int} : deedD M ts u = deedD N ns v ↔ (M = N ∧ ts = ns ∧ u = v) := by
  unfold deedD
  simp only [PyData.tuple.injEq, List.cons.injEq, PyData.int.injEq, and_true, matD_inj, intsD_inj]
theorem iT_deed (M : List (List Int)) (ts : List Int) (u : Int) : iT 3 (deedD M ts u) = true := by
  show ([matD true true M, intsD true ts, .int u].all (iT 2)) = true
  simp only [List.all_cons, List.all_nil, iT_mat true true 0 M, iT_ints true 1 ts, Bool.and_true, Bool.true_and]
  rfl
theorem Dt.deed {K : PySem.W.Frag} {H : Hp} {p : Addr} {M : List (List Int)} {ts : List Int} {u : Int} (h : DeedAt K H p M ts u) : Dt K H (.ref p) (deedD M ts u) := by
  obtain ⟨pr, pt, h1, h2, h3⟩ := h
  exact .tup (SqT.of h1) (.cons (Dt.matB h2) (.cons (Dt.intsB (SqB.tup h3)) (.cons (.int u) .nil)))
theorem deed_eq {H : Hp} {p q : Addr} {M N : List (List Int)} {ts ns : List Int} {u v : Int} {Q : VK} (h1 : DeedAt K H p M ts u) (h2 : DeedAt K H q N ns v) (k : Q (.bl (decide (M = N ∧ ts = ns ∧ u = v))) H) : rEqD K (.ref p) (.ref q) H Q :=
  eqD_of 3 (by decide) (Dt.deed h1) (Dt.deed h2) (iT_deed _ _ _) (iT_deed _ _ _) (b := decide (M = N ∧ ts = ns ∧ u = v)) (by rw [decide_eq_true_eq]; exact deedD_inj.symm) k
theorem ixN_nat {n k : Nat} (h : k < n) : ixN n (k : Int) = some k := by
  unfold ixN
  rw [if_pos (by omega), if_pos (by omega)]
  simp
theorem Sq.setRow {d i : Nat} {M : List (List Int)} {r : List Int} (h : Sq d M) (hr : r.length = d) : Sq d (M.set i r) := ⟨by simp [h.1], fun z hz => by
  rcases List.mem_or_eq_of_mem_set hz with e | e
  · exact h.2 z e
  · rw [e]; exact hr⟩
theorem BitsM.setRow {B i : Nat} {M : List (List Int)} {r : List Int} (h : BitsM B M) (hr : ∀ x ∈ r, x.natAbs < 2 ^ B) : BitsM B (M.set i r) := fun z hz => by
  rcases List.mem_or_eq_of_mem_set hz with e | e
  · exact h z e
  · rw [e]; exact hr
theorem sgn_good {x : Str} {p : Int × Int} (h : sgnV x = some p) : GoodPr p := by
  unfold sgnV at h
  split at h
  · cases e : fracV (tailS x) with
    | none => rw [e] at h; cases h
    | some q =>
      rw [e] at h
      have h' : negP q = p := by simpa using h
      obtain ⟨g, g2, g3⟩ := frac_good e
      subst h'
      exact ⟨g.pos, by show (-q.1).natAbs < _; rw [Int.natAbs_neg]; exact g.top, g.bot, by show gcdI (-q.1) q.2 = 1; rw [gcd_negL]; exact g.low⟩
  · exact (frac_good h).1
theorem amt_lt {x : Str} {a : Int} (h : amtV x = some a) : a.natAbs < 10 ^ 100 := by
  unfold amtV at h
  split at h
  · cases h; decide
  · split at h
    · cases h
    · split at h
      · rename_i hw
        cases h
        rw [Int.natAbs_natCast]
        exact whole_lt hw
      · cases h
structure Stt (n : Nat) (s : List Int × (Int × Int)) : Prop where
  len : s.1.length = n
  pr : GoodPr s.2
  bd : ∀ z ∈ s.1, z.natAbs < 10 ^ 100
theorem Stt.step {n : Nat} {s s' : List Int × (Int × Int)} {x : Str} (h : Stt n s) (e : tmV n s x = some s') : Stt n s' := by
  unfold tmV at e
  have put : ∀ (k : Nat) (a : Int), a.natAbs < 10 ^ 100 → Stt n (s.1.set k a, s.2) := fun k a ha => ⟨by simp [h.len], h.pr, fun z hz => by
    rcases List.mem_or_eq_of_mem_set hz with q | q
    · exact h.bd z q
    · rw [q]; exact ha⟩
  split at e
  · split at e
    · cases e2 : sgnV x with
      | none => rw [e2] at e; cases e
      | some p => rw [e2] at e; cases e; exact ⟨h.len, sgn_good e2, h.bd⟩
    · cases e
  · split at e
    · split at e
      · cases e2 : amtV (midS x) with
        | none => rw [e2] at e; cases e
        | some a => rw [e2] at e; cases e; exact put _ _ (by rw [Int.natAbs_neg]; exact amt_lt e2)
      · cases e2 : amtV (initS x) with
        | none => rw [e2] at e; cases e
        | some a => rw [e2] at e; cases e; exact put _ _ (amt_lt e2)
    · cases e
theorem Stt.fold {n : Nat} : ∀ (xs : List Str) {s s' : List Int × (Int × Int)}, Stt n s → foldV n xs s = some s' → Stt n s'
  | [], s, s', h, e => by cases e; exact h
  | x :: r, s, s', h, e => by
    unfold foldV at e
    cases e2 : tmV n s x with
    | none => rw [e2] at e; cases e
    | some s2 => rw [e2] at e; exact Stt.fold r (h.step e2) e
theorem good01 : GoodPr (0, 1) := ⟨by decide, by decide, by decide, by decide⟩
theorem stt_zero (n : Nat) : Stt n (List.replicate n 0, (0, 1)) := ⟨by simp, good01, fun z hz => by rw [List.eq_of_mem_replicate hz]; decide⟩
theorem part_facts {n : Nat} {x : Str} {s : List Int × (Int × Int)} (h : partV n x = some s) : Stt n s := by
  unfold partV at h
  split at h
  · cases h
  · exact Stt.fold _ (stt_zero n) h
theorem okR_at {xs : List Str} (ok : okR xs) {x : Str} (hx : x ∈ xs) : partV xs.length x = some (parG xs.length x) ∧ Stt xs.length (parG xs.length x) := by
  obtain ⟨s, e⟩ := ok.2 x hx
  rw [par_some e]
  exact ⟨e, part_facts e⟩
theorem join_le {xs : List Str} {B : Nat} (h : ∀ x ∈ xs, x.length ≤ B) : (Txt.join comma xs).length ≤ xs.length * (B + 1) := by
  rw [txt_join]
  refine Nat.le_trans (PySem.StrLaws.join_length_le comma xs) ?_
  have e1 : comma.length = 1 := by decide +kernel
  have := PySem.StrLaws.sumLen_le xs h
  rw [e1]
  have e2 : xs.length * (B + 1) = xs.length * B + xs.length := Nat.mul_succ _ _
  omega
structure Says (d : Nat) (M : List (List Int)) (ps : List (Int × Int)) (L : List Str) : Prop where
  len : L.length = d
  at' : ∀ (i : Nat) (x : Str) , L[i]? = some x → ∃ R p us, M[i]? = some R ∧ ps[i]? = some p ∧ Wrt d R p us ∧ us.length ≤ 4 ∧ x = partW us
theorem Says.small {d : Nat} {M : List (List Int)} {ps : List (Int × Int)} {L : List Str} (h : Says d M ps L) : ∀ y ∈ L, y.length ≤ 808 ∧ (d ≤ 3 → 44 ∉ y.cps.toList) ∧ ((d = 2 ∨ d = 3) → ∃ s, partV d y = some s) := fun y hy => by
  obtain ⟨i, hi, e⟩ := List.getElem_of_mem hy
  obtain ⟨R, p, us, h1, h2, h3, h4, rfl⟩ := h.at' i y (by rw [← e]; simp [hi])
  exact ⟨partW_len (fun u hu => (h3.good u hu).1) h4, fun hd => partW_free hd h3, fun hd => ⟨_, part_back hd h3⟩⟩
theorem Says.read {d : Nat} (hd : d = 2 ∨ d = 3) {M : List (List Int)} {ps : List (Int × Int)} {L : List Str} (h : Says d M ps L) (hM : M.length = d) (hp : ps.length = d) :
    (Txt.join comma L).length ≤ 3000 ∧ Txt.split (Txt.join comma L) comma = L ∧ okR L ∧ matG L = M ∧ prsG L = ps := by
  have sm := h.small
  have l1 := join_le (B := 808) fun x hx => (sm x hx).1
  have hl := h.len
  rw [hl] at l1
  refine ⟨?_, ?_, ⟨by rw [hl]; exact hd, fun y hy => by rw [hl]; exact (sm y hy).2.2 hd⟩, ?_, ?_⟩
  · have : d * (808 + 1) ≤ 3 * (808 + 1) := Nat.mul_le_mul_right _ (by omega)
    omega
  · rw [txt_join, comma_is]
    refine split_is (fun z => ?_) (fun p hp => (sm p hp).2.1 (by omega)) rfl
    rw [z] at hl
    simp at hl
    omega
  · unfold matG
    refine List.ext_getElem (by rw [List.length_map, hl, hM]) fun i h1 h2 => ?_
    have hi : i < L.length := by omega
    obtain ⟨R, p, us, k1, k2, k3, _, k5⟩ := h.at' i L[i] (by simp [hi])
    rw [List.getElem_map, k5, hl, par_some (part_back hd k3)]
    rw [List.getElem?_eq_getElem h2] at k1
    exact (Option.some.inj k1).symm
  · unfold prsG
    refine List.ext_getElem (by rw [List.length_map, hl, hp]) fun i h1 h2 => ?_
    have hi : i < L.length := by omega
    obtain ⟨R, p, us, k1, k2, k3, _, k5⟩ := h.at' i L[i] (by simp [hi])
    rw [List.getElem_map, k5, hl, par_some (part_back hd k3)]
    rw [List.getElem?_eq_getElem h2] at k2
    exact (Option.some.inj k2).symm
theorem getD_of {R : List Int} {i : Nat} {n : Int} (h : R[i]? = some n) : R.getD i 0 = n := by rw [List.getD_eq_getElem?_getD, h]; rfl
theorem cutV_from (ys : List V) {k : Nat} (h : k ≤ ys.length) : cutV ys (some (k : Int)) none = ys.drop k := by
  unfold cutV
  rw [HT.sIx_none, HT.sIx_nat, Nat.min_eq_left h, List.take_of_length_le (by simp)]
theorem terms_le {x y : Str} (h : y ∈ termsV x) : y.length ≤ 2 * x.length := by
  have key : y ∈ Txt.split (repM x) plus := by
    unfold termsV at h
    split at h
    · exact List.mem_of_mem_drop h
    · exact h
  exact Nat.le_trans (part_le key) (repM_len x)
theorem pi_seqK {X : Cx} {tg l : Expr} {tl : TE} (h : X.K = K) (hl : PE X l tl) : PI X tg l (iSeq K tl) := by
  subst h
  exact pi_seq hl
theorem refs_of : ∀ zs : List V, (∀ (j : Nat) (y : V), zs[j]? = some y → ∃ p : Addr, y = .ref p) → ∃ ps : List Addr, zs = ps.map V.ref
  | [], _ => ⟨[], rfl⟩
  | z :: r, hz => by
    obtain ⟨p, e⟩ := hz 0 z rfl
    obtain ⟨ps, e2⟩ := refs_of r fun j y q => hz (j + 1) y (by simpa using q)
    exact ⟨p :: ps, by rw [e, e2]; rfl⟩
theorem ok_read_whole (T : Txt K mg t) : FnOk P w K mg base (CX1 P w) 1 t.a_read_whole t.d_read_whole ["text"] (sp_read_whole t.a_NoText) := by
  refine T.F_read_whole.okX sc_read_whole (fun vs H Q E h => ?_) (fun cdv A outer s H vs Q E hr h => ?_)
  · obtain ⟨x, rfl, _⟩ := h
    rfl
  · obtain ⟨x, rfl, hx, hE, hQ⟩ := h
    refine ⟨_, (pss_cons (ps_if (PW.pt (pw_or (pt_cmpR op_eq (pv 0) pe_str (nomark _)) (pw_or (pt_cmpR op_gt (pe_callB call_len_str rfl T.z_len (by decide +kernel) (pa_cons (pv 0) pa_nil)) (pe_globE (v := (.int 100)) rfl T.g_MOST_FIGURES) (nomark _)) (pw_or1 (pt_val (pe_bm PySem.F.plainAttrs_str PySem.F.slot_str_startswith PySem.F.type_str_startswith mt_startsw (pv 0) (pa_cons pe_str pa_nil)))))))
      (pss_one (ps_raise rfl landsN_def rfl T.m_NoText T.x_NoText PySem.F.excBase_ValueError (pa_cons pe_str pa_nil)))
      pss_nil)
      (pss_cons (ps_for PassesOwn.leaving rfl (pi_str (pv 0)) (pg_name (i := 1) sc_read_whole.nd rfl (Or.inl rfl))
      (pss_one (ps_if (pt_cmpR op_notin_str (pv 1) (pe_globE (v := (.str "0123456789")) rfl T.g_FIGURES) rfl)
      (pss_one (ps_raise rfl landsN_def rfl T.m_NoText T.x_NoText PySem.F.excBase_ValueError (pa_cons pe_str pa_nil)))
      pss_nil)))
      (pss_one (ps_ret (pe_callTy call_intS rfl T.z_int (by decide +kernel) (pa_cons (pv 0) pa_nil)))))), ?_⟩
    show tSeq _ _ _ [some (.str x), none] H
    have bad : ¬ (1 ≤ x.length ∧ x.length ≤ 100 ∧ x.cps.toList[0]? ≠ some 48 ∧ x.cps.toList.all digB = true) → wholeB x = false := fun h => by
      unfold wholeB
      rw [Bool.eq_false_iff]
      intro z
      simp only [Bool.and_eq_true, decide_eq_true_eq, Bool.not_eq_true', decide_eq_false_iff_not] at z
      exact h z
    refine st fun N1 e1 => ?_
    simp only [tRaise]
    walk_at "rd2"
    by_cases k1 : V.str x = V.str (Str.ofString "")
    · refine ⟨rfl, _, rfl, ?_⟩
      rw [decide_eq_true k1]
      refine iteT ⟨by decide, hE (bad fun h => one_of.mp h.1 k1)⟩
    refine ⟨rfl, _, rfl, ?_⟩
    rw [decide_eq_false k1]
    refine iteF ⟨_, rfl, Nat.le_trans hx (by decide), ?_⟩
    by_cases k2 : x.length ≤ 100
    case neg =>
      rw [decide_eq_true (by omega)]
      refine iteT ?_
      simp only [tRaise]
      walk_at "rd2"
      exact ⟨by decide, hE (bad fun h => k2 h.2.1)⟩
    rw [decide_eq_false (by omega)]
    refine iteF ⟨rfl, _, rfl, _, rfl, ?_⟩
    rw [sw_zero]
    by_cases k3 : x.cps.toList[0]? = some 48
    case pos =>
      rw [decide_eq_true k3]
      refine iteT ?_
      simp only [tRaise]
      walk_at "rd2"
      exact ⟨by decide, hE (bad fun h => h.2.2.1 k3)⟩
    rw [decide_eq_false k3]
    refine iteF ?_
    subst e1
    refine st fun N1 e1 => for_st fun B eB => ?_
    simp only [iStr]
    walk_at "rd2"
    refine ⟨x, rfl, ?_⟩
    refine fr_str (g := gName 1) (tb := B) (fun j σ H3 => ∃ v3, σ = [some (.str x), v3] ∧ H3 = H ∧ ∀ c ∈ x.cps.toList.take j, digB c = true) ⟨_, rfl, rfl, fun c hc => by simp at hc⟩ ?_ ?_
    · rintro j c σ H3 hc ⟨v3, rfl, rfl, hok3⟩
      have hc' : x.cps.toList[j]? = some c := by simpa using hc
      subst eB
      walk_at "rd2"
      refine ⟨_, rfl, _, rfl, ?_⟩
      have ek : (!(!(Builtin.Str.occurrences (Str.ofString "0123456789") ⟨#[c]⟩ 0 (Str.ofString "0123456789").length 1).isEmpty)) = !digB c := by
        rw [← dig_is c]; rfl
      rw [ek]
      cases k4 : digB c with
      | false =>
        refine iteT ?_
        simp only [tRaise]
        walk_at "rd2"
        refine ⟨by decide, hE (bad fun h => ?_)⟩
        have := List.all_eq_true.mp h.2.2.2 c (List.mem_of_getElem? hc')
        rw [k4] at this
        cases this
      | true =>
        refine iteF fun d hd => ?_
        rw [take_snoc hc'] at hd
        rcases List.mem_append.mp hd with h | h
        · exact hok3 d h
        · rw [List.mem_singleton.mp h]; exact k4
    · rintro σ H2 ⟨v, rfl, rfl, hok⟩
      rw [show x.cps.size = x.cps.toList.length by simp, List.take_length] at hok
      have hw : wholeB x = true := by
        unfold wholeB
        simp only [Bool.and_eq_true, decide_eq_true_eq, Bool.not_eq_true', decide_eq_false_iff_not]
        exact ⟨one_of.mpr k1, k2, k3, List.all_eq_true.mpr hok⟩
      subst e1
      walk_at "rd2"
      exact ⟨x, _, rfl, digs_all hw, by omega, hQ hw⟩
theorem ok_read_fraction (T : Txt K mg t) : FnOk P w K mg base (CX1 P w) 2 t.a_read_fraction t.d_read_fraction ["text"] (sp_read_fraction K t.a_NoText) := by
  have G_divisor : FnOk P w K mg base CX0 1 t.a_divisor t.d_divisor ["one", "other"] sp_divisor := ok_divisor T
  have G_read_whole : FnOk P w K mg base (CX1 P w) 1 t.a_read_whole t.d_read_whole ["text"] (sp_read_whole t.a_NoText) := ok_read_whole T
  refine T.F_read_fraction.okX sc_read_fraction (fun vs H Q E h => ?_) (fun cdv A outer s H vs Q E hr h => ?_)
  · obtain ⟨x, rfl, _⟩ := h
    rfl
  · obtain ⟨x, rfl, hx, hE, hQ⟩ := h
    refine ⟨_, (pss_cons (ps_set (i := 1) sc_read_fraction.nd rfl (Or.inl rfl) (pe_bm PySem.F.plainAttrs_str PySem.F.slot_str_split PySem.F.type_str_split mt_split (pv 0) (pa_cons pe_str pa_nil)))
      (pss_cons (ps_if (pt_cmpR op_gt (pe_callB call_lenB rfl T.z_len (by decide +kernel) (pa_cons (pv 1) pa_nil)) pe_int (nomark _))
      (pss_one (ps_raise rfl landsN_def rfl T.m_NoText T.x_NoText PySem.F.excBase_ValueError (pa_cons pe_str pa_nil)))
      pss_nil)
      (pss_cons (ps_set (i := 2) sc_read_fraction.nd rfl (Or.inl rfl) (pe_callX G_read_whole (hr.mono (by omega)) rfl T.m_read_whole T.F_read_whole.kp T.b_read_whole .nil lands_def (pa_cons (pe_ix ix_B (pv 1) pe_int (fun _ _ => rfl)) pa_nil)))
      (pss_cons (ps_if (pt_cmpR op_eqZ (pe_callB call_lenB rfl T.z_len (by decide +kernel) (pa_cons (pv 1) pa_nil)) pe_int (nomark _))
      (pss_one (ps_ret (pe_tup (pa_cons (pv 2) (pa_cons pe_int pa_nil)))))
      pss_nil)
      (pss_cons (ps_set (i := 3) sc_read_fraction.nd rfl (Or.inl rfl) (pe_callX G_read_whole (hr.mono (by omega)) rfl T.m_read_whole T.F_read_whole.kp T.b_read_whole .nil lands_def (pa_cons (pe_ix ix_B (pv 1) pe_int (fun _ _ => rfl)) pa_nil)))
      (pss_cons (ps_if (PW.pt (pw_or (pt_cmpR op_eqZ (pv 3) pe_int (nomark _)) (pw_or1 (pt_cmpR op_neZ (pe_call G_divisor (hr.mono (by omega)) rfl T.m_divisor T.F_divisor.kp T.b_divisor .nil pass0 (pa_cons (pv 2) (pa_cons (pv 3) pa_nil))) pe_int (nomark _)))))
      (pss_one (ps_raise rfl landsN_def rfl T.m_NoText T.x_NoText PySem.F.excBase_ValueError (pa_cons pe_str pa_nil)))
      pss_nil)
      (pss_one (ps_ret (pe_tup (pa_cons (pv 2) (pa_cons (pv 3) pa_nil))))))))))), ?_⟩
    show tSeq _ _ _ [some (.str x), none, none, none] H
    have hne := cut_ne x slash
    have hpl : ∀ z ∈ Txt.split x slash, z.length ≤ 3000 := fun z hz => Nat.le_trans (part_le hz) hx
    refine st fun N1 e1 => ?_
    walk_at "rd2"
    refine ⟨rfl, x, slash, rfl, rfl, slash_len0, Nat.le_trans hx (by decide), Nat.le_trans (parts_le x slash (by omega)) (by decide), fun l hl => ?_⟩
    have s1 : Same H (upd H l (.lst ((Txt.split x slash).map V.str))) := Same.new hl
    have el : (upd H l (.lst ((Txt.split x slash).map V.str))) l = some (.lst ((Txt.split x slash).map V.str)) := upd_same
    generalize upd H l (.lst ((Txt.split x slash).map V.str)) = H1 at s1 el
    have hf : fracV x = fracL (Txt.split x slash) := rfl
    generalize hxs : Txt.split x slash = xs at *
    have hlen : ∀ Q' : VK, Q' (.int xs.length) H1 → rLenB K [.ref l] H1 Q' := fun Q' q => ⟨false, l, _, rfl, SqB.lst el, by rw [List.length_map]; exact q⟩
    have hix : ∀ (k : Nat) (z : Str) (Q' : VK), xs[k]? = some z → Q' (.str z) H1 → rIxB K (.ref l) (.int k) H1 Q' := fun k z Q' e q => ⟨false, l, _, _, _, rfl, rfl, SqB.lst el, atI_at (i := k) (by rw [List.getElem?_map, e]; rfl) rfl, q⟩
    subst e1
    refine st fun N1 e1 => ?_
    simp only [tRaise]
    walk_at "rd2"
    refine hlen _ ?_
    walk_at "rd2"
    by_cases k1 : xs.length ≤ 2
    case neg =>
      rw [decide_eq_true (by omega)]
      refine iteT ?_
      simp only [tRaise]
      walk_at "rd2"
      refine ⟨by decide, hE ?_ _ s1⟩
      rw [hf]
      match xs, k1 with
      | a :: b :: c :: r, _ => rfl
      | [], k => exact absurd (by simp) k
      | [a], k => exact absurd (by simp) k
      | [a, b], k => exact absurd (by simp) k
    rw [decide_eq_false (by omega)]
    refine iteF ?_
    subst e1
    refine st fun N1 e1 => ?_
    walk_at "rd2"
    have e0 : ∃ a r, xs = a :: r ∧ r.length ≤ 1 := by
      match xs, hne, k1 with
      | a :: r, _, k => exact ⟨a, r, rfl, by simpa using k⟩
    obtain ⟨a, r, exs, hr1⟩ := e0
    have ha0 : xs[0]? = some a := by rw [exs]; rfl
    refine hix 0 a _ ha0 ⟨a, rfl, hpl a (List.mem_of_getElem? ha0), fun hw => hE ?_ _ s1, fun hw => ?_⟩
    · rw [hf, exs]
      match r, hr1 with
      | [], _ => show (if wholeB a = true then some ((valN a : Int), (1 : Int)) else none) = none; rw [if_neg (by rw [hw]; decide)]
      | [b], _ => show (if wholeB a = true ∧ wholeB b = true ∧ valN b ≠ 1 ∧ gcdI (valN a) (valN b) = 1 then some ((valN a : Int), (valN b : Int)) else none) = none; rw [if_neg (by rw [hw]; simp)]
    subst e1
    refine st fun N1 e1 => ?_
    walk_at "rd2"
    refine hlen _ ?_
    walk_at "rd2"
    match r, hr1, exs with
    | [], _, exs =>
      rw [exs, decide_eq_true (by rfl)]
      refine iteT ⟨sizeLe (by simp), fun p hp => hQ ((valN a : Int), 1) ?_ p _ (s1.trans (Same.new hp)) upd_same⟩
      rw [hf, exs]
      show (if wholeB a = true then some ((valN a : Int), (1 : Int)) else none) = _
      rw [if_pos hw]
    | [b], _, exs =>
      rw [exs, decide_eq_false (show ¬ (([a, b].length : Nat) : Int) = 1 by simp)]
      refine iteF ?_
      have hb0 : xs[1]? = some b := by rw [exs]; rfl
      have hf2 : fracV x = (if wholeB a = true ∧ wholeB b = true ∧ valN b ≠ 1 ∧ gcdI (valN a) (valN b) = 1 then some ((valN a : Int), (valN b : Int)) else none) := by rw [hf, exs]; rfl
      subst e1
      refine st fun N1 e1 => ?_
      walk_at "rd2"
      refine hix 1 b _ hb0 ⟨b, rfl, hpl b (List.mem_of_getElem? hb0), fun hw2 => hE ?_ _ s1, fun hw2 => ?_⟩
      · rw [hf2, if_neg (by rw [hw2]; simp)]
      subst e1
      refine st fun N1 e1 => ?_
      walk_at "rd2"
      by_cases z : (valN b : Int) = 1
      · rw [decide_eq_true z]
        refine iteT ?_
        simp only [tRaise]
        walk_at "rd2"
        refine ⟨by decide, hE ?_ _ s1⟩
        rw [hf2, if_neg (fun h => h.2.2.1 (by omega))]
      rw [decide_eq_false z]
      refine iteF ⟨_, _, rfl, ?_⟩
      walk_at "rd2"
      by_cases z2 : gcdI (valN a) (valN b) = 1
      case neg =>
        rw [decide_eq_false z2]
        refine iteT ?_
        simp only [tRaise]
        walk_at "rd2"
        refine ⟨by decide, hE ?_ _ s1⟩
        rw [hf2, if_neg (fun h => z2 h.2.2.2)]
      rw [decide_eq_true z2]
      refine iteF ?_
      subst e1
      walk_at "rd2"
      refine ⟨sizeLe (by simp), fun p hp => hQ ((valN a : Int), (valN b : Int)) ?_ p _ (s1.trans (Same.new hp)) upd_same⟩
      rw [hf2, if_pos ⟨hw, hw2, by omega, z2⟩]
theorem ok_read_signed (T : Txt K mg t) : FnOk P w K mg base (CX1 P w) 3 t.a_read_signed t.d_read_signed ["text"] (sp_read_signed K t.a_NoText) := by
  have G_read_fraction : FnOk P w K mg base (CX1 P w) 2 t.a_read_fraction t.d_read_fraction ["text"] (sp_read_fraction K t.a_NoText) := ok_read_fraction T
  refine T.F_read_signed.okX sc_read_signed (fun vs H Q E h => ?_) (fun cdv A outer s H vs Q E hr h => ?_)
  · obtain ⟨x, rfl, _⟩ := h
    rfl
  · obtain ⟨x, rfl, hx, hE, hQ⟩ := h
    refine ⟨_, (pss_cons (ps_if (pt_not (pt_val (pe_bm PySem.F.plainAttrs_str PySem.F.slot_str_startswith PySem.F.type_str_startswith mt_startsw (pv 0) (pa_cons pe_str pa_nil))))
      (pss_one (ps_ret (pe_callX G_read_fraction (hr.mono (by omega)) rfl T.m_read_fraction T.F_read_fraction.kp T.b_read_fraction .nil lands_def (pa_cons (pv 0) pa_nil))))
      pss_nil)
      (pss_cons (ps_set (i := 1) sc_read_signed.nd rfl (Or.inl rfl) (pe_callX G_read_fraction (hr.mono (by omega)) rfl T.m_read_fraction T.F_read_fraction.kp T.b_read_fraction .nil lands_def (pa_cons (pe_slice sl_E (pv 0) (po_some pe_int) po_none) pa_nil)))
      (pss_one (ps_ret (pe_tup (pa_cons (pe_un un_neg (pe_ix ix_B (pv 1) pe_int (fun _ _ => rfl))) (pa_cons (pe_ix ix_B (pv 1) pe_int (fun _ _ => rfl)) pa_nil))))))), ?_⟩
    show tSeq _ _ _ [some (.str x), none] H
    refine st fun N1 e1 => ?_
    walk_at "rd2"
    refine ⟨rfl, _, rfl, _, rfl, ?_⟩
    unfold sgnV at hE hQ
    by_cases z : Txt.startswith x minus = true
    · rw [if_pos z] at hE hQ
      rw [show Txt.startswith x (Str.ofString "-") = true from z]
      refine iteF ?_
      subst e1
      refine st fun N1 e1 => ?_
      walk_at "rd2"
      have ht : (tailS x).length ≤ 3000 := Nat.le_trans (PyProof.Txt.length_slice_le x (some 1) none) hx
      refine ⟨x, rfl, Nat.le_trans hx (by decide), tailS x, rfl, ht, fun h H' s' => hE (by rw [h]; rfl) H' s', fun p hp a H1 s1 ha => ?_⟩
      have i0 : ∀ Q' : VK, Q' (.int p.1) H1 → rIxB K (.ref a) (.int 0) H1 Q' := fun Q' q => ⟨true, a, _, _, _, rfl, rfl, SqB.tup ha, atI_at (i := 0) rfl rfl, q⟩
      have i1 : ∀ Q' : VK, Q' (.int p.2) H1 → rIxB K (.ref a) (.int 1) H1 Q' := fun Q' q => ⟨true, a, _, _, _, rfl, rfl, SqB.tup ha, atI_at (i := 1) rfl rfl, q⟩
      subst e1
      walk_at "rd2"
      refine i0 _ ?_
      walk_at "rd2"
      refine i1 _ ?_
      exact ⟨sizeLe (by simp), fun q hq => hQ (negP p) (by rw [hp]; rfl) q _ (s1.trans (Same.new hq)) upd_same⟩
    · rw [if_neg z] at hE hQ
      have z' : Txt.startswith x (Str.ofString "-") = false := (Bool.eq_false_iff.mpr z : Txt.startswith x minus = false)
      rw [z']
      refine iteT ⟨x, rfl, hx, hE, hQ⟩
theorem ok_parts_of (T : Txt K mg t) : FnOk P w K mg base (CX1 P w) 1 t.a_parts_of t.d_parts_of ["text"] (sp_parts_of K t.a_NoText) := by
  refine T.F_parts_of.okX sc_parts_of (fun vs H Q E h => ?_) (fun cdv A outer s H vs Q E hr h => ?_)
  · obtain ⟨x, rfl, _⟩ := h
    rfl
  · obtain ⟨x, rfl, hx, hE, hQ⟩ := h
    refine ⟨_, (pss_cons (ps_set (i := 1) sc_parts_of.nd rfl (Or.inl rfl) (pe_bm PySem.F.plainAttrs_str PySem.F.slot_str_split PySem.F.type_str_split mt_split (pv 0) (pa_cons pe_str pa_nil)))
      (pss_cons (ps_if (pt_cmpR op_notIn_seq (pe_callB call_lenB rfl T.z_len (by decide +kernel) (pa_cons (pv 1) pa_nil)) (pe_tup (pa_cons pe_int (pa_cons pe_int pa_nil))) rfl)
      (pss_one (ps_raise rfl landsN_def rfl T.m_NoText T.x_NoText PySem.F.excBase_ValueError (pa_cons pe_str pa_nil)))
      pss_nil)
      (pss_one (ps_ret (pv 1))))), ?_⟩
    show tSeq _ _ _ [some (.str x), none] H
    refine st fun N1 e1 => ?_
    walk_at "rd2"
    refine ⟨rfl, x, comma, rfl, rfl, comma_len0, Nat.le_trans hx (by decide), Nat.le_trans (parts_le x comma (by omega)) (by decide), fun l hl => ?_⟩
    have s1 : Same H (upd H l (.lst ((Txt.split x comma).map V.str))) := Same.new hl
    have el : (upd H l (.lst ((Txt.split x comma).map V.str))) l = some (.lst ((Txt.split x comma).map V.str)) := upd_same
    generalize upd H l (.lst ((Txt.split x comma).map V.str)) = H1 at s1 el
    have hlen : ∀ Q' : VK, Q' (.int (Txt.split x comma).length) H1 → rLenB K [.ref l] H1 Q' := fun Q' q => ⟨false, l, _, rfl, SqB.lst el, by rw [List.length_map]; exact q⟩
    subst e1
    refine st fun N1 e1 => ?_
    walk_at "rd2"
    refine hlen _ ⟨by show 2 ≤ sizeLine; decide, fun p1 hp1 => ?_⟩
    have s2 : Same H1 (upd H1 p1 (.tup [.int 2, .int 3])) := Same.new hp1
    refine ⟨p1, _, rfl, .inr (SqT.of upd_same), rfl, rfl, _, rfl, ?_⟩
    generalize upd H1 p1 (.tup [.int 2, .int 3]) = H2 at s2
    rw [inV2]
    by_cases hax : (Txt.split x comma).length = 2 ∨ (Txt.split x comma).length = 3
    case neg =>
      rw [decide_eq_false (by omega)]
      refine iteT ?_
      simp only [tRaise]
      walk_at "rd2"
      exact ⟨by decide, hE hax _ (s1.trans s2)⟩
    rw [decide_eq_true (by omega)]
    refine iteF ?_
    subst e1
    walk_at "rd2"
    exact hQ hax l _ (s1.trans s2) (s2 _ _ el)
theorem ok_common_under (T : Txt K mg t) : FnOk P w K mg base CX0 1 t.a_common_under t.d_common_under ["pairs"] (sp_common_under K) := by
  refine T.F_common_under.ok sc_common_under (fun vs H Q E h => ?_) (fun cdv A outer s H vs Q E hr h => ?_)
  · obtain ⟨l, ps, rfl, _⟩ := h
    rfl
  · obtain ⟨l, ps, rfl, ⟨ys, hl, hly, hys⟩, hn, hg, hQ⟩ := h
    refine ⟨_, (pss_cons (ps_set (i := 1) sc_common_under.nd rfl (Or.inr rfl) pe_int)
      (pss_cons (ps_for PassesOwn.never rfl (pi_seq (pv 0)) (pg_name (i := 2) sc_common_under.nd rfl (Or.inl rfl))
      (pss_one (ps_set (i := 1) sc_common_under.nd rfl (Or.inr rfl) (pe_op op_mulB (pv 1) (pe_ix ix_B (pv 2) pe_int (fun _ _ => rfl))))))
      (pss_one (ps_ret (pe_tup (pa_cons (pe_compG (xs := ["pair"]) (fr := [("under", 1)]) (g := (gName 0)) (tt := (tEl (tOp (rI (fun i j => IntMulOk i j) fun i j => .int (i * j)) (tOp (rIxB K) (tVar 0) (tC (.int 0))) (tOp (rI CDivB fun i j => .int (i.fdiv j)) (tVar 1) (tOp (rIxB K) (tVar 0) (tC (.int 1))))))) (compG_ok (sc := defScope s_common_under) (N := N_common_under) rfl rfl (by decide +kernel)) rfl (pi_seq (pv 0)) (fun _ _ _ hE1 => (pg_own (N := ["pair", "under"]) (i := 0) hE1 rfl (by decide +kernel))) (fun _ _ _ hE1 => (po_el (pe_op op_mulB (pe_ix ix_B (pv 0) pe_int (fun _ _ => rfl)) (pe_op op_fdivB (pv 1) (pe_ix ix_B (pv 0) pe_int (fun _ _ => rfl))))))) (pa_cons (pv 1) pa_nil))))))), ?_⟩
    show tSeq _ _ _ [some (.ref l), none, none] H
    refine st fun N1 e1 => ?_
    walk_at "rd2"
    subst e1
    refine st fun N1 e1 => for_st fun B eB => ?_
    simp only [iSeq]
    walk_at "rd2"
    refine ⟨false, ⟨_, SqB.lst hl⟩, ?_⟩
    have pk : ∀ (i : Nat) (y : V), ys[i]? = some y → ∃ a p, y = .ref a ∧ ps[i]? = some p ∧ H a = some (tupP p) := hys
    refine fr_seq (g := gName 2) (tb := B) (fun i σ H2 => ∃ v, σ = [some (.ref l), some (.int (proU (ps.take i))), v] ∧ H2 = H) ⟨none, rfl, rfl⟩ (fun i σ H2 _ ⟨_, _, e⟩ => e ▸ SqB.lst hl) ?_ ?_
    · rintro i y σ H2 hi ⟨v, rfl, rfl⟩
      obtain ⟨a, p, rfl, ep, ha⟩ := pk i y hi
      have i1 : ∀ Q' : VK, Q' (.int p.2) H2 → rIxB K (.ref a) (.int 1) H2 Q' := fun Q' q => ⟨true, a, _, _, _, rfl, rfl, SqB.tup ha, atI_at (i := 1) rfl rfl, q⟩
      subst eB
      show tAsg _ _ _ [some (.ref l), some (.int (proU (ps.take i))), some (.ref a)] H2
      walk_at "rd2"
      refine i1 _ ?_
      walk_at "rd2"
      have gp := hg p (List.mem_of_getElem? ep)
      refine ⟨IntMulOk.of_le (small_bits (proU_small (good_take hg i) (take_le3 hn i))) (pr_bits gp.bot) (by decide), ?_⟩
      exact (proU_snoc ep).symm
    · rintro σ H2 ⟨v, rfl, rfl⟩
      rw [hly, List.take_length]
      have hps := proU_small hg hn
      subst e1
      walk_at "rd2"
      refine compE_st fun B2 eB2 => ?_
      simp only [iSeq]
      walk_at "rd2"
      refine ⟨false, ⟨_, SqB.lst hl⟩, fun a1 ha1 => ?_⟩
      refine cg_seq (fun j y _ => ∃ p, ps[j]? = some p ∧ y = .int (p.1 * (proU ps).fdiv p.2)) ha1 (SqB.lst hl) (by omega) (fun _ _ _ _ r _ => r) ?_ ?_
      · intro i y H3 zs hy s3 ez Q' hQ'
        obtain ⟨a, p, rfl, ep, ha⟩ := pk i y hy
        have gp := hg p (List.mem_of_getElem? ep)
        have ha3 := s3 _ _ ha
        have i0 : ∀ Q' : VK, Q' (.int p.1) H3 → rIxB K (.ref a) (.int 0) H3 Q' := fun Q' q => ⟨true, a, _, _, _, rfl, rfl, SqB.tup ha3, atI_at (i := 0) rfl rfl, q⟩
        have i1 : ∀ Q' : VK, Q' (.int p.2) H3 → rIxB K (.ref a) (.int 1) H3 Q' := fun Q' q => ⟨true, a, _, _, _, rfl, rfl, SqB.tup ha3, atI_at (i := 1) rfl rfl, q⟩
        subst eB2
        show tOp _ _ _ [some (.ref a), some (.int (proU ps))] H3 Q'
        walk_at "rd2"
        refine i0 _ ?_
        try walk_at "rd2"
        refine i1 _ ?_
        try walk_at "rd2"
        exact ⟨pr_div gp _, IntMulOk.of_le (pr_bits gp.top) (small_bits (fdiv_small hps)) (by decide), hQ' _ _ (Same.refl _) ⟨p, ep, rfl⟩⟩
      · intro H3 zs s3 ez hlz hR
        have ez2 : zs = (proT ps).map V.int := by
          unfold proT
          rw [List.map_map]
          exact list_is (by omega) hR
        subst ez2
        exact ⟨by show 2 ≤ sizeLine; decide, fun q hq => hQ q a1 _ (s3.trans (Same.new hq)) upd_same ((Same.new hq) _ _ ez)⟩
theorem ok_read_amount (T : Txt K mg t) : FnOk P w K mg base (CX1 P w) 2 t.a_read_amount t.d_read_amount ["text"] (sp_read_amount t.a_NoText) := by
  have G_read_whole : FnOk P w K mg base (CX1 P w) 1 t.a_read_whole t.d_read_whole ["text"] (sp_read_whole t.a_NoText) := ok_read_whole T
  refine T.F_read_amount.okX sc_read_amount (fun vs H Q E h => ?_) (fun cdv A outer s H vs Q E hr h => ?_)
  · obtain ⟨x, rfl, _⟩ := h
    rfl
  · obtain ⟨x, rfl, hx, hE, hQ⟩ := h
    refine ⟨_, (pss_cons (ps_if (pt_cmpR op_eq (pv 0) pe_str (nomark _))
      (pss_one (ps_ret pe_int))
      pss_nil)
      (pss_cons (ps_if (pt_cmpR op_eq (pv 0) pe_str (nomark _))
      (pss_one (ps_raise rfl landsN_def rfl T.m_NoText T.x_NoText PySem.F.excBase_ValueError (pa_cons pe_str pa_nil)))
      pss_nil)
      (pss_one (ps_ret (pe_callX G_read_whole (hr.mono (by omega)) rfl T.m_read_whole T.F_read_whole.kp T.b_read_whole .nil lands_def (pa_cons (pv 0) pa_nil)))))), ?_⟩
    show tSeq _ _ _ [some (.str x)] H
    unfold amtV at hE hQ
    refine st fun N1 e1 => ?_
    walk_at "rd2"
    refine ⟨rfl, _, rfl, ?_⟩
    by_cases k1 : x = ("" : Str)
    · rw [if_pos k1] at hQ
      rw [decide_eq_true (show V.str x = V.str (Str.ofString "") by rw [k1])]
      exact iteT (hQ 1 rfl)
    rw [if_neg k1] at hE hQ
    rw [decide_eq_false (show ¬ V.str x = V.str (Str.ofString "") from fun z => k1 (by injection z))]
    refine iteF ?_
    subst e1
    refine st fun N1 e1 => ?_
    simp only [tRaise]
    walk_at "rd2"
    refine ⟨rfl, _, rfl, ?_⟩
    by_cases k2 : x = ("1" : Str)
    · rw [if_pos k2] at hE
      rw [decide_eq_true (show V.str x = V.str (Str.ofString "1") by rw [k2])]
      exact iteT ⟨by decide, hE rfl⟩
    rw [if_neg k2] at hE hQ
    rw [decide_eq_false (show ¬ V.str x = V.str (Str.ofString "1") from fun z => k2 (by injection z))]
    refine iteF ?_
    subst e1
    walk_at "rd2"
    exact ⟨x, rfl, hx, fun h => hE (by rw [h]; rfl), fun h => hQ _ (by rw [if_pos h])⟩
theorem ok_terms_of (T : Txt K mg t) : FnOk P w K mg base (CX1 P w) 1 t.a_terms_of t.d_terms_of ["part"] (sp_terms_of K t.a_NoText) := by
  refine T.F_terms_of.okX sc_terms_of (fun vs H Q E h => ?_) (fun cdv A outer s H vs Q E hr h => ?_)
  · obtain ⟨x, rfl, _⟩ := h
    rfl
  · obtain ⟨x, rfl, hx, hE, hQ⟩ := h
    refine ⟨_, (pss_ifK (pt_bmK PySem.F.plainAttrs_str PySem.F.slot_str_startswith PySem.F.type_str_startswith mt_startsw (pv 0))
      (pss_one (ps_raise rfl landsN_def rfl T.m_NoText T.x_NoText PySem.F.excBase_ValueError (pa_cons pe_str pa_nil)))
      (ps_setK (i := 1) sc_terms_of.nd rfl (Or.inl rfl) (pe_bmK PySem.F.plainAttrs_str PySem.F.slot_str_split PySem.F.type_str_split mt_split (pe_replK (pv 0)) (pa_cons pe_str pa_nil)))
      (pss_one (ps_ret (pe_ifExp (pt_val (pe_bm PySem.F.plainAttrs_str PySem.F.slot_str_startswith PySem.F.type_str_startswith mt_startsw (pv 0) (pa_cons pe_str pa_nil))) (pe_slice sl_B (pv 1) (po_some pe_int) po_none) (pv 1))))), ?_⟩
    show tSeq _ _ _ [some (.str x), none] H
    refine st fun N1 e1 => ?_
    simp only [tRaise]
    walk_at "rd2"
    refine ⟨rfl, _, rfl, _, rfl, ?_⟩
    cases k : Txt.startswith x plus with
    | true =>
      rw [show Txt.startswith x (Str.ofString "+") = true from k]
      exact iteT ⟨by decide, hE k _ (Same.refl _)⟩
    | false =>
      rw [show Txt.startswith x (Str.ofString "+") = false from k]
      refine iteF ?_
      subst e1
      refine st fun N1 e1 => ?_
      simp only [tRepl]
      walk_at "rd2"
      have hr2 := repM_len x
      refine ⟨_, rfl, rfl, x, rfl, by omega, rfl, repM x, plus, rfl, rfl, plus_len0, sizeLe (by omega), Nat.le_trans (parts_le (repM x) plus (by omega)) (by decide), fun l hl => ?_⟩
      have s1 := Same.new (o := .lst ((Txt.split (repM x) plus).map V.str)) hl
      have el : (upd H l (.lst ((Txt.split (repM x) plus).map V.str))) l = some (.lst ((Txt.split (repM x) plus).map V.str)) := upd_same
      generalize upd H l (.lst ((Txt.split (repM x) plus).map V.str)) = H1 at s1 el
      have hQ2 := hQ k
      unfold termsV at hQ2
      subst e1
      walk_at "rd2"
      refine ⟨rfl, _, rfl, _, rfl, ?_⟩
      cases k2 : Txt.startswith x minus with
      | true =>
        rw [show Txt.startswith x (Str.ofString "-") = true from k2]
        rw [if_pos k2] at hQ2
        refine iteT ⟨false, l, _, rfl, SqB.lst el, fun z => absurd z (by decide), fun p hp => hQ2 p _ (s1.trans (Same.new hp)) ?_⟩
        have hcut : 1 ≤ ((Txt.split (repM x) plus).map V.str).length := by rw [List.length_map]; exact cut_ne _ _
        rw [upd_same, show (some (1 : Int)) = some ((1 : Nat) : Int) from rfl, cutV_from _ hcut, ← List.map_drop]
        rfl
      | false =>
        rw [show Txt.startswith x (Str.ofString "-") = false from k2]
        rw [if_neg (by rw [k2]; decide)] at hQ2
        exact iteF (hQ2 l H1 s1 el)
theorem fold_step {n : Nat} {xs : List Str} {i : Nat} {x : Str} {s s' : List Int × (Int × Int)} (e : xs[i]? = some x) (h : tmV n s x = some s') : foldV n (xs.drop i) s = foldV n (xs.drop (i + 1)) s' := by
  obtain ⟨hi, hx⟩ := List.getElem?_eq_some_iff.mp e
  rw [List.drop_eq_getElem_cons hi, hx]
  show (tmV n s x).bind _ = _
  rw [h]
  rfl
theorem fold_stop {n : Nat} {xs : List Str} {i : Nat} {x : Str} {s : List Int × (Int × Int)} (e : xs[i]? = some x) (h : tmV n s x = none) : foldV n (xs.drop i) s = none := by
  obtain ⟨hi, hx⟩ := List.getElem?_eq_some_iff.mp e
  rw [List.drop_eq_getElem_cons hi, hx]
  show (tmV n s x).bind _ = _
  rw [h]
  rfl
theorem ok_read_part (T : Txt K mg t) : FnOk P w K mg base (CX1 P w) 4 t.a_read_part t.d_read_part ["part", "letters"] (sp_read_part K t.a_NoText) := by
  have G_terms_of : FnOk P w K mg base (CX1 P w) 1 t.a_terms_of t.d_terms_of ["part"] (sp_terms_of K t.a_NoText) := ok_terms_of T
  have G_read_signed : FnOk P w K mg base (CX1 P w) 3 t.a_read_signed t.d_read_signed ["text"] (sp_read_signed K t.a_NoText) := ok_read_signed T
  have G_read_amount : FnOk P w K mg base (CX1 P w) 2 t.a_read_amount t.d_read_amount ["text"] (sp_read_amount t.a_NoText) := ok_read_amount T
  refine T.F_read_part.okX sc_read_part (fun vs H Q E h => ?_) (fun cdv A outer s H vs Q E hr h => ?_)
  · obtain ⟨x, n, rfl, _⟩ := h
    rfl
  · obtain ⟨x, n, rfl, hn, hx, hE, hQ⟩ := h
    have hll := lets_len hn
    refine ⟨_, (pss_cons (ps_set (i := 2) sc_read_part.nd rfl (Or.inl rfl) (pe_op op_rep (pe_lst (pa_cons pe_int pa_nil)) (pe_callB call_len_str rfl T.z_len (by decide +kernel) (pa_cons (pv 1) pa_nil))))
      (pss_cons (ps_set (i := 3) sc_read_part.nd rfl (Or.inl rfl) (pe_tup (pa_cons pe_int (pa_cons pe_int pa_nil))))
      (pss_cons (ps_for PassesOwn.leaving rfl (pi_seq (pe_callX G_terms_of (hr.mono (by omega)) rfl T.m_terms_of T.F_terms_of.kp T.b_terms_of .nil lands_def (pa_cons (pv 0) pa_nil))) (pg_name (i := 4) sc_read_part.nd rfl (Or.inl rfl))
      (pss_cons (ps_set (i := 5) sc_read_part.nd rfl (Or.inl rfl) (pe_ifExp (pt_cmpR op_ne (pv 4) pe_str (nomark _)) (pe_bm PySem.F.plainAttrs_str PySem.F.slot_str_find PySem.F.type_str_find mt_find (pv 1) (pa_cons (pe_slice sl_E (pv 4) (po_some (pe_un un_neg pe_int)) po_none) pa_nil)) (pe_un un_neg pe_int)))
      (pss_one (ps_if (pt_cmpR op_eqZ (pv 5) (pe_un un_neg pe_int) (nomark _))
      (pss_cons (ps_if (pt_cmpR op_neZ (pe_ix ix_B (pv 3) pe_int (fun _ _ => rfl)) pe_int (nomark _))
      (pss_one (ps_raise rfl landsN_def rfl T.m_NoText T.x_NoText PySem.F.excBase_ValueError (pa_cons pe_str pa_nil)))
      pss_nil)
      (pss_one (ps_set (i := 3) sc_read_part.nd rfl (Or.inl rfl) (pe_callX G_read_signed (hr.mono (by omega)) rfl T.m_read_signed T.F_read_signed.kp T.b_read_signed .nil lands_def (pa_cons (pv 4) pa_nil)))))
      (pss_cons (ps_if (pt_cmpR op_neZ (pe_ix ix_B (pv 2) (pv 5) (fun _ _ => rfl)) pe_int (nomark _))
      (pss_one (ps_raise rfl landsN_def rfl T.m_NoText T.x_NoText PySem.F.excBase_ValueError (pa_cons pe_str pa_nil)))
      pss_nil)
      (pss_one (ps_asg (pe_ifExp (pt_val (pe_bm PySem.F.plainAttrs_str PySem.F.slot_str_startswith PySem.F.type_str_startswith mt_startsw (pv 4) (pa_cons pe_str pa_nil))) (pe_un un_neg (pe_callX G_read_amount (hr.mono (by omega)) rfl T.m_read_amount T.F_read_amount.kp T.b_read_amount .nil lands_def (pa_cons (pe_slice sl_E (pv 4) (po_some pe_int) (po_some (pe_un un_neg pe_int))) pa_nil))) (pe_callX G_read_amount (hr.mono (by omega)) rfl T.m_read_amount T.F_read_amount.kp T.b_read_amount .nil lands_def (pa_cons (pe_slice sl_E (pv 4) po_none (po_some (pe_un un_neg pe_int))) pa_nil))) (pg_sub (pv 2) (pv 5) set_list))))))))
      (pss_one (ps_ret (pe_tup (pa_cons (pv 2) (pa_cons (pv 3) pa_nil)))))))), ?_⟩
    show tSeq _ _ _ [some (.str x), some (.str (lets n)), none, none, none, none] H
    refine st fun N1 e1 => ?_
    walk_at "rd2"
    refine ⟨by decide, fun l0 hl0 => ?_⟩
    have s0 := Same.new (o := .lst [.int 0]) hl0
    have e0 : (upd H l0 (.lst [.int 0])) l0 = some (.lst [.int 0]) := upd_same
    generalize upd H l0 (.lst [.int 0]) = H0 at s0 e0
    refine ⟨_, rfl, sizeLe (by omega), l0, _, _, rfl, rfl, e0, by omega, by omega, by simp; exact sizeLe (by omega), fun l1 hl1 => ?_⟩
    rw [hll, Int.toNat_natCast]
    have er : (List.replicate n [V.int 0]).flatten = (List.replicate n (0 : Int)).map V.int := by rcases hn with rfl | rfl <;> rfl
    rw [er]
    have s1 := s0.trans (Same.new (o := .lst ((List.replicate n (0 : Int)).map V.int)) hl1)
    have e1' : (upd H0 l1 (.lst ((List.replicate n (0 : Int)).map V.int))) l1 = some (.lst ((List.replicate n (0 : Int)).map V.int)) := upd_same
    have hl1' : H l1 = none := by
      cases q : H l1 with
      | none => rfl
      | some o => rw [s0 _ _ q] at hl1; cases hl1
    generalize upd H0 l1 (.lst ((List.replicate n (0 : Int)).map V.int)) = H1 at s1 e1'
    subst e1
    refine st fun N1 e1 => ?_
    walk_at "rd2"
    refine ⟨by show 2 ≤ sizeLine; decide, fun q0 hq0 => ?_⟩
    have s2 := s1.trans (Same.new (o := .tup [.int 0, .int 1]) hq0)
    have eq0 : (upd H1 q0 (.tup [.int 0, .int 1])) q0 = some (tupP (0, 1)) := upd_same
    have el0 := (Same.new (o := .tup [.int 0, .int 1]) hq0) _ _ e1'
    generalize upd H1 q0 (.tup [.int 0, .int 1]) = H2 at s2 eq0 el0
    subst e1
    refine st fun N1 e1 => for_st fun B eB => ?_
    simp only [iSeq]
    walk_at "rd2"
    refine ⟨x, rfl, hx, fun hp H' s' => hE (by unfold partV; rw [if_pos hp]) H' (s2.trans s'), fun hp l H3 s3 el => ?_⟩
    refine ⟨false, l, rfl, ⟨_, SqB.lst el⟩, ?_⟩
    have hpv : partV n x = foldV n (termsV x) (List.replicate n 0, (0, 1)) := by unfold partV; rw [if_neg (by rw [hp]; decide)]
    have htl : ∀ y ∈ termsV x, y.length ≤ 3000 := fun y hy => Nat.le_trans (terms_le hy) (by omega)
    generalize hxs : termsV x = xs at *
    refine fr_seq (b := false) (g := gName 4) (tb := B) (fun i σ H4 => ∃ v4 v5 s4 q4, σ = [some (.str x), some (.str (lets n)), some (.ref l1), some (.ref q4), v4, v5] ∧ Same H H4 ∧ H4 l = some (.lst (xs.map V.str)) ∧ H4 l1 = some (.lst (s4.1.map V.int)) ∧ H4 q4 = some (tupP s4.2) ∧ s4.1.length = n ∧ partV n x = foldV n (xs.drop i) s4)
      ⟨none, none, (List.replicate n 0, (0, 1)), q0, rfl, s2.trans s3, el, s3 _ _ el0, s3 _ _ eq0, by simp, by rw [List.drop_zero]; exact hpv⟩ (fun i σ H4 _ ⟨_, _, _, _, _, _, e, _⟩ => SqB.lst e) ?_ ?_
    · rintro i y σ H4 ey ⟨v4, v5, s4, q4, rfl, sm4, el4, er4, eq4, hl4, hpv4⟩
      obtain ⟨z, ez, rfl⟩ : ∃ z, xs[i]? = some z ∧ y = .str z := by
        rw [List.getElem?_map] at ey
        cases e : xs[i]? with
        | none => rw [e] at ey; cases ey
        | some z => rw [e] at ey; exact ⟨z, rfl, (Option.some.inj ey).symm⟩
      have hz := htl z (List.mem_of_getElem? ez)
      have bad : tmV n s4 z = none → ∀ H', Same H H' → E (.ref t.a_NoText) none H' := fun h H' s' => hE (by rw [hpv4, fold_stop ez h]) H' s'
      subst eB
      show tSeq _ _ _ [some (.str x), some (.str (lets n)), some (.ref l1), some (.ref q4), some (.str z), v5] H4
      refine st fun N2 e2 => ?_
      have key : N2 [some (.str x), some (.str (lets n)), some (.ref l1), some (.ref q4), some (.str z), some (.int (atV n z))] H4 := by
        subst e2
        walk_at "rd2"
        unfold tmV at bad
        have good : ∀ s5, tmV n s4 z = some s5 → partV n x = foldV n (xs.drop (i + 1)) s5 := fun s5 h => by rw [hpv4, fold_step ez h]
        unfold tmV at good
        have i0 : ∀ Q' : VK, Q' (.int s4.2.1) H4 → rIxB K (.ref q4) (.int 0) H4 Q' := fun Q' q => ⟨true, q4, _, _, _, rfl, rfl, SqB.tup eq4, atI_at (i := 0) rfl rfl, q⟩
        rcases at_range hn z with ha | ⟨ha0, ha1⟩
        · rw [if_pos ha] at bad
          rw [decide_eq_true ha]
          refine iteT (i0 _ ?_)
          walk_at "rd2"
          by_cases k1 : s4.2.1 = 0
          · rw [if_pos k1] at bad
            rw [decide_eq_true k1]
            exact iteF ⟨z, rfl, hz, fun h H' s' => bad (by rw [h]; rfl) H' (sm4.trans s'), fun p hp a H5 s5 e5 => ⟨_, _, (s4.1, p), a, rfl, rfl, rfl, sm4.trans s5, s5 _ _ el4, s5 _ _ er4, e5, hl4, good _ (by rw [if_pos ha, if_pos k1, hp]; rfl)⟩⟩
          · rw [if_neg k1] at bad
            rw [decide_eq_false k1]
            refine iteT ?_
            simp only [tRaise]
            walk_at "rd2"
            exact ⟨by decide, bad rfl H4 sm4⟩
        · have hne : ¬ atV n z = -1 := by omega
          rw [if_neg hne] at bad
          rw [decide_eq_false hne]
          refine iteF ?_
          obtain ⟨k, ek⟩ := Int.eq_ofNat_of_zero_le ha0
          rw [ek] at bad ⊢
          have hk : k < n := by omega
          have er : s4.1[k]? = some (s4.1.getD k 0) := getD_at (by omega)
          rw [Int.toNat_natCast] at bad
          refine ⟨false, l1, _, _, _, rfl, rfl, SqB.lst er4, atI_at (int_at er) rfl, ?_⟩
          walk_at "rd2"
          by_cases k1 : s4.1.getD k 0 = 0
          · rw [if_pos k1] at bad
            rw [decide_eq_true k1]
            have n1 : l ≠ l1 := fun q => by
              rw [q, er4] at el4
              have e : s4.1.map V.int = xs.map V.str := by injection (Option.some.inj el4)
              match h : s4.1, hl4 with
              | [], h0 => simp at h0; omega
              | a :: r, _ =>
                rw [h] at e
                cases xs with
                | nil => cases e
                | cons b c => injection e with e1 e2; cases e1
            have n2 : q4 ≠ l1 := fun q => by
              rw [q, er4] at eq4
              cases eq4
            have put : ∀ a : Int, tmV n s4 z = some (s4.1.set k a, s4.2) → gSub (tVar 2) (tVar 5) rSetL (.int a) [some (V.str x), some (V.str (lets n)), some (V.ref l1), some (V.ref q4), some (V.str z), some (V.int k)] H4 (fun σ H4 => ∃ v4 v5 s4 q4, σ = [some (V.str x), some (V.str (lets n)), some (V.ref l1), some (V.ref q4), v4, v5] ∧ Same H H4 ∧ H4 l = some (HO.lst (List.map V.str xs)) ∧ H4 l1 = some (HO.lst (List.map V.int s4.fst)) ∧ H4 q4 = some (tupP s4.snd) ∧ s4.fst.length = n ∧ partV n x = foldV n (List.drop (i + 1) xs) s4) := by
              intro a ha
              simp only [gSub, rSetL]
              walk_at "rd2"
              refine ⟨_, er4, k, ixN_nat (by rw [List.length_map]; omega), ?_⟩
              exact ⟨Same.over hl1' sm4, by rw [upd_ne n1]; exact el4, (s4.1.set k a, s4.2), by rw [upd_same, List.map_set], by rw [upd_ne n2]; exact eq4, by simp [hl4], by rw [hpv4, fold_step ez ha]⟩
            unfold tmV at put
            refine iteF ⟨rfl, z, rfl, _, rfl, ?_⟩
            cases hm : Txt.startswith z minus with
            | true =>
              rw [if_pos hm] at bad
              rw [show Txt.startswith z (Str.ofString "-") = true from hm]
              refine iteT ⟨z, rfl, sizeLe (by omega), midS z, rfl, Nat.le_trans (PyProof.Txt.length_slice_le z (some 1) (some (-1))) hz, fun h => bad (by rw [h]; rfl) H4 sm4, fun a ha => ⟨_, rfl, put (-a) ?_⟩⟩
              rw [if_neg hne, ek, Int.toNat_natCast, if_pos k1, if_pos hm, ha]
              rfl
            | false =>
              rw [if_neg (by rw [hm]; decide)] at bad
              rw [show Txt.startswith z (Str.ofString "-") = false from hm]
              refine iteF ⟨z, rfl, sizeLe (by omega), initS z, rfl, Nat.le_trans (PyProof.Txt.length_slice_le z none (some (-1))) hz, fun h => bad (by rw [h]; rfl) H4 sm4, fun a ha => put a ?_⟩
              rw [if_neg hne, ek, Int.toNat_natCast, if_pos k1, if_neg (by rw [hm]; decide), ha]
              rfl
          · rw [if_neg k1] at bad
            rw [decide_eq_false k1]
            refine iteT ?_
            simp only [tRaise]
            walk_at "rd2"
            exact ⟨by decide, bad rfl H4 sm4⟩
      walk_at "rd2"
      refine ⟨rfl, _, rfl, ?_⟩
      unfold atV at key
      by_cases k1 : z = ("" : Str)
      · rw [if_pos k1] at key
        rw [decide_eq_true (show V.str z = V.str (Str.ofString "") by rw [k1])]
        exact iteF key
      · rw [if_neg k1] at key
        rw [decide_eq_false (show ¬ V.str z = V.str (Str.ofString "") from fun q => k1 (by injection q))]
        exact iteT ⟨rfl, z, rfl, sizeLe (by omega), _, rfl, _, rfl, key⟩
    · rintro σ H4 ⟨v4, v5, s4, q4, rfl, sm4, el4, er4, eq4, hl4, hpv4⟩
      rw [List.length_map, List.drop_length] at hpv4
      subst e1
      walk_at "rd2"
      refine ⟨by show 2 ≤ sizeLine; decide, fun a ha => hQ s4.1 s4.2 hpv4 a l1 q4 _ (sm4.trans (Same.new ha)) hl1' upd_same (Same.new ha _ _ er4) (Same.new ha _ _ eq4)⟩
noncomputable def RdOk (L : List Str) : Prop := okR L ∧ (detM L.length (matG L) = 1 ∨ detM L.length (matG L) = -1)
noncomputable def sp_readX (K : PySem.W.Frag) (C : Addr) : Sp := fun vs H Q E => ∃ x : Str, vs = [.str x] ∧ x.length ≤ 3000 ∧ (∀ y ∈ Txt.split x comma, y.length ≤ 1400) ∧ (¬ RdOk (Txt.split x comma) → ∀ od H', Same H H' → E (.ref C) od H') ∧
  (RdOk (Txt.split x comma) → ∀ q H', Same H H' → DeedAt K H' q (matG (Txt.split x comma)) (lawT (prsG (Txt.split x comma))) (lawU (prsG (Txt.split x comma))) → Q (.ref q) H')
theorem ok_read (T : Txt K mg t) : FnOk P w K mg base (CX1 P w) 7 t.a_read t.d_read ["text"] (sp_readX K t.a_NoText) := by
  have G_parts_of : FnOk P w K mg base (CX1 P w) 1 t.a_parts_of t.d_parts_of ["text"] (sp_parts_of K t.a_NoText) := ok_parts_of T
  have G_read_part : FnOk P w K mg base (CX1 P w) 4 t.a_read_part t.d_read_part ["part", "letters"] (sp_read_part K t.a_NoText) := ok_read_part T
  have G_common_under : FnOk P w K mg base CX0 1 t.a_common_under t.d_common_under ["pairs"] (sp_common_under K) := ok_common_under T
  have G_deed : FnOk P w K mg base (CX1 P w) 6 t.a_deed t.d_deed ["rows", "tops", "under"] (sp_deed K t.a_NoDeed) := ok_deed T
  refine T.F_read.okX sc_read (fun vs H Q E h => ?_) (fun cdv A outer s H vs Q E hr h => ?_)
  · obtain ⟨x, rfl, _⟩ := h
    rfl
  · obtain ⟨x, rfl, hx, hp, hE, hQ⟩ := h
    refine ⟨_, (pss_cons (ps_set (i := 1) sc_read.nd rfl (Or.inr rfl) (pe_callX G_parts_of (hr.mono (by omega)) rfl T.m_parts_of T.F_parts_of.kp T.b_parts_of .nil lands_def (pa_cons (pv 0) pa_nil)))
      (pss_cons (ps_setCX (i := 2) (xs := ["part"]) (fr := [("parts", 1)]) (g := (gName 0)) (compG_ok (sc := defScope s_read) (N := N_read) rfl rfl (by decide +kernel)) (tt := (tEl (tCallX (sp_read_part K t.a_NoText) [] (fun _ C _ H => E C (some 0) H) (tCons (tVar 0) (tCons (tSl rSlE (tC (.str "xyz")) tNoPart (tPart (tCB (rLenB K) (tCons (tVar 1) tNil)))) tNil))))) rfl landsH_def sc_read.nd rfl rfl (pi_seq (pv 1)) (fun _ _ _ _ hE1 => (pg_own (N := ["part", "parts"]) (i := 0) hE1 rfl (by decide +kernel))) (fun _ _ _ _ hE1 hC => (po_el (pe_callXC G_read_part (hr.mono (by omega)) rfl T.m_read_part T.F_read_part.kp T.b_read_part .nil hC (pa_cons (pv 0) (pa_cons (pe_slice sl_E (pe_globE (v := (.str "xyz")) rfl T.g_LETTERS) po_none (po_some (pe_callB call_lenB rfl T.z_len (by decide +kernel) (pa_cons (pv 1) pa_nil)))) pa_nil))))))
      (pss_cons (ps_set (i := 3) sc_read.nd rfl (Or.inl rfl) (pe_call G_common_under (hr.mono (by omega)) rfl T.m_common_under T.F_common_under.kp T.b_common_under .nil pass0 (pa_cons (pe_compG (xs := ["pair"]) (fr := []) (g := (gName 0)) (tt := (tEl (tOp (rIxB K) (tVar 0) (tC (.int 1))))) (compG_ok (sc := defScope s_read) (N := N_read) rfl rfl (by decide +kernel)) rfl (pi_seq (pv 2)) (fun _ _ _ hE1 => (pg_own (N := ["pair"]) (i := 0) hE1 rfl (by decide +kernel))) (fun _ _ _ hE1 => (po_el (pe_ix ix_B (pv 0) pe_int (fun _ _ => rfl))))) pa_nil)))
      (pss_one (ps_tryRN rfl rfl rfl landsO_def (fun _ => PassesOwnAt.leaving) rfl T.m_NoDeed rfl T.m_NoText T.x_NoText PySem.F.excBase_ValueError (fun _ _ _ hL =>
      (pss_one (ps_ret (pe_callX G_deed (hr.mono (by omega)) rfl T.m_deed T.F_deed.kp T.b_deed .nil hL (pa_cons (pe_compG (xs := ["pair"]) (fr := []) (g := (gName 0)) (tt := (tEl (tOp (rIxB K) (tVar 0) (tC (.int 0))))) (compG_ok (sc := defScope s_read) (N := N_read) rfl rfl (by decide +kernel)) rfl (pi_seqK (K := K) rfl (pv 2)) (fun _ _ _ hE1 => (pg_own (N := ["pair"]) (i := 0) hE1 rfl (by decide +kernel))) (fun _ _ _ hE1 => (po_el (pe_ix (ix_BK (K := K) rfl) (pv 0) pe_int (fun _ _ => rfl))))) (pa_cons (pe_ix (ix_BK (K := K) rfl) (pv 3) pe_int (fun _ _ => rfl)) (pa_cons (pe_ix (ix_BK (K := K) rfl) (pv 3) pe_int (fun _ _ => rfl)) pa_nil))))))) (fun _ => (pa_cons pe_str pa_nil))))))), ?_⟩
    show tSeq _ _ _ [some (.str x), none, none, none] H
    refine st fun N1 e1 => ?_
    walk_at "rd2"
    refine ⟨x, rfl, hx, fun nk H' s' => hE (fun z => nk z.1.1) none H' s', fun hk l H1 s1 el => ?_⟩
    unfold RdOk at hE hQ
    generalize hxs : Txt.split x comma = xs at *
    have hn := hk
    subst e1
    refine st fun N1 e1 => ?_
    refine compE_st fun B eB => ?_
    simp only [iSeq]
    walk_at "rd2"
    refine ⟨false, ⟨_, SqB.lst el⟩, fun a1 ha1 => ?_⟩
    refine cg_seq (fun j y H' => ∃ z a r q, (xs[j]? = some z ∧ ∃ s, partV xs.length z = some s) ∧ y = .ref a ∧ a ≠ a1 ∧ r ≠ a1 ∧ q ≠ a1 ∧ H' a = some (.tup [.ref r, .ref q]) ∧ H' r = some (.lst ((parG xs.length z).1.map V.int)) ∧ H' q = some (tupP (parG xs.length z).2)) ha1 (SqB.lst el) (by rw [List.length_map]; omega)
      (fun i y H1 H2 ⟨z, a, r, q, h1, h2, h3, h4, h5, h6, h7, h8⟩ sx => ⟨z, a, r, q, h1, h2, h3, h4, h5, sx _ _ h3 h6, sx _ _ h4 h7, sx _ _ h5 h8⟩) ?_ ?_
    · intro k y H2 zs ey s2 ez Q' hQ'
      obtain ⟨z, ez2, rfl⟩ : ∃ z, xs[k]? = some z ∧ y = .str z := by
        rw [List.getElem?_map] at ey
        cases e : xs[k]? with
        | none => rw [e] at ey; cases ey
        | some z => rw [e] at ey; exact ⟨z, rfl, (Option.some.inj ey).symm⟩
      have hz := List.mem_of_getElem? ez2
      subst eB
      show tCall _ _ _ _ [some (.str z), some (.ref l)] H2 Q'
      walk_at "rd2"
      refine ⟨false, l, _, rfl, SqB.lst (s2 _ _ el), _, rfl, _, rfl, by decide +kernel, z, xs.length, by rw [List.length_map]; rfl, hn, hp z hz, fun h H3 s3 => hE (fun o => by obtain ⟨s', es⟩ := o.1.2 z hz; rw [h] at es; cases es) (some 0) H3 ((s1.trans s2).trans s3), fun R p hRp a r q H3 s3 hr0 h1 h2 h3 => hQ' _ _ s3 ⟨z, a, r, q, ⟨ez2, _, hRp⟩, rfl, fun w => ?_, fun w => ?_, fun w => ?_, h1, ?_, ?_⟩⟩
      · rw [w, s3 _ _ ez] at h1; cases h1
      · rw [w, ez] at hr0; cases hr0
      · rw [w, s3 _ _ ez] at h3; cases h3
      · rw [par_some hRp]; exact h2
      · rw [par_some hRp]; exact h3
    · intro H2 zs s2 ez hlz hR
      rw [List.length_map] at hlz
      have s02 := s1.trans s2
      have ok : okR xs := ⟨hn, fun z hz => by
        obtain ⟨j, ej⟩ := List.getElem?_of_mem hz
        obtain ⟨y, ey⟩ : ∃ y, zs[j]? = some y := ⟨_, List.getElem?_eq_getElem (by rw [hlz]; exact (List.getElem?_eq_some_iff.mp ej).1)⟩
        obtain ⟨z', _, _, _, ⟨h1, h2⟩, _⟩ := hR j y ey
        rw [ej] at h1
        cases h1
        exact h2⟩
      have zat : ∀ (j : Nat) (y : V), zs[j]? = some y → ∃ z a r q, xs[j]? = some z ∧ y = .ref a ∧ H2 a = some (.tup [.ref r, .ref q]) ∧ H2 r = some (.lst ((parG xs.length z).1.map V.int)) ∧ H2 q = some (tupP (parG xs.length z).2) := fun j y e => let ⟨z, a, r, q, ⟨h1, _⟩, h2, _, _, _, h6, h7, h8⟩ := hR j y e; ⟨z, a, r, q, h1, h2, h6, h7, h8⟩
      have pl : (prsG xs).length = xs.length := by unfold prsG; rw [List.length_map]
      have ml : (matG xs).length = xs.length := by unfold matG; rw [List.length_map]
      have pg : ∀ p ∈ prsG xs, GoodPr p := fun p hp => by
        obtain ⟨z, hz, rfl⟩ := List.mem_map.mp hp
        exact (okR_at ok hz).2.pr
      have mb : BitsM 400 (matG xs) := fun r hr x hx => by
        obtain ⟨z, hz, rfl⟩ := List.mem_map.mp hr
        exact Nat.lt_of_lt_of_le ((okR_at ok hz).2.bd x hx) (by decide +kernel)
      have mr : ∀ r ∈ matG xs, r.length = xs.length := fun r hr => by
        obtain ⟨z, hz, rfl⟩ := List.mem_map.mp hr
        exact (okR_at ok hz).2.len
      subst e1
      refine st fun N1 e1 => ?_
      walk_at "rd2"
      refine compE_st fun B eB => ?_
      simp only [iSeq]
      walk_at "rd2"
      refine ⟨false, ⟨_, SqB.lst ez⟩, fun a2 ha2 => ?_⟩
      refine cg_seq (fun j y _ => ∃ z q, xs[j]? = some z ∧ y = .ref q ∧ H2 q = some (tupP (parG xs.length z).2)) ha2 (SqB.lst ez) (by omega) (fun _ _ _ _ r _ => r) ?_ ?_
      · intro k y H3 zs3 ey s3 ez3 Q' hQ'
        obtain ⟨z, a, r, q, h1, rfl, h2, h3, h4⟩ := zat k y ey
        subst eB
        show tOp _ _ _ [some (.ref a)] H3 Q'
        walk_at "rd2"
        exact ⟨true, a, _, _, _, rfl, rfl, SqB.tup (s3 _ _ h2), atI_at (i := 1) rfl rfl, hQ' _ _ (Same.refl _) ⟨z, q, h1, rfl, h4⟩⟩
      · intro H3 zs3 s3 ez3 hlz3 hR3
        have hPL : PairsL H3 a2 (prsG xs) := ⟨zs3, ez3, by omega, fun j y e => by
          obtain ⟨z, q, h1, h2, h3⟩ := hR3 j y e
          exact ⟨q, _, h2, by unfold prsG; rw [List.getElem?_map, h1]; rfl, s3 _ _ h3⟩⟩
        refine ⟨a2, prsG xs, rfl, hPL, by omega, pg, fun a q H4 s4 ha hq => ?_⟩
        have p0 := proU_pos pg
        have psm := proU_small pg (by omega)
        have ez4 := s4 _ _ (s3 _ _ ez)
        have s24 := s3.trans s4
        have tl : (proT (prsG xs)).length = xs.length := by unfold proT; rw [List.length_map, pl]
        subst e1
        simp only [tTryRN]
        walk_at "rd2"
        refine compE_st fun B eB => ?_
        simp only [iSeq]
        walk_at "rd2"
        refine ⟨false, ⟨_, SqB.lst ez4⟩, fun a3 ha3 => ?_⟩
        refine cg_seq (fun j y _ => ∃ z r, xs[j]? = some z ∧ y = .ref r ∧ H4 r = some (.lst ((parG xs.length z).1.map V.int))) ha3 (SqB.lst ez4) (by omega) (fun _ _ _ _ r _ => r) ?_ ?_
        · intro k y H5 zs5 ey s5 ez5 Q' hQ'
          obtain ⟨z, b, r, q2, h1, rfl, h2, h3, h4⟩ := zat k y ey
          subst eB
          show tOp _ _ _ [some (.ref b)] H5 Q'
          walk_at "rd2"
          exact ⟨true, b, _, _, _, rfl, rfl, SqB.tup (s5 _ _ (s24 _ _ h2)), atI_at (i := 0) rfl rfl, hQ' _ _ (Same.refl _) ⟨z, r, h1, rfl, s24 _ _ h3⟩⟩
        · intro H5 zs5 s5 ez5 hlz5 hR5
          obtain ⟨rs, rfl⟩ := refs_of zs5 fun j y e => let ⟨_, r, _, h2, _⟩ := hR5 j y e; ⟨r, h2⟩
          have hMB : MatB false false K H5 a3 (matG xs) := ⟨rs, SqB.lst ez5, by simp at hlz5; omega, fun i p r e1 e2 => by
            obtain ⟨z, r', h1, h2, h3⟩ := hR5 i (.ref p) (by simp [e1])
            cases h2
            unfold matG at e2
            rw [List.getElem?_map, h1] at e2
            cases e2
            exact SqB.lst (s5 _ _ h3)⟩
          have ha5 := s5 _ _ ha
          have hq5 := s5 _ _ hq
          refine ⟨true, a, _, _, _, rfl, rfl, SqB.tup ha5, atI_at (i := 0) rfl rfl, ?_⟩
          refine ⟨true, a, _, _, _, rfl, rfl, SqB.tup ha5, atI_at (i := 1) rfl rfl, ?_⟩
          have s05 := (((s02.trans s3).trans s4).trans s5)
          refine ⟨false, false, false, a3, q, matG xs, proT (prsG xs), proU (prsG xs), 400, rfl, hMB, SqB.lst hq5, by omega, by omega, mb, by decide, psm, fun ng H6 s6 => ⟨T.dm, rfl, fun e he => ⟨by show 1 ≤ sizeLine; decide, upd_same, hE (fun o => ng ⟨by rw [ml]; exact hn, fun r hr => by rw [ml]; exact mr r hr, by rw [tl, ml], by omega, by rw [ml]; exact o.2⟩) (some 0) _ ((s05.trans s6).trans (Same.new he))⟩⟩, fun gd d H6 s6 hD => ?_⟩
          obtain ⟨r1, r2⟩ := law_is_red pg
          rw [r1, r2] at hD
          exact hQ ⟨ok, by have := gd.2.2.2.2; rw [ml] at this; exact this⟩ d H6 (s05.trans s6) hD
theorem one_eq {y : Str} {d : Nat} (hy : y = ⟨#[d]⟩) {c : Nat} : (V.str (⟨#[c]⟩ : Str) = V.str y) ↔ c = d := by
  rw [hy]
  constructor
  · intro h
    injection h with h
    injection h with h
    injection h with h
    injection h
  · intro h
    rw [h]
theorem zero_is : Str.ofString "0" = ⟨#[48]⟩ := by decide +kernel
noncomputable def lawN (x : Str) : Int := if wholeB x = true then (valN x : Int) else 0
noncomputable def spn_number : Sp := fun vs H Q _ => ∃ x : Str, vs = [.str x] ∧ x.length ≤ 3000 ∧ Q (.int (lawN x)) H
theorem ok_law_number (T : Txt K mg t) : FnOk P w K mg base CX0 1 t.a_law_number t.d_law_number ["_law_word"] spn_number := by
  refine T.F_law_number.ok sc_law_number (fun vs H Q E h => ?_) (fun cdv A outer s H vs Q E hr h => ?_)
  · obtain ⟨x, rfl, _⟩ := h
    rfl
  · obtain ⟨x, rfl, hx, hQ⟩ := h
    refine ⟨_, (pss_cons (ps_if (PW.pt (pw_or (pt_cmpR op_gt (pe_callB call_len_str rfl T.z_len (by decide +kernel) (pa_cons (pv 0) pa_nil)) pe_int (nomark _)) (pw_or (pt_cmpR op_eq (pv 0) pe_str (nomark _)) (pw_or1 (pt_cmpR op_eq (pe_ix ix_str (pv 0) pe_int (fun _ _ => rfl)) pe_str (nomark _))))))
      (pss_one (ps_ret pe_int))
      pss_nil)
      (pss_cons (ps_for PassesOwn.never rfl (pi_str (pv 0)) (pg_name (i := 1) sc_law_number.nd rfl (Or.inl rfl))
      (pss_one (ps_if (pt_cmpR op_notin_str (pv 1) pe_str rfl)
      (pss_one (ps_ret pe_int))
      pss_nil)))
      (pss_one (ps_ret (pe_callTy call_intS rfl T.z_int (by decide +kernel) (pa_cons (pv 0) pa_nil)))))), ?_⟩
    show tSeq _ _ _ [some (.str x), none] H
    have bad : ¬ (1 ≤ x.length ∧ x.length ≤ 100 ∧ x.cps.toList[0]? ≠ some 48 ∧ x.cps.toList.all digB = true) → Q (.int 0) H := fun h => by
      have hw : wholeB x = false := by
        unfold wholeB
        rw [Bool.eq_false_iff]
        intro z
        simp only [Bool.and_eq_true, decide_eq_true_eq, Bool.not_eq_true', decide_eq_false_iff_not] at z
        exact h z
      unfold lawN at hQ
      rw [if_neg (by rw [hw]; decide)] at hQ
      exact hQ
    refine st fun N1 e1 => ?_
    walk_at "rd2"
    refine ⟨_, rfl, Nat.le_trans hx (by decide), ?_⟩
    by_cases k2 : x.length ≤ 100
    case neg =>
      rw [decide_eq_true (by omega)]
      exact iteT (bad fun h => k2 h.2.1)
    rw [decide_eq_false (by omega)]
    refine iteF ?_
    by_cases k1 : V.str x = V.str (Str.ofString "")
    · refine ⟨rfl, _, rfl, ?_⟩
      rw [decide_eq_true k1]
      exact iteT (bad fun h => one_of.mp h.1 k1)
    refine ⟨rfl, _, rfl, ?_⟩
    rw [decide_eq_false k1]
    refine iteF ?_
    obtain ⟨c, r, hc⟩ : ∃ c r, x.cps.toList = c :: r := by
      cases h : x.cps.toList with
      | nil => exact absurd (one_of.mpr k1) (by rw [← len_list, h]; decide)
      | cons c r => exact ⟨c, r, rfl⟩
    refine ⟨x, 0, c, rfl, rfl, Nat.le_trans hx (by decide), by rw [hc]; exact atI_at (i := 0) rfl rfl, ?_⟩
    refine ⟨rfl, _, rfl, ?_⟩
    have h0 : x.cps.toList[0]? = some c := by rw [hc]; rfl
    by_cases k3 : c = 48
    case pos =>
      rw [decide_eq_true ((one_eq zero_is).mpr k3)]
      exact iteT (bad fun h => h.2.2.1 (by rw [h0, k3]))
    rw [decide_eq_false fun h => k3 ((one_eq zero_is).mp h)]
    refine iteF ?_
    subst e1
    refine st fun N1 e1 => for_st fun B eB => ?_
    simp only [iStr]
    walk_at "rd2"
    refine ⟨x, rfl, ?_⟩
    refine fr_str (g := gName 1) (tb := B) (fun j σ H3 => ∃ v3, σ = [some (.str x), v3] ∧ H3 = H ∧ ∀ c ∈ x.cps.toList.take j, digB c = true) ⟨_, rfl, rfl, fun c hc => by simp at hc⟩ ?_ ?_
    · rintro j c σ H3 hc ⟨v3, rfl, rfl, hok3⟩
      have hc' : x.cps.toList[j]? = some c := by simpa using hc
      subst eB
      walk_at "rd2"
      refine ⟨_, rfl, _, rfl, ?_⟩
      have ek : (!(!(Builtin.Str.occurrences (Str.ofString "0123456789") ⟨#[c]⟩ 0 (Str.ofString "0123456789").length 1).isEmpty)) = !digB c := by
        rw [← dig_is c]; rfl
      rw [ek]
      cases k4 : digB c with
      | false =>
        refine iteT (bad fun h => ?_)
        have := List.all_eq_true.mp h.2.2.2 c (List.mem_of_getElem? hc')
        rw [k4] at this
        cases this
      | true =>
        refine iteF fun d hd => ?_
        rw [take_snoc hc'] at hd
        rcases List.mem_append.mp hd with h | h
        · exact hok3 d h
        · rw [List.mem_singleton.mp h]; exact k4
    · rintro σ H2 ⟨v, rfl, rfl, hok⟩
      rw [show x.cps.size = x.cps.toList.length by simp, List.take_length] at hok
      have hw : wholeB x = true := by
        unfold wholeB
        simp only [Bool.and_eq_true, decide_eq_true_eq, Bool.not_eq_true', decide_eq_false_iff_not]
        exact ⟨one_of.mpr k1, k2, by rw [h0]; exact fun h => k3 (Option.some.inj h), List.all_eq_true.mpr hok⟩
      unfold lawN at hQ
      rw [if_pos hw] at hQ
      subst e1
      walk_at "rd2"
      exact ⟨x, _, rfl, digs_all hw, by omega, hQ⟩
theorem split_one {x : Str} {c : Nat} (h : c ∉ x.cps.toList) : Txt.split x ⟨#[c]⟩ = [x] := split_is (by simp) (fun p hp => by rw [List.mem_singleton.mp hp]; exact h) rfl
theorem split_two {x : Str} {c : Nat} (h : c ∈ x.cps.toList) : ∃ a b r, Txt.split x ⟨#[c]⟩ = a :: b :: r := by
  have h1 := PySem.StrLaws.join_split x ⟨#[c]⟩
  have h2 := PySem.StrLaws.split_free x c
  have h3 := PyProof.Rows.split_pos x ⟨#[c]⟩
  match e : Txt.split x ⟨#[c]⟩ with
  | [] => rw [e] at h3; simp at h3
  | [y] =>
    rw [e] at h1 h2
    replace h1 : y = x := h1
    exact absurd h (by rw [← h1]; exact h2 y (by simp))
  | a :: b :: r => exact ⟨a, b, r, rfl⟩
theorem slash_one : slash = ⟨#[47]⟩ := by decide +kernel
theorem lawN_zero {x : Str} : lawN x = 0 ↔ wholeB x = false := by
  unfold lawN
  cases h : wholeB x with
  | true => rw [if_pos rfl]; have := whole_pos h; simp; omega
  | false => rw [if_neg (by decide)]; simp
theorem lawN_nn (x : Str) : 0 ≤ lawN x := by unfold lawN; split <;> omega
noncomputable def spn_alone (K : PySem.W.Frag) : Sp := fun vs H Q _ => ∃ x : Str, vs = [.str x] ∧ x.length ≤ 3000 ∧ ∀ a p H', Same H H' → (∀ q, fracV x = some q → p = q) → (fracV x = none → p.1 = 0) → H' a = some (tupP p) → Q (.ref a) H'
theorem ok_law_alone (T : Txt K mg t) : FnOk P w K mg base CX0 2 t.a_law_alone t.d_law_alone ["_law_word"] (spn_alone K) := by
  have G_law_number : FnOk P w K mg base CX0 1 t.a_law_number t.d_law_number ["_law_word"] spn_number := ok_law_number T
  have G_law_common : FnOk P w K mg base CX0 1 t.a_law_common t.d_law_common ["_law_one", "_law_other"] sp_law_common := ok_law_common T
  refine T.F_law_alone.ok sc_law_alone (fun vs H Q E h => ?_) (fun cdv A outer s H vs Q E hr h => ?_)
  · obtain ⟨x, rfl, _⟩ := h
    rfl
  · obtain ⟨x, rfl, hx, hQ⟩ := h
    refine ⟨_, (pss_cons (ps_if (pt_cmpR op_notin_str pe_str (pv 0) rfl)
      (pss_one (ps_ret (pe_tup (pa_cons (pe_call G_law_number (hr.mono (by omega)) rfl T.m_law_number T.F_law_number.kp T.b_law_number .nil pass0 (pa_cons (pv 0) pa_nil)) (pa_cons pe_int pa_nil)))))
      pss_nil)
      (pss_cons (ps_set (i := 1) sc_law_alone.nd rfl (Or.inl rfl) (pe_bm PySem.F.plainAttrs_str PySem.F.slot_str_split PySem.F.type_str_split mt_split (pv 0) (pa_cons pe_str pa_nil)))
      (pss_cons (ps_set (i := 2) sc_law_alone.nd rfl (Or.inl rfl) (pe_call G_law_number (hr.mono (by omega)) rfl T.m_law_number T.F_law_number.kp T.b_law_number .nil pass0 (pa_cons (pe_ix ix_B (pv 1) pe_int (fun _ _ => rfl)) pa_nil)))
      (pss_cons (ps_set (i := 3) sc_law_alone.nd rfl (Or.inl rfl) (pe_call G_law_number (hr.mono (by omega)) rfl T.m_law_number T.F_law_number.kp T.b_law_number .nil pass0 (pa_cons (pe_ix ix_B (pv 1) pe_int (fun _ _ => rfl)) pa_nil)))
      (pss_cons (ps_if (PW.pt (pw_or (pt_cmpR op_neZ (pe_callB call_lenB rfl T.z_len (by decide +kernel) (pa_cons (pv 1) pa_nil)) pe_int (nomark _)) (pw_or (pt_cmpR op_lt (pv 3) pe_int (nomark _)) (pw_or1 (pt_cmpR op_neZ (pe_call G_law_common (hr.mono (by omega)) rfl T.m_law_common T.F_law_common.kp T.b_law_common .nil pass0 (pa_cons (pv 2) (pa_cons (pv 3) pa_nil))) pe_int (nomark _))))))
      (pss_one (ps_ret (pe_tup (pa_cons pe_int (pa_cons pe_int pa_nil)))))
      pss_nil)
      (pss_one (ps_ret (pe_tup (pa_cons (pv 2) (pa_cons (pv 3) pa_nil)))))))))), ?_⟩
    show tSeq _ _ _ [some (.str x), none, none, none] H
    refine st fun N1 e1 => ?_
    walk_at "rd2"
    refine ⟨_, rfl, x, rfl, ?_⟩
    have es : Str.ofString "/" = ⟨#[47]⟩ := by decide +kernel
    have ef : (!(Builtin.Str.occurrences x (Str.ofString "/") 0 x.length 1).isEmpty) = decide (47 ∈ x.cps.toList) := by rw [es]; exact PySem.StrLaws.found_one x 47
    have hf : fracV x = fracL (Txt.split x slash) := rfl
    rw [slash_one] at hf
    rw [ef]
    by_cases k1 : 47 ∈ x.cps.toList
    case neg =>
      rw [decide_eq_false k1]
      refine iteT ⟨x, rfl, hx, by show 2 ≤ sizeLine; decide, fun p hp => hQ p (lawN x, 1) _ (Same.new hp) (fun q hq => ?_) (fun hn => ?_) upd_same⟩
      · rw [hf, split_one k1] at hq
        replace hq : (if wholeB x = true then some ((valN x : Int), (1 : Int)) else none) = some q := hq
        unfold lawN
        cases hw : wholeB x with
        | true => rw [hw, if_pos rfl] at hq; rw [if_pos rfl]; exact Option.some.inj hq
        | false => rw [hw, if_neg (by decide)] at hq; cases hq
      · rw [hf, split_one k1] at hn
        replace hn : (if wholeB x = true then some ((valN x : Int), (1 : Int)) else none) = none := hn
        cases hw : wholeB x with
        | true => rw [hw, if_pos rfl] at hn; cases hn
        | false => exact lawN_zero.mpr hw
    rw [decide_eq_true k1]
    refine iteF ?_
    obtain ⟨a, b, r, exs⟩ := split_two k1
    have hpl : ∀ z ∈ Txt.split x slash, z.length ≤ 3000 := fun z hz => Nat.le_trans (part_le hz) hx
    rw [slash_one, exs] at hpl
    rw [exs] at hf
    subst e1
    refine st fun N1 e1 => ?_
    walk_at "rd2"
    refine ⟨rfl, x, slash, rfl, rfl, slash_len0, Nat.le_trans hx (by decide), Nat.le_trans (parts_le x slash (by omega)) (by decide), fun l hl => ?_⟩
    have s1 : Same H (upd H l (.lst ((Txt.split x slash).map V.str))) := Same.new hl
    have el : (upd H l (.lst ((Txt.split x slash).map V.str))) l = some (.lst ((a :: b :: r).map V.str)) := by rw [upd_same, slash_one, exs]
    show N1 [some (.str x), some (.ref l), none, none] _
    generalize upd H l (.lst ((Txt.split x slash).map V.str)) = H1 at s1 el
    subst e1
    refine st fun N1 e1 => ?_
    walk_at "rd2"
    refine ⟨false, l, _, _, _, rfl, rfl, SqB.lst el, atI_at (i := 0) rfl rfl, a, rfl, hpl a (by simp), ?_⟩
    subst e1
    refine st fun N1 e1 => ?_
    walk_at "rd2"
    refine ⟨false, l, _, _, _, rfl, rfl, SqB.lst el, atI_at (i := 1) rfl rfl, b, rfl, hpl b (by simp), ?_⟩
    subst e1
    refine st fun N1 e1 => ?_
    walk_at "rd2"
    refine ⟨false, l, _, rfl, SqB.lst el, ?_⟩
    try walk_at "rd2"
    have no : fracV x = none → ([V.int 0, V.int 1].length ≤ sizeLine ∧ ∀ p, H1 p = none → Q (V.ref p) (upd H1 p (.tup [V.int 0, V.int 1]))) := fun hn => ⟨by show 2 ≤ sizeLine; decide, fun p hp => hQ p (0, 1) _ (s1.trans (Same.new hp)) (fun q hq => by rw [hn] at hq; cases hq) (fun _ => rfl) upd_same⟩
    cases r with
    | cons c r =>
      rw [decide_eq_false (by simp; omega)]
      exact iteT (no hf)
    | nil =>
    rw [decide_eq_true (by simp)]
    refine iteF ?_
    replace hf : fracV x = if wholeB a = true ∧ wholeB b = true ∧ valN b ≠ 1 ∧ gcdI (valN a) (valN b) = 1 then some ((valN a : Int), (valN b : Int)) else none := hf
    have hA : wholeB a = true → lawN a = valN a := fun h => by unfold lawN; rw [if_pos h]
    have hB : wholeB b = true → lawN b = valN b := fun h => by unfold lawN; rw [if_pos h]
    by_cases k2 : lawN b < 2
    · rw [decide_eq_true k2]
      refine iteT (no ?_)
      rw [hf, if_neg]
      rintro ⟨_, h2, h3, _⟩
      have := whole_pos h2
      rw [hB h2] at k2
      omega
    rw [decide_eq_false k2]
    refine iteF ⟨_, _, rfl, ?_⟩
    have wb : wholeB b = true := by
      cases h : wholeB b with
      | true => rfl
      | false => exact absurd (lawN_zero.mpr h) (by omega)
    by_cases k3 : gcdI (lawN a) (lawN b) = 1
    case neg =>
      refine ⟨_, _, rfl, rfl, _, rfl, ?_⟩
      rw [decide_eq_false k3]
      refine iteT (no ?_)
      rw [hf, if_neg]
      rintro ⟨h1, _, _, h4⟩
      rw [hA h1, hB wb] at k3
      exact k3 h4
    refine ⟨_, _, rfl, rfl, _, rfl, ?_⟩
    rw [decide_eq_true k3]
    refine iteF ?_
    have wa : wholeB a = true := by
      cases h : wholeB a with
      | true => rfl
      | false =>
        rw [lawN_zero.mpr h] at k3
        have : gcdI 0 (lawN b) = lawN b := by
          unfold gcdI
          simp
          have := lawN_nn b
          omega
        omega
    subst e1
    walk_at "rd2"
    refine ⟨by show 2 ≤ sizeLine; decide, fun p hp => hQ p (lawN a, lawN b) _ (s1.trans (Same.new hp)) (fun q hq => ?_) (fun hn => ?_) upd_same⟩
    · rw [hf] at hq
      split at hq
      · rw [hA wa, hB wb]; exact Option.some.inj hq
      · cases hq
    · rw [hf, if_pos ⟨wa, wb, by rw [hB wb] at k2; omega, by rw [hA wa, hB wb] at k3; exact k3⟩] at hn
      cases hn
theorem first_cons {x : Str} {c : Nat} {r : List Nat} (e : x.cps.toList = c :: r) : Txt.slice x none (some 1) = ⟨#[c]⟩ := by
  have hl : x.length = r.length + 1 := by rw [← len_list, e]; rfl
  have k : Txt.slice x none (some 1) = Txt.slice x (some 0) (some 1) := rfl
  have k2 := beq_iff_eq.mp (PyProof.Rows.slice_closes (x := x) (i := 0) (j := 1) ⟨by decide, by decide, by rw [len_list]; omega⟩)
  rw [k, k2, e]
  rfl
theorem first_nil {x : Str} (e : x.cps.toList = []) : Txt.slice x none (some 1) = x := by
  have : x = ⟨#[]⟩ := str_ext e
  subst this
  decide +kernel
theorem first_sw {x y : Str} {d : Nat} (hy : y = ⟨#[d]⟩) : decide (V.str (Txt.slice x none (some 1)) = V.str y) = Txt.startswith x y := by
  subst hy
  cases e : x.cps.toList with
  | nil =>
    rw [sw_nil rfl e, first_nil e]
    refine decide_eq_false fun h => ?_
    injection h with h
    rw [h] at e
    cases e
  | cons c r =>
    rw [sw_one rfl e, first_cons e]
    exact decide_eq_decide.mpr (one_eq rfl)
noncomputable def bodS (z : Str) : Str := if Txt.startswith z minus = true then tailS z else z
noncomputable def byS (z : Str) : Int := if Txt.startswith z minus = true then -1 else 1
theorem in_lets {n : Nat} (h : n = 2 ∨ n = 3) (c : Nat) : (!(Builtin.Str.occurrences (lets n) ⟨#[c]⟩ 0 (lets n).length 1).isEmpty) = decide (findC n c ≠ -1) := by
  rw [PySem.StrLaws.found_one (lets n) c]
  have e2 : (lets 2).cps.toList = [120, 121] := by decide +kernel
  have e3 : (lets 3).cps.toList = [120, 121, 122] := by decide +kernel
  refine decide_eq_decide.mpr ?_
  unfold findC
  rcases h with rfl | rfl
  · rw [e2]; simp; omega
  · rw [e3]; simp; omega
theorem findC_is {n c : Nat} (h : n = 2 ∨ n = 3) (hc : findC n c ≠ -1) : ∃ k, k < n ∧ c = 120 + k ∧ findC n c = (k : Int) := by
  have : ∃ k, k < n ∧ c = 120 + k := by
    unfold findC at hc
    rcases h with rfl | rfl
    · refine ⟨c - 120, ?_⟩; split at hc; omega; split at hc; omega; split at hc; omega; omega
    · refine ⟨c - 120, ?_⟩; split at hc; omega; split at hc; omega; split at hc; omega; omega
  obtain ⟨k, h1, h2⟩ := this
  exact ⟨k, h1, h2, by rw [h2]; exact findC_let h h1⟩
theorem tm_no {n : Nat} (h : n = 2 ∨ n = 3) {s : List Int × (Int × Int)} {z : Str} (hb : ∀ i c, (bodS z).cps.toList = i ++ [c] → findC n c = -1) :
    tmV n s z = if s.2.1 = 0 then (fracV (bodS z)).map fun p => (s.1, (byS z * p.1, p.2)) else none := by
  have ha : atV n z = -1 := by
    unfold atV
    split
    · rfl
    · rename_i hz
      have hne : z.cps.toList ≠ [] := fun e => hz (str_ext (by rw [e, nil_cps]))
      obtain ⟨i, c, e⟩ := snoc_of hne
      rw [last_is e, find_is h]
      cases hm : Txt.startswith z minus with
      | false =>
        refine hb i c ?_
        unfold bodS
        rw [hm, if_neg (by decide)]
        exact e
      | true =>
        obtain ⟨r, er⟩ := sw_minus.mp hm
        have eb : (bodS z).cps.toList = r := by unfold bodS; rw [if_pos hm]; exact tail_is er
        cases i with
        | nil =>
          rw [e] at er
          have : c = 45 := by injection er
          subst this
          rcases h with rfl | rfl <;> rfl
        | cons a i =>
          rw [e] at er
          injection er with _ er
          exact hb i c (by rw [eb, ← er]; rfl)
  unfold tmV
  rw [if_pos ha]
  split
  · unfold sgnV bodS byS
    cases hm : Txt.startswith z minus with
    | true =>
      simp only [if_true, Option.map_map]
      cases fracV (tailS z) with
      | none => rfl
      | some p => simp [negP]
    | false =>
      simp only [Bool.false_eq_true, if_false]
      cases fracV z with
      | none => rfl
      | some p => simp
  · rfl
theorem tm_let {n k : Nat} (h : n = 2 ∨ n = 3) {s : List Int × (Int × Int)} {z : Str} {i : List Nat} (hk : k < n) (hb : (bodS z).cps.toList = i ++ [120 + k]) :
    tmV n s z = if s.1.getD k 0 = 0 then (amtV (initS (bodS z))).map fun a => (s.1.set k (byS z * a), s.2) else none := by
  have hbe : bodS z = z ∧ byS z = 1 ∧ Txt.startswith z minus = false ∨ bodS z = tailS z ∧ byS z = -1 ∧ Txt.startswith z minus = true := by
    unfold bodS byS
    cases hm : Txt.startswith z minus with
    | true => exact .inr ⟨rfl, rfl, rfl⟩
    | false => exact .inl ⟨rfl, rfl, rfl⟩
  rcases hbe with ⟨e1, e2, hm⟩ | ⟨e1, e2, hm⟩
  · rw [e1] at hb ⊢
    have ha : atV n z = (k : Int) := by
      unfold atV
      rw [if_neg (ne_empty (by rw [hb]; simp)), last_is hb, find_is h]
      exact findC_let h hk
    unfold tmV
    rw [if_neg (by rw [ha]; omega), ha, Int.toNat_natCast, hm, if_neg (by decide : ¬ (false = true)), e2]
    split
    · cases amtV (initS z) with
      | none => rfl
      | some a => simp
    · rfl
  · rw [e1] at hb ⊢
    obtain ⟨r, er⟩ := sw_minus.mp hm
    have et := tail_is er
    rw [hb] at et
    rw [← et] at er
    have hb2 : z.cps.toList = (45 :: i) ++ [120 + k] := er
    have ha : atV n z = (k : Int) := by
      unfold atV
      rw [if_neg (ne_empty (by rw [er]; simp)), last_is hb2, find_is h]
      exact findC_let h hk
    have em : midS z = initS (tailS z) := str_ext (by rw [mid_is er, init_is hb])
    unfold tmV
    rw [if_neg (by rw [ha]; omega), ha, Int.toNat_natCast, if_pos hm, em, e2]
    split
    · cases amtV (initS (tailS z)) with
      | none => rfl
      | some a => simp
    · rfl
theorem amt_nil {x : Str} (h : x.cps.toList = []) : amtV x = some 1 := by
  have : x = ("" : Str) := str_ext (by rw [h, nil_cps])
  unfold amtV
  rw [if_pos this]
theorem amt_law {x : Str} (h : x.cps.toList ≠ []) : amtV x = if lawN x = 1 then none else if lawN x = 0 then none else some (lawN x) := by
  unfold amtV
  rw [if_neg (ne_empty h)]
  by_cases k : x = ("1" : Str)
  · rw [if_pos k, if_pos]
    rw [k]
    decide +kernel
  · rw [if_neg k]
    unfold lawN
    cases hw : wholeB x with
    | false => simp
    | true =>
      have h1 := whole_pos hw
      have h2 := whole_dec hw
      rw [if_pos rfl, if_pos rfl, if_neg, if_neg (by omega)]
      intro q
      have q2 : valN x = 1 := by omega
      rw [q2] at h2
      exact k (by rw [← h2]; decide +kernel)
noncomputable def ltK (k : Nat) : Key := .inr ⟨#[120 + k]⟩
noncomputable def noK : Key := .inr (Str.ofString "")
theorem lt_ne {j k : Nat} (h : j ≠ k) : ltK j ≠ ltK k := fun e => h (by
  injection e with e
  injection e with e
  injection e with e
  injection e with e
  omega)
theorem lt_no (k : Nat) : ltK k ≠ noK := fun e => by
  injection e with e
  have := congrArg (fun x : Str => x.cps.toList) e
  rw [show (Str.ofString "").cps.toList = [] from nil_cps] at this
  cases this
noncomputable def DCell (kvs : List (Key × V)) (H : Hp) (k : Key) (p : Int × Int) : Prop := (p.1 = 0 → valV kvs k = none) ∧ (p.1 ≠ 0 → ∃ q, valV kvs k = some (.ref q) ∧ H q = some (tupP p))
structure DRow (n : Nat) (s : List Int × (Int × Int)) (kvs : List (Key × V)) (H : Hp) : Prop where
  lt : ∀ k, k < n → DCell kvs H (ltK k) (s.1.getD k 0, 1)
  al : DCell kvs H noK s.2
theorem DCell.keep {kvs : List (Key × V)} {H H' : Hp} {k j : Key} {p : Int × Int} {v : V} (d : DCell kvs H k p) (h : k ≠ j) (s : ∀ q, H q = some (tupP p) → H' q = some (tupP p)) : DCell (putK kvs j v) H' k p := by
  refine ⟨fun e => ?_, fun e => ?_⟩
  · rw [valV_put, if_neg h]; exact d.1 e
  · obtain ⟨q, h1, h2⟩ := d.2 e
    exact ⟨q, by rw [valV_put, if_neg h]; exact h1, s q h2⟩
theorem DCell.new {kvs : List (Key × V)} {H' : Hp} {k : Key} {p : Int × Int} {q : Addr} (h0 : p.1 ≠ 0) (h : H' q = some (tupP p)) : DCell (putK kvs k (.ref q)) H' k p :=
  ⟨fun e => absurd e h0, fun _ => ⟨q, by rw [valV_put, if_pos rfl], h⟩⟩
theorem DCell.isSome {kvs : List (Key × V)} {H : Hp} {k : Key} {p : Int × Int} (d : DCell kvs H k p) : (valV kvs k).isSome = decide (p.1 ≠ 0) := by
  by_cases e : p.1 = 0
  · rw [d.1 e, decide_eq_false (fun z => z e)]; rfl
  · obtain ⟨q, h1, _⟩ := d.2 e
    rw [h1, decide_eq_true e]; rfl
theorem DRow.mono {n : Nat} {s : List Int × (Int × Int)} {kvs : List (Key × V)} {H H' : Hp} (d : DRow n s kvs H) (h : Same H H') : DRow n s kvs H' :=
  ⟨fun k hk => ⟨(d.lt k hk).1, fun e => let ⟨q, h1, h2⟩ := (d.lt k hk).2 e; ⟨q, h1, h _ _ h2⟩⟩, d.al.1, fun e => let ⟨q, h1, h2⟩ := d.al.2 e; ⟨q, h1, h _ _ h2⟩⟩
theorem DRow.putL {n k : Nat} {s : List Int × (Int × Int)} {kvs : List (Key × V)} {H H' : Hp} {a : Int} {q : Addr} (d : DRow n s kvs H) (hk : k < s.1.length) (h0 : a ≠ 0) (h : H' q = some (tupP (a, 1))) (sm : ∀ q p, H q = some (tupP p) → H' q = some (tupP p)) :
    DRow n (s.1.set k a, s.2) (putK kvs (ltK k) (.ref q)) H' := by
  refine ⟨fun j hj => ?_, d.al.keep (fun e => lt_no k e.symm) fun q => sm q _⟩
  by_cases e : j = k
  · subst e
    have : (s.1.set j a).getD j 0 = a := by simp [List.getD, hk]
    show DCell _ _ _ ((s.1.set j a).getD j 0, 1)
    rw [this]
    exact DCell.new h0 h
  · have : (s.1.set k a).getD j 0 = s.1.getD j 0 := by simp [List.getD, List.getElem?_set, Ne.symm e]
    show DCell _ _ _ ((s.1.set k a).getD j 0, 1)
    rw [this]
    exact (d.lt j hj).keep (lt_ne e) fun q => sm q _
theorem DRow.putA {n : Nat} {s : List Int × (Int × Int)} {kvs : List (Key × V)} {H H' : Hp} {p : Int × Int} {q : Addr} (d : DRow n s kvs H) (h0 : p.1 ≠ 0) (h : H' q = some (tupP p)) (sm : ∀ q p, H q = some (tupP p) → H' q = some (tupP p)) :
    DRow n (s.1, p) (putK kvs noK (.ref q)) H' :=
  ⟨fun j hj => (d.lt j hj).keep (lt_no j) fun q => sm q _, DCell.new h0 h⟩
theorem terms_many {x : Str} (hx : x.length ≤ 1400) : (termsV x).length ≤ 4002 := by
  have h1 := repM_len x
  have h2 : (Txt.split (repM x) plus).length ≤ 4002 := by
    unfold Txt.split
    split
    · exact (by decide : 1 ≤ 4002)
    · split
      · exact (by decide : 1 ≤ 4002)
      · exact parts_le (repM x) plus (by omega)
  unfold termsV
  split
  · rw [List.length_drop]; omega
  · omega
theorem body_len {z : Str} : (bodS z).length ≤ z.length := by
  unfold bodS
  split
  · exact PyProof.Txt.length_slice_le z (some 1) none
  · exact Nat.le_refl _
noncomputable def spn_row (_ : PySem.W.Frag) : Sp := fun vs H Q _ => ∃ (x : Str) (n : Nat), vs = [.str x, .str (lets n)] ∧ (n = 2 ∨ n = 3) ∧ x.length ≤ 1400 ∧ (partV n x = none → ∀ H', Same H H' → Q .non H') ∧
  (∀ s, partV n x = some s → ∀ a kvs H', Same H H' → H' a = some (.dK kvs) → DRow n s kvs H' → Q (.ref a) H')
theorem hu_of {k : Nat} {A : Around} (r : Room k A) : A.units + 1 < cLine := by have := r.un; omega
theorem part_nil {n : Nat} (h : n = 2 ∨ n = 3) : partV n (Str.ofString "") = none := by rcases h with rfl | rfl <;> decide +kernel
theorem ok_law_row (T : Txt K mg t) : FnOk P w K mg base CX0 3 t.a_law_row t.d_law_row ["_law_part_here", "_law_letters"] (spn_row K) := by
  have G_law_number : FnOk P w K mg base CX0 1 t.a_law_number t.d_law_number ["_law_word"] spn_number := ok_law_number T
  have G_law_alone : FnOk P w K mg base CX0 2 t.a_law_alone t.d_law_alone ["_law_word"] (spn_alone K) := ok_law_alone T
  refine T.F_law_row.ok sc_law_row (fun vs H Q E h => ?_) (fun cdv A outer s H vs Q E hr h => ?_)
  · obtain ⟨x, n, rfl, _⟩ := h
    rfl
  · obtain ⟨x, n, rfl, hn, hx, hN, hQ⟩ := h
    have hu1 := hu_of hr
    have hll := lets_len hn
    refine ⟨_, (pss_ifK (pt_orK (pt_cmpK op_eq (pe_slice sl_E (pv 0) po_none (po_some pe_int)) rfl) (pw_or1 (pt_cmpR op_eq (pv 0) pe_str (nomark _))))
      (pss_one (ps_ret pe_non))
      (ps_setK (i := 2) sc_law_row.nd rfl (Or.inl rfl) (pe_bmK PySem.F.plainAttrs_str PySem.F.slot_str_split PySem.F.type_str_split mt_split (pe_replK (pv 0)) (pa_cons pe_str pa_nil)))
      (pss_cons (ps_if (pt_cmpR op_eq (pe_slice sl_E (pv 0) po_none (po_some pe_int)) pe_str (nomark _))
      (pss_one (ps_set (i := 2) sc_law_row.nd rfl (Or.inl rfl) (pe_slice sl_B (pv 2) (po_some pe_int) po_none)))
      pss_nil)
      (pss_cons (ps_set (i := 3) sc_law_row.nd rfl (Or.inl rfl) pe_dnewK)
      (pss_cons (ps_for PassesOwn.never rfl (pi_seq (pv 2)) (pg_name (i := 4) sc_law_row.nd rfl (Or.inl rfl))
      (pss_cons (ps_set (i := 5) sc_law_row.nd rfl (Or.inl rfl) pe_int)
      (pss_cons (ps_if (pt_cmpR op_eq (pe_slice sl_E (pv 4) po_none (po_some pe_int)) pe_str (nomark _))
      (pss_cons (ps_set (i := 5) sc_law_row.nd rfl (Or.inl rfl) (pe_un un_neg pe_int))
      (pss_one (ps_set (i := 4) sc_law_row.nd rfl (Or.inl rfl) (pe_slice sl_E (pv 4) (po_some pe_int) po_none))))
      pss_nil)
      (pss_cons (ps_set (i := 6) sc_law_row.nd rfl (Or.inl rfl) pe_str)
      (pss_cons (ps_set (i := 7) sc_law_row.nd rfl (Or.inl rfl) (pe_tup (pa_cons pe_int (pa_cons pe_int pa_nil))))
      (pss_cons (ps_if (PW.pt (pw_and (pt_cmpR op_ne (pv 4) pe_str (nomark _)) (pw_and1 (pt_cmpR op_in_str (pe_ix ix_str (pv 4) (pe_un un_neg pe_int) (fun _ _ => rfl)) (pv 1) rfl))))
      (pss_cons (ps_set (i := 6) sc_law_row.nd rfl (Or.inl rfl) (pe_ix ix_str (pv 4) (pe_un un_neg pe_int) (fun _ _ => rfl)))
      (pss_one (ps_if (pt_cmpR op_ne (pv 4) (pv 6) (nomark _))
      (pss_cons (ps_set (i := 7) sc_law_row.nd rfl (Or.inl rfl) (pe_tup (pa_cons (pe_call G_law_number (hr.mono (by omega)) rfl T.m_law_number T.F_law_number.kp T.b_law_number .nil pass0 (pa_cons (pe_slice sl_E (pv 4) po_none (po_some (pe_un un_neg pe_int))) pa_nil)) (pa_cons pe_int pa_nil))))
      (pss_one (ps_if (pt_cmpR op_eqZ (pe_ix ix_B (pv 7) pe_int (fun _ _ => rfl)) pe_int (nomark _))
      (pss_one (ps_ret pe_non))
      pss_nil)))
      pss_nil)))
      (pss_one (ps_set (i := 7) sc_law_row.nd rfl (Or.inl rfl) (pe_call G_law_alone (hr.mono (by omega)) rfl T.m_law_alone T.F_law_alone.kp T.b_law_alone .nil pass0 (pa_cons (pv 4) pa_nil)))))
      (pss_cons (ps_if (PW.pt (pw_or (pt_cmpR op_eqZ (pe_ix ix_B (pv 7) pe_int (fun _ _ => rfl)) pe_int (nomark _)) (pw_or1 (pt_cmp (pc_din hu1 (pv 6) (pv 3)) rfl))))
      (pss_one (ps_ret pe_non))
      pss_nil)
      (pss_one (ps_dput hu1 (pv 3) (pv 6) (pe_tup (pa_cons (pe_op op_mulB (pv 5) (pe_ix ix_B (pv 7) pe_int (fun _ _ => rfl))) (pa_cons (pe_ix ix_B (pv 7) pe_int (fun _ _ => rfl)) pa_nil))) rfl)))))))))
      (pss_one (ps_ret (pv 3))))))), ?_⟩
    show tSeq _ _ _ [some (.str x), some (.str (lets n)), none, none, none, none, none, none] H
    refine st fun N1 e1 => ?_
    walk_at "rd2"
    refine ⟨x, rfl, sizeLe (by omega), rfl, _, rfl, ?_⟩
    rw [first_sw (show Str.ofString "+" = _ from plus_is)]
    cases k0 : Txt.startswith x plus with
    | true =>
      rw [show Txt.startswith x (Str.ofString "+") = true from k0]
      exact iteT (hN (by unfold partV; rw [if_pos k0]) _ (Same.refl _))
    | false =>
    rw [show Txt.startswith x (Str.ofString "+") = false from k0]
    refine iteF ⟨rfl, _, rfl, ?_⟩
    by_cases k1 : V.str x = V.str (Str.ofString "")
    · rw [decide_eq_true k1]
      have : x = Str.ofString "" := by injection k1
      exact iteT (hN (by rw [this]; exact part_nil hn) _ (Same.refl _))
    rw [decide_eq_false k1]
    refine iteF ?_
    subst e1
    refine st fun N1 e1 => ?_
    simp only [tRepl]
    walk_at "rd2"
    have hr2 := repM_len x
    refine ⟨_, rfl, rfl, x, rfl, by omega, rfl, repM x, plus, rfl, rfl, plus_len0, sizeLe (by omega), Nat.le_trans (parts_le (repM x) plus (by omega)) (by decide), fun l0 hl0 => ?_⟩
    have s1 := Same.new (o := .lst ((Txt.split (repM x) plus).map V.str)) hl0
    have el0 : (upd H l0 (.lst ((Txt.split (repM x) plus).map V.str))) l0 = some (.lst ((Txt.split (repM x) plus).map V.str)) := upd_same
    generalize upd H l0 (.lst ((Txt.split (repM x) plus).map V.str)) = H1 at s1 el0
    have words : N1 [some (.str x), some (.str (lets n)), some (.ref l0), none, none, none, none, none] H1 := by
      subst e1
      refine st fun N1 e1 => ?_
      have key : ∀ l H2, Same H H2 → H2 l = some (.lst ((termsV x).map V.str)) → N1 [some (.str x), some (.str (lets n)), some (.ref l), none, none, none, none, none] H2 := by
        intro l H2 s2 el2
        subst e1
        refine st fun N1 e1 => ?_
        simp only [tDNewK]
        walk_at "rd2"
        intro a ha
        have s3 := s2.trans (Same.new (o := .dK []) ha)
        have ha0 : H a = none := by
          cases q : H a with
          | none => rfl
          | some o => rw [s2 _ _ q] at ha; cases ha
        have ea : (upd H2 a (.dK [])) a = some (.dK []) := upd_same
        have el3 := (Same.new (o := .dK []) ha) _ _ el2
        generalize upd H2 a (.dK []) = H3 at s3 ea el3
        subst e1
        refine st fun N1 e1 => for_st fun B eB => ?_
        simp only [iSeq]
        walk_at "rd2"
        refine ⟨false, ⟨_, SqB.lst el3⟩, ?_⟩
        have hpv : partV n x = foldV n (termsV x) (List.replicate n 0, (0, 1)) := by unfold partV; rw [if_neg (by rw [k0]; decide)]
        have htl : ∀ y ∈ termsV x, y.length ≤ 3000 := fun y hy => Nat.le_trans (terms_le hy) (by omega)
        have hmany := terms_many hx
        have d0 : DRow n (List.replicate n 0, (0, 1)) [] H3 := by
          refine ⟨fun k hk => ⟨fun _ => rfl, fun e => absurd ?_ e⟩, fun _ => rfl, fun e => absurd rfl e⟩
          show (List.replicate n (0 : Int)).getD k 0 = 0
          simp [List.getD, hk]
        generalize hxs : termsV x = xs at *
        refine fr_seq (b := false) (g := gName 4) (tb := B) (fun i σ H4 => ∃ v4 v5 v6 v7 s4 kvs, σ = [some (.str x), some (.str (lets n)), some (.ref l), some (.ref a), v4, v5, v6, v7] ∧ Same H H4 ∧ H4 l = some (.lst (xs.map V.str)) ∧ H4 a = some (.dK kvs) ∧ kvs.length ≤ i ∧ DRow n s4 kvs H4 ∧ s4.1.length = n ∧ partV n x = foldV n (xs.drop i) s4)
          ⟨none, none, none, none, (List.replicate n 0, (0, 1)), [], rfl, s3, el3, ea, Nat.le_refl _, d0, by simp, by rw [List.drop_zero]; exact hpv⟩ (fun i σ H4 _ ⟨_, _, _, _, _, _, _, _, e, _⟩ => SqB.lst e) ?_ ?_
        · rintro i y σ H4 ey ⟨v4, v5, v6, v7, s4, kvs, rfl, sm4, el4, ea4, hk4, d4, hl4, hpv4⟩
          obtain ⟨z, ez, rfl⟩ : ∃ z, xs[i]? = some z ∧ y = .str z := by
            rw [List.getElem?_map] at ey
            cases e : xs[i]? with
            | none => rw [e] at ey; cases ey
            | some z => rw [e] at ey; exact ⟨z, rfl, (Option.some.inj ey).symm⟩
          have hz := htl z (List.mem_of_getElem? ez)
          have hi : i < xs.length := (List.getElem?_eq_some_iff.mp ez).1
          have bad : tmV n s4 z = none → ∀ H', Same H H' → Q .non H' := fun h H' s' => hN (by rw [hpv4, fold_stop ez h]) H' s'
          subst eB
          show tSeq _ _ _ [some (.str x), some (.str (lets n)), some (.ref l), some (.ref a), some (.str z), v5, v6, v7] H4
          refine st fun N2 e2 => ?_
          walk_at "rd2"
          subst e2
          refine st fun N2 e2 => ?_
          have hbl := body_len (z := z)
          have word : N2 [some (.str x), some (.str (lets n)), some (.ref l), some (.ref a), some (.str (bodS z)), some (.int (byS z)), v6, v7] H4 := by
            subst e2
            refine st fun N2 e2 => ?_
            walk_at "rd2"
            subst e2
            refine st fun N2 e2 => ?_
            walk_at "rd2"
            refine ⟨by show 2 ≤ sizeLine; decide, fun q1 hq1 => ?_⟩
            have s5 := Same.new (o := .tup [.int 1, .int 1]) hq1
            have eq1 : (upd H4 q1 (.tup [.int 1, .int 1])) q1 = some (tupP (1, 1)) := upd_same
            generalize upd H4 q1 (.tup [.int 1, .int 1]) = H5 at s5 eq1
            subst e2
            refine st fun N2 e2 => ?_
            have hby : Builtin.Int.intBits (byS z) ≤ 64 := by unfold byS; split <;> decide +kernel
            have fin : ∀ (kx : Str) (p pc : Int × Int) (q : Addr) (H6 : Hp), Same H4 H6 → H6 q = some (tupP p) → DCell kvs H4 (.inr kx) pc → (p.1 = 0 → tmV n s4 z = none) → (pc.1 ≠ 0 → tmV n s4 z = none) →
                (p.1 ≠ 0 → pc.1 = 0 → ∃ s5, tmV n s4 z = some s5 ∧ s5.1.length = n ∧ ∀ (H' : Hp) (q' : Addr), H' q' = some (tupP (byS z * p.1, p.2)) → (∀ q p, H4 q = some (tupP p) → H' q = some (tupP p)) → DRow n s5 (putK kvs (.inr kx) (.ref q')) H') →
                N2 [some (.str x), some (.str (lets n)), some (.ref l), some (.ref a), some (.str (bodS z)), some (.int (byS z)), some (.str kx), some (.ref q)] H6 := by
              intro kx p pc q H6 s6 eq6 dc h0 hd hg
              have i0 : ∀ Q' : VK, Q' (.int p.1) H6 → rIxB K (.ref q) (.int 0) H6 Q' := fun Q' k => ⟨true, q, _, _, _, rfl, rfl, SqB.tup eq6, atI_at (i := 0) rfl rfl, k⟩
              have i1 : ∀ Q' : VK, Q' (.int p.2) H6 → rIxB K (.ref q) (.int 1) H6 Q' := fun Q' k => ⟨true, q, _, _, _, rfl, rfl, SqB.tup eq6, atI_at (i := 1) rfl rfl, k⟩
              have ea6 := s6 _ _ ea4
              subst e2
              refine st fun N2 e2 => ?_
              simp only [tDIn]
              walk_at "rd2"
              refine i0 _ ?_
              walk_at "rd2"
              by_cases k5 : p.1 = 0
              · rw [decide_eq_true k5]
                exact iteT (bad (h0 k5) _ (sm4.trans s6))
              rw [decide_eq_false k5]
              refine iteF ?_
              simp only [tDIn]
              walk_at "rd2"
              refine ⟨_, DGet.k (k := .inr kx) ea6, ?_⟩
              rw [dc.isSome]
              by_cases k6 : pc.1 = 0
              case neg =>
                rw [decide_eq_true k6]
                exact iteT (bad (hd k6) _ (sm4.trans s6))
              rw [decide_eq_false (fun h => h k6)]
              refine iteF ?_
              obtain ⟨s7, t7, l7, g7⟩ := hg k5 k6
              subst e2
              simp only [sDPut]
              walk_at "rd2"
              refine i0 _ ?_
              walk_at "rd2"
              refine ⟨IntMulOk.of_left hby, i1 _ ⟨by show 2 ≤ sizeLine; decide, fun q' hq' => ?_⟩⟩
              have s8 := Same.new (o := .tup [.int (byS z * p.1), .int p.2]) hq'
              have eq8 : (upd H6 q' (.tup [.int (byS z * p.1), .int p.2])) q' = some (tupP (byS z * p.1, p.2)) := upd_same
              generalize upd H6 q' (.tup [.int (byS z * p.1), .int p.2]) = H8 at s8 eq8
              have ea8 := s8 _ _ ea6
              have nea : ∀ q o, H8 q = some o → (∀ k, o ≠ .dK k) → q ≠ a := fun q o e h e2 => by
                rw [e2, ea8] at e
                exact h _ (Option.some.inj e).symm
              refine ⟨_, DPut.k (k := .inr kx) ea8 (Nat.lt_of_le_of_lt hk4 (Nat.lt_of_lt_of_le hi (Nat.le_trans hmany (by decide)))), ?_⟩
              refine ⟨Same.over ha0 (sm4.trans (s6.trans s8)), ?_, s7, _, upd_same, ?_, g7 _ q' ?_ ?_, l7, by rw [hpv4, fold_step ez t7]⟩
              · have e := s8 _ _ (s6 _ _ el4)
                rw [upd_ne (nea _ _ e (fun k => by intro h; cases h))]; exact e
              · exact Nat.le_trans (length_putK _ _ _) (by omega)
              · rw [upd_ne (nea _ _ eq8 (fun k => by intro h; cases h))]; exact eq8
              · intro q p e
                have e := s8 _ _ (s6 _ _ e)
                rw [upd_ne (nea _ _ e (fun k => by intro h; cases h))]; exact e
            have byne : ∀ x : Int, x ≠ 0 → byS z * x ≠ 0 := fun x h => by unfold byS; split <;> omega
            have alone : (∀ i c, (bodS z).cps.toList = i ++ [c] → findC n c = -1) → ∀ a7 p H7, Same H5 H7 → (∀ q, fracV (bodS z) = some q → p = q) → (fracV (bodS z) = none → p.1 = 0) → H7 a7 = some (tupP p) → N2 [some (.str x), some (.str (lets n)), some (.ref l), some (.ref a), some (.str (bodS z)), some (.int (byS z)), some (.str (Str.ofString "")), some (.ref a7)] H7 := by
              intro hb a7 p H7 s7 h1 h2 e7
              have ht := tm_no (s := s4) hn hb
              refine fin (Str.ofString "") p s4.2 a7 H7 (s5.trans s7) e7 d4.al (fun e => ?_) (fun e => by rw [ht, if_neg e]) (fun e e2 => ?_)
              · cases hf : fracV (bodS z) with
                | none => rw [ht, hf]; split <;> rfl
                | some q =>
                  have := (frac_good hf).2.1
                  rw [h1 q hf] at e
                  omega
              · cases hf : fracV (bodS z) with
                | none => exact absurd (h2 hf) e
                | some q =>
                  have := h1 q hf
                  subst this
                  exact ⟨(s4.1, (byS z * p.1, p.2)), by rw [ht, if_pos e2, hf]; rfl, hl4, fun H' q' e3 sm => d4.putA (byne _ e) e3 sm⟩
            walk_at "rd2"
            refine ⟨rfl, _, rfl, ?_⟩
            by_cases k4 : V.str (bodS z) = V.str (Str.ofString "")
            · rw [decide_eq_true k4]
              refine iteF ⟨bodS z, rfl, by omega, alone fun i c e => ?_⟩
              have e2 : bodS z = Str.ofString "" := by injection k4
              rw [e2, show (Str.ofString "").cps.toList = [] from nil_cps] at e
              simp at e
            rw [decide_eq_false k4]
            obtain ⟨i0, c, ec⟩ := snoc_of (l := (bodS z).cps.toList) fun e => k4 (by rw [show bodS z = Str.ofString "" from str_ext (by rw [e]; exact nil_cps.symm)])
            refine iteT ⟨bodS z, -1, c, rfl, rfl, sizeLe (by omega), by rw [ec]; exact atI_last i0 c, _, rfl, _, rfl, ?_⟩
            rw [in_lets hn c]
            by_cases k7 : findC n c = -1
            · rw [decide_eq_false (fun h => h k7)]
              refine iteF ⟨bodS z, rfl, by omega, alone fun i c' e => ?_⟩
              rw [ec] at e
              have := (List.append_inj' e rfl).2
              injection this with this
              rw [← this]; exact k7
            rw [decide_eq_true k7]
            refine iteT ⟨bodS z, -1, c, rfl, rfl, sizeLe (by omega), by rw [ec]; exact atI_last i0 c, rfl, _, rfl, ?_⟩
            obtain ⟨k, hk, rfl, _⟩ := findC_is hn k7
            have ht := tm_let (s := s4) hn hk ec
            have hin := init_is ec
            have kcell := d4.lt k hk
            have lput : ∀ m : Int, m ≠ 0 → ∀ (H' : Hp) (q' : Addr), H' q' = some (tupP (byS z * m, 1)) → (∀ q p, H4 q = some (tupP p) → H' q = some (tupP p)) → DRow n (s4.1.set k (byS z * m), s4.2) (putK kvs (ltK k) (.ref q')) H' := fun m hm H' q' e sm => d4.putL (by omega) (byne _ hm) e sm
            by_cases k8 : V.str (bodS z) = V.str (⟨#[120 + k]⟩ : Str)
            · rw [decide_eq_true k8]
              have e2 : bodS z = ⟨#[120 + k]⟩ := by injection k8
              have ei : i0 = [] := by
                have := congrArg (fun x : Str => x.cps.toList.length) e2
                simp only [ec] at this
                simpa using this
              rw [ei] at hin
              rw [amt_nil hin] at ht
              refine iteF (fin ⟨#[120 + k]⟩ (1, 1) (s4.1.getD k 0, 1) q1 H5 s5 eq1 kcell (fun e => absurd e (by decide)) (fun e => by rw [ht, if_neg e]) (fun e e2 => ⟨(s4.1.set k (byS z * 1), s4.2), by rw [ht, if_pos e2]; rfl, by simp [hl4], lput 1 (by decide)⟩))
            rw [decide_eq_false k8]
            have ei : i0 ≠ [] := fun e => k8 (by rw [show bodS z = ⟨#[120 + k]⟩ from str_ext (by rw [ec, e]; rfl)])
            rw [amt_law (by rw [hin]; exact ei)] at ht
            refine iteT ⟨bodS z, rfl, sizeLe (by omega), initS (bodS z), rfl, Nat.le_trans (PyProof.Txt.length_slice_le (bodS z) none (some (-1))) (by omega), by show 2 ≤ sizeLine; decide, fun q2 hq2 => ?_⟩
            have s6 := Same.new (o := .tup [.int (lawN (initS (bodS z))), .int 1]) hq2
            have eq2 : (upd H5 q2 (.tup [.int (lawN (initS (bodS z))), .int 1])) q2 = some (tupP (lawN (initS (bodS z)), 1)) := upd_same
            generalize lawN (initS (bodS z)) = m at *
            generalize upd H5 q2 (.tup [.int m, .int 1]) = H6 at s6 eq2
            refine ⟨true, q2, _, _, _, rfl, rfl, SqB.tup eq2, atI_at (i := 0) rfl rfl, ?_⟩
            walk_at "rd2"
            by_cases k9 : m = 1
            · rw [decide_eq_true k9]
              rw [if_pos k9] at ht
              exact iteT (bad (by rw [ht]; split <;> rfl) _ (sm4.trans (s5.trans s6)))
            rw [decide_eq_false k9]
            rw [if_neg k9] at ht
            refine iteF (fin ⟨#[120 + k]⟩ (m, 1) (s4.1.getD k 0, 1) q2 H6 (s5.trans s6) eq2 kcell (fun e => by rw [ht, if_pos e]; split <;> rfl) (fun e => by rw [ht, if_neg e]) (fun e e2 => ⟨(s4.1.set k (byS z * m), s4.2), by rw [ht, if_pos e2, if_neg e]; rfl, by simp [hl4], lput m e⟩))
          walk_at "rd2"
          refine ⟨z, rfl, sizeLe (by omega), rfl, _, rfl, ?_⟩
          rw [first_sw (show Str.ofString "-" = _ from minus_is)]
          unfold bodS byS at word
          cases k3 : Txt.startswith z minus with
          | true =>
            rw [show Txt.startswith z (Str.ofString "-") = true from k3]
            rw [if_pos k3, if_pos k3] at word
            exact iteT ⟨z, rfl, sizeLe (by omega), word⟩
          | false =>
            rw [show Txt.startswith z (Str.ofString "-") = false from k3]
            rw [if_neg (by rw [k3]; decide), if_neg (by rw [k3]; decide)] at word
            exact iteF word
        · rintro σ H4 ⟨v4, v5, v6, v7, s4, kvs, rfl, sm4, el4, ea4, hk4, d4, hl4, hpv4⟩
          rw [List.length_map, List.drop_length] at hpv4
          subst e1
          walk_at "rd2"
          exact hQ s4 hpv4 a kvs H4 sm4 ea4 d4
      walk_at "rd2"
      refine ⟨x, rfl, sizeLe (by omega), rfl, _, rfl, ?_⟩
      rw [first_sw (show Str.ofString "-" = _ from minus_is)]
      unfold termsV at key
      cases k2 : Txt.startswith x minus with
      | true =>
        rw [show Txt.startswith x (Str.ofString "-") = true from k2]
        rw [if_pos k2] at key
        refine iteT ⟨false, l0, _, rfl, SqB.lst el0, fun z => absurd z (by decide), fun p hp => key p _ (s1.trans (Same.new hp)) ?_⟩
        have hcut : 1 ≤ ((Txt.split (repM x) plus).map V.str).length := by rw [List.length_map]; exact cut_ne _ _
        rw [upd_same, show (some (1 : Int)) = some ((1 : Nat) : Int) from rfl, cutV_from _ hcut, ← List.map_drop]
        rfl
      | false =>
        rw [show Txt.startswith x (Str.ofString "-") = false from k2]
        rw [if_neg (by rw [k2]; decide)] at key
        exact iteF (key l0 H1 s1 el0)
    exact words
noncomputable abbrev spn_kinds (K : PySem.W.Frag) : Sp := sp_law_kinds K
theorem ok_law_kinds (T : Txt K mg t) : FnOk P w K mg base CX0 2 t.a_law_kinds t.d_law_kinds ["_law_found"] (spn_kinds K) := by
  have G_law_whole : FnOk P w K mg base CX0 1 t.a_law_whole t.d_law_whole ["_law_found"] sp_law_whole := ok_law_whole T
  refine T.F_law_kinds.ok sc_law_kinds (fun vs H Q E h => ?_) (fun cdv A outer s H vs Q E hr h => ?_)
  · obtain ⟨p, M, ts, u, d, rfl, _⟩ := h
    rfl
  · obtain ⟨p, M, ts, u, d, rfl, hD, sM, htl, hd4, hQ⟩ := h
    have isT : ∀ (a : Addr) (xs : List V) (Q' : VK) (H : Hp), SqT K H a xs → Q' (.bl true) H → rIsi K [.ref a, .ty "tuple"] H Q' := fun a xs Q' H h1 h2 => ⟨_, _, _, _, rfl, .tupS h1, rfl, T.k_tt, h2⟩
    obtain ⟨pr, pt, hp1, hp2, hp3⟩ := id hD
    refine ⟨_, (pss_cons (ps_if (PW.pt (pw_or (pt_not (pt_val (pe_callB call_isi rfl T.z_isinstance (by decide +kernel) (pa_cons (pv 0) (pa_cons (pe_bltn (v := .ty "tuple") rfl T.z_tuple (by decide +kernel) rfl) pa_nil))))) (pw_or (pt_cmpR op_neZ (pe_callB call_lenB rfl T.z_len (by decide +kernel) (pa_cons (pv 0) pa_nil)) pe_int (nomark _)) (pw_or1 (pt_not (pt_val (pe_call G_law_whole (hr.mono (by omega)) rfl T.m_law_whole T.F_law_whole.kp T.b_law_whole .nil pass0 (pa_cons (pe_ix ix_B (pv 0) pe_int (fun _ _ => rfl)) pa_nil))))))))
      (pss_one (ps_ret pe_bl))
      pss_nil)
      (pss_cons (ps_if (PW.pt (pw_or (pt_not (pt_val (pe_callB call_isi rfl T.z_isinstance (by decide +kernel) (pa_cons (pe_ix ix_B (pv 0) pe_int (fun _ _ => rfl)) (pa_cons (pe_bltn (v := .ty "tuple") rfl T.z_tuple (by decide +kernel) rfl) pa_nil))))) (pw_or1 (pt_not (pt_val (pe_callB call_isi rfl T.z_isinstance (by decide +kernel) (pa_cons (pe_ix ix_B (pv 0) pe_int (fun _ _ => rfl)) (pa_cons (pe_bltn (v := .ty "tuple") rfl T.z_tuple (by decide +kernel) rfl) pa_nil))))))))
      (pss_one (ps_ret pe_bl))
      pss_nil)
      (pss_cons (ps_for PassesOwn.never rfl (pi_seq (pe_op op_cat (pe_callTy call_listB rfl T.z_list (by decide +kernel) (pa_cons (pe_ix ix_B (pv 0) pe_int (fun _ _ => rfl)) pa_nil)) (pe_lst (pa_cons (pe_ix ix_B (pv 0) pe_int (fun _ _ => rfl)) pa_nil)))) (pg_name (i := 1) sc_law_kinds.nd rfl (Or.inl rfl))
      (pss_cons (ps_if (pt_not (pt_val (pe_callB call_isi rfl T.z_isinstance (by decide +kernel) (pa_cons (pv 1) (pa_cons (pe_bltn (v := .ty "tuple") rfl T.z_tuple (by decide +kernel) rfl) pa_nil)))))
      (pss_one (ps_ret pe_bl))
      pss_nil)
      (pss_one (ps_if (pt_cmpR op_gt (pe_callB call_lenB rfl T.z_len (by decide +kernel) (pa_cons (pe_compG (xs := ["_law_number_here"]) (fr := []) (g := (gName 0)) (tt := (tElIf (tNot (tB (tCall (sp_law_whole) [] E0 (tCons (tVar 0) tNil)))) (tVar 0))) (compG_ok (sc := defScope s_law_kinds) (N := N_law_kinds) rfl rfl (by decide +kernel)) rfl (pi_seq (pv 1)) (fun _ _ _ hE1 => (pg_own (N := ["_law_number_here"]) (i := 0) hE1 rfl (by decide +kernel))) (fun _ _ _ hE1 => (po_if (pt_not (pt_val (pe_call G_law_whole (hr.mono (by omega)) rfl T.m_law_whole T.F_law_whole.kp T.b_law_whole .nil pass0 (pa_cons (pv 0) pa_nil)))) (pv 0)))) pa_nil)) pe_int (nomark _))
      (pss_one (ps_ret pe_bl))
      pss_nil))))
      (pss_one (ps_ret pe_bl))))), ?_⟩
    show tSeq _ _ _ [some (.ref p), none] H
    refine st fun N1 e1 => ?_
    walk_at "rd2"
    refine isT p _ _ _ (SqT.of hp1) ?_
    walk_at "rd2"
    refine ⟨true, p, _, rfl, SqB.tup hp1, ?_⟩
    walk_at "rd2"
    refine iteF ?_
    refine deed_ix2 hD ⟨u, rfl, ?_⟩
    try walk_at "rd2"
    try refine iteF ?_
    subst e1
    refine st fun N1 e1 => ?_
    walk_at "rd2"
    refine deed_ix0 hD fun x hx => isT x _ _ _ (hx.choose_spec.1) ?_
    walk_at "rd2"
    refine deed_ix1 hD fun y hy => isT y _ _ _ (SqT.of hy) ?_
    walk_at "rd2"
    try refine iteF ?_
    subst e1
    refine st fun N1 e1 => for_st fun B eB => ?_
    simp only [iSeq]
    walk_at "rd2"
    refine deed_ix0 hD fun x hx => ?_
    obtain ⟨xs, w1, w2, w3⟩ := hx.walk
    refine ⟨true, x, _, rfl, w1, fun l1 hl1 => ?_⟩
    have s1 := Same.new (o := .lst xs) hl1
    have e1' : (upd H l1 (.lst xs)) l1 = some (.lst xs) := upd_same
    generalize upd H l1 (.lst xs) = H1 at s1 e1'
    refine deed_ix1 (hD.up s1) fun y hy => ⟨by show 1 ≤ sizeLine; decide, fun l2 hl2 => ?_⟩
    have s2 := Same.new (o := .lst [.ref y]) hl2
    have e2' : (upd H1 l2 (.lst [.ref y])) l2 = some (.lst [.ref y]) := upd_same
    generalize upd H1 l2 (.lst [.ref y]) = H2 at s2 e2'
    refine ⟨l1, l2, _, _, rfl, rfl, s2 _ _ e1', e2', sizeLe (by rw [w2, sM.1]; simp; omega), fun l3 hl3 => ?_⟩
    have s3 := Same.new (o := .lst (xs ++ [.ref y])) hl3
    have e3' : (upd H2 l3 (.lst (xs ++ [.ref y]))) l3 = some (.lst (xs ++ [.ref y])) := upd_same
    generalize upd H2 l3 (.lst (xs ++ [.ref y])) = H3 at s3 e3'
    have s03 : Same H H3 := (s1.trans s2).trans s3
    have hy3 := (s2.trans s3) _ _ hy
    refine ⟨false, l3, rfl, ⟨_, SqB.lst e3'⟩, ?_⟩
    refine fr_seq (b := false) (g := gName 1) (tb := B) (fun i σ H1 => ∃ v2, σ = [some (.ref p), v2] ∧ Same H3 H1) ⟨none, rfl, Same.refl _⟩ (fun i σ H1 _ ⟨_, _, s1⟩ => SqB.lst (s1 _ _ e3')) ?_ ?_
    · rintro i z σ H4 ez ⟨v2, rfl, s4⟩
      obtain ⟨pp, r, rfl, hpp, hrl⟩ : ∃ (pp : Addr) (r : List Int), z = .ref pp ∧ SqB true K H3 pp (r.map V.int) ∧ r.length ≤ 4 := by
        by_cases hi : i < xs.length
        · rw [List.getElem?_append_left hi] at ez
          obtain ⟨pp, r, rfl, er, hpp⟩ := w3 i z ez
          exact ⟨pp, r, rfl, hpp.up s03, by rw [sM.2 r (List.mem_of_getElem? er)]; exact hd4⟩
        · rw [List.getElem?_append_right (by omega)] at ez
          have hi2 : i - xs.length < 1 := by
            have := (List.getElem?_eq_some_iff.mp ez).1
            simpa using this
          rw [show i - xs.length = 0 by omega] at ez
          cases ez
          exact ⟨y, ts, rfl, SqB.tup hy3, by omega⟩
      subst eB
      show tIfS _ _ _ _ [some (.ref p), some (.ref pp)] H4
      have hpp1 := hpp.up s4
      walk_at "rd2"
      refine isT pp _ _ _ hpp1 ?_
      walk_at "rd2"
      refine compI_st fun C B eC eB => ?_
      simp only [iSeq]
      walk_at "rd2"
      refine ⟨true, ⟨_, hpp1⟩, fun a1 ha1 => ?_⟩
      subst eC
      subst eB
      refine none_left ha1 hpp1 (by omega) fun H2 s2 e2 => ⟨false, a1, _, rfl, SqB.lst e2, ?_⟩
      walk_at "rd2"
      exact s4.trans s2
    · rintro σ H4 ⟨v2, rfl, s4⟩
      subst e1
      walk_at "rd2"
      exact hQ H4 (s03.trans s4)
noncomputable def spn_sense (K : PySem.W.Frag) : Sp := fun vs H Q _ => ∃ (l : Addr) (M : List (List Int)) (d : Nat), vs = [.ref l] ∧ MatB false true K H l M ∧ Sq d M ∧ (d = 2 ∨ d = 3) ∧ (∀ r ∈ M, ∀ z ∈ r, z.natAbs < 10 ^ 100) ∧ Q (.int (detM d M)) H
theorem p_ok {x y : Int} (h1 : x.natAbs < 10 ^ 100) (h2 : y.natAbs < 10 ^ 100) : IntMulOk x y := IntMulOk.of_le (pr_bits h1) (pr_bits h2) (by decide)
theorem q_ok {x y z w v : Int} (h1 : x.natAbs < 10 ^ 100) (h2 : y.natAbs < 10 ^ 100) (h3 : z.natAbs < 10 ^ 100) (h4 : w.natAbs < 10 ^ 100) (h5 : v.natAbs < 10 ^ 100) : IntMulOk (x * y - z * w) v := by
  refine IntMulOk.of_le (m := 801) (intBits_le_iff.mpr ?_) (pr_bits h5) (by decide)
  have a1 := Nat.mul_le_mul (Nat.le_of_lt h1) (Nat.le_of_lt h2)
  have a2 := Nat.mul_le_mul (Nat.le_of_lt h3) (Nat.le_of_lt h4)
  rw [← Int.natAbs_mul] at a1 a2
  have a3 : 10 ^ 100 * 10 ^ 100 + 10 ^ 100 * 10 ^ 100 < 2 ^ 801 := by decide +kernel
  generalize x * y = m at *
  generalize z * w = n at *
  generalize 10 ^ 100 * 10 ^ 100 = t at *
  generalize 2 ^ 801 = u at *
  omega
theorem ok_law_sense (T : Txt K mg t) : FnOk P w K mg base CX0 1 t.a_law_sense t.d_law_sense ["_law_rows"] (spn_sense K) := by
  refine T.F_law_sense.ok sc_law_sense (fun vs H Q E h => ?_) (fun cdv A outer s H vs Q E hr h => ?_)
  · obtain ⟨l, M, d, rfl, _⟩ := h
    rfl
  · obtain ⟨l, M, d, rfl, hM, sM, hd, hb, hQ⟩ := h
    refine ⟨_, (pss_cons (ps_if (pt_cmpR op_eqZ (pe_callB call_lenB rfl T.z_len (by decide +kernel) (pa_cons (pv 0) pa_nil)) pe_int (nomark _))
      (pss_one (ps_ret (pe_op op_sub (pe_op op_mulB (pe_ix ix_B (pe_ix ix_B (pv 0) pe_int (fun _ _ => rfl)) pe_int (fun _ _ => rfl)) (pe_ix ix_B (pe_ix ix_B (pv 0) pe_int (fun _ _ => rfl)) pe_int (fun _ _ => rfl))) (pe_op op_mulB (pe_ix ix_B (pe_ix ix_B (pv 0) pe_int (fun _ _ => rfl)) pe_int (fun _ _ => rfl)) (pe_ix ix_B (pe_ix ix_B (pv 0) pe_int (fun _ _ => rfl)) pe_int (fun _ _ => rfl))))))
      pss_nil)
      (pss_cons (ps_asg (pe_ix ix_B (pv 0) pe_int (fun _ _ => rfl)) (pg_tup rfl (pgs_cons (pg_name (i := 1) sc_law_sense.nd rfl (Or.inl rfl)) (pgs_cons (pg_name (i := 2) sc_law_sense.nd rfl (Or.inl rfl)) (pgs_cons (pg_name (i := 3) sc_law_sense.nd rfl (Or.inl rfl)) pgs_nil)))))
      (pss_cons (ps_set (i := 4) sc_law_sense.nd rfl (Or.inl rfl) (pe_op op_sub (pe_op op_mulB (pv 2) (pe_ix ix_B (pe_ix ix_B (pv 0) pe_int (fun _ _ => rfl)) pe_int (fun _ _ => rfl))) (pe_op op_mulB (pv 3) (pe_ix ix_B (pe_ix ix_B (pv 0) pe_int (fun _ _ => rfl)) pe_int (fun _ _ => rfl)))))
      (pss_cons (ps_set (i := 5) sc_law_sense.nd rfl (Or.inl rfl) (pe_op op_sub (pe_op op_mulB (pv 3) (pe_ix ix_B (pe_ix ix_B (pv 0) pe_int (fun _ _ => rfl)) pe_int (fun _ _ => rfl))) (pe_op op_mulB (pv 1) (pe_ix ix_B (pe_ix ix_B (pv 0) pe_int (fun _ _ => rfl)) pe_int (fun _ _ => rfl)))))
      (pss_cons (ps_set (i := 6) sc_law_sense.nd rfl (Or.inl rfl) (pe_op op_sub (pe_op op_mulB (pv 1) (pe_ix ix_B (pe_ix ix_B (pv 0) pe_int (fun _ _ => rfl)) pe_int (fun _ _ => rfl))) (pe_op op_mulB (pv 2) (pe_ix ix_B (pe_ix ix_B (pv 0) pe_int (fun _ _ => rfl)) pe_int (fun _ _ => rfl)))))
      (pss_one (ps_ret (pe_op op_add (pe_op op_add (pe_op op_mulB (pv 4) (pe_ix ix_B (pe_ix ix_B (pv 0) pe_int (fun _ _ => rfl)) pe_int (fun _ _ => rfl))) (pe_op op_mulB (pv 5) (pe_ix ix_B (pe_ix ix_B (pv 0) pe_int (fun _ _ => rfl)) pe_int (fun _ _ => rfl)))) (pe_op op_mulB (pv 6) (pe_ix ix_B (pe_ix ix_B (pv 0) pe_int (fun _ _ => rfl)) pe_int (fun _ _ => rfl))))))))))), ?_⟩
    show tSeq _ _ _ [some (.ref l), none, none, none, none, none, none] H
    refine st fun N1 e1 => ?_
    walk_at "rd2"
    refine mat_len hM ?_
    walk_at "rd2"
    rcases hd with rfl | rfl
    · obtain ⟨a, b, c, e, rfl⟩ := sq2 sM
      rw [det2] at hQ
      simp only [List.forall_mem_cons, List.not_mem_nil, false_implies, implies_true, and_true] at hb
      obtain ⟨⟨ba, bb⟩, bc, be⟩ := hb
      rw [decide_eq_true (show ((([[a, b], [c, e]] : List (List Int)).length : Int) = 2) from rfl)]
      refine iteT ?_
      refine mat_ix hM (i := 0) (k := 0) rfl rfl rfl rfl (mat_ix hM (i := 1) (k := 1) rfl rfl rfl rfl ?_)
      walk_at "rd2"
      refine ⟨p_ok ba be, mat_ix hM (i := 0) (k := 1) rfl rfl rfl rfl (mat_ix hM (i := 1) (k := 0) rfl rfl rfl rfl ?_)⟩
      walk_at "rd2"
      exact ⟨p_ok bb bc, hQ⟩
    · obtain ⟨a, b, c, e, f, g, i, j, k, rfl⟩ := sq3 sM
      rw [det3] at hQ
      simp only [List.forall_mem_cons, List.not_mem_nil, false_implies, implies_true, and_true] at hb
      obtain ⟨⟨ba, bb, bc⟩, ⟨be, bf, bg⟩, bi, bj, bk⟩ := hb
      rw [decide_eq_false (show ¬ ((([[a, b, c], [e, f, g], [i, j, k]] : List (List Int)).length : Int) = 2) by simp)]
      refine iteF ?_
      subst e1
      refine st fun N1 e1 => ?_
      simp only [tAsg]
      walk_at "rd2"
      refine mat_row hM (i := 0) rfl rfl fun p hp => ⟨p, _, rfl, hp, rfl, _, _, rfl, _, _, rfl, _, _, rfl, rfl, ?_⟩
      show N1 [some (.ref l), some (.int a), some (.int b), some (.int c), none, none, none] H
      subst e1
      refine st fun N1 e1 => ?_
      walk_at "rd2"
      refine mat_ix hM (i := 1) (k := 2) rfl rfl rfl rfl ?_
      walk_at "rd2"
      refine ⟨p_ok bb bg, mat_ix hM (i := 1) (k := 1) rfl rfl rfl rfl ?_⟩
      walk_at "rd2"
      refine ⟨p_ok bc bf, ?_⟩
      subst e1
      refine st fun N1 e1 => ?_
      walk_at "rd2"
      refine mat_ix hM (i := 1) (k := 0) rfl rfl rfl rfl ?_
      walk_at "rd2"
      refine ⟨p_ok bc be, mat_ix hM (i := 1) (k := 2) rfl rfl rfl rfl ?_⟩
      walk_at "rd2"
      refine ⟨p_ok ba bg, ?_⟩
      subst e1
      refine st fun N1 e1 => ?_
      walk_at "rd2"
      refine mat_ix hM (i := 1) (k := 1) rfl rfl rfl rfl ?_
      walk_at "rd2"
      refine ⟨p_ok ba bf, mat_ix hM (i := 1) (k := 0) rfl rfl rfl rfl ?_⟩
      walk_at "rd2"
      refine ⟨p_ok bb be, ?_⟩
      subst e1
      walk_at "rd2"
      refine mat_ix hM (i := 2) (k := 0) rfl rfl rfl rfl ?_
      walk_at "rd2"
      refine ⟨q_ok bb bg bc bf bi, mat_ix hM (i := 2) (k := 1) rfl rfl rfl rfl ?_⟩
      walk_at "rd2"
      refine ⟨q_ok bc be ba bg bj, ?_⟩
      try walk_at "rd2"
      refine mat_ix hM (i := 2) (k := 2) rfl rfl rfl rfl ?_
      walk_at "rd2"
      exact ⟨q_ok ba bf bb be bk, hQ⟩
theorem Same.non {H H' : Hp} {a : Addr} (s : Same H H') (h : H' a = none) : H a = none := by
  cases q : H a with
  | none => rfl
  | some o => rw [s _ _ q] at h; cases h
noncomputable def spn_due (K : PySem.W.Frag) : Sp := fun vs H Q _ => ∃ x : Str, vs = [.str x] ∧ x.length ≤ 1400 ∧ (¬ RdOk (Txt.split x comma) → ∀ H', Same H H' → Q .non H') ∧
  (RdOk (Txt.split x comma) → ∀ q H', Same H H' → DeedAt K H' q (matG (Txt.split x comma)) (lawT (prsG (Txt.split x comma))) (lawU (prsG (Txt.split x comma))) → Q (.ref q) H')
theorem lets_at {n j c : Nat} (h : n = 2 ∨ n = 3) (e : (lets n).cps[j]? = some c) : j < n ∧ c = 120 + j := by
  have e2 : (lets 2).cps = #[120, 121] := by decide +kernel
  have e3 : (lets 3).cps = #[120, 121, 122] := by decide +kernel
  rcases h with rfl | rfl
  · rw [e2] at e
    match j, e with
    | 0, e => cases e; decide
    | 1, e => cases e; decide
    | j + 2, e => simp at e
  · rw [e3] at e
    match j, e with
    | 0, e => cases e; decide
    | 1, e => cases e; decide
    | 2, e => cases e; decide
    | j + 3, e => simp at e
theorem good_zero {p : Int × Int} (g : GoodPr p) (h : p.1 = 0) : p = (0, 1) := by
  have h1 := g.low
  have h2 := g.pos
  rw [h] at h1
  have : gcdI 0 p.2 = p.2 := by
    unfold gcdI
    simp
    omega
  rw [this] at h1
  exact Prod.ext h h1
structure RowsD (xs : List Str) (i : Nat) (ps : List Addr) (ys : List V) (l3 l4 : Addr) (H : Hp) : Prop where
  e3 : H l3 = some (.lst (ps.map V.ref))
  e4 : H l4 = some (.lst ys)
  n3 : ps.length = i
  n4 : ys.length = i
  r3 : ∀ (j : Nat) p z, ps[j]? = some p → xs[j]? = some z → H p = some (.tup ((parG xs.length z).1.map V.int))
  r4 : ∀ (j : Nat) y, ys[j]? = some y → ∃ a z, y = .ref a ∧ xs[j]? = some z ∧ H a = some (tupP (parG xs.length z).2)
  ok : ∀ (j : Nat) z, j < i → xs[j]? = some z → ∃ s, partV xs.length z = some s
theorem RowsD.zero {xs : List Str} {l3 l4 : Addr} {H : Hp} (h3 : H l3 = some (.lst [])) (h4 : H l4 = some (.lst [])) : RowsD xs 0 [] [] l3 l4 H :=
  ⟨h3, h4, rfl, rfl, fun j p z e => (by simp at e), fun j y e => (by simp at e), fun j z h => absurd h (Nat.not_lt_zero _)⟩
theorem RowsD.up {xs : List Str} {i : Nat} {ps : List Addr} {ys : List V} {l3 l4 : Addr} {H H' : Hp} (d : RowsD xs i ps ys l3 l4 H) (s : Same H H') : RowsD xs i ps ys l3 l4 H' :=
  ⟨s _ _ d.e3, s _ _ d.e4, d.n3, d.n4, fun j p z h1 h2 => s _ _ (d.r3 j p z h1 h2), fun j y e => let ⟨a, z, h1, h2, h3⟩ := d.r4 j y e; ⟨a, z, h1, h2, s _ _ h3⟩, d.ok⟩
theorem RowsD.snoc {xs : List Str} {i : Nat} {ps : List Addr} {ys : List V} {l3 l4 : Addr} {H H' : Hp} {z : Str} {s : List Int × (Int × Int)} {p q : Addr} (d : RowsD xs i ps ys l3 l4 H) (ez : xs[i]? = some z) (hs : partV xs.length z = some s)
    (h3 : H' l3 = some (.lst ((ps ++ [p]).map V.ref))) (h4 : H' l4 = some (.lst (ys ++ [.ref q]))) (hk : ∀ a o, H a = some (.tup o) → H' a = some (.tup o)) (hp : H' p = some (.tup (s.1.map V.int))) (hq : H' q = some (tupP s.2)) :
    RowsD xs (i + 1) (ps ++ [p]) (ys ++ [.ref q]) l3 l4 H' := by
  have hg := par_some hs
  refine ⟨h3, h4, by simp [d.n3], by simp [d.n4], fun j p' z' e1 e2 => ?_, fun j y e => ?_, fun j z' hj e => ?_⟩
  · by_cases hj : j < ps.length
    · rw [List.getElem?_append_left hj] at e1
      exact hk _ _ (d.r3 j p' z' e1 e2)
    · rw [List.getElem?_append_right (by omega)] at e1
      have hj2 : j - ps.length < 1 := by
        have := (List.getElem?_eq_some_iff.mp e1).1
        simpa using this
      have : j = i := by have := d.n3; omega
      subst this
      rw [d.n3, Nat.sub_self] at e1
      cases e1
      rw [ez] at e2
      cases e2
      rw [hg]; exact hp
  · by_cases hj : j < ys.length
    · rw [List.getElem?_append_left hj] at e
      obtain ⟨a, z', h1, h2, h3⟩ := d.r4 j y e
      exact ⟨a, z', h1, h2, hk _ _ h3⟩
    · rw [List.getElem?_append_right (by omega)] at e
      have hj2 : j - ys.length < 1 := by
        have := (List.getElem?_eq_some_iff.mp e).1
        simpa using this
      have : j = i := by have := d.n4; omega
      subst this
      rw [d.n4, Nat.sub_self] at e
      cases e
      exact ⟨q, z, rfl, ez, by rw [hg]; exact hq⟩
  · by_cases h : j < i
    · exact d.ok j z' h e
    · have : j = i := by omega
      subst this
      rw [ez] at e
      cases e
      exact ⟨s, hs⟩
theorem ok_law_due (T : Txt K mg t) : FnOk P w K mg base CX0 4 t.a_law_due t.d_law_due ["_law_text_here"] (spn_due K) := by
  have G_law_row : FnOk P w K mg base CX0 3 t.a_law_row t.d_law_row ["_law_part_here", "_law_letters"] (spn_row K) := ok_law_row T
  have G_law_sense : FnOk P w K mg base CX0 1 t.a_law_sense t.d_law_sense ["_law_rows"] (spn_sense K) := ok_law_sense T
  have G_law_common : FnOk P w K mg base CX0 1 t.a_law_common t.d_law_common ["_law_one", "_law_other"] sp_law_common := ok_law_common T
  refine T.F_law_due.ok sc_law_due (fun vs H Q E h => ?_) (fun cdv A outer s H vs Q E hr h => ?_)
  · obtain ⟨x, rfl, _⟩ := h
    rfl
  · obtain ⟨x, rfl, hx, hN, hQ⟩ := h
    have hu1 := hu_of hr
    refine ⟨_, (pss_cons (ps_set (i := 1) sc_law_due.nd rfl (Or.inl rfl) (pe_bm PySem.F.plainAttrs_str PySem.F.slot_str_split PySem.F.type_str_split mt_split (pv 0) (pa_cons pe_str pa_nil)))
      (pss_cons (ps_if (PW.pt (pw_or (pt_cmpR op_lt (pe_callB call_lenB rfl T.z_len (by decide +kernel) (pa_cons (pv 1) pa_nil)) pe_int (nomark _)) (pw_or1 (pt_cmpR op_gt (pe_callB call_lenB rfl T.z_len (by decide +kernel) (pa_cons (pv 1) pa_nil)) pe_int (nomark _)))))
      (pss_one (ps_ret pe_non))
      pss_nil)
      (pss_cons (ps_set (i := 2) sc_law_due.nd rfl (Or.inl rfl) (pe_slice sl_E pe_str po_none (po_some (pe_callB call_lenB rfl T.z_len (by decide +kernel) (pa_cons (pv 1) pa_nil)))))
      (pss_cons (ps_set (i := 3) sc_law_due.nd rfl (Or.inl rfl) (pe_lst pa_nil))
      (pss_cons (ps_set (i := 4) sc_law_due.nd rfl (Or.inl rfl) (pe_lst pa_nil))
      (pss_cons (ps_for PassesOwn.never rfl (pi_seq (pv 1)) (pg_name (i := 5) sc_law_due.nd rfl (Or.inl rfl))
      (pss_cons (ps_set (i := 6) sc_law_due.nd rfl (Or.inr rfl) (pe_call G_law_row (hr.mono (by omega)) rfl T.m_law_row T.F_law_row.kp T.b_law_row .nil pass0 (pa_cons (pv 5) (pa_cons (pv 2) pa_nil))))
      (pss_cons (ps_if (pt_cmpR op_isN (pv 6) pe_non (nomark _))
      (pss_one (ps_ret pe_non))
      pss_nil)
      (pss_cons (ps_expr (pe_bm PySem.F.plainAttrs_list PySem.F.slot_list_append PySem.F.type_list_append mt_append (pv 3) (pa_cons (pe_callTy call_tupB rfl T.z_tuple (by decide +kernel) (pa_cons (pe_compG (xs := ["_law_letter"]) (fr := [("_law_row_here", 6)]) (g := (gName 0)) (tt := (tEl (tOp (rIxB K) (tDGet2 (tVar 1) (tVar 0) (tTup (tCons (tC (.int 0)) (tCons (tC (.int 1)) tNil)))) (tC (.int 0))))) (compG_ok (sc := defScope s_law_due) (N := N_law_due) rfl rfl (by decide +kernel)) rfl (pi_str (pv 2)) (fun _ _ _ hE1 => (pg_own (N := ["_law_letter", "_law_row_here"]) (i := 0) hE1 rfl (by decide +kernel))) (fun _ _ _ hE1 => (po_el (pe_ix ix_B (pe_dget2 hu1 (pv 1) (pv 0) (pe_tup (pa_cons pe_int (pa_cons pe_int pa_nil))) ⟨rfl, rfl, rfl, rfl⟩) pe_int (fun _ _ => rfl))))) pa_nil)) pa_nil)))
      (pss_one (ps_expr (pe_bm PySem.F.plainAttrs_list PySem.F.slot_list_append PySem.F.type_list_append mt_append (pv 4) (pa_cons (pe_dget2 hu1 (pv 6) pe_str (pe_tup (pa_cons pe_int (pa_cons pe_int pa_nil))) ⟨rfl, rfl, rfl, rfl⟩) pa_nil))))))))
      (pss_cons (ps_if (pt_cmpR op_neZ (pe_callB call_abs rfl T.z_abs (by decide +kernel) (pa_cons (pe_call G_law_sense (hr.mono (by omega)) rfl T.m_law_sense T.F_law_sense.kp T.b_law_sense .nil pass0 (pa_cons (pv 3) pa_nil)) pa_nil)) pe_int (nomark _))
      (pss_one (ps_ret pe_non))
      pss_nil)
      (pss_cons (ps_set (i := 7) sc_law_due.nd rfl (Or.inr rfl) pe_int)
      (pss_cons (ps_for PassesOwn.never rfl (pi_seq (pv 4)) (pg_tup rfl (pgs_cons (pg_name (i := 8) sc_law_due.nd rfl (Or.inl rfl)) (pgs_cons (pg_name (i := 9) sc_law_due.nd rfl (Or.inl rfl)) pgs_nil)))
      (pss_one (ps_set (i := 7) sc_law_due.nd rfl (Or.inr rfl) (pe_op op_fdivB (pe_op op_mulB (pv 7) (pv 9)) (pe_call G_law_common (hr.mono (by omega)) rfl T.m_law_common T.F_law_common.kp T.b_law_common .nil pass0 (pa_cons (pv 7) (pa_cons (pv 9) pa_nil)))))))
      (pss_cons (ps_setCG (i := 10) (xs := ["_law_top", "_law_bottom"]) (fr := [("_law_under", 7)]) (g := (gTup K 2 (gCons (gName 0) (gCons (gName 1) gNil)))) (tt := (tEl (tOp (rI (fun i j => IntMulOk i j) fun i j => .int (i * j)) (tVar 0) (tOp (rI CDivB fun i j => .int (i.fdiv j)) (tVar 2) (tVar 1))))) (compG_ok (sc := defScope s_law_due) (N := N_law_due) rfl rfl (by decide +kernel)) rfl sc_law_due.nd rfl rfl (pi_seq (pv 4)) (fun _ _ _ hE1 => (pg_tup rfl (pgs_cons (pg_own (N := ["_law_top", "_law_bottom", "_law_under"]) (i := 0) hE1 rfl (by decide +kernel)) (pgs_cons (pg_own (N := ["_law_top", "_law_bottom", "_law_under"]) (i := 1) hE1 rfl (by decide +kernel)) pgs_nil)))) (fun _ _ _ hE1 => (po_el (pe_op op_mulB (pv 0) (pe_op op_fdivB (pv 2) (pv 1))))))
      (pss_one (ps_ret (pe_tup (pa_cons (pe_callTy call_tupB rfl T.z_tuple (by decide +kernel) (pa_cons (pv 3) pa_nil)) (pa_cons (pe_callTy call_tupB rfl T.z_tuple (by decide +kernel) (pa_cons (pv 10) pa_nil)) (pa_cons (pv 7) pa_nil)))))))))))))))), ?_⟩
    show tSeq _ _ _ [some (.str x), none, none, none, none, none, none, none, none, none, none] H
    refine st fun N1 e1 => ?_
    walk_at "rd2"
    refine ⟨rfl, x, comma, rfl, rfl, comma_len0, sizeLe (by omega), Nat.le_trans (parts_le x comma (by omega)) (by decide), fun l hl => ?_⟩
    have s1 : Same H (upd H l (.lst ((Txt.split x comma).map V.str))) := Same.new hl
    have el : (upd H l (.lst ((Txt.split x comma).map V.str))) l = some (.lst ((Txt.split x comma).map V.str)) := upd_same
    have hp : ∀ z ∈ Txt.split x comma, z.length ≤ 1400 := fun z hz => Nat.le_trans (part_le hz) hx
    unfold RdOk at hN hQ
    generalize upd H l (.lst ((Txt.split x comma).map V.str)) = H1 at s1 el
    generalize hxs : Txt.split x comma = xs at *
    have hlen : ∀ (H' : Hp) (Q' : VK), Same H1 H' → Q' (.int xs.length) H' → rLenB K [.ref l] H' Q' := fun H' Q' s' q => ⟨false, l, _, rfl, SqB.lst (s' _ _ el), by rw [List.length_map]; exact q⟩
    subst e1
    refine st fun N1 e1 => ?_
    walk_at "rd2"
    refine hlen _ _ (Same.refl _) ?_
    walk_at "rd2"
    by_cases k1 : ((xs.length : Int) < 2)
    · rw [decide_eq_true k1]
      exact iteT (hN (fun z => by have := z.1.1; omega) _ s1)
    rw [decide_eq_false k1]
    refine iteF (hlen _ _ (Same.refl _) ?_)
    try walk_at "rd2"
    by_cases k2 : (3 < (xs.length : Int))
    · rw [decide_eq_true k2]
      exact iteT (hN (fun z => by have := z.1.1; omega) _ s1)
    have hn : xs.length = 2 ∨ xs.length = 3 := by omega
    rw [decide_eq_false k2]
    refine iteF ?_
    subst e1
    refine st fun N1 e1 => ?_
    walk_at "rd2"
    refine hlen _ _ (Same.refl _) ⟨_, rfl, _, rfl, by decide +kernel, ?_⟩
    show N1 [some (.str x), some (.ref l), some (.str (lets xs.length)), none, none, none, none, none, none, none, none] H1
    subst e1
    refine st fun N1 e1 => ?_
    walk_at "rd2"
    refine ⟨by decide, fun l3 hl3 => ?_⟩
    have s2 := s1.trans (Same.new (o := .lst []) hl3)
    have hl30 := Same.non s1 hl3
    have el2 := (Same.new (o := .lst []) hl3) _ _ el
    have e3 : (upd H1 l3 (.lst [])) l3 = some (.lst []) := upd_same
    generalize upd H1 l3 (.lst []) = H2 at s2 e3 el2
    subst e1
    refine st fun N1 e1 => ?_
    walk_at "rd2"
    refine ⟨by decide, fun l4 hl4 => ?_⟩
    have s3 := s2.trans (Same.new (o := .lst []) hl4)
    have hl40 := Same.non s2 hl4
    have n34 : l3 ≠ l4 := fun e => by rw [← e, e3] at hl4; cases hl4
    have nl3 : l ≠ l3 := fun e => by rw [← e, el] at hl3; cases hl3
    have nl4 : l ≠ l4 := fun e => by rw [← e, el2] at hl4; cases hl4
    have el3 := (Same.new (o := .lst []) hl4) _ _ el2
    have e33 := (Same.new (o := .lst []) hl4) _ _ e3
    have e43 : (upd H2 l4 (.lst [])) l4 = some (.lst []) := upd_same
    generalize upd H2 l4 (.lst []) = H3 at s3 e43 e33 el3
    subst e1
    refine st fun N1 e1 => for_st fun B eB => ?_
    simp only [iSeq]
    walk_at "rd2"
    refine ⟨false, ⟨_, SqB.lst el3⟩, ?_⟩
    refine fr_seq (b := false) (g := gName 5) (tb := B) (fun i σ H4 => ∃ v5 v6 ps ys, σ = [some (.str x), some (.ref l), some (.str (lets xs.length)), some (.ref l3), some (.ref l4), v5, v6, none, none, none, none] ∧ Same H H4 ∧ H4 l = some (.lst (xs.map V.str)) ∧ RowsD xs i ps ys l3 l4 H4)
      ⟨none, none, [], [], rfl, s3, el3, RowsD.zero e33 e43⟩ (fun i σ H4 _ ⟨_, _, _, _, _, _, e, _⟩ => SqB.lst e) ?_ ?_
    · rintro i y σ H4 ey ⟨v5, v6, ps, ys, rfl, sm4, el4, rd4⟩
      obtain ⟨z, ez, rfl⟩ : ∃ z, xs[i]? = some z ∧ y = .str z := by
        rw [List.getElem?_map] at ey
        cases e : xs[i]? with
        | none => rw [e] at ey; cases ey
        | some z => rw [e] at ey; exact ⟨z, rfl, (Option.some.inj ey).symm⟩
      have hz := hp z (List.mem_of_getElem? ez)
      have hi : i < xs.length := (List.getElem?_eq_some_iff.mp ez).1
      subst eB
      show tSeq _ _ _ [some (.str x), some (.ref l), some (.str (lets xs.length)), some (.ref l3), some (.ref l4), some (.str z), v6, none, none, none, none] H4
      refine st fun N2 e2 => ?_
      walk_at "rd2"
      refine ⟨z, xs.length, rfl, hn, hz, fun h H5 s5 => ?_, fun sp hs a kvs H5 s5 ea dr => ?_⟩
      · subst e2
        refine st fun N2 e2 => ?_
        walk_at "rd2"
        refine iteT (hN (fun o => by obtain ⟨s', es⟩ := o.1.2 z (List.mem_of_getElem? ez); rw [h] at es; cases es) _ (sm4.trans s5))
      · subst e2
        refine st fun N2 e2 => ?_
        walk_at "rd2"
        rw [decide_eq_false (by intro h; cases h)]
        refine iteF ?_
        have st5 := part_facts hs
        replace rd4 := rd4.up s5
        subst e2
        refine st fun N2 e2 => ?_
        walk_at "rd2"
        refine ⟨.inl ⟨rfl, _, SqL.of rd4.e3⟩, ?_⟩
        refine compE_st fun B2 eB2 => ?_
        simp only [iStr]
        walk_at "rd2"
        refine ⟨_, rfl, fun a1 ha1 => ?_⟩
        refine cg_str (fun j y _ => ∃ m, sp.1[j]? = some m ∧ y = .int m) ha1 (by show (lets xs.length).length ≤ 1000; rw [lets_len hn]; omega) (fun _ _ _ _ r _ => r) ?_ ?_
        · intro j c H6 zs hc s6 ez6 Q' hQ'
          obtain ⟨hj, rfl⟩ := lets_at hn hc
          have dc := (dr.mono s6).lt j hj
          have em : sp.1[j]? = some (sp.1.getD j 0) := getD_at (by rw [st5.len]; exact hj)
          subst eB2
          show tOp _ _ _ [some (.str ⟨#[120 + j]⟩), some (.ref a)] H6 Q'
          simp only [tOp, tDGet2]
          walk_at "rd2"
          refine ⟨.inl ⟨_, .inl (s6 _ _ ea)⟩, by show 2 ≤ sizeLine; decide, fun p hp0 => ⟨_, DGet.k (k := ltK j) (Same.new hp0 _ _ (s6 _ _ ea)), ?_⟩⟩
          by_cases k5 : sp.1.getD j 0 = 0
          · rw [dc.1 k5]
            exact ⟨true, p, _, _, _, rfl, rfl, SqB.tup upd_same, atI_at (i := 0) rfl rfl, hQ' _ _ (Same.new hp0) ⟨_, em, by rw [k5]⟩⟩
          · obtain ⟨q, h1, h2⟩ := dc.2 k5
            rw [h1]
            exact ⟨true, q, _, _, _, rfl, rfl, SqB.tup (Same.new hp0 _ _ h2), atI_at (i := 0) rfl rfl, hQ' _ _ (Same.new hp0) ⟨_, em, rfl⟩⟩
        · intro H6 zs s6 ez6 hlz hR
          have ez2 : zs = sp.1.map V.int := list_is (by rw [hlz, st5.len]; exact lets_len hn) hR
          subst ez2
          refine ⟨a1, _, rfl, .inl ⟨SqL.of ez6, fun q hq => ?_⟩⟩
          have s7 := s6.trans (Same.new (o := .tup (sp.1.map V.int)) hq)
          have eq7 : (upd H6 q (.tup (sp.1.map V.int))) q = some (.tup (sp.1.map V.int)) := upd_same
          generalize upd H6 q (.tup (sp.1.map V.int)) = H7 at s7 eq7
          have rd7 := rd4.up s7
          refine ⟨l3, _, _, rfl, rfl, rd7.e3, sizeLe (by rw [List.length_map, rd7.n3]; omega), ?_⟩
          have ks : ∀ b u, b ≠ l3 → H7 b = some u → (upd H7 l3 (.lst (ps.map V.ref ++ [.ref q]))) b = some u := fun b u h e => by rw [upd_ne h]; exact e
          have e83 : (upd H7 l3 (.lst (ps.map V.ref ++ [.ref q]))) l3 = some (.lst ((ps ++ [q]).map V.ref)) := by rw [upd_same, List.map_append]; rfl
          have sm8 : Same H (upd H7 l3 (.lst (ps.map V.ref ++ [.ref q]))) := Same.over hl30 ((sm4.trans s5).trans s7)
          generalize upd H7 l3 (.lst (ps.map V.ref ++ [.ref q])) = H8 at ks e83 sm8
          have ne3 : ∀ b u, H7 b = some u → (∀ k : List V, u ≠ .lst k) → b ≠ l3 := fun b u e h e2 => by
            rw [e2, rd7.e3] at e
            exact h _ (Option.some.inj e).symm
          have ea8 := ks _ _ (ne3 _ _ (s7 _ _ ea) (fun k => by intro h; cases h)) (s7 _ _ ea)
          have e48 := ks _ _ (Ne.symm n34) rd7.e4
          subst e2
          walk_at "rd2"
          refine ⟨.inl ⟨rfl, _, SqL.of e48⟩, ?_⟩
          simp only [tDGet2]
          walk_at "rd2"
          refine ⟨.inl ⟨_, .inl ea8⟩, by show 2 ≤ sizeLine; decide, fun p hp0 => ⟨_, DGet.k (k := noK) (Same.new hp0 _ _ ea8), ?_⟩⟩
          have s9 := Same.new (o := .tup [.int 0, .int 1]) hp0
          have ep9 : (upd H8 p (.tup [.int 0, .int 1])) p = some (tupP (0, 1)) := upd_same
          generalize upd H8 p (.tup [.int 0, .int 1]) = H9 at s9 ep9
          have e49 := s9 _ _ e48
          obtain ⟨qq, eo, eqq⟩ : ∃ qq, (valV kvs noK).getD (.ref p) = .ref qq ∧ H9 qq = some (tupP sp.2) := by
            by_cases k6 : sp.2.1 = 0
            · refine ⟨p, by rw [dr.al.1 k6]; rfl, ?_⟩
              rw [ep9, good_zero st5.pr k6]
            · obtain ⟨q', h1, h2⟩ := dr.al.2 k6
              exact ⟨q', by rw [h1]; rfl, s9 _ _ (ks _ _ (ne3 _ _ (s7 _ _ h2) (fun k => by intro h; cases h)) (s7 _ _ h2))⟩
          rw [eo]
          have ne4 : ∀ b u, H9 b = some (.tup u) → b ≠ l4 := fun b u e e2 => by
            rw [e2, e49] at e
            cases e
          refine ⟨l4, _, _, rfl, rfl, e49, sizeLe (by rw [rd7.n4]; omega), Same.over hl40 (sm8.trans s9), ?_, ps ++ [q], ys ++ [.ref qq], rd7.snoc ez hs ?_ upd_same (fun b o e => ?_) ?_ ?_⟩
          · rw [upd_ne nl4]
            exact s9 _ _ (ks _ _ nl3 ((s5.trans s7) _ _ el4))
          · rw [upd_ne n34]; exact s9 _ _ e83
          · have e9 := s9 _ _ (ks _ _ (ne3 _ _ e (fun k => by intro h; cases h)) e)
            rw [upd_ne (ne4 _ _ e9)]; exact e9
          · have e9 := s9 _ _ (ks _ _ (ne3 _ _ eq7 (fun k => by intro h; cases h)) eq7)
            rw [upd_ne (ne4 _ _ e9)]; exact e9
          · rw [upd_ne (ne4 _ _ eqq)]; exact eqq
    · rintro σ H4 ⟨v5, v6, ps, ys, rfl, sm4, el4, rd4⟩
      rw [List.length_map] at rd4
      have ok : okR xs := ⟨hn, fun z hz => by
        obtain ⟨j, ej⟩ := List.getElem?_of_mem hz
        exact rd4.ok j z (List.getElem?_eq_some_iff.mp ej).1 ej⟩
      have hM : MatB false true K H4 l3 (matG xs) := ⟨ps, SqB.lst rd4.e3, by unfold matG; rw [List.length_map]; exact rd4.n3, fun j p r e1 e2 => by
        unfold matG at e2
        rw [List.getElem?_map] at e2
        cases ex : xs[j]? with
        | none => rw [ex] at e2; cases e2
        | some z => rw [ex] at e2; cases e2; exact SqB.tup (rd4.r3 j p z e1 ex)⟩
      have sM : Sq xs.length (matG xs) := ⟨by unfold matG; rw [List.length_map], fun r hr' => by
        obtain ⟨z, hz, rfl⟩ := List.mem_map.mp hr'
        exact (okR_at ok hz).2.len⟩
      have bM : ∀ r ∈ matG xs, ∀ z ∈ r, z.natAbs < 10 ^ 100 := fun r hr' => by
        obtain ⟨z, hz, rfl⟩ := List.mem_map.mp hr'
        exact (okR_at ok hz).2.bd
      have pg : ∀ p ∈ prsG xs, GoodPr p := fun p hp' => by
        obtain ⟨z, hz, rfl⟩ := List.mem_map.mp hp'
        exact (okR_at ok hz).2.pr
      have pl : (prsG xs).length = xs.length := by unfold prsG; rw [List.length_map]
      have pk : ∀ (j : Nat) (y : V), ys[j]? = some y → ∃ a p, y = .ref a ∧ (prsG xs)[j]? = some p ∧ H4 a = some (tupP p) := fun j y e => by
        obtain ⟨a, z, h1, h2, h3⟩ := rd4.r4 j y e
        exact ⟨a, _, h1, by unfold prsG; rw [List.getElem?_map, h2]; rfl, h3⟩
      have e3 := rd4.e3
      have hl := rd4.e4
      have hly : ys.length = (prsG xs).length := by rw [pl]; exact rd4.n4
      have hn3 : (prsG xs).length ≤ 3 := by omega
      generalize prsG xs = qs at *
      subst e1
      refine st fun N1 e1 => ?_
      walk_at "rd2"
      refine ⟨l3, matG xs, xs.length, rfl, hM, sM, hn, bM, ?_⟩
      generalize hdt : detM xs.length (matG xs) = dt at *
      walk_at "rd2"
      by_cases k5 : dt = 1 ∨ dt = -1
      case neg =>
        rw [decide_eq_false (by split <;> omega)]
        exact iteT (hN (fun o => k5 o.2) _ sm4)
      rw [decide_eq_true (by split <;> omega)]
      refine iteF ?_
      have fin := hQ ⟨ok, k5⟩
      subst e1
      refine st fun N1 e1 => ?_
      walk_at "rd2"
      subst e1
      refine st fun N1 e1 => for_st fun B eB => ?_
      simp only [iSeq]
      walk_at "rd2"
      refine ⟨false, ⟨_, SqB.lst hl⟩, ?_⟩
      refine fr_seq (g := gTup K 2 (gCons (gName 8) (gCons (gName 9) gNil))) (tb := B) (fun i σ H2 => ∃ v2 v3, σ = [some (.str x), some (.ref l), some (.str (lets xs.length)), some (.ref l3), some (.ref l4), v5, v6, some (.int (lawU (qs.take i))), v2, v3, none] ∧ H2 = H4) ⟨none, none, rfl, rfl⟩ (fun i σ H2 _ ⟨_, _, _, e⟩ => e ▸ SqB.lst hl) ?_ ?_
      · rintro i y σ H2 hi ⟨v2, v3, rfl, rfl⟩
        obtain ⟨q, p, rfl, ep, ha⟩ := pk i y hi
        have gp := pg p (List.mem_of_getElem? ep)
        have hU := lawU_small (good_take pg i) (take_le3 hn3 i)
        have hU0 := lawU_pos (good_take pg i)
        have hgd : gcdI (lawU (qs.take i)) p.2 ∣ lawU (qs.take i) := Int.gcd_dvd_left _ _
        have hg0 : gcdI (lawU (qs.take i)) p.2 ≠ 0 := fun z => by rw [z, Int.zero_dvd] at hgd; omega
        refine ⟨q, _, rfl, SqT.of ha, rfl, _, _, rfl, _, _, rfl, rfl, ?_⟩
        subst eB
        show tAsg _ _ _ [some (.str x), some (.ref l), some (.str (lets xs.length)), some (.ref l3), some (.ref l4), v5, v6, some (.int (lawU (qs.take i))), some (.int p.1), some (.int p.2), none] H2
        walk_at "rd2"
        refine ⟨IntMulOk.of_le (small_bits hU) (pr_bits gp.bot) (by decide), _, _, rfl, ?_⟩
        walk_at "rd2"
        refine ⟨⟨hg0, small_log (small_dvd hU (by omega) hgd) hg0⟩, ?_⟩
        rw [← lawU_snoc ep]
      · rintro σ H2 ⟨v2, v3, rfl, rfl⟩
        rw [hly, List.take_length]
        have hps := lawU_small pg hn3
        subst e1
        refine st fun N1 e1 => ?_
        refine compE_st fun B2 eB2 => ?_
        simp only [iSeq]
        walk_at "rd2"
        refine ⟨false, ⟨_, SqB.lst hl⟩, fun a1 ha1 => ?_⟩
        refine cg_seqP (fun j y _ => ∃ p, qs[j]? = some p ∧ y = .int (p.1 * (lawU qs).fdiv p.2)) ha1 hl pk (by omega) (fun _ _ _ _ r _ => r) ?_ ?_
        · intro i p H3 zs ep s3 ez Q' hQ'
          have gp := pg p (List.mem_of_getElem? ep)
          subst eB2
          show tOp _ _ _ [some (.int p.1), some (.int p.2), some (.int (lawU qs))] H3 Q'
          walk_at "rd2"
          exact ⟨pr_div gp _, IntMulOk.of_le (pr_bits gp.top) (small_bits (fdiv_small hps)) (by decide), hQ' _ _ (Same.refl _) ⟨p, ep, rfl⟩⟩
        · intro H3 zs s3' ez hlz hR
          have ez2 : zs = (lawT qs).map V.int := by
            unfold lawT
            rw [List.map_map]
            exact list_is (by omega) hR
          subst ez2
          subst e1
          walk_at "rd2"
          refine ⟨l3, _, rfl, .inl ⟨SqL.of (s3' _ _ e3), fun q hq => ?_⟩⟩
          have s5 := s3'.trans (Same.new (o := .tup (ps.map V.ref)) hq)
          have hB : MatB true true K (upd H3 q (.tup (ps.map V.ref))) q (matG xs) := let ⟨h1, h2, h3⟩ := hM; ⟨ps, SqB.tup upd_same, by rw [sM.1]; exact rd4.n3, fun i p r e1 e2 => by
            have ex : ∃ z, xs[i]? = some z ∧ r = (parG xs.length z).1 := by
              unfold matG at e2
              rw [List.getElem?_map] at e2
              cases ex : xs[i]? with
              | none => rw [ex] at e2; cases e2
              | some z => rw [ex] at e2; cases e2; exact ⟨z, rfl, rfl⟩
            obtain ⟨z, ez, rfl⟩ := ex
            exact SqB.tup (s5 _ _ (rd4.r3 i p z e1 ez))⟩
          have ez5 := (Same.new (o := .tup (ps.map V.ref)) hq) _ _ ez
          generalize upd H3 q (.tup (ps.map V.ref)) = H5 at s5 hB ez5
          refine ⟨a1, _, rfl, .inl ⟨SqL.of ez5, fun q2 hq2 => ?_⟩⟩
          refine ⟨by show 3 ≤ sizeLine; decide, fun q3 hq3 => fin q3 _ (sm4.trans (s5.trans ((Same.new hq2).trans (Same.new hq3)))) ⟨q, q2, upd_same, hB.up ((Same.new hq2).trans (Same.new hq3)), (Same.new hq3) _ _ upd_same⟩⟩
theorem cls_some {K : PySem.W.Frag} {C : Addr} {v : Value} (h : PySem.W.mroIn K C v = some true) : (PySem.W.clsIn K C).isSome = true := by
  unfold PySem.W.mroIn at h
  cases e : PySem.W.clsIn K C with
  | none => rw [e] at h; cases h
  | some c => rfl
theorem ecls (T : Txt K mg t) : ExcCls K t.a_NoText := ⟨T.u_ga, T.u_gt, T.u_ca, T.e_cg, T.e_tk, T.u_ob, T.u_bx, cls_some T.u_ob⟩
noncomputable def spn_later (t : Adr) : Sp := fun vs H Q _ => ∃ (e : Addr) (od : Option Addr), vs = [.ref e] ∧ H e = some (ExcAt e (.ref t.a_NoText) od) ∧ Q (.bl false) H
noncomputable def spn_only (t : Adr) : Sp := fun vs H Q _ => ∃ (e : Addr) (od : Option Addr), vs = [.ref e] ∧ H e = some (ExcAt e (.ref t.a_NoText) od) ∧ Q (.bl true) H
theorem ok_law_later (T : Txt K mg t) : FnOkA P w K mg base 1 t.a_law_later t.d_law_later ["_law_e"] (spn_later t) := by
  refine T.F_law_later.okA sc_law_later (fun vs H Q E h => ?_) (fun cdv A outer s H vs Q E hr h => ?_)
  · obtain ⟨e, od, rfl, _⟩ := h
    rfl
  · obtain ⟨e, od, rfl, he, hQ⟩ := h
    refine ⟨_, (pss_cons (ps_if (PW.pt (pw_or (pt_val (pe_callB call_isi rfl T.z_isinstance (by decide +kernel) (pa_cons (pv 0) (pa_cons (pe_glob (v := .ref t.a_NoChange) rfl T.m_NoChange rfl) pa_nil)))) (pw_or (pt_val (pe_callB call_isi rfl T.z_isinstance (by decide +kernel) (pa_cons (pv 0) (pa_cons (pe_glob (v := .ref t.a_NotKept) rfl T.m_NotKept rfl) pa_nil)))) (pw_or1 (pt_val (pe_callB call_isi rfl T.z_isinstance (by decide +kernel) (pa_cons (pv 0) (pa_cons (pe_glob (v := .ref t.a_NoForm) rfl T.m_NoForm rfl) pa_nil))))))))
      (pss_one (ps_ret pe_bl))
      pss_nil)
      (pss_cons (ps_if (PW.pt (pw_or (pt_val (pe_callB call_isi rfl T.z_isinstance (by decide +kernel) (pa_cons (pv 0) (pa_cons (pe_glob (v := .ref t.a_NotWithin) rfl T.m_NotWithin rfl) pa_nil)))) (pw_or (pt_val (pe_callB call_isi rfl T.z_isinstance (by decide +kernel) (pa_cons (pv 0) (pa_cons (pe_glob (v := .ref t.a_NotLeast) rfl T.m_NotLeast rfl) pa_nil)))) (pw_or1 (pt_val (pe_callB call_isi rfl T.z_isinstance (by decide +kernel) (pa_cons (pv 0) (pa_cons (pe_glob (v := .ref t.a_NoDrawing) rfl T.m_NoDrawing rfl) pa_nil))))))))
      (pss_one (ps_ret pe_bl))
      pss_nil)
      (pss_cons (ps_if (PW.pt (pw_or (pt_val (pe_callB call_isi rfl T.z_isinstance (by decide +kernel) (pa_cons (pv 0) (pa_cons (pe_glob (v := .ref t.a_OffSheet) rfl T.m_OffSheet rfl) pa_nil)))) (pw_or1 (pt_val (pe_callB call_isi rfl T.z_isinstance (by decide +kernel) (pa_cons (pv 0) (pa_cons (pe_glob (v := .ref t.a_NoSheet) rfl T.m_NoSheet rfl) pa_nil)))))))
      (pss_one (ps_ret pe_bl))
      pss_nil)
      (pss_one (ps_ret (pe_or (pe_callB call_isi rfl T.z_isinstance (by decide +kernel) (pa_cons (pv 0) (pa_cons (pe_glob (v := .ref t.a_NoRow) rfl T.m_NoRow rfl) pa_nil))) (pe_one (pe_callB call_isi rfl T.z_isinstance (by decide +kernel) (pa_cons (pv 0) (pa_cons (pe_glob (v := .ref t.a_NoName) rfl T.m_NoName rfl) pa_nil)))))))))), ?_⟩
    show tSeq _ _ _ [some (.ref e)] H
    have isi : ∀ {c : Addr} {Q' : VK}, PySem.W.kitOne K (.ref t.a_NoText) (.ref c) = some false → Q' (.bl false) H → rIsi K [.ref e, .ref c] H Q' := fun {c Q'} hc h3 => ⟨_, _, _, _, rfl, .exc he (ecls T), rfl, hc, h3⟩
    refine st fun N1 e1 => ?_
    walk_at "rd2"
    refine isi T.u_NoChange ⟨_, rfl, iteF (isi T.u_NotKept ⟨_, rfl, iteF (isi T.u_NoForm ⟨_, rfl, iteF ?_⟩)⟩)⟩
    subst e1
    refine st fun N1 e1 => ?_
    walk_at "rd2"
    refine isi T.u_NotWithin ⟨_, rfl, iteF (isi T.u_NotLeast ⟨_, rfl, iteF (isi T.u_NoDrawing ⟨_, rfl, iteF ?_⟩)⟩)⟩
    subst e1
    refine st fun N1 e1 => ?_
    walk_at "rd2"
    refine isi T.u_OffSheet ⟨_, rfl, iteF (isi T.u_NoSheet ⟨_, rfl, iteF ?_⟩)⟩
    subst e1
    walk_at "rd2"
    refine isi T.u_NoRow ⟨_, rfl, iteF (isi T.u_NoName hQ)⟩
theorem ok_law_only (T : Txt K mg t) : FnOkA P w K mg base 2 t.a_law_only t.d_law_only ["_law_e"] (spn_only t) := by
  have G_law_later : FnOkA P w K mg base 1 t.a_law_later t.d_law_later ["_law_e"] (spn_later t) := ok_law_later T
  refine T.F_law_only.okA sc_law_only (fun vs H Q E h => ?_) (fun cdv A outer s H vs Q E hrA h => ?_)
  · obtain ⟨e, od, rfl, _⟩ := h
    rfl
  · obtain ⟨e, od, rfl, he, hQ⟩ := h
    refine ⟨_, (pss_cons (ps_if (PW.pt (pw_or (pt_val (pe_callB call_isi rfl T.z_isinstance (by decide +kernel) (pa_cons (pv 0) (pa_cons (pe_glob (v := .ref t.a_NoPlace) rfl T.m_NoPlace rfl) pa_nil)))) (pw_or1 (pt_val (pe_callB call_isi rfl T.z_isinstance (by decide +kernel) (pa_cons (pv 0) (pa_cons (pe_glob (v := .ref t.a_NoDeed) rfl T.m_NoDeed rfl) pa_nil)))))))
      (pss_one (ps_ret pe_bl))
      pss_nil)
      (pss_cons (ps_if (PW.pt (pw_or (pt_val (pe_callB call_isi rfl T.z_isinstance (by decide +kernel) (pa_cons (pv 0) (pa_cons (pe_glob (v := .ref t.a_NoNumber) rfl T.m_NoNumber rfl) pa_nil)))) (pw_or1 (pt_val (pe_callB call_isi rfl T.z_isinstance (by decide +kernel) (pa_cons (pv 0) (pa_cons (pe_glob (v := .ref t.a_TooMany) rfl T.m_TooMany rfl) pa_nil)))))))
      (pss_one (ps_ret pe_bl))
      pss_nil)
      (pss_one (ps_ret (pe_and (pe_callB call_isi rfl T.z_isinstance (by decide +kernel) (pa_cons (pv 0) (pa_cons (pe_glob (v := .ref t.a_NoText) rfl T.m_NoText rfl) pa_nil))) (pe_and (pe_callB call_isi rfl T.z_isinstance (by decide +kernel) (pa_cons (pv 0) (pa_cons (pe_bltn (v := .ty "ValueError") rfl T.z_ValueError (by decide +kernel) rfl) pa_nil))) (pe_one (pe_not (pe_callA G_law_later (hrA.mono (by omega)) rfl T.m_law_later T.F_law_later.kp T.b_law_later .nil (pa_cons (pv 0) pa_nil)))))))))), ?_⟩
    show tSeq _ _ _ [some (.ref e)] H
    have isi : ∀ {c : V} {b' : Bool} {Q' : VK}, isCls c = true → PySem.W.kitOne K (.ref t.a_NoText) (clsV c) = some b' → Q' (.bl b') H → rIsi K [.ref e, c] H Q' := fun h1 h2 h3 => ⟨_, _, _, _, rfl, .exc he (ecls T), h1, h2, h3⟩
    refine st fun N1 e1 => ?_
    walk_at "rd2"
    refine isi rfl T.u_NoPlace ⟨_, rfl, iteF (isi rfl T.u_NoDeed ⟨_, rfl, iteF ?_⟩)⟩
    subst e1
    refine st fun N1 e1 => ?_
    walk_at "rd2"
    refine isi rfl T.u_NoNumber ⟨_, rfl, iteF (isi rfl T.u_TooMany ⟨_, rfl, iteF ?_⟩)⟩
    subst e1
    walk_at "rd2"
    exact isi rfl T.u_NoText ⟨_, rfl, iteT (isi rfl T.u_VE ⟨_, rfl, iteT ⟨e, od, rfl, he, _, rfl, hQ⟩⟩)⟩
noncomputable def spn_right (_ : PySem.W.Frag) : Sp := fun vs H Q _ => ∃ x : Str, vs = [.str x] ∧ x.length ≤ 1400 ∧ ∀ H', Same H H' → Q (.bl true) H'
theorem ok_law_right (T : Txt K mg t) : FnOk P w K mg base CX0 8 t.a_law_right t.d_law_right ["_law_text_here"] (spn_right K) := by
  have G_law_due : FnOk P w K mg base CX0 4 t.a_law_due t.d_law_due ["_law_text_here"] (spn_due K) := ok_law_due T
  have G_read : FnOk P w K mg base (CX1 P w) 7 t.a_read t.d_read ["text"] (sp_readX K t.a_NoText) := ok_read T
  have G_law_only : FnOkA P w K mg base 2 t.a_law_only t.d_law_only ["_law_e"] (spn_only t) := ok_law_only T
  have G_law_kinds : FnOk P w K mg base CX0 2 t.a_law_kinds t.d_law_kinds ["_law_found"] (spn_kinds K) := ok_law_kinds T
  refine T.F_law_right.ok sc_law_right (fun vs H Q E h => ?_) (fun cdv A outer s H vs Q E hr h => ?_)
  · obtain ⟨x, rfl, _⟩ := h
    rfl
  · obtain ⟨x, rfl, hx, hQ⟩ := h
    have hu := hr.units
    have hp : ∀ y ∈ Txt.split x comma, y.length ≤ 1400 := fun y hy => Nat.le_trans (part_le hy) hx
    refine ⟨_, (pss_cons (ps_set (i := 1) sc_law_right.nd rfl (Or.inl rfl) (pe_call G_law_due (hr.mono (by omega)) rfl T.m_law_due T.F_law_due.kp T.b_law_due .nil pass0 (pa_cons (pv 0) pa_nil)))
      (pss_cons (ps_set (i := 2) sc_law_right.nd rfl (Or.inl rfl) pe_bl)
      (pss_cons (ps_set (i := 3) sc_law_right.nd rfl (Or.inl rfl) pe_bl)
      (pss_cons (ps_set (i := 4) sc_law_right.nd rfl (Or.inl rfl) pe_non)
      (pss_cons (ps_try (i := 5) rfl rfl rfl sc_law_right.nd rfl rfl rfl T.m_CrystalError (fun _ _ _ hL =>
      (pss_one (ps_set (i := 4) sc_law_right.nd rfl (Or.inl rfl) (pe_callX G_read (hr.mono (by omega)) rfl T.m_read T.F_read.kp T.b_read .nil hL (pa_cons (pv 0) pa_nil))))) (fun _ =>
      (pss_cons (ps_set (i := 2) sc_law_right.nd rfl (Or.inl rfl) pe_bl)
      (pss_one (ps_set (i := 3) sc_law_right.nd rfl (Or.inl rfl) (pe_callA G_law_only ((hr.a.mark _).mono (by omega)) rfl T.m_law_only T.F_law_only.kp T.b_law_only .nil (pa_cons (pv 5) pa_nil)))))))
      (pss_cons (ps_if (pt_cmpR op_isN (pv 1) pe_non (nomark _))
      (pss_one (ps_ret (pe_and (pv 2) (pe_one (pv 3)))))
      pss_nil)
      (pss_one (ps_ret (pe_and (pe_not (pv 2)) (pe_and (pe_call G_law_kinds (hr.mono (by omega)) rfl T.m_law_kinds T.F_law_kinds.kp T.b_law_kinds .nil pass0 (pa_cons (pv 4) pa_nil)) (pe_one (pe_cmpR (op_eqD hu) (pv 4) (pv 1) (nomark _))))))))))))), ?_⟩
    show tSeq _ _ _ [some (.str x), none, none, none, none, none] H
    refine st fun N1 e1 => ?_
    walk_at "rd2"
    refine ⟨x, rfl, hx, fun nk H1 s1 => ?_, fun ok q H1 s1 dq => ?_⟩
    · subst e1
      refine st fun N1 e1 => ?_
      walk_at "rd2"
      subst e1
      refine st fun N1 e1 => ?_
      walk_at "rd2"
      subst e1
      refine st fun N1 e1 => ?_
      walk_at "rd2"
      subst e1
      refine st fun N1 e1 => ?_
      simp only [tTry]
      walk_at "rd2"
      refine ⟨x, rfl, by omega, hp, fun _ od H2 s2 => ⟨T.xm, fun e he => ?_⟩, fun ok => absurd ok nk⟩
      have s3 := Same.new (o := ExcAt e (.ref t.a_NoText) od) he
      refine ⟨e, od, rfl, upd_same, ?_⟩
      subst e1
      simp only [Ends.gone, List.set_cons_succ, List.set_cons_zero]
      refine st fun N1 e1 => ?_
      walk_at "rd2"
      exact hQ _ ((s1.trans s2).trans s3)
    · subst e1
      refine st fun N1 e1 => ?_
      walk_at "rd2"
      subst e1
      refine st fun N1 e1 => ?_
      walk_at "rd2"
      subst e1
      refine st fun N1 e1 => ?_
      walk_at "rd2"
      subst e1
      refine st fun N1 e1 => ?_
      simp only [tTry]
      walk_at "rd2"
      refine ⟨x, rfl, by omega, hp, fun nk => absurd ok nk, fun _ q2 H2 s2 dq2 => ?_⟩
      subst e1
      refine st fun N1 e1 => ?_
      walk_at "rd2"
      rw [decide_eq_false (by intro h; cases h)]
      refine iteF ?_
      subst e1
      walk_at "rd2"
      have ok1 := ok.1
      have sM : Sq (Txt.split x comma).length (matG (Txt.split x comma)) := ⟨by unfold matG; rw [List.length_map], fun r hr' => by
        obtain ⟨z, hz, rfl⟩ := List.mem_map.mp hr'
        exact (okR_at ok1 hz).2.len⟩
      have n4 := ok1.1
      refine ⟨q2, _, _, _, (Txt.split x comma).length, rfl, dq2, sM, by unfold lawT prsG; rw [List.length_map, List.length_map], by omega, fun H3 s3 => ?_⟩
      refine ⟨_, rfl, iteT (deed_eq (dq2.up s3) (dq.up (s2.trans s3)) ?_)⟩
      rw [decide_eq_true ⟨rfl, rfl, rfl⟩]
      exact hQ _ ((s1.trans s2).trans s3)
theorem strs_at {ss : List Str} {i : Int} (h0 : 0 ≤ i) (h1 : i < ss.length) : ∃ z ∈ ss, atI (ss.map V.str) i = some (.str z) := by
  obtain ⟨k, rfl⟩ := Int.eq_ofNat_of_zero_le h0
  have hk : k < ss.length := by omega
  exact ⟨ss[k], List.getElem_mem hk, atI_at (i := (k : Int)) (k := k) (by rw [List.getElem?_map, List.getElem?_eq_getElem hk]; rfl) rfl⟩
theorem chars_at {x : Str} {i : Int} (h0 : 0 ≤ i) (h1 : i < x.length) : ∃ c, atI x.cps.toList i = some c := by
  obtain ⟨k, rfl⟩ := Int.eq_ofNat_of_zero_le h0
  have hk : k < x.cps.toList.length := by rw [len_list]; omega
  exact ⟨_, atI_at (i := (k : Int)) (k := k) (List.getElem?_eq_getElem hk) rfl⟩
theorem app_len (x y : Str) : (x ++ y).length = x.length + y.length := by
  rw [← len_list, ← len_list, ← len_list, app_cps, List.length_append]
theorem fm0 (a : Int) {b : Int} (h : 0 < b) : 0 ≤ a.fmod b ∧ a.fmod b < b := ⟨Int.fmod_nonneg_of_pos a h, Int.fmod_lt_of_pos a h⟩
theorem strs_ix {K : PySem.W.Frag} {H : Hp} {p : Addr} {ss : List Str} {i : Int} {k : Nat} {Q : VK} (h : H p = some (.lst (ss.map V.str))) (hb : ∀ z ∈ ss, z.length ≤ k) (h0 : 0 ≤ i) (h1 : i < ss.length) (q : ∀ z, z.length ≤ k → Q (.str z) H) : rIxB K (.ref p) (.int i) H Q := by
  obtain ⟨z, hz, e⟩ := strs_at h0 h1
  exact ⟨false, p, _, _, _, rfl, rfl, SqB.lst h, e, q z (hb z hz)⟩
theorem div_ok (c : Int) {b : Int} (h : 0 < b) (h2 : b < 1000) : CDivB c b := ⟨by omega, by
  have h3 : b.natAbs < 2 ^ 10 := by omega
  exact Nat.lt_trans ((Nat.log2_lt (by omega)).mpr h3) (by decide)⟩
noncomputable def many7 : List Str := ["", "", "2", "3", "1", "10", "12"]
theorem many7_le : ∀ z ∈ many7, z.length ≤ 4 := by decide +kernel
noncomputable def share6 : List Str := ["1/2", "5", "3/4", "7/12", "2/6", "11/5"]
theorem share6_le : ∀ z ∈ share6, z.length ≤ 4 := by decide +kernel
noncomputable def spn_term : Sp := fun vs H Q _ => ∃ (c : Int) (n : Nat), vs = [.int c, .str (lets n)] ∧ (n = 2 ∨ n = 3) ∧ ∀ z H', Same H H' → z.length ≤ 10 → Q (.str z) H'
theorem ok_law_term (T : Txt K mg t) : FnOk P w K mg base CX0 1 t.a_law_term t.d_law_term ["_law_cell", "_law_letters"] spn_term := by
  refine T.F_law_term.ok sc_law_term (fun vs H Q E h => ?_) (fun cdv A outer s H vs Q E hr h => ?_)
  · obtain ⟨c, n, rfl, _⟩ := h
    rfl
  · obtain ⟨c, n, rfl, hn, hQ⟩ := h
    have hll := lets_len hn
    refine ⟨_, (pss_cons (ps_set (i := 2) sc_law_term.nd rfl (Or.inl rfl) (pe_ix ix_B (pe_lst (pa_strs (ss := ["", "", "2", "3", "1", "10", "12"]) (by decide +kernel))) (pe_op op_modN (pv 0) pe_int) (fun _ _ => rfl)))
      (pss_cons (ps_if (pt_cmpR op_eqZ (pe_op op_modN (pe_op op_fdivB (pv 0) pe_int) pe_int) pe_int (nomark _))
      (pss_one (ps_ret (pe_ix ix_B (pe_lst (pa_strs (ss := ["1/2", "5", "3/4", "7/12", "2/6", "11/5"]) (by decide +kernel))) (pe_op op_modN (pe_op op_fdivB (pv 0) pe_int) pe_int) (fun _ _ => rfl))))
      pss_nil)
      (pss_one (ps_ret (pe_op op_add_str (pv 2) (pe_ix ix_str (pv 1) (pe_op op_modN (pe_op op_fdivB (pv 0) pe_int) (pe_callB call_len_str rfl T.z_len (by decide +kernel) (pa_cons (pv 1) pa_nil))) (fun _ _ => rfl))))))), ?_⟩
    show tSeq _ _ _ [some (.int c), some (.str (lets n)), none] H
    refine st fun N1 e1 => ?_
    walk_at "rd2"
    refine ⟨by show 7 ≤ sizeLine; decide, fun l hl => ?_⟩
    have s1 := Same.new (o := .lst (many7.map V.str)) hl
    have f1 := fm0 c (b := 7) (by decide)
    refine ⟨by decide, strs_ix (ss := many7) upd_same many7_le f1.1 f1.2 fun z hz => ?_⟩
    show N1 _ (upd H l (.lst (many7.map V.str)))
    generalize upd H l (.lst (many7.map V.str)) = H1 at s1 ⊢
    subst e1
    refine st fun N1 e1 => ?_
    walk_at "rd2"
    refine ⟨div_ok c (by decide) (by decide), by decide, ?_⟩
    by_cases k1 : (c.fdiv 7).fmod 4 = 3
    · rw [decide_eq_true k1]
      have f2 := fm0 (c.fdiv 28) (b := 6) (by decide)
      refine iteT ⟨by show 6 ≤ sizeLine; decide, fun p hp => ⟨div_ok c (by decide) (by decide), by decide, strs_ix (ss := share6) upd_same share6_le f2.1 f2.2 fun z hz => hQ z _ (s1.trans (Same.new hp)) (by omega)⟩⟩
    · rw [decide_eq_false k1]
      refine iteF ?_
      subst e1
      walk_at "rd2"
      have f3 := fm0 (c.fdiv 28) (b := ((lets n).length : Int)) (by omega)
      obtain ⟨d, hd⟩ := chars_at f3.1 f3.2
      refine ⟨div_ok c (by decide) (by decide), _, rfl, sizeLe (by omega), by omega, _, _, d, rfl, rfl, sizeLe (by omega), hd, _, rfl, _, rfl, sizeLe (by rw [show (⟨#[d]⟩ : Str).length = 1 from rfl]; omega), hQ _ _ s1 (by rw [app_len, show (⟨#[d]⟩ : Str).length = 1 from rfl]; omega)⟩
noncomputable def spn_part : Sp := fun vs H Q _ => ∃ (c : Int) (n k : Nat), vs = [.int c, .str (lets n), .int k] ∧ (n = 2 ∨ n = 3) ∧ ∀ z H', Same H H' → z.length ≤ 40 → Q (.str z) H'
theorem ok_law_part (T : Txt K mg t) : FnOk P w K mg base CX0 2 t.a_law_part t.d_law_part ["_law_cell", "_law_letters", "_law_k"] spn_part := by
  have G_law_term : FnOk P w K mg base CX0 1 t.a_law_term t.d_law_term ["_law_cell", "_law_letters"] spn_term := ok_law_term T
  refine T.F_law_part.ok sc_law_part (fun vs H Q E h => ?_) (fun cdv A outer s H vs Q E hr h => ?_)
  · obtain ⟨c, n, k, rfl, _⟩ := h
    rfl
  · obtain ⟨c, n, k, rfl, hn, hQ⟩ := h
    have hll := lets_len hn
    have c1 : ∀ d : Nat, (⟨#[d]⟩ : Str).length = 1 := fun _ => rfl
    refine ⟨_, (pss_cons (ps_set (i := 3) sc_law_part.nd rfl (Or.inl rfl) (pe_ix ix_str (pv 1) (pe_op op_modN (pe_op op_add (pv 2) (pe_op op_fdivB (pv 0) pe_int)) (pe_callB call_len_str rfl T.z_len (by decide +kernel) (pa_cons (pv 1) pa_nil))) (fun _ _ => rfl)))
      (pss_cons (ps_for PassesOwn.never rfl (pi_range1 rfl T.z_range (pa_cons (pe_op op_modN (pv 0) pe_int) pa_nil)) (pg_name (i := 4) sc_law_part.nd rfl (Or.inl rfl))
      (pss_cons (ps_set (i := 5) sc_law_part.nd rfl (Or.inl rfl) (pe_ix ix_str pe_str (pe_op op_modN (pe_op op_fdivB (pv 0) (pe_op op_add pe_int (pv 4))) pe_int) (fun _ _ => rfl)))
      (pss_one (ps_set (i := 3) sc_law_part.nd rfl (Or.inl rfl) (pe_op op_add_str (pe_op op_add_str (pv 3) (pv 5)) (pe_call G_law_term (hr.mono (by omega)) rfl T.m_law_term T.F_law_term.kp T.b_law_term .nil pass0 (pa_cons (pe_op op_fdivB (pv 0) (pe_op op_add pe_int (pe_op op_mulB pe_int (pv 4)))) (pa_cons (pv 1) pa_nil))))))))
      (pss_cons (ps_if (pt_cmpR op_eqZ (pe_op op_modN (pe_op op_fdivB (pv 0) pe_int) pe_int) pe_int (nomark _))
      (pss_one (ps_set (i := 3) sc_law_part.nd rfl (Or.inl rfl) (pe_op op_add_str pe_str (pv 3))))
      pss_nil)
      (pss_one (ps_ret (pv 3)))))), ?_⟩
    show tSeq _ _ _ [some (.int c), some (.str (lets n)), some (.int k), none, none, none] H
    refine st fun N1 e1 => ?_
    walk_at "rd2"
    have f1 := fm0 (k + c.fdiv 3) (b := ((lets n).length : Int)) (by omega)
    obtain ⟨d, hd⟩ := chars_at f1.1 f1.2
    refine ⟨div_ok c (by decide) (by decide), _, rfl, sizeLe (by omega), by omega, _, _, d, rfl, rfl, sizeLe (by omega), hd, ?_⟩
    subst e1
    refine st fun N1 e1 => for_st fun B eB => ?_
    simp only [iRng1]
    walk_at "rd2"
    have f2 := fm0 c (b := 3) (by decide)
    refine ⟨by decide, ?_⟩
    obtain ⟨m, hm⟩ := Int.eq_ofNat_of_zero_le f2.1
    rw [hm] at f2 ⊢
    refine ⟨by omega, by omega, ?_⟩
    rw [Int.toNat_natCast]
    refine fr_range (n := m) (g := gName 4) (tb := B) (fun i σ H3 => ∃ (z : Str) (v4 v5 : Option V), σ = [some (.int c), some (.str (lets n)), some (.int k), some (.str z), v4, v5] ∧ Same H H3 ∧ z.length ≤ 1 + 11 * i) ⟨_, none, none, rfl, Same.refl _, by rw [c1]; omega⟩ ?_ ?_
    · rintro i σ H3 hi ⟨z, v4, v5, rfl, s3, hz⟩
      subst eB
      show tSeq _ _ _ [some (.int c), some (.str (lets n)), some (.int k), some (.str z), some (.int (0 + (i : Int))), v5] H3
      refine st fun N2 e2 => ?_
      walk_at "rd2"
      have pl : (Str.ofString "+-").length = 2 := by decide +kernel
      have f3 := fm0 (c.fdiv (5 + (0 + (i : Int)))) (b := 2) (by decide)
      obtain ⟨d2, hd2⟩ := chars_at (x := Str.ofString "+-") f3.1 (by rw [pl]; exact f3.2)
      refine ⟨div_ok c (by omega) (by omega), by decide, _, _, d2, rfl, rfl, sizeLe (by rw [pl]; omega), hd2, ?_⟩
      subst e2
      walk_at "rd2"
      refine ⟨z, rfl, _, rfl, sizeLe (by rw [c1]; omega), IntMulOk.of_left (by decide +kernel), div_ok c (by omega) (by omega), _, n, rfl, hn, fun y H4 s4 hy => ⟨_, rfl, y, rfl, sizeLe (by rw [app_len, c1]; omega), _, rfl, s3.trans s4, ?_⟩⟩
      rw [app_len, app_len, c1]
      omega
    · rintro σ H3 ⟨z, v4, v5, rfl, s3, hz⟩
      subst e1
      refine st fun N1 e1 => ?_
      walk_at "rd2"
      refine ⟨div_ok c (by decide) (by decide), by decide, ?_⟩
      by_cases k1 : (c.fdiv 9).fmod 4 = 2
      · rw [decide_eq_true k1]
        refine iteT ⟨_, rfl, _, rfl, sizeLe (by rw [show (Str.ofString "-").length = 1 by decide +kernel]; omega), ?_⟩
        subst e1
        walk_at "rd2"
        exact hQ _ _ s3 (by rw [app_len, show (Str.ofString "-").length = 1 by decide +kernel]; omega)
      · rw [decide_eq_false k1]
        refine iteF ?_
        subst e1
        walk_at "rd2"
        exact hQ _ _ s3 (by omega)
theorem PSs_cast {X : Cx} {b b2 : List Stmt} {u : TS} (h : b = b2) (p : PSs X b2 u) : PSs X b u := by rw [h]; exact p
@[irreducible] noncomputable def S_o (k : Nat) : Stmt := (defBody s_law_odd).getD k (.Pass ⟨0, 0, 0, 0⟩)
theorem B_odd : defBody s_law_odd = [S_o 0, S_o 1, S_o 2, S_o 3, S_o 4, S_o 5, S_o 6, S_o 7, S_o 8] := by unfold S_o; kernel_rfl
theorem PS_o0 {X : Cx} {u : TS} (h : PS X ((defBody s_law_odd).getD 0 (.Pass ⟨0, 0, 0, 0⟩)) u) : PS X (S_o 0) u := by unfold S_o; exact h
theorem PS_o8 {X : Cx} {u : TS} (h : PS X ((defBody s_law_odd).getD 8 (.Pass ⟨0, 0, 0, 0⟩)) u) : PS X (S_o 8) u := by unfold S_o; exact h
theorem q_o1 : asgX "_law_long" 100 400 (S_o 1) = some (("_law_some" : Str), 12) := by unfold S_o; kernel_rfl
theorem q_o2 : asgXC "_law_long" 100 400 (S_o 2) = some (("_law_some" : Str), ("_law_some" : Str), 6) := by unfold S_o; kernel_rfl
theorem q_o3 : asgXC "_law_long" 100 400 (S_o 3) = some (("_law_some" : Str), ("_law_some" : Str), 4) := by unfold S_o; kernel_rfl
theorem q_o4 : asgXC "_law_long" 100 400 (S_o 4) = some (("_law_some" : Str), ("_law_some" : Str), 8) := by unfold S_o; kernel_rfl
theorem q_o5 : asgXC "_law_long" 100 400 (S_o 5) = some (("_law_some" : Str), ("_law_some" : Str), 3) := by unfold S_o; kernel_rfl
theorem q_o6 : asgXC "_law_long" 100 400 (S_o 6) = some (("_law_some" : Str), ("_law_some" : Str), 5) := by unfold S_o; kernel_rfl
theorem q_o7 : asgXC "_law_long" 100 400 (S_o 7) = some (("_law_some" : Str), ("_law_some" : Str), 2) := by unfold S_o; kernel_rfl
theorem cat_tx {H H1 : Hp} {l l2 : Addr} {zs zs2 : List Str} {b n m : Nat} {Q : VK} (s : Same H H1) (e1 : H l = some (.lst (zs.map V.str))) (n1 : zs.length = n) (b1 : ∀ z ∈ zs, z.length ≤ b) (e2 : H1 l2 = some (.lst (zs2.map V.str))) (n2 : zs2.length = m) (b2 : ∀ z ∈ zs2, z.length ≤ b) (hz : n + m ≤ 1000) (q : ∀ p (ys : List Str) H', Same H1 H' → H' p = some (.lst (ys.map V.str)) → ys.length = n + m → (∀ z ∈ ys, z.length ≤ b) → Q (.ref p) H') : rCat (.ref l) (.ref l2) H1 Q := by
  refine ⟨l, l2, _, _, rfl, rfl, s _ _ e1, e2, ?_, fun p hp => ?_⟩
  · rw [List.length_map, List.length_map, n1, n2]; exact Nat.le_trans hz (by decide)
  · refine q p (zs ++ zs2) _ (Same.new hp) (by rw [List.map_append]; exact upd_same) (by rw [List.length_append, n1, n2]) fun z hz => ?_
    rcases List.mem_append.mp hz with h | h
    · exact b1 z h
    · exact b2 z h
theorem odd_num (c : Int) : ∃ m : Nat, (10 : Int) ^ Int.toNat 50 * 10 ^ Int.toNat 49 + (c.fdiv 40).fmod (10 ^ Int.toNat 30) = m ∧ m < 10 ^ 100 := by
  have f := fm0 (c.fdiv 40) (b := 10 ^ Int.toNat 30) (by decide +kernel)
  obtain ⟨r, hr⟩ := Int.eq_ofNat_of_zero_le f.1
  rw [hr] at f ⊢
  have e30 : (10 : Int) ^ Int.toNat 30 = 1000000000000000000000000000000 := by decide +kernel
  have e99 : (10 : Int) ^ Int.toNat 50 * 10 ^ Int.toNat 49 = ((10 ^ 99 : Nat) : Int) := by decide +kernel
  rw [e30] at f
  rw [e99]
  refine ⟨10 ^ 99 + r, by rw [Int.natCast_add], ?_⟩
  have h : r < 10 ^ 99 := by
    have : r < 1000000000000000000000000000000 := by omega
    exact Nat.lt_trans this (by decide +kernel)
  exact Nat.lt_of_lt_of_le (Nat.add_lt_add_left h _) (by decide +kernel)
noncomputable def spn_odd : Sp := fun vs H Q _ => ∃ c : Int, vs = [.int c] ∧ ∀ z H', Same H H' → z.length ≤ 400 → Q (.str z) H'
theorem ok_law_odd (T : Txt K mg t) : FnOk P w K mg base CX0 1 t.a_law_odd t.d_law_odd ["_law_cell"] spn_odd := by
  refine T.F_law_odd.ok sc_law_odd (fun vs H Q E h => ?_) (fun cdv A outer s H vs Q E hr h => ?_)
  · obtain ⟨c, rfl, _⟩ := h
    rfl
  · obtain ⟨c, rfl, hQ⟩ := h
    have nd := sc_law_odd.nd
    refine ⟨_, PSs_cast B_odd (pss_cons (PS_o0 (ps_set (i := 1) sc_law_odd.nd rfl (Or.inl rfl) (pe_callTy call_str_int rfl T.z_str (by decide +kernel) (pa_cons (pe_op op_add (pe_op op_mulB (pe_op op_pow pe_int pe_int) (pe_op op_pow pe_int pe_int)) (pe_op op_modN (pe_op op_fdivB (pv 0) pe_int) (pe_op op_pow pe_int pe_int))) pa_nil)))) (pss_cons (ps_lnL (i := 1) (j := 2) q_o1 rfl (Or.inl rfl) (by decide) (by decide) nd rfl rfl) (pss_cons (ps_lnC (i := 1) (j := 2) q_o2 rfl (Or.inl rfl) (by decide) (by decide) nd rfl rfl (by decide) (by decide)) (pss_cons (ps_lnC (i := 1) (j := 2) q_o3 rfl (Or.inl rfl) (by decide) (by decide) nd rfl rfl (by decide) (by decide)) (pss_cons (ps_lnC (i := 1) (j := 2) q_o4 rfl (Or.inl rfl) (by decide) (by decide) nd rfl rfl (by decide) (by decide)) (pss_cons (ps_lnC (i := 1) (j := 2) q_o5 rfl (Or.inl rfl) (by decide) (by decide) nd rfl rfl (by decide) (by decide)) (pss_cons (ps_lnC (i := 1) (j := 2) q_o6 rfl (Or.inl rfl) (by decide) (by decide) nd rfl rfl (by decide) (by decide)) (pss_cons (ps_lnC (i := 1) (j := 2) q_o7 rfl (Or.inl rfl) (by decide) (by decide) nd rfl rfl (by decide) (by decide)) (pss_one (PS_o8 (ps_ret (pe_ix ix_B (pv 2) (pe_op op_modN (pv 0) pe_int) (fun _ _ => rfl))))))))))))), ?_⟩
    show tSeq _ _ _ [some (.int c), none, none] H
    refine st fun N1 e1 => ?_
    walk_at "rd2"
    obtain ⟨m, em, hm⟩ := odd_num c
    rw [em]
    refine ⟨⟨by decide, by decide, by decide⟩, ⟨by decide, by decide, by decide⟩, IntMulOk.of_bits (by decide +kernel) (by decide +kernel), div_ok c (by decide) (by decide), ⟨by decide, by decide, by decide⟩, by decide +kernel, ?_, ?_⟩
    · rw [Int.natAbs_natCast]
      by_cases h0 : m = 0
      · subst h0; decide
      · exact (Nat.log2_lt h0).mpr (Nat.lt_trans hm (by decide +kernel))
    have hx : TxE 1 100 [some (.int c), some (.str (dec m)), none] := ⟨_, rfl, dec100 hm⟩
    have hy : ∀ v, TxE 1 100 [some (.int c), some (.str (dec m)), some v] := fun v => ⟨_, rfl, dec100 hm⟩
    change N1 [some (.int c), some (.str (dec m)), none] H
    subst e1
    refine st fun N1 e1 => ⟨hx, fun l1 z1 H1 s1 e1' n1 b1 => ?_⟩
    show N1 [some (.int c), some (.str (dec m)), some (.ref l1)] H1
    subst e1
    refine st fun N1 e1 => ⟨_, rfl, hy _, fun l2 z2 H2 s2 e2 n2 b2 => cat_tx s2 e1' n1 b1 e2 n2 b2 (by decide) fun l3 z3 H3 s3 e3 n3 b3 => ?_⟩
    have s03 := (s1.trans s2).trans s3
    show N1 [some (.int c), some (.str (dec m)), some (.ref l3)] H3
    subst e1
    refine st fun N1 e1 => ⟨_, rfl, hy _, fun l4 z4 H4 s4 e4 n4 b4 => cat_tx s4 e3 n3 b3 e4 n4 b4 (by decide) fun l5 z5 H5 s5 e5 n5 b5 => ?_⟩
    have s05 := (s03.trans s4).trans s5
    show N1 [some (.int c), some (.str (dec m)), some (.ref l5)] H5
    subst e1
    refine st fun N1 e1 => ⟨_, rfl, hy _, fun l6 z6 H6 s6 e6 n6 b6 => cat_tx s6 e5 n5 b5 e6 n6 b6 (by decide) fun l7 z7 H7 s7 e7 n7 b7 => ?_⟩
    have s07 := (s05.trans s6).trans s7
    show N1 [some (.int c), some (.str (dec m)), some (.ref l7)] H7
    subst e1
    refine st fun N1 e1 => ⟨_, rfl, hy _, fun l8 z8 H8 s8 e8 n8 b8 => cat_tx s8 e7 n7 b7 e8 n8 b8 (by decide) fun l9 z9 H9 s9 e9 n9 b9 => ?_⟩
    have s09 := (s07.trans s8).trans s9
    show N1 [some (.int c), some (.str (dec m)), some (.ref l9)] H9
    subst e1
    refine st fun N1 e1 => ⟨_, rfl, hy _, fun l10 z10 H10 s10 e10 n10 b10 => cat_tx s10 e9 n9 b9 e10 n10 b10 (by decide) fun l11 z11 H11 s11 e11 n11 b11 => ?_⟩
    have s011 := (s09.trans s10).trans s11
    show N1 [some (.int c), some (.str (dec m)), some (.ref l11)] H11
    subst e1
    refine st fun N1 e1 => ⟨_, rfl, hy _, fun l12 z12 H12 s12 e12 n12 b12 => cat_tx s12 e11 n11 b11 e12 n12 b12 (by decide) fun l13 z13 H13 s13 e13 n13 b13 => ?_⟩
    have s013 := (s011.trans s12).trans s13
    show N1 [some (.int c), some (.str (dec m)), some (.ref l13)] H13
    subst e1
    walk_at "rd2"
    have f1 := fm0 c (b := 40) (by decide)
    exact ⟨by decide, strs_ix e13 b13 f1.1 (by rw [n13]; exact f1.2) fun z hz => hQ z _ s013 hz⟩
noncomputable def spn_text (K : PySem.W.Frag) : Sp := fun vs H Q _ => ∃ (l : Addr) (ns : List Int), vs = [.ref l] ∧ SqL K H l (ns.map V.int) ∧ ns.length = 6 ∧ ∀ z H', Same H H' → z.length ≤ 1400 → Q (.str z) H'
theorem sum_le {b : Nat} : ∀ {zs : List Str}, (∀ z ∈ zs, z.length ≤ b) → (zs.map (·.length)).sum ≤ b * zs.length
  | [], _ => Nat.zero_le _
  | z :: zs, h => by
    have h1 := sum_le (zs := zs) fun y hy => h y (List.mem_cons_of_mem _ hy)
    have h2 := h z List.mem_cons_self
    rw [List.map_cons, List.sum_cons, List.length_cons, Nat.mul_succ]
    omega
theorem ok_law_text (T : Txt K mg t) : FnOk P w K mg base CX0 3 t.a_law_text t.d_law_text ["_law_cells"] (spn_text K) := by
  have G_law_odd : FnOk P w K mg base CX0 1 t.a_law_odd t.d_law_odd ["_law_cell"] spn_odd := ok_law_odd T
  have G_law_part : FnOk P w K mg base CX0 2 t.a_law_part t.d_law_part ["_law_cell", "_law_letters", "_law_k"] spn_part := ok_law_part T
  refine T.F_law_text.ok sc_law_text (fun vs H Q E h => ?_) (fun cdv A outer s H vs Q E hr h => ?_)
  · obtain ⟨l, ns, rfl, _⟩ := h
    rfl
  · obtain ⟨l, ns, rfl, hS, hn, hQ⟩ := h
    have hat : ∀ (H' : Hp) (k : Int) (Q' : VK), Same H H' → 0 ≤ k → k < 6 → Q' (.int (ns.getD k.toNat 0)) H' → rIxB K (.ref l) (.int k) H' Q' := fun H' k Q' s' h0 h1 q => ⟨false, l, _, _, _, rfl, rfl, s'.seq hS, atI_ints h0 (by rw [hn]; exact h1), q⟩
    refine ⟨_, (pss_cons (ps_if (pt_cmpR op_eqZ (pe_op op_modN (pe_ix ix_B (pv 0) pe_int (fun _ _ => rfl)) pe_int) pe_int (nomark _))
      (pss_one (ps_ret (pe_call G_law_odd (hr.mono (by omega)) rfl T.m_law_odd T.F_law_odd.kp T.b_law_odd .nil pass0 (pa_cons (pe_op op_add (pe_op op_fdivB (pe_ix ix_B (pv 0) pe_int (fun _ _ => rfl)) pe_int) (pe_ix ix_B (pv 0) pe_int (fun _ _ => rfl))) pa_nil))))
      pss_nil)
      (pss_cons (ps_set (i := 1) sc_law_text.nd rfl (Or.inl rfl) (pe_ix ix_B (pe_lst (pa_strs (ss := ["xy", "xyz"]) (by decide +kernel))) (pe_op op_modN (pe_op op_fdivB (pe_ix ix_B (pv 0) pe_int (fun _ _ => rfl)) pe_int) pe_int) (fun _ _ => rfl)))
      (pss_cons (ps_set (i := 2) sc_law_text.nd rfl (Or.inl rfl) (pe_lst pa_nil))
      (pss_cons (ps_for PassesOwn.never rfl (pi_range1 rfl T.z_range (pa_cons (pe_callB call_len_str rfl T.z_len (by decide +kernel) (pa_cons (pv 1) pa_nil)) pa_nil)) (pg_name (i := 3) sc_law_text.nd rfl (Or.inl rfl))
      (pss_one (ps_expr (pe_bm PySem.F.plainAttrs_list PySem.F.slot_list_append PySem.F.type_list_append mt_append (pv 2) (pa_cons (pe_call G_law_part (hr.mono (by omega)) rfl T.m_law_part T.F_law_part.kp T.b_law_part .nil pass0 (pa_cons (pe_callB call_abs rfl T.z_abs (by decide +kernel) (pa_cons (pe_ix ix_B (pv 0) (pe_op op_add pe_int (pv 3)) (fun _ _ => rfl)) pa_nil)) (pa_cons (pv 1) (pa_cons (pv 3) pa_nil)))) pa_nil)))))
      (pss_cons (ps_set (i := 4) sc_law_text.nd rfl (Or.inl rfl) (pe_bm PySem.F.plainAttrs_str PySem.F.slot_str_join PySem.F.type_str_join mt_join pe_str (pa_cons (pv 2) pa_nil)))
      (pss_cons (ps_set (i := 5) sc_law_text.nd rfl (Or.inl rfl) (pe_op op_modN (pe_op op_fdivB (pe_ix ix_B (pv 0) pe_int (fun _ _ => rfl)) pe_int) pe_int))
      (pss_cons (ps_if (pt_cmpR op_eqZ (pv 5) pe_int (nomark _))
      (pss_one (ps_ret (pv 4)))
      pss_nil)
      (pss_cons (ps_set (i := 6) sc_law_text.nd rfl (Or.inl rfl) (pe_op op_modN (pe_ix ix_B (pv 0) pe_int (fun _ _ => rfl)) (pe_op op_add (pe_callB call_len_str rfl T.z_len (by decide +kernel) (pa_cons (pv 4) pa_nil)) pe_int)))
      (pss_cons (ps_set (i := 7) sc_law_text.nd rfl (Or.inl rfl) (pe_ix ix_str pe_str (pe_op op_modN (pe_ix ix_B (pv 0) pe_int (fun _ _ => rfl)) pe_int) (fun _ _ => rfl)))
      (pss_cons (ps_if (pt_cmpR op_eqZ (pe_op op_modN (pe_op op_fdivB (pe_ix ix_B (pv 0) pe_int (fun _ _ => rfl)) pe_int) pe_int) pe_int (nomark _))
      (pss_one (ps_set (i := 7) sc_law_text.nd rfl (Or.inl rfl) pe_str))
      pss_nil)
      (pss_one (ps_ret (pe_op op_add_str (pe_op op_add_str (pe_slice sl_E (pv 4) po_none (po_some (pv 6))) (pv 7)) (pe_slice sl_E (pv 4) (po_some (pe_op op_add (pv 6) (pe_ix ix_B (pe_lst (pa_cons pe_int (pa_cons pe_int (pa_cons pe_int pa_nil)))) (pe_op op_modN (pe_op op_fdivB (pe_ix ix_B (pv 0) pe_int (fun _ _ => rfl)) pe_int) pe_int) (fun _ _ => rfl)))) po_none)))))))))))))), ?_⟩
    show tSeq _ _ _ [some (.ref l), none, none, none, none, none, none, none] H
    refine st fun N1 e1 => ?_
    walk_at "rd2"
    refine hat _ _ _ (Same.refl _) (by decide) (by decide) ?_
    walk_at "rd2"
    refine ⟨by decide, ?_⟩
    by_cases k1 : (ns.getD (Int.toNat 0) 0).fmod 4 = 1
    · rw [decide_eq_true k1]
      refine iteT (hat _ _ _ (Same.refl _) (by decide) (by decide) ⟨_, _, rfl, rfl, div_ok _ (by decide) (by decide), hat _ _ _ (Same.refl _) (by decide) (by decide) ⟨_, _, rfl, rfl, _, rfl, fun z H' s' hz => hQ z H' s' (by omega)⟩⟩)
    rw [decide_eq_false k1]
    refine iteF ?_
    subst e1
    refine st fun N1 e1 => ?_
    walk_at "rd2"
    refine ⟨by show 2 ≤ sizeLine; decide, fun p hp => ?_⟩
    have s1 := Same.new (o := .lst ([lets 2, lets 3].map V.str)) hp
    have ep : (upd H p (.lst ([lets 2, lets 3].map V.str))) p = _ := upd_same
    rw [← lets2, ← lets3]
    show rIxB _ _ _ (upd H p (.lst ([lets 2, lets 3].map V.str))) _
    generalize upd H p (.lst ([lets 2, lets 3].map V.str)) = H1 at s1 ep ⊢
    refine hat _ _ _ s1 (by decide) (by decide) ?_
    walk_at "rd2"
    refine ⟨div_ok _ (by decide) (by decide), by decide, ?_⟩
    have f1 := fm0 ((ns.getD (Int.toNat 0) 0).fdiv 4) (b := 2) (by decide)
    generalize ((ns.getD (Int.toNat 0) 0).fdiv 4).fmod 2 = a1 at f1 ⊢
    obtain ⟨m, hm, em⟩ : ∃ m, (m = 2 ∨ m = 3) ∧ atI ([lets 2, lets 3].map V.str) a1 = some (.str (lets m)) := by
      have h01 : a1 = 0 ∨ a1 = 1 := by omega
      rcases h01 with rfl | rfl
      · exact ⟨2, .inl rfl, atI_at (i := 0) (k := 0) rfl rfl⟩
      · exact ⟨3, .inr rfl, atI_at (i := 1) (k := 1) rfl rfl⟩
    have hll := lets_len hm
    refine ⟨false, p, _, _, _, rfl, rfl, SqB.lst ep, em, ?_⟩
    show N1 [some (.ref l), some (.str (lets m)), none, none, none, none, none, none] H1
    subst e1
    refine st fun N1 e1 => ?_
    walk_at "rd2"
    refine ⟨by decide, fun l2 hl2 => ?_⟩
    have s2 := s1.trans (Same.new (o := .lst []) hl2)
    have hl20 := Same.non s1 hl2
    have e2 : (upd H1 l2 (.lst [])) l2 = some (.lst []) := upd_same
    generalize upd H1 l2 (.lst []) = H2 at s2 e2
    subst e1
    refine st fun N1 e1 => for_st fun B eB => ?_
    simp only [iRng1]
    walk_at "rd2"
    refine ⟨_, rfl, sizeLe (by omega), by omega, by omega, ?_⟩
    rw [hll, Int.toNat_natCast]
    refine fr_range (n := m) (g := gName 3) (tb := B) (fun i σ H3 => ∃ (v3 : Option V) (zs : List Str), σ = [some (.ref l), some (.str (lets m)), some (.ref l2), v3, none, none, none, none] ∧ Same H H3 ∧ H3 l2 = some (.lst (zs.map V.str)) ∧ zs.length = i ∧ ∀ z ∈ zs, z.length ≤ 40) ⟨none, [], rfl, s2, e2, rfl, fun _ h => by cases h⟩ ?_ ?_
    · rintro i σ H3 hi ⟨v3, zs, rfl, s3, e3, n3, b3⟩
      subst eB
      rw [Int.zero_add]
      show tDrop _ _ [some (.ref l), some (.str (lets m)), some (.ref l2), some (.int (i : Int)), none, none, none, none] H3
      walk_at "rd2"
      refine ⟨.inl ⟨rfl, _, SqL.of e3⟩, hat _ _ _ s3 (by omega) (by omega) ⟨_, rfl, _, m, i, rfl, hm, fun z H4 s4 hz => ⟨l2, _, _, rfl, rfl, s4 _ _ e3, sizeLe (by rw [List.length_map, n3]; omega), ?_⟩⟩⟩
      refine ⟨Same.over hl20 (s3.trans s4), zs ++ [z], by rw [upd_same, List.map_append]; rfl, by rw [List.length_append, n3]; rfl, fun y hy => ?_⟩
      rcases List.mem_append.mp hy with h | h
      · exact b3 y h
      · rw [List.mem_singleton.mp h]; exact hz
    · rintro σ H3 ⟨v3, zs, rfl, s3, e3, n3, b3⟩
      subst e1
      refine st fun N1 e1 => ?_
      walk_at "rd2"
      have hsl := sum_le b3
      have hlj := StrLaws.join_length_le comma zs
      have hcl : comma.length = 1 := by decide +kernel
      refine ⟨rfl, false, comma, l2, zs, rfl, rfl, SqB.lst e3, PyProof.Rows.joinOk_of (by rw [hcl]; omega), ?_⟩
      have hj : (Txt.join comma zs).length ≤ 200 := by
        refine Nat.le_trans (m := (zs.map (·.length)).sum + zs.length * comma.length) ?_ (by rw [hcl]; omega)
        show (Builtin.Str.glued comma zs).length ≤ _
        rw [StrLaws.glued_eq_join]
        exact hlj
      generalize Txt.join comma zs = x at hj ⊢
      show N1 [some (.ref l), some (.str (lets m)), some (.ref l2), v3, some (.str x), none, none, none] H3
      clear hlj hsl
      subst e1
      refine st fun N1 e1 => ?_
      walk_at "rd2"
      refine hat _ _ _ s3 (by decide) (by decide) ?_
      walk_at "rd2"
      refine ⟨div_ok _ (by decide) (by decide), by decide, ?_⟩
      generalize ((ns.getD (Int.toNat 0) 0).fdiv 8).fmod 3 = a2
      subst e1
      refine st fun N1 e1 => ?_
      walk_at "rd2"
      by_cases k2 : a2 = 0
      · rw [decide_eq_true k2]
        exact iteT (hQ x _ s3 (by omega))
      rw [decide_eq_false k2]
      refine iteF ?_
      subst e1
      refine st fun N1 e1 => ?_
      walk_at "rd2"
      refine hat _ _ _ s3 (by decide) (by decide) ⟨_, rfl, sizeLe (by omega), _, _, rfl, rfl, by omega, ?_⟩
      dsimp only
      have f2 := fm0 (ns.getD (Int.toNat 4) 0) (b := ((x.length : Int) + 1)) (by omega)
      generalize (ns.getD (Int.toNat 4) 0).fmod ((x.length : Int) + 1) = a3 at f2 ⊢
      show N1 [some (.ref l), some (.str (lets m)), some (.ref l2), v3, some (.str x), some (.int a2), some (.int a3), none] H3
      subst e1
      refine st fun N1 e1 => ?_
      walk_at "rd2"
      refine hat _ _ _ s3 (by decide) (by decide) ?_
      walk_at "rd2"
      have f3 := fm0 (ns.getD (Int.toNat 5) 0) (b := 25) (by decide)
      refine ⟨by decide, ?_⟩
      generalize (ns.getD (Int.toNat 5) 0).fmod 25 = a4 at f3 ⊢
      have pl : (Str.ofString "xyzw0123456789+-/,. X_*\n\t").length = 25 := by decide +kernel
      obtain ⟨d2, hd2⟩ := chars_at (x := Str.ofString "xyzw0123456789+-/,. X_*\n\t") f3.1 (by rw [pl]; exact f3.2)
      refine ⟨_, _, d2, rfl, rfl, sizeLe (by rw [pl]; omega), hd2, ?_⟩
      have c1 : (⟨#[d2]⟩ : Str).length = 1 := rfl
      subst e1
      refine st fun N1 e1 => ?_
      have key : ∀ y : Str, y.length ≤ 1 → N1 [some (.ref l), some (.str (lets m)), some (.ref l2), v3, some (.str x), some (.int a2), some (.int a3), some (.str y)] H3 := by
        intro y hy
        subst e1
        walk_at "rd2"
        have q1 := PyProof.Txt.length_slice_le x none (some a3)
        refine ⟨x, rfl, sizeLe (by omega), _, rfl, _, rfl, sizeLe (by omega), by show 3 ≤ sizeLine; decide, fun p hp => ?_⟩
        have s4 := s3.trans (Same.new (o := .lst [V.int 1, .int 0, .int 1]) hp)
        have ep4 : (upd H3 p (.lst [V.int 1, .int 0, .int 1])) p = some (.lst (([1, 0, 1] : List Int).map V.int)) := upd_same
        generalize upd H3 p (.lst [V.int 1, .int 0, .int 1]) = H4 at s4 ep4 ⊢
        have f5 := fm0 ((ns.getD (Int.toNat 5) 0).fdiv 25) (b := 3) (by decide)
        refine hat _ _ _ s4 (by decide) (by decide) ⟨_, _, rfl, rfl, div_ok _ (by decide) (by decide), _, _, rfl, rfl, (by show (3 : Int) ≠ 0; decide), ?_⟩
        refine ⟨false, p, _, _, _, rfl, rfl, SqB.lst ep4, atI_ints f5.1 f5.2, _, _, rfl, rfl, _, rfl, x, rfl, sizeLe (by omega), _, rfl, _, rfl, ?_, hQ _ _ s4 ?_⟩
        · refine sizeLe ?_
          rw [app_len]
          exact Nat.le_trans (Nat.add_le_add (Nat.add_le_add q1 hy) (PyProof.Txt.length_slice_le x _ none)) (by omega)
        · rw [app_len, app_len]
          exact Nat.le_trans (Nat.add_le_add (Nat.add_le_add q1 hy) (PyProof.Txt.length_slice_le x _ none)) (by omega)
      walk_at "rd2"
      refine hat _ _ _ s3 (by decide) (by decide) ?_
      walk_at "rd2"
      refine ⟨div_ok _ (by decide) (by decide), by decide, ?_⟩
      by_cases k3 : ((ns.getD (Int.toNat 5) 0).fdiv 25).fmod 3 = 0
      · rw [decide_eq_true k3]
        exact iteT (key _ (by decide +kernel))
      · rw [decide_eq_false k3]
        exact iteF (key _ (by rw [c1]; omega))
theorem ok_law (T : Txt K mg t) : FnOk P w K mg base CX0 10 t.a_law t.d_law ["_law_script"] (spLaw K) := by
  have G_law_cell_at : FnOk P w K mg base CX0 1 t.a_law_cell_at t.d_law_cell_at ["_law_script", "_law_k"] (sp_law_cell_at K) := ok_law_cell_at T
  have G_law_text : FnOk P w K mg base CX0 3 t.a_law_text t.d_law_text ["_law_cells"] (spn_text K) := ok_law_text T
  have G_law_right : FnOk P w K mg base CX0 8 t.a_law_right t.d_law_right ["_law_text_here"] (spn_right K) := ok_law_right T
  refine T.F_law.ok sc_law (fun vs H Q E h => ?_) (fun cdv A outer s H vs Q E hr h => ?_)
  · obtain ⟨a, ns, rfl, _⟩ := h
    rfl
  · obtain ⟨a, ns, rfl, hS, hlen, hbits, hQ⟩ := h
    refine ⟨_, (pss_cons (ps_for PassesOwn.never rfl (pi_range3 rfl T.z_range (pa_cons pe_int (pa_cons (pe_callB (call_max2 rfl) rfl T.z_max (by decide +kernel) (pa_cons pe_int (pa_cons (pe_callB call_lenB rfl T.z_len (by decide +kernel) (pa_cons (pv 0) pa_nil)) pa_nil))) (pa_cons pe_int pa_nil)))) (pg_name (i := 1) sc_law.nd rfl (Or.inr rfl))
      (pss_one (ps_if (pt_not (pt_val (pe_call G_law_right (hr.mono (by omega)) rfl T.m_law_right T.F_law_right.kp T.b_law_right .nil pass0 (pa_cons (pe_call G_law_text (hr.mono (by omega)) rfl T.m_law_text T.F_law_text.kp T.b_law_text .nil pass0 (pa_cons (pe_compG (xs := ["_law_k"]) (fr := [("_law_script", 0), ("_law_at", 1)]) (g := (gName 0)) (tt := (tEl (tCall (sp_law_cell_at K) [] E0 (tCons (tVar 1) (tCons (tOp (rI0 fun i j => .int (i + j)) (tVar 2) (tVar 0)) tNil))))) (compG_ok (sc := defScope s_law) (N := N_law) rfl rfl (by decide +kernel)) rfl (pi_range1 rfl T.z_range (pa_cons pe_int pa_nil)) (fun _ _ _ hE1 => (pg_own (N := ["_law_k", "_law_script", "_law_at"]) (i := 0) hE1 rfl (by decide +kernel))) (fun _ _ _ hE1 => (po_el (pe_call G_law_cell_at (hr.mono (by omega)) rfl T.m_law_cell_at T.F_law_cell_at.kp T.b_law_cell_at .nil pass0 (pa_cons (pv 1) (pa_cons (pe_op op_add (pv 2) (pv 0)) pa_nil)))))) pa_nil)) pa_nil))))
      (pss_one (ps_ret pe_bl))
      pss_nil)))
      (pss_one (ps_ret pe_bl))), ?_⟩
    show tSeq _ _ _ [some (.ref a), none] H
    refine st fun N1 e1 => for_st fun B eB => ?_
    simp only [iRng3]
    walk_at "rd2"
    refine ints_len (b := false) hS ⟨_, rfl, by decide, by decide, by split <;> omega, by split <;> omega, by decide, by decide, ?_⟩
    refine fr_step (g := gName 1) (tb := B) (fun i σ H1 => ∃ (v1 : Option V), σ = [some (.ref a), v1] ∧ Same H H1) ⟨none, rfl, Same.refl _⟩ ?_ ?_
    · rintro i σ H1 hi ⟨v1, rfl, s1⟩
      subst eB
      show tIfS _ _ _ _ [some (.ref a), some (.int (0 + (i : Int) * 6))] H1
      walk_at "rd2"
      refine compE_st fun C eC => ?_
      simp only [iRng1]
      walk_at "rd2"
      refine ⟨by decide, by decide, fun a1 ha1 => ?_⟩
      refine cg_range (len := 6) (fun k y _ => k < 6 ∧ y = .int (ns.getD (0 + (i : Int) * 6 + (0 + (k : Int))).toNat 0)) ha1 (by decide) (fun _ _ _ _ r _ => r) ?_ ?_
      · intro k H2 zs hk s2 ez Q' hQ'
        subst eC
        show tCall _ _ _ _ [some (.int (0 + (k : Int))), some (.ref a), some (.int (0 + (i : Int) * 6))] H2 Q'
        walk_at "rd2"
        exact ⟨a, ns, _, rfl, (s1.trans s2).seq hS, by omega, hQ' _ _ (Same.refl _) ⟨hk, rfl⟩⟩
      · intro H2 ys s2 e2' hly hr2
        have ey : ys = ((List.range 6).map fun (k : Nat) => ns.getD (0 + (i : Int) * 6 + (0 + (k : Int))).toNat 0).map V.int := by
          refine list_is (by simpa using hly) fun k z e => ?_
          obtain ⟨hk, rfl⟩ := hr2 k z e
          exact ⟨_, by rw [List.getElem?_map, List.getElem?_range hk]; rfl, rfl⟩
        have hcl : ((List.range 6).map fun (k : Nat) => ns.getD (0 + (i : Int) * 6 + (0 + ((k : Nat) : Int))).toNat 0).length = 6 := by simp
        have s02 := s1.trans s2
        refine ⟨a1, _, rfl, SqL.of (by rw [← ey]; exact e2'), hcl, fun z H3 s3 hz => ⟨z, rfl, hz, fun H4 s4 => ?_⟩⟩
        exact ⟨true, rfl, by rw [if_neg (by decide)]; exact (s02.trans s3).trans s4⟩
    · rintro σ H1 ⟨v1, rfl, s1⟩
      subst e1
      walk_at "rd2"
      exact hQ _

end
theorem us1 {α : Type} {us : List α} (h : us.length = 1) : ∃ a0, us = [a0] := match us, h with | [a0], _ => ⟨a0, rfl⟩
theorem us2 {α : Type} {us : List α} (h : us.length = 2) : ∃ a0 a1, us = [a0, a1] := match us, h with | [a0, a1], _ => ⟨a0, a1, rfl⟩
theorem us3 {α : Type} {us : List α} (h : us.length = 3) : ∃ a0 a1 a2, us = [a0, a1, a2] := match us, h with | [a0, a1, a2], _ => ⟨a0, a1, a2, rfl⟩
theorem txt_mk {K : PySem.W.Frag} {h : Heap} {mg : Str → Option Value} (X : K.In h) (G : h.Ns mainGlobals mg)
    {C_CrystalError : Addr}
    {C_NoNumber : Addr}
    {C_NoChange : Addr}
    {C_NotKept : Addr}
    {C_TooMany : Addr}
    {C_NoDeed : Addr}
    {C_NoDrawing : Addr}
    {C_NoForm : Addr}
    {C_NoName : Addr}
    {C_NoPlace : Addr}
    {C_NoRow : Addr}
    {C_NoSheet : Addr}
    {C_NoText : Addr}
    {C_NotLeast : Addr}
    {C_NotWithin : Addr}
    {C_OffSheet : Addr}
    {f_copied : Addr} {od_copied an_copied : Option Addr} {sl_copied : Array (Option Value)} {oc_copied kV_copied dc_copied pm_copied cd_copied ct_copied : Value}
    {f_divisor : Addr} {od_divisor an_divisor : Option Addr} {sl_divisor : Array (Option Value)} {oc_divisor kV_divisor dc_divisor pm_divisor cd_divisor ct_divisor : Value}
    {f_place : Addr} {od_place an_place : Option Addr} {sl_place : Array (Option Value)} {oc_place kV_place dc_place pm_place cd_place ct_place : Value}
    {f_without : Addr} {od_without an_without : Option Addr} {sl_without : Array (Option Value)} {oc_without kV_without dc_without pm_without cd_without ct_without : Value}
    {f_determinant : Addr} {od_determinant an_determinant : Option Addr} {sl_determinant : Array (Option Value)} {oc_determinant kV_determinant dc_determinant pm_determinant cd_determinant ct_determinant : Value}
    {f_joined : Addr} {od_joined an_joined : Option Addr} {sl_joined : Array (Option Value)} {oc_joined kV_joined dc_joined pm_joined cd_joined ct_joined : Value}
    {f_deed : Addr} {od_deed an_deed : Option Addr} {sl_deed : Array (Option Value)} {oc_deed kV_deed dc_deed pm_deed cd_deed ct_deed : Value}
    {f_read_whole : Addr} {od_read_whole an_read_whole : Option Addr} {sl_read_whole : Array (Option Value)} {oc_read_whole kV_read_whole dc_read_whole pm_read_whole cd_read_whole ct_read_whole : Value}
    {f_read_fraction : Addr} {od_read_fraction an_read_fraction : Option Addr} {sl_read_fraction : Array (Option Value)} {oc_read_fraction kV_read_fraction dc_read_fraction pm_read_fraction cd_read_fraction ct_read_fraction : Value}
    {f_read_signed : Addr} {od_read_signed an_read_signed : Option Addr} {sl_read_signed : Array (Option Value)} {oc_read_signed kV_read_signed dc_read_signed pm_read_signed cd_read_signed ct_read_signed : Value}
    {f_read_amount : Addr} {od_read_amount an_read_amount : Option Addr} {sl_read_amount : Array (Option Value)} {oc_read_amount kV_read_amount dc_read_amount pm_read_amount cd_read_amount ct_read_amount : Value}
    {f_terms_of : Addr} {od_terms_of an_terms_of : Option Addr} {sl_terms_of : Array (Option Value)} {oc_terms_of kV_terms_of dc_terms_of pm_terms_of cd_terms_of ct_terms_of : Value}
    {f_read_part : Addr} {od_read_part an_read_part : Option Addr} {sl_read_part : Array (Option Value)} {oc_read_part kV_read_part dc_read_part pm_read_part cd_read_part ct_read_part : Value}
    {f_parts_of : Addr} {od_parts_of an_parts_of : Option Addr} {sl_parts_of : Array (Option Value)} {oc_parts_of kV_parts_of dc_parts_of pm_parts_of cd_parts_of ct_parts_of : Value}
    {f_common_under : Addr} {od_common_under an_common_under : Option Addr} {sl_common_under : Array (Option Value)} {oc_common_under kV_common_under dc_common_under pm_common_under cd_common_under ct_common_under : Value}
    {f_read : Addr} {od_read an_read : Option Addr} {sl_read : Array (Option Value)} {oc_read kV_read dc_read pm_read cd_read ct_read : Value}
    {f_law_cell_at : Addr} {od_law_cell_at an_law_cell_at : Option Addr} {sl_law_cell_at : Array (Option Value)} {oc_law_cell_at kV_law_cell_at dc_law_cell_at pm_law_cell_at cd_law_cell_at ct_law_cell_at : Value}
    {f_law_whole : Addr} {od_law_whole an_law_whole : Option Addr} {sl_law_whole : Array (Option Value)} {oc_law_whole kV_law_whole dc_law_whole pm_law_whole cd_law_whole ct_law_whole : Value}
    {f_law_common : Addr} {od_law_common an_law_common : Option Addr} {sl_law_common : Array (Option Value)} {oc_law_common kV_law_common dc_law_common pm_law_common cd_law_common ct_law_common : Value}
    {f_law_odd : Addr} {od_law_odd an_law_odd : Option Addr} {sl_law_odd : Array (Option Value)} {oc_law_odd kV_law_odd dc_law_odd pm_law_odd cd_law_odd ct_law_odd : Value}
    {f_law_term : Addr} {od_law_term an_law_term : Option Addr} {sl_law_term : Array (Option Value)} {oc_law_term kV_law_term dc_law_term pm_law_term cd_law_term ct_law_term : Value}
    {f_law_part : Addr} {od_law_part an_law_part : Option Addr} {sl_law_part : Array (Option Value)} {oc_law_part kV_law_part dc_law_part pm_law_part cd_law_part ct_law_part : Value}
    {f_law_text : Addr} {od_law_text an_law_text : Option Addr} {sl_law_text : Array (Option Value)} {oc_law_text kV_law_text dc_law_text pm_law_text cd_law_text ct_law_text : Value}
    {f_law_number : Addr} {od_law_number an_law_number : Option Addr} {sl_law_number : Array (Option Value)} {oc_law_number kV_law_number dc_law_number pm_law_number cd_law_number ct_law_number : Value}
    {f_law_alone : Addr} {od_law_alone an_law_alone : Option Addr} {sl_law_alone : Array (Option Value)} {oc_law_alone kV_law_alone dc_law_alone pm_law_alone cd_law_alone ct_law_alone : Value}
    {f_law_row : Addr} {od_law_row an_law_row : Option Addr} {sl_law_row : Array (Option Value)} {oc_law_row kV_law_row dc_law_row pm_law_row cd_law_row ct_law_row : Value}
    {f_law_sense : Addr} {od_law_sense an_law_sense : Option Addr} {sl_law_sense : Array (Option Value)} {oc_law_sense kV_law_sense dc_law_sense pm_law_sense cd_law_sense ct_law_sense : Value}
    {f_law_due : Addr} {od_law_due an_law_due : Option Addr} {sl_law_due : Array (Option Value)} {oc_law_due kV_law_due dc_law_due pm_law_due cd_law_due ct_law_due : Value}
    {f_law_kinds : Addr} {od_law_kinds an_law_kinds : Option Addr} {sl_law_kinds : Array (Option Value)} {oc_law_kinds kV_law_kinds dc_law_kinds pm_law_kinds cd_law_kinds ct_law_kinds : Value}
    {f_law_later : Addr} {od_law_later an_law_later : Option Addr} {sl_law_later : Array (Option Value)} {oc_law_later kV_law_later dc_law_later pm_law_later cd_law_later ct_law_later : Value}
    {f_law_only : Addr} {od_law_only an_law_only : Option Addr} {sl_law_only : Array (Option Value)} {oc_law_only kV_law_only dc_law_only pm_law_only cd_law_only ct_law_only : Value}
    {f_law_right : Addr} {od_law_right an_law_right : Option Addr} {sl_law_right : Array (Option Value)} {oc_law_right kV_law_right dc_law_right pm_law_right cd_law_right ct_law_right : Value}
    {f_law : Addr} {od_law an_law : Option Addr} {sl_law : Array (Option Value)} {oc_law kV_law dc_law pm_law cd_law ct_law : Value}
    {tk_LETTERS : Tok}
    {tk_FIGURES : Tok}
    {tk_MOST_FIGURES : Tok}
    (n_CrystalError : PySem.W.nsIn K mainGlobals "CrystalError" = some (some (.ref C_CrystalError)))
    (n_NoNumber : PySem.W.nsIn K mainGlobals "NoNumber" = some (some (.ref C_NoNumber)))
    (n_NoChange : PySem.W.nsIn K mainGlobals "NoChange" = some (some (.ref C_NoChange)))
    (n_NotKept : PySem.W.nsIn K mainGlobals "NotKept" = some (some (.ref C_NotKept)))
    (n_TooMany : PySem.W.nsIn K mainGlobals "TooMany" = some (some (.ref C_TooMany)))
    (n_NoDeed : PySem.W.nsIn K mainGlobals "NoDeed" = some (some (.ref C_NoDeed)))
    (n_NoDrawing : PySem.W.nsIn K mainGlobals "NoDrawing" = some (some (.ref C_NoDrawing)))
    (n_NoForm : PySem.W.nsIn K mainGlobals "NoForm" = some (some (.ref C_NoForm)))
    (n_NoName : PySem.W.nsIn K mainGlobals "NoName" = some (some (.ref C_NoName)))
    (n_NoPlace : PySem.W.nsIn K mainGlobals "NoPlace" = some (some (.ref C_NoPlace)))
    (n_NoRow : PySem.W.nsIn K mainGlobals "NoRow" = some (some (.ref C_NoRow)))
    (n_NoSheet : PySem.W.nsIn K mainGlobals "NoSheet" = some (some (.ref C_NoSheet)))
    (n_NoText : PySem.W.nsIn K mainGlobals "NoText" = some (some (.ref C_NoText)))
    (n_NotLeast : PySem.W.nsIn K mainGlobals "NotLeast" = some (some (.ref C_NotLeast)))
    (n_NotWithin : PySem.W.nsIn K mainGlobals "NotWithin" = some (some (.ref C_NotWithin)))
    (n_OffSheet : PySem.W.nsIn K mainGlobals "OffSheet" = some (some (.ref C_OffSheet)))
    (n_copied : PySem.W.nsIn K mainGlobals "copied" = some (some (.ref f_copied)))
    (l_copied : K.lookup f_copied = some ⟨oc_copied, od_copied, .func (PySem.W.fnOf "copied" "copied" (defArgs s_copied) (defBody s_copied) (defScope s_copied) .none kV_copied dc_copied pm_copied an_copied cd_copied ct_copied), sl_copied⟩)
    (c_copied : PySem.W.codeIn K cd_copied "copied" = true)
    (k_copied : PySem.W.keepIn K (.ref f_copied) = true)
    (n_divisor : PySem.W.nsIn K mainGlobals "divisor" = some (some (.ref f_divisor)))
    (l_divisor : K.lookup f_divisor = some ⟨oc_divisor, od_divisor, .func (PySem.W.fnOf "divisor" "divisor" (defArgs s_divisor) (defBody s_divisor) (defScope s_divisor) .none kV_divisor dc_divisor pm_divisor an_divisor cd_divisor ct_divisor), sl_divisor⟩)
    (c_divisor : PySem.W.codeIn K cd_divisor "divisor" = true)
    (k_divisor : PySem.W.keepIn K (.ref f_divisor) = true)
    (n_place : PySem.W.nsIn K mainGlobals "place" = some (some (.ref f_place)))
    (l_place : K.lookup f_place = some ⟨oc_place, od_place, .func (PySem.W.fnOf "place" "place" (defArgs s_place) (defBody s_place) (defScope s_place) .none kV_place dc_place pm_place an_place cd_place ct_place), sl_place⟩)
    (c_place : PySem.W.codeIn K cd_place "place" = true)
    (k_place : PySem.W.keepIn K (.ref f_place) = true)
    (n_without : PySem.W.nsIn K mainGlobals "without" = some (some (.ref f_without)))
    (l_without : K.lookup f_without = some ⟨oc_without, od_without, .func (PySem.W.fnOf "without" "without" (defArgs s_without) (defBody s_without) (defScope s_without) .none kV_without dc_without pm_without an_without cd_without ct_without), sl_without⟩)
    (c_without : PySem.W.codeIn K cd_without "without" = true)
    (k_without : PySem.W.keepIn K (.ref f_without) = true)
    (n_determinant : PySem.W.nsIn K mainGlobals "determinant" = some (some (.ref f_determinant)))
    (l_determinant : K.lookup f_determinant = some ⟨oc_determinant, od_determinant, .func (PySem.W.fnOf "determinant" "determinant" (defArgs s_determinant) (defBody s_determinant) (defScope s_determinant) .none kV_determinant dc_determinant pm_determinant an_determinant cd_determinant ct_determinant), sl_determinant⟩)
    (c_determinant : PySem.W.codeIn K cd_determinant "determinant" = true)
    (k_determinant : PySem.W.keepIn K (.ref f_determinant) = true)
    (n_joined : PySem.W.nsIn K mainGlobals "joined" = some (some (.ref f_joined)))
    (l_joined : K.lookup f_joined = some ⟨oc_joined, od_joined, .func (PySem.W.fnOf "joined" "joined" (defArgs s_joined) (defBody s_joined) (defScope s_joined) .none kV_joined dc_joined pm_joined an_joined cd_joined ct_joined), sl_joined⟩)
    (c_joined : PySem.W.codeIn K cd_joined "joined" = true)
    (k_joined : PySem.W.keepIn K (.ref f_joined) = true)
    (n_deed : PySem.W.nsIn K mainGlobals "deed" = some (some (.ref f_deed)))
    (l_deed : K.lookup f_deed = some ⟨oc_deed, od_deed, .func (PySem.W.fnOf "deed" "deed" (defArgs s_deed) (defBody s_deed) (defScope s_deed) .none kV_deed dc_deed pm_deed an_deed cd_deed ct_deed), sl_deed⟩)
    (c_deed : PySem.W.codeIn K cd_deed "deed" = true)
    (k_deed : PySem.W.keepIn K (.ref f_deed) = true)
    (n_read_whole : PySem.W.nsIn K mainGlobals "read_whole" = some (some (.ref f_read_whole)))
    (l_read_whole : K.lookup f_read_whole = some ⟨oc_read_whole, od_read_whole, .func (PySem.W.fnOf "read_whole" "read_whole" (defArgs s_read_whole) (defBody s_read_whole) (defScope s_read_whole) .none kV_read_whole dc_read_whole pm_read_whole an_read_whole cd_read_whole ct_read_whole), sl_read_whole⟩)
    (c_read_whole : PySem.W.codeIn K cd_read_whole "read_whole" = true)
    (k_read_whole : PySem.W.keepIn K (.ref f_read_whole) = true)
    (n_read_fraction : PySem.W.nsIn K mainGlobals "read_fraction" = some (some (.ref f_read_fraction)))
    (l_read_fraction : K.lookup f_read_fraction = some ⟨oc_read_fraction, od_read_fraction, .func (PySem.W.fnOf "read_fraction" "read_fraction" (defArgs s_read_fraction) (defBody s_read_fraction) (defScope s_read_fraction) .none kV_read_fraction dc_read_fraction pm_read_fraction an_read_fraction cd_read_fraction ct_read_fraction), sl_read_fraction⟩)
    (c_read_fraction : PySem.W.codeIn K cd_read_fraction "read_fraction" = true)
    (k_read_fraction : PySem.W.keepIn K (.ref f_read_fraction) = true)
    (n_read_signed : PySem.W.nsIn K mainGlobals "read_signed" = some (some (.ref f_read_signed)))
    (l_read_signed : K.lookup f_read_signed = some ⟨oc_read_signed, od_read_signed, .func (PySem.W.fnOf "read_signed" "read_signed" (defArgs s_read_signed) (defBody s_read_signed) (defScope s_read_signed) .none kV_read_signed dc_read_signed pm_read_signed an_read_signed cd_read_signed ct_read_signed), sl_read_signed⟩)
    (c_read_signed : PySem.W.codeIn K cd_read_signed "read_signed" = true)
    (k_read_signed : PySem.W.keepIn K (.ref f_read_signed) = true)
    (n_read_amount : PySem.W.nsIn K mainGlobals "read_amount" = some (some (.ref f_read_amount)))
    (l_read_amount : K.lookup f_read_amount = some ⟨oc_read_amount, od_read_amount, .func (PySem.W.fnOf "read_amount" "read_amount" (defArgs s_read_amount) (defBody s_read_amount) (defScope s_read_amount) .none kV_read_amount dc_read_amount pm_read_amount an_read_amount cd_read_amount ct_read_amount), sl_read_amount⟩)
    (c_read_amount : PySem.W.codeIn K cd_read_amount "read_amount" = true)
    (k_read_amount : PySem.W.keepIn K (.ref f_read_amount) = true)
    (n_terms_of : PySem.W.nsIn K mainGlobals "terms_of" = some (some (.ref f_terms_of)))
    (l_terms_of : K.lookup f_terms_of = some ⟨oc_terms_of, od_terms_of, .func (PySem.W.fnOf "terms_of" "terms_of" (defArgs s_terms_of) (defBody s_terms_of) (defScope s_terms_of) .none kV_terms_of dc_terms_of pm_terms_of an_terms_of cd_terms_of ct_terms_of), sl_terms_of⟩)
    (c_terms_of : PySem.W.codeIn K cd_terms_of "terms_of" = true)
    (k_terms_of : PySem.W.keepIn K (.ref f_terms_of) = true)
    (n_read_part : PySem.W.nsIn K mainGlobals "read_part" = some (some (.ref f_read_part)))
    (l_read_part : K.lookup f_read_part = some ⟨oc_read_part, od_read_part, .func (PySem.W.fnOf "read_part" "read_part" (defArgs s_read_part) (defBody s_read_part) (defScope s_read_part) .none kV_read_part dc_read_part pm_read_part an_read_part cd_read_part ct_read_part), sl_read_part⟩)
    (c_read_part : PySem.W.codeIn K cd_read_part "read_part" = true)
    (k_read_part : PySem.W.keepIn K (.ref f_read_part) = true)
    (n_parts_of : PySem.W.nsIn K mainGlobals "parts_of" = some (some (.ref f_parts_of)))
    (l_parts_of : K.lookup f_parts_of = some ⟨oc_parts_of, od_parts_of, .func (PySem.W.fnOf "parts_of" "parts_of" (defArgs s_parts_of) (defBody s_parts_of) (defScope s_parts_of) .none kV_parts_of dc_parts_of pm_parts_of an_parts_of cd_parts_of ct_parts_of), sl_parts_of⟩)
    (c_parts_of : PySem.W.codeIn K cd_parts_of "parts_of" = true)
    (k_parts_of : PySem.W.keepIn K (.ref f_parts_of) = true)
    (n_common_under : PySem.W.nsIn K mainGlobals "common_under" = some (some (.ref f_common_under)))
    (l_common_under : K.lookup f_common_under = some ⟨oc_common_under, od_common_under, .func (PySem.W.fnOf "common_under" "common_under" (defArgs s_common_under) (defBody s_common_under) (defScope s_common_under) .none kV_common_under dc_common_under pm_common_under an_common_under cd_common_under ct_common_under), sl_common_under⟩)
    (c_common_under : PySem.W.codeIn K cd_common_under "common_under" = true)
    (k_common_under : PySem.W.keepIn K (.ref f_common_under) = true)
    (n_read : PySem.W.nsIn K mainGlobals "read" = some (some (.ref f_read)))
    (l_read : K.lookup f_read = some ⟨oc_read, od_read, .func (PySem.W.fnOf "read" "read" (defArgs s_read) (defBody s_read) (defScope s_read) .none kV_read dc_read pm_read an_read cd_read ct_read), sl_read⟩)
    (c_read : PySem.W.codeIn K cd_read "read" = true)
    (k_read : PySem.W.keepIn K (.ref f_read) = true)
    (n_law_cell_at : PySem.W.nsIn K mainGlobals "_law_cell_at" = some (some (.ref f_law_cell_at)))
    (l_law_cell_at : K.lookup f_law_cell_at = some ⟨oc_law_cell_at, od_law_cell_at, .func (PySem.W.fnOf "_law_cell_at" "_law_cell_at" (defArgs s_law_cell_at) (defBody s_law_cell_at) (defScope s_law_cell_at) .none kV_law_cell_at dc_law_cell_at pm_law_cell_at an_law_cell_at cd_law_cell_at ct_law_cell_at), sl_law_cell_at⟩)
    (c_law_cell_at : PySem.W.codeIn K cd_law_cell_at "_law_cell_at" = true)
    (k_law_cell_at : PySem.W.keepIn K (.ref f_law_cell_at) = true)
    (n_law_whole : PySem.W.nsIn K mainGlobals "_law_whole" = some (some (.ref f_law_whole)))
    (l_law_whole : K.lookup f_law_whole = some ⟨oc_law_whole, od_law_whole, .func (PySem.W.fnOf "_law_whole" "_law_whole" (defArgs s_law_whole) (defBody s_law_whole) (defScope s_law_whole) .none kV_law_whole dc_law_whole pm_law_whole an_law_whole cd_law_whole ct_law_whole), sl_law_whole⟩)
    (c_law_whole : PySem.W.codeIn K cd_law_whole "_law_whole" = true)
    (k_law_whole : PySem.W.keepIn K (.ref f_law_whole) = true)
    (n_law_common : PySem.W.nsIn K mainGlobals "_law_common" = some (some (.ref f_law_common)))
    (l_law_common : K.lookup f_law_common = some ⟨oc_law_common, od_law_common, .func (PySem.W.fnOf "_law_common" "_law_common" (defArgs s_law_common) (defBody s_law_common) (defScope s_law_common) .none kV_law_common dc_law_common pm_law_common an_law_common cd_law_common ct_law_common), sl_law_common⟩)
    (c_law_common : PySem.W.codeIn K cd_law_common "_law_common" = true)
    (k_law_common : PySem.W.keepIn K (.ref f_law_common) = true)
    (n_law_odd : PySem.W.nsIn K mainGlobals "_law_odd" = some (some (.ref f_law_odd)))
    (l_law_odd : K.lookup f_law_odd = some ⟨oc_law_odd, od_law_odd, .func (PySem.W.fnOf "_law_odd" "_law_odd" (defArgs s_law_odd) (defBody s_law_odd) (defScope s_law_odd) .none kV_law_odd dc_law_odd pm_law_odd an_law_odd cd_law_odd ct_law_odd), sl_law_odd⟩)
    (c_law_odd : PySem.W.codeIn K cd_law_odd "_law_odd" = true)
    (k_law_odd : PySem.W.keepIn K (.ref f_law_odd) = true)
    (n_law_term : PySem.W.nsIn K mainGlobals "_law_term" = some (some (.ref f_law_term)))
    (l_law_term : K.lookup f_law_term = some ⟨oc_law_term, od_law_term, .func (PySem.W.fnOf "_law_term" "_law_term" (defArgs s_law_term) (defBody s_law_term) (defScope s_law_term) .none kV_law_term dc_law_term pm_law_term an_law_term cd_law_term ct_law_term), sl_law_term⟩)
    (c_law_term : PySem.W.codeIn K cd_law_term "_law_term" = true)
    (k_law_term : PySem.W.keepIn K (.ref f_law_term) = true)
    (n_law_part : PySem.W.nsIn K mainGlobals "_law_part" = some (some (.ref f_law_part)))
    (l_law_part : K.lookup f_law_part = some ⟨oc_law_part, od_law_part, .func (PySem.W.fnOf "_law_part" "_law_part" (defArgs s_law_part) (defBody s_law_part) (defScope s_law_part) .none kV_law_part dc_law_part pm_law_part an_law_part cd_law_part ct_law_part), sl_law_part⟩)
    (c_law_part : PySem.W.codeIn K cd_law_part "_law_part" = true)
    (k_law_part : PySem.W.keepIn K (.ref f_law_part) = true)
    (n_law_text : PySem.W.nsIn K mainGlobals "_law_text" = some (some (.ref f_law_text)))
    (l_law_text : K.lookup f_law_text = some ⟨oc_law_text, od_law_text, .func (PySem.W.fnOf "_law_text" "_law_text" (defArgs s_law_text) (defBody s_law_text) (defScope s_law_text) .none kV_law_text dc_law_text pm_law_text an_law_text cd_law_text ct_law_text), sl_law_text⟩)
    (c_law_text : PySem.W.codeIn K cd_law_text "_law_text" = true)
    (k_law_text : PySem.W.keepIn K (.ref f_law_text) = true)
    (n_law_number : PySem.W.nsIn K mainGlobals "_law_number" = some (some (.ref f_law_number)))
    (l_law_number : K.lookup f_law_number = some ⟨oc_law_number, od_law_number, .func (PySem.W.fnOf "_law_number" "_law_number" (defArgs s_law_number) (defBody s_law_number) (defScope s_law_number) .none kV_law_number dc_law_number pm_law_number an_law_number cd_law_number ct_law_number), sl_law_number⟩)
    (c_law_number : PySem.W.codeIn K cd_law_number "_law_number" = true)
    (k_law_number : PySem.W.keepIn K (.ref f_law_number) = true)
    (n_law_alone : PySem.W.nsIn K mainGlobals "_law_alone" = some (some (.ref f_law_alone)))
    (l_law_alone : K.lookup f_law_alone = some ⟨oc_law_alone, od_law_alone, .func (PySem.W.fnOf "_law_alone" "_law_alone" (defArgs s_law_alone) (defBody s_law_alone) (defScope s_law_alone) .none kV_law_alone dc_law_alone pm_law_alone an_law_alone cd_law_alone ct_law_alone), sl_law_alone⟩)
    (c_law_alone : PySem.W.codeIn K cd_law_alone "_law_alone" = true)
    (k_law_alone : PySem.W.keepIn K (.ref f_law_alone) = true)
    (n_law_row : PySem.W.nsIn K mainGlobals "_law_row" = some (some (.ref f_law_row)))
    (l_law_row : K.lookup f_law_row = some ⟨oc_law_row, od_law_row, .func (PySem.W.fnOf "_law_row" "_law_row" (defArgs s_law_row) (defBody s_law_row) (defScope s_law_row) .none kV_law_row dc_law_row pm_law_row an_law_row cd_law_row ct_law_row), sl_law_row⟩)
    (c_law_row : PySem.W.codeIn K cd_law_row "_law_row" = true)
    (k_law_row : PySem.W.keepIn K (.ref f_law_row) = true)
    (n_law_sense : PySem.W.nsIn K mainGlobals "_law_sense" = some (some (.ref f_law_sense)))
    (l_law_sense : K.lookup f_law_sense = some ⟨oc_law_sense, od_law_sense, .func (PySem.W.fnOf "_law_sense" "_law_sense" (defArgs s_law_sense) (defBody s_law_sense) (defScope s_law_sense) .none kV_law_sense dc_law_sense pm_law_sense an_law_sense cd_law_sense ct_law_sense), sl_law_sense⟩)
    (c_law_sense : PySem.W.codeIn K cd_law_sense "_law_sense" = true)
    (k_law_sense : PySem.W.keepIn K (.ref f_law_sense) = true)
    (n_law_due : PySem.W.nsIn K mainGlobals "_law_due" = some (some (.ref f_law_due)))
    (l_law_due : K.lookup f_law_due = some ⟨oc_law_due, od_law_due, .func (PySem.W.fnOf "_law_due" "_law_due" (defArgs s_law_due) (defBody s_law_due) (defScope s_law_due) .none kV_law_due dc_law_due pm_law_due an_law_due cd_law_due ct_law_due), sl_law_due⟩)
    (c_law_due : PySem.W.codeIn K cd_law_due "_law_due" = true)
    (k_law_due : PySem.W.keepIn K (.ref f_law_due) = true)
    (n_law_kinds : PySem.W.nsIn K mainGlobals "_law_kinds" = some (some (.ref f_law_kinds)))
    (l_law_kinds : K.lookup f_law_kinds = some ⟨oc_law_kinds, od_law_kinds, .func (PySem.W.fnOf "_law_kinds" "_law_kinds" (defArgs s_law_kinds) (defBody s_law_kinds) (defScope s_law_kinds) .none kV_law_kinds dc_law_kinds pm_law_kinds an_law_kinds cd_law_kinds ct_law_kinds), sl_law_kinds⟩)
    (c_law_kinds : PySem.W.codeIn K cd_law_kinds "_law_kinds" = true)
    (k_law_kinds : PySem.W.keepIn K (.ref f_law_kinds) = true)
    (n_law_later : PySem.W.nsIn K mainGlobals "_law_later" = some (some (.ref f_law_later)))
    (l_law_later : K.lookup f_law_later = some ⟨oc_law_later, od_law_later, .func (PySem.W.fnOf "_law_later" "_law_later" (defArgs s_law_later) (defBody s_law_later) (defScope s_law_later) .none kV_law_later dc_law_later pm_law_later an_law_later cd_law_later ct_law_later), sl_law_later⟩)
    (c_law_later : PySem.W.codeIn K cd_law_later "_law_later" = true)
    (k_law_later : PySem.W.keepIn K (.ref f_law_later) = true)
    (n_law_only : PySem.W.nsIn K mainGlobals "_law_only" = some (some (.ref f_law_only)))
    (l_law_only : K.lookup f_law_only = some ⟨oc_law_only, od_law_only, .func (PySem.W.fnOf "_law_only" "_law_only" (defArgs s_law_only) (defBody s_law_only) (defScope s_law_only) .none kV_law_only dc_law_only pm_law_only an_law_only cd_law_only ct_law_only), sl_law_only⟩)
    (c_law_only : PySem.W.codeIn K cd_law_only "_law_only" = true)
    (k_law_only : PySem.W.keepIn K (.ref f_law_only) = true)
    (n_law_right : PySem.W.nsIn K mainGlobals "_law_right" = some (some (.ref f_law_right)))
    (l_law_right : K.lookup f_law_right = some ⟨oc_law_right, od_law_right, .func (PySem.W.fnOf "_law_right" "_law_right" (defArgs s_law_right) (defBody s_law_right) (defScope s_law_right) .none kV_law_right dc_law_right pm_law_right an_law_right cd_law_right ct_law_right), sl_law_right⟩)
    (c_law_right : PySem.W.codeIn K cd_law_right "_law_right" = true)
    (k_law_right : PySem.W.keepIn K (.ref f_law_right) = true)
    (n_law : PySem.W.nsIn K mainGlobals "law" = some (some (.ref f_law)))
    (l_law : K.lookup f_law = some ⟨oc_law, od_law, .func (PySem.W.fnOf "law" "law" (defArgs s_law) (defBody s_law) (defScope s_law) .none kV_law dc_law pm_law an_law cd_law ct_law), sl_law⟩)
    (c_law : PySem.W.codeIn K cd_law "law" = true)
    (k_law : PySem.W.keepIn K (.ref f_law) = true)
    (n_LETTERS : PySem.W.nsIn K mainGlobals "LETTERS" = some (some (.str "xyz" tk_LETTERS)))
    (n_FIGURES : PySem.W.nsIn K mainGlobals "FIGURES" = some (some (.str "0123456789" tk_FIGURES)))
    (n_MOST_FIGURES : PySem.W.nsIn K mainGlobals "MOST_FIGURES" = some (some (.int 100 tk_MOST_FIGURES)))
    (y_ValueError : PySem.W.nsIn K mainGlobals "ValueError" = some none)
    (y_abs : PySem.W.nsIn K mainGlobals "abs" = some none)
    (y_any : PySem.W.nsIn K mainGlobals "any" = some none)
    (y_bool : PySem.W.nsIn K mainGlobals "bool" = some none)
    (y_enumerate : PySem.W.nsIn K mainGlobals "enumerate" = some none)
    (y_int : PySem.W.nsIn K mainGlobals "int" = some none)
    (y_isinstance : PySem.W.nsIn K mainGlobals "isinstance" = some none)
    (y_len : PySem.W.nsIn K mainGlobals "len" = some none)
    (y_list : PySem.W.nsIn K mainGlobals "list" = some none)
    (y_max : PySem.W.nsIn K mainGlobals "max" = some none)
    (y_min : PySem.W.nsIn K mainGlobals "min" = some none)
    (y_range : PySem.W.nsIn K mainGlobals "range" = some none)
    (y_reversed : PySem.W.nsIn K mainGlobals "reversed" = some none)
    (y_str : PySem.W.nsIn K mainGlobals "str" = some none)
    (y_sum : PySem.W.nsIn K mainGlobals "sum" = some none)
    (y_tuple : PySem.W.nsIn K mainGlobals "tuple" = some none)
    (y_zip : PySem.W.nsIn K mainGlobals "zip" = some none)
    (q_k_int : PySem.W.kitOne K (.type "int") (.type "int") = some true)
    (q_k_ib : PySem.W.kitOne K (.type "int") (.type "bool") = some false)
    (q_k_tt : PySem.W.kitOne K (.type "tuple") (.type "tuple") = some true)
    (q_k_ss : PySem.W.kitOne K (.type "str") (.type "str") = some true)
    (q_x_NoText : PySem.W.excIn K C_NoText [.type "ValueError", .type "Exception", .type "BaseException", .type "object"] "ValueError.__new__" = true)
    (q_x_NoPlace : PySem.W.excIn K C_NoPlace [.type "ValueError", .type "Exception", .type "BaseException", .type "object"] "ValueError.__new__" = true)
    (q_x_NoDeed : PySem.W.excIn K C_NoDeed [.type "ValueError", .type "Exception", .type "BaseException", .type "object"] "ValueError.__new__" = true)
    (q_dm : PySem.W.exmOne K (.ref C_NoDeed) (.ref C_NoDeed) = some true)
    (q_xm : PySem.W.exmOne K (.ref C_NoText) (.ref C_CrystalError) = some true)
    (q_e_cg : PySem.W.specialIn K (.builtin "object.__class__") "__get__" = some (some (.builtin "getset_descriptor.__get__")))
    (q_e_tk : PySem.W.takesIn K (.builtin "object.__class__") = some true)
    (q_u_ga : PySem.W.findIn K (.ref C_NoText) "__getattribute__" = some (some (.builtin "BaseException.__getattribute__")))
    (q_u_gt : PySem.W.findIn K (.ref C_NoText) "__getattr__" = some none)
    (q_u_ca : PySem.W.findIn K (.ref C_NoText) "__class__" = some (some (.builtin "object.__class__")))
    (q_u_ob : PySem.W.mroIn K C_NoText (.type "object") = some true)
    (q_u_bx : PySem.W.mroIn K C_NoText (.type "BaseException") = some true)
    (q_u_VE : PySem.W.kitOne K (.ref C_NoText) (.type "ValueError") = some true)
    (q_u_NoNumber : PySem.W.kitOne K (.ref C_NoText) (.ref C_NoNumber) = some false)
    (q_u_NoChange : PySem.W.kitOne K (.ref C_NoText) (.ref C_NoChange) = some false)
    (q_u_NotKept : PySem.W.kitOne K (.ref C_NoText) (.ref C_NotKept) = some false)
    (q_u_TooMany : PySem.W.kitOne K (.ref C_NoText) (.ref C_TooMany) = some false)
    (q_u_NoDeed : PySem.W.kitOne K (.ref C_NoText) (.ref C_NoDeed) = some false)
    (q_u_NoDrawing : PySem.W.kitOne K (.ref C_NoText) (.ref C_NoDrawing) = some false)
    (q_u_NoForm : PySem.W.kitOne K (.ref C_NoText) (.ref C_NoForm) = some false)
    (q_u_NoName : PySem.W.kitOne K (.ref C_NoText) (.ref C_NoName) = some false)
    (q_u_NoPlace : PySem.W.kitOne K (.ref C_NoText) (.ref C_NoPlace) = some false)
    (q_u_NoRow : PySem.W.kitOne K (.ref C_NoText) (.ref C_NoRow) = some false)
    (q_u_NoSheet : PySem.W.kitOne K (.ref C_NoText) (.ref C_NoSheet) = some false)
    (q_u_NoText : PySem.W.kitOne K (.ref C_NoText) (.ref C_NoText) = some true)
    (q_u_NotLeast : PySem.W.kitOne K (.ref C_NoText) (.ref C_NotLeast) = some false)
    (q_u_NotWithin : PySem.W.kitOne K (.ref C_NoText) (.ref C_NotWithin) = some false)
    (q_u_OffSheet : PySem.W.kitOne K (.ref C_NoText) (.ref C_OffSheet) = some false)
    : ∃ t, Txt K mg t := by
  have F_copied := fun_mk (st := s_copied) l_copied c_copied k_copied
  have b_copied := F_copied.binds (ps := ["thing"]) fun _ _ _ _ _ _ us hl => by obtain ⟨_, rfl⟩ := us1 hl; rfl
  have F_divisor := fun_mk (st := s_divisor) l_divisor c_divisor k_divisor
  have b_divisor := F_divisor.binds (ps := ["one", "other"]) fun _ _ _ _ _ _ us hl => by obtain ⟨_, _, rfl⟩ := us2 hl; rfl
  have F_place := fun_mk (st := s_place) l_place c_place k_place
  have b_place := F_place.binds (ps := ["tops", "under"]) fun _ _ _ _ _ _ us hl => by obtain ⟨_, _, rfl⟩ := us2 hl; rfl
  have F_without := fun_mk (st := s_without) l_without c_without k_without
  have b_without := F_without.binds (ps := ["rows", "i", "k"]) fun _ _ _ _ _ _ us hl => by obtain ⟨_, _, _, rfl⟩ := us3 hl; rfl
  have F_determinant := fun_mk (st := s_determinant) l_determinant c_determinant k_determinant
  have b_determinant := F_determinant.binds (ps := ["rows"]) fun _ _ _ _ _ _ us hl => by obtain ⟨_, rfl⟩ := us1 hl; rfl
  have F_joined := fun_mk (st := s_joined) l_joined c_joined k_joined
  have b_joined := F_joined.binds (ps := ["rows", "spot"]) fun _ _ _ _ _ _ us hl => by obtain ⟨_, _, rfl⟩ := us2 hl; rfl
  have F_deed := fun_mk (st := s_deed) l_deed c_deed k_deed
  have b_deed := F_deed.binds (ps := ["rows", "tops", "under"]) fun _ _ _ _ _ _ us hl => by obtain ⟨_, _, _, rfl⟩ := us3 hl; rfl
  have F_read_whole := fun_mk (st := s_read_whole) l_read_whole c_read_whole k_read_whole
  have b_read_whole := F_read_whole.binds (ps := ["text"]) fun _ _ _ _ _ _ us hl => by obtain ⟨_, rfl⟩ := us1 hl; rfl
  have F_read_fraction := fun_mk (st := s_read_fraction) l_read_fraction c_read_fraction k_read_fraction
  have b_read_fraction := F_read_fraction.binds (ps := ["text"]) fun _ _ _ _ _ _ us hl => by obtain ⟨_, rfl⟩ := us1 hl; rfl
  have F_read_signed := fun_mk (st := s_read_signed) l_read_signed c_read_signed k_read_signed
  have b_read_signed := F_read_signed.binds (ps := ["text"]) fun _ _ _ _ _ _ us hl => by obtain ⟨_, rfl⟩ := us1 hl; rfl
  have F_read_amount := fun_mk (st := s_read_amount) l_read_amount c_read_amount k_read_amount
  have b_read_amount := F_read_amount.binds (ps := ["text"]) fun _ _ _ _ _ _ us hl => by obtain ⟨_, rfl⟩ := us1 hl; rfl
  have F_terms_of := fun_mk (st := s_terms_of) l_terms_of c_terms_of k_terms_of
  have b_terms_of := F_terms_of.binds (ps := ["part"]) fun _ _ _ _ _ _ us hl => by obtain ⟨_, rfl⟩ := us1 hl; rfl
  have F_read_part := fun_mk (st := s_read_part) l_read_part c_read_part k_read_part
  have b_read_part := F_read_part.binds (ps := ["part", "letters"]) fun _ _ _ _ _ _ us hl => by obtain ⟨_, _, rfl⟩ := us2 hl; rfl
  have F_parts_of := fun_mk (st := s_parts_of) l_parts_of c_parts_of k_parts_of
  have b_parts_of := F_parts_of.binds (ps := ["text"]) fun _ _ _ _ _ _ us hl => by obtain ⟨_, rfl⟩ := us1 hl; rfl
  have F_common_under := fun_mk (st := s_common_under) l_common_under c_common_under k_common_under
  have b_common_under := F_common_under.binds (ps := ["pairs"]) fun _ _ _ _ _ _ us hl => by obtain ⟨_, rfl⟩ := us1 hl; rfl
  have F_read := fun_mk (st := s_read) l_read c_read k_read
  have b_read := F_read.binds (ps := ["text"]) fun _ _ _ _ _ _ us hl => by obtain ⟨_, rfl⟩ := us1 hl; rfl
  have F_law_cell_at := fun_mk (st := s_law_cell_at) l_law_cell_at c_law_cell_at k_law_cell_at
  have b_law_cell_at := F_law_cell_at.binds (ps := ["_law_script", "_law_k"]) fun _ _ _ _ _ _ us hl => by obtain ⟨_, _, rfl⟩ := us2 hl; rfl
  have F_law_whole := fun_mk (st := s_law_whole) l_law_whole c_law_whole k_law_whole
  have b_law_whole := F_law_whole.binds (ps := ["_law_found"]) fun _ _ _ _ _ _ us hl => by obtain ⟨_, rfl⟩ := us1 hl; rfl
  have F_law_common := fun_mk (st := s_law_common) l_law_common c_law_common k_law_common
  have b_law_common := F_law_common.binds (ps := ["_law_one", "_law_other"]) fun _ _ _ _ _ _ us hl => by obtain ⟨_, _, rfl⟩ := us2 hl; rfl
  have F_law_odd := fun_mk (st := s_law_odd) l_law_odd c_law_odd k_law_odd
  have b_law_odd := F_law_odd.binds (ps := ["_law_cell"]) fun _ _ _ _ _ _ us hl => by obtain ⟨_, rfl⟩ := us1 hl; rfl
  have F_law_term := fun_mk (st := s_law_term) l_law_term c_law_term k_law_term
  have b_law_term := F_law_term.binds (ps := ["_law_cell", "_law_letters"]) fun _ _ _ _ _ _ us hl => by obtain ⟨_, _, rfl⟩ := us2 hl; rfl
  have F_law_part := fun_mk (st := s_law_part) l_law_part c_law_part k_law_part
  have b_law_part := F_law_part.binds (ps := ["_law_cell", "_law_letters", "_law_k"]) fun _ _ _ _ _ _ us hl => by obtain ⟨_, _, _, rfl⟩ := us3 hl; rfl
  have F_law_text := fun_mk (st := s_law_text) l_law_text c_law_text k_law_text
  have b_law_text := F_law_text.binds (ps := ["_law_cells"]) fun _ _ _ _ _ _ us hl => by obtain ⟨_, rfl⟩ := us1 hl; rfl
  have F_law_number := fun_mk (st := s_law_number) l_law_number c_law_number k_law_number
  have b_law_number := F_law_number.binds (ps := ["_law_word"]) fun _ _ _ _ _ _ us hl => by obtain ⟨_, rfl⟩ := us1 hl; rfl
  have F_law_alone := fun_mk (st := s_law_alone) l_law_alone c_law_alone k_law_alone
  have b_law_alone := F_law_alone.binds (ps := ["_law_word"]) fun _ _ _ _ _ _ us hl => by obtain ⟨_, rfl⟩ := us1 hl; rfl
  have F_law_row := fun_mk (st := s_law_row) l_law_row c_law_row k_law_row
  have b_law_row := F_law_row.binds (ps := ["_law_part_here", "_law_letters"]) fun _ _ _ _ _ _ us hl => by obtain ⟨_, _, rfl⟩ := us2 hl; rfl
  have F_law_sense := fun_mk (st := s_law_sense) l_law_sense c_law_sense k_law_sense
  have b_law_sense := F_law_sense.binds (ps := ["_law_rows"]) fun _ _ _ _ _ _ us hl => by obtain ⟨_, rfl⟩ := us1 hl; rfl
  have F_law_due := fun_mk (st := s_law_due) l_law_due c_law_due k_law_due
  have b_law_due := F_law_due.binds (ps := ["_law_text_here"]) fun _ _ _ _ _ _ us hl => by obtain ⟨_, rfl⟩ := us1 hl; rfl
  have F_law_kinds := fun_mk (st := s_law_kinds) l_law_kinds c_law_kinds k_law_kinds
  have b_law_kinds := F_law_kinds.binds (ps := ["_law_found"]) fun _ _ _ _ _ _ us hl => by obtain ⟨_, rfl⟩ := us1 hl; rfl
  have F_law_later := fun_mk (st := s_law_later) l_law_later c_law_later k_law_later
  have b_law_later := F_law_later.binds (ps := ["_law_e"]) fun _ _ _ _ _ _ us hl => by obtain ⟨_, rfl⟩ := us1 hl; rfl
  have F_law_only := fun_mk (st := s_law_only) l_law_only c_law_only k_law_only
  have b_law_only := F_law_only.binds (ps := ["_law_e"]) fun _ _ _ _ _ _ us hl => by obtain ⟨_, rfl⟩ := us1 hl; rfl
  have F_law_right := fun_mk (st := s_law_right) l_law_right c_law_right k_law_right
  have b_law_right := F_law_right.binds (ps := ["_law_text_here"]) fun _ _ _ _ _ _ us hl => by obtain ⟨_, rfl⟩ := us1 hl; rfl
  have F_law := fun_mk (st := s_law) l_law c_law k_law
  have b_law := F_law.binds (ps := ["_law_script"]) fun _ _ _ _ _ _ us hl => by obtain ⟨_, rfl⟩ := us1 hl; rfl
  exact ⟨⟨f_copied, _, f_divisor, _, f_place, _, f_without, _, f_determinant, _, f_joined, _, f_deed, _, f_read_whole, _, f_read_fraction, _, f_read_signed, _, f_read_amount, _, f_terms_of, _, f_read_part, _, f_parts_of, _, f_common_under, _, f_read, _, f_law_cell_at, _, f_law_whole, _, f_law_common, _, f_law_odd, _, f_law_term, _, f_law_part, _, f_law_text, _, f_law_number, _, f_law_alone, _, f_law_row, _, f_law_sense, _, f_law_due, _, f_law_kinds, _, f_law_later, _, f_law_only, _, f_law_right, _, f_law, _, C_CrystalError, C_NoNumber, C_NoChange, C_NotKept, C_TooMany, C_NoDeed, C_NoDrawing, C_NoForm, C_NoName, C_NoPlace, C_NoRow, C_NoSheet, C_NoText, C_NotLeast, C_NotWithin, C_OffSheet⟩, ⟨F_copied, PySem.W.mg_of X G n_copied, b_copied, F_divisor, PySem.W.mg_of X G n_divisor, b_divisor, F_place, PySem.W.mg_of X G n_place, b_place, F_without, PySem.W.mg_of X G n_without, b_without, F_determinant, PySem.W.mg_of X G n_determinant, b_determinant, F_joined, PySem.W.mg_of X G n_joined, b_joined, F_deed, PySem.W.mg_of X G n_deed, b_deed, F_read_whole, PySem.W.mg_of X G n_read_whole, b_read_whole, F_read_fraction, PySem.W.mg_of X G n_read_fraction, b_read_fraction, F_read_signed, PySem.W.mg_of X G n_read_signed, b_read_signed, F_read_amount, PySem.W.mg_of X G n_read_amount, b_read_amount, F_terms_of, PySem.W.mg_of X G n_terms_of, b_terms_of, F_read_part, PySem.W.mg_of X G n_read_part, b_read_part, F_parts_of, PySem.W.mg_of X G n_parts_of, b_parts_of, F_common_under, PySem.W.mg_of X G n_common_under, b_common_under, F_read, PySem.W.mg_of X G n_read, b_read, F_law_cell_at, PySem.W.mg_of X G n_law_cell_at, b_law_cell_at, F_law_whole, PySem.W.mg_of X G n_law_whole, b_law_whole, F_law_common, PySem.W.mg_of X G n_law_common, b_law_common, F_law_odd, PySem.W.mg_of X G n_law_odd, b_law_odd, F_law_term, PySem.W.mg_of X G n_law_term, b_law_term, F_law_part, PySem.W.mg_of X G n_law_part, b_law_part, F_law_text, PySem.W.mg_of X G n_law_text, b_law_text, F_law_number, PySem.W.mg_of X G n_law_number, b_law_number, F_law_alone, PySem.W.mg_of X G n_law_alone, b_law_alone, F_law_row, PySem.W.mg_of X G n_law_row, b_law_row, F_law_sense, PySem.W.mg_of X G n_law_sense, b_law_sense, F_law_due, PySem.W.mg_of X G n_law_due, b_law_due, F_law_kinds, PySem.W.mg_of X G n_law_kinds, b_law_kinds, F_law_later, PySem.W.mg_of X G n_law_later, b_law_later, F_law_only, PySem.W.mg_of X G n_law_only, b_law_only, F_law_right, PySem.W.mg_of X G n_law_right, b_law_right, F_law, PySem.W.mg_of X G n_law, b_law, PySem.W.mg_none_of X G y_ValueError, PySem.W.mg_none_of X G y_abs, PySem.W.mg_none_of X G y_any, PySem.W.mg_none_of X G y_bool, PySem.W.mg_none_of X G y_enumerate, PySem.W.mg_none_of X G y_int, PySem.W.mg_none_of X G y_isinstance, PySem.W.mg_none_of X G y_len, PySem.W.mg_none_of X G y_list, PySem.W.mg_none_of X G y_max, PySem.W.mg_none_of X G y_min, PySem.W.mg_none_of X G y_range, PySem.W.mg_none_of X G y_reversed, PySem.W.mg_none_of X G y_str, PySem.W.mg_none_of X G y_sum, PySem.W.mg_none_of X G y_tuple, PySem.W.mg_none_of X G y_zip, PySem.W.mg_of X G n_CrystalError, PySem.W.mg_of X G n_NoNumber, PySem.W.mg_of X G n_NoChange, PySem.W.mg_of X G n_NotKept, PySem.W.mg_of X G n_TooMany, PySem.W.mg_of X G n_NoDeed, PySem.W.mg_of X G n_NoDrawing, PySem.W.mg_of X G n_NoForm, PySem.W.mg_of X G n_NoName, PySem.W.mg_of X G n_NoPlace, PySem.W.mg_of X G n_NoRow, PySem.W.mg_of X G n_NoSheet, PySem.W.mg_of X G n_NoText, PySem.W.mg_of X G n_NotLeast, PySem.W.mg_of X G n_NotWithin, PySem.W.mg_of X G n_OffSheet, ⟨_, PySem.W.mg_of X G n_LETTERS, _, rfl⟩, ⟨_, PySem.W.mg_of X G n_FIGURES, _, rfl⟩, ⟨_, PySem.W.mg_of X G n_MOST_FIGURES, _, rfl⟩, q_k_int, q_k_ib, q_k_tt, q_k_ss, q_x_NoText, q_x_NoPlace, q_x_NoDeed, q_dm, q_xm, q_e_cg, q_e_tk, q_u_ga, q_u_gt, q_u_ca, q_u_ob, q_u_bx, q_u_VE, q_u_NoNumber, q_u_NoChange, q_u_NotKept, q_u_TooMany, q_u_NoDeed, q_u_NoDrawing, q_u_NoForm, q_u_NoName, q_u_NoPlace, q_u_NoRow, q_u_NoSheet, q_u_NoText, q_u_NotLeast, q_u_NotWithin, q_u_OffSheet, fun s v => .of_eq rfl⟩⟩
end Cw
open PySem PySem.W PyProof.Rows
/-! Names that the head would else lay equations under (of whole heaps and of their trees): the proof wants none of them. -/
namespace PySem.W.Fast
def tw7959525401890022611:=()
def tw11234250459214827748:=()
def tw16250187293472248652:=()
def tw11880796710984078769:=()
def tw12081505677883317961:=()
def tw737641906732508173:=()
def tw6951179635011332921:=()
def tw6588020644486116157:=()
def tw14741747013559061918:=()
def tw12332335025326934255:=()
def tw5324694829159719349:=()
def tw10037874118310232880:=()
def tw9212910042542634489:=()
def tw3371994405290225733:=()
def tw7468833681686481893:=()
def tw6301984074880280064:=()
def tw456650979677479259:=()
def tw15742898565751831586:=()
def tw15711669627636879648:=()
def tw18428422613027864126:=()
def tw7672957910731586322:=()
def tw12303471579867088100:=()
def tw16342264067783454394:=()
def tw3898945590250483078:=()
def tw14341833189845698388:=()
def tw8107361272589774273:=()
def tw11554681910765154954:=()
def tw6000205897900414673:=()
def tw13861219896203213817:=()
def tw5239849653144649182:=()
def tw17096180114486866720:=()
def tw16465615837816176434:=()
def tw6162870764834553443:=()
def tw12895329613811176215:=()
def tw14622978178442625867:=()
def tw17841155674171107119:=()
def tw10475049446674039851:=()
def tw1350333363353862878:=()
def tw7339871117317990842:=()
def tw4480244452259707333:=()
def tw16515980366373910629:=()
def tw11510543031811730078:=()
def tw10276394848425444868:=()
def tw1461644343699182559:=()
def tw7634813059586635958:=()
def tw3728800658789241608:=()
def tw6381298487619690270:=()
def tw4883479712852578151:=()
def tw8642459159877994948:=()
def tw3058177281775472022:=()
def tw14649911954580099557:=()
def tw16164772068476862912:=()
def tw2154473050969105598:=()
def tw16793634846541826169:=()
def tw15612009244108532985:=()
def tw9880382788686585732:=()
def tw17090016339127173577:=()
def tw14252676497029728337:=()
def tw13239942724960582049:=()
def tw18189262843079268:=()
def tw12957844724957871547:=()
def tw17040215063247067119:=()
def tw11473057578520507901:=()
def tw6368717984197257941:=()
def tw11004150203377948202:=()
def tw7465239061433543548:=()
def tw3570701056857219785:=()
def tw17347499946745463330:=()
def tw5605699091184586221:=()
def tw8413097614519379154:=()
def tw3805384541741195529:=()
def tw2866530815471512321:=()
def tw691725272202558344:=()
def tw6972079953714504319:=()
def tw8018888765813465801:=()
def tw4681145614490235753:=()
def tw11532678285087323684:=()
def tw7422026670802934780:=()
def tw3063613666663082746:=()
def tw179641868017936390:=()
def tw16848747302488792264:=()
def tw16544703187782859455:=()
def tw3332181649532543456:=()
def tw879729360698698621:=()
def tw4973888597612066993:=()
def tw5058239488758944244:=()
def tw14392145722429733342:=()
def tw12796875994125987109:=()
def tw10794101433041817548:=()
def tw438476369779006674:=()
def tw16806492872703345996:=()
def tw16791486692511345928:=()
def tw1891182726473645887:=()
def tw10747221053210563017:=()
def tw1202121359179182614:=()
def tw7656546409983101074:=()
def tw17396462318363118784:=()
def tw10910473348951836688:=()
def tw14060742810114056812:=()
def tw16626836640765983480:=()
def tw10994188067221745844:=()
def tw11969315126172517455:=()
def tw13031284953281918634:=()
def tw923637977886494982:=()
def tw8648983745284662220:=()
def tw14620620138560779844:=()
def tw4999907761789124938:=()
def tw10186933817231891815:=()
def tw3358665057319029034:=()
def tw9529030167218209843:=()
def tw16904721992340549817:=()
def tw14501485222453842977:=()
def tw6616028732439122902:=()
def tw11926074053612004537:=()
def tw9659304078297643588:=()
def tw10286224168623261092:=()
def tw14413503267933542049:=()
def tw8551816163579917252:=()
def tw16364468998114308713:=()
def tw15814351444151965809:=()
def tw2688893280141905983:=()
def tw5881142044759108708:=()
def tw3871542918548005329:=()
def tw6998152249879478298:=()
def tw12944028994524403736:=()
def tw9331955947630145433:=()
def tw16758184856200902095:=()
def tw7594997945910440641:=()
def tw3995998833709676366:=()
def tw3254232815318403121:=()
def tw15710695899998223196:=()
def tw10274506423711626367:=()
def tw9549910199519673934:=()
def tw4443473959583003910:=()
def tw14798430371404884139:=()
def tw13596950702299252925:=()
def tw16949557476999644816:=()
def tw4672404340701605656:=()
def tw16348911794086968441:=()
def tw17179207924453644747:=()
def tw5153761049524946324:=()
def tw2858282782635273403:=()
def tw15626567249900765163:=()
def tw2950139046470561447:=()
def tw7597523358273748479:=()
def tw6702494973499185426:=()
def tw10192628889157932636:=()
def tw18389343331403555029:=()
def tw3236339950923034203:=()
def tw13072067855682690561:=()
def tw10870160920969052410:=()
def tw2104935119123414117:=()
def tw14046077231326288760:=()
def tw10231158838858715462:=()
def tw1510843874002361583:=()
def tw9320546390971691944:=()
def tw8945558033626091482:=()
def tw4362713853801084596:=()
def tw18235637646865464181:=()
def tw1510157553425652605:=()
def tw12941584592050102113:=()
def tw17397255646518431403:=()
def tw10624377830752791299:=()
def tw16481852657927903743:=()
def tw11329805696965311451:=()
def tw9878513723373977378:=()
def tw6681369438386978256:=()
def tw11779455880180251513:=()
def tw12681829944734030073:=()
def tw10420168134983966909:=()
def tw14883960903080370346:=()
def tw4546591714444790487:=()
def tw18382003530405523646:=()
def tw5966252163674508506:=()
def tw17160002733364306237:=()
def tw10819503575178676474:=()
def tw15982348647674543934:=()
def tw18134626275442337768:=()
def tw9655961087884486087:=()
def tw749469205806898367:=()
def tw11551870449896766670:=()
def tw5066423334724194125:=()
def tw4660329766933333175:=()
def tw8103491818633452799:=()
def tw11413012443423338768:=()
def tw3481336272698609381:=()
def tw7421305550719775408:=()
def tw9562113722410352731:=()
def tw1203188565670159748:=()
def tw5452118017930256000:=()
def tw1294069293892132041:=()
def tw3306109901294164443:=()
def tw8580550003218005834:=()
def tw16101711615433135984:=()
def tw5760713755698387601:=()
def tw13857766268152890311:=()
def tw5277241501451547364:=()
def tw3466843949955529372:=()
def tw416722087583681752:=()
def tw15767949846035169105:=()
def tw11939912997404827232:=()
def tw18307165252880088267:=()
def tw5082247295703642534:=()
def tw12411250019426231708:=()
def tw14038207330342502714:=()
def tw1678523524195788582:=()
def tw448599603624932827:=()
def tw18054478184409421180:=()
def tw13058147218076835516:=()
def tw9969808061366153218:=()
def tw10282775811363652692:=()
def tw15112451301015831145:=()
def tw8194105964322069556:=()
def tw1632794707647806093:=()
def tw6754518751496277825:=()
def tw15698281625625257585:=()
def tw9461579059795256002:=()
def tw16069233858991253284:=()
def tw2454741533175881279:=()
def tw5042586885475462833:=()
def tw14552132625858580480:=()
def tw14799534935640736368:=()
def tw10190415698872498775:=()
def tw589799393377256011:=()
def tw2390799038427821320:=()
def tw2495699547553432091:=()
def tw7624267208399983262:=()
def tw16534050201169750223:=()
def tw9257714369474789907:=()
def tw2562636085764578174:=()
def tw6415528379351004314:=()
def tw7908444011587448497:=()
def tw7030399072045684298:=()
def tw17115944390170962986:=()
def tw6750275956856615571:=()
def tw6298347618176963557:=()
def tw4169720509379721327:=()
def tw10833683140232866938:=()
def tw18106635929666510431:=()
def tw946677073681937881:=()
def tw10768213265686232492:=()
def tw17723834651809134329:=()
def tw13249797768753927607:=()
def tw5334255450580490579:=()
def tw5470311601106020554:=()
def tw5568599615601725870:=()
def tw1734201873069665293:=()
def tw3039170739152099544:=()
def tw7742843457495288533:=()
def tw17289601077705345503:=()
def tw10490542664916218031:=()
def tw4799883594537332278:=()
def tw65453127523582979:=()
def tw12199362990432013712:=()
def tw7157812484375223028:=()
def tw1046298607301758204:=()
def tw7242795067998915215:=()
def tw4754682587765213133:=()
def tw9904212811469383889:=()
def tw2730190714744077846:=()
def tw13591893041523443226:=()
def tw18141462029758529945:=()
def tw11861418381773337956:=()
def tw16666397251333303545:=()
def tw9893822927420955835:=()
def tw16561628437450598319:=()
def tw1972455235627114668:=()
def tw4133278668601060147:=()
def tw11257661415706236195:=()
def tw7161050105958545904:=()
def tw5917681911083922851:=()
def tw11445023926250647730:=()
def tw11717850178632416134:=()
def tw15838426724260981944:=()
def tw16556917040949370079:=()
def tw14231181123108818771:=()
def tw17251181917345505385:=()
def tw12562872346127625315:=()
def tw1451434891030974761:=()
def tw15781117842210654052:=()
def tw16743819181709715827:=()
def tw3508799208645349360:=()
def tw10620619581966638820:=()
def tw17264673627844963087:=()
def tw6968579262208718830:=()
def tw1163358431343336746:=()
def tw10805788614950309298:=()
def tw13635944841188455468:=()
def tw12783804787219393600:=()
def tw3463108777133890562:=()
def tw15032682475812718412:=()
def tw16861752731925321846:=()
def tw11788959794230052154:=()
def tw13704645758461293192:=()
def tw11856489047611015080:=()
def tw10886027518534042762:=()
def tw13566018887359429986:=()
def tw17219901382278322961:=()
def tw17203867361365043461:=()
def tw4127189381377119576:=()
def tw10353375224429957754:=()
def tw4697544518576790708:=()
def tw11014814780055787526:=()
def tw15921648076127024295:=()
def tw248578677037234406:=()
def tw6917118126241711161:=()
end PySem.W.Fast
set_option maxRecDepth 100000 in
set_option maxHeartbeats 0 in
theorem PySem.Challenge.cw_crystalwords_k18_refused_texts_holds : PySem.Challenge.rw_crystalwords_k18_refused_texts.Holds := by
  w_on; o_law; k_head; (case hw => w_witness2)
  k_fill
  refine L2.walkB (l := PySem.Challenge.rw_crystalwords_k18_refused_texts) (k := 10) (x := "_law_script") rfl rfl ⟨rfl, by decide, by decide⟩ (fun w h Y => PySem.W.kIn_of Y) ?F
  case F =>
    intro w mg fa h KX G hmg
    have T : ∃ t, Cw.Txt (L2.KOf KX) mg t := by
      dsimp only [L2.KOf]
      refine' Cw.txt_mk KX G ?n_CrystalError ?n_NoNumber ?n_NoChange ?n_NotKept ?n_TooMany ?n_NoDeed ?n_NoDrawing ?n_NoForm ?n_NoName ?n_NoPlace ?n_NoRow ?n_NoSheet ?n_NoText ?n_NotLeast ?n_NotWithin ?n_OffSheet ?n_copied ?l_copied ?c_copied ?k_copied ?n_divisor ?l_divisor ?c_divisor ?k_divisor ?n_place ?l_place ?c_place ?k_place ?n_without ?l_without ?c_without ?k_without ?n_determinant ?l_determinant ?c_determinant ?k_determinant ?n_joined ?l_joined ?c_joined ?k_joined ?n_deed ?l_deed ?c_deed ?k_deed ?n_read_whole ?l_read_whole ?c_read_whole ?k_read_whole ?n_read_fraction ?l_read_fraction ?c_read_fraction ?k_read_fraction ?n_read_signed ?l_read_signed ?c_read_signed ?k_read_signed ?n_read_amount ?l_read_amount ?c_read_amount ?k_read_amount ?n_terms_of ?l_terms_of ?c_terms_of ?k_terms_of ?n_read_part ?l_read_part ?c_read_part ?k_read_part ?n_parts_of ?l_parts_of ?c_parts_of ?k_parts_of ?n_common_under ?l_common_under ?c_common_under ?k_common_under ?n_read ?l_read ?c_read ?k_read ?n_law_cell_at ?l_law_cell_at ?c_law_cell_at ?k_law_cell_at ?n_law_whole ?l_law_whole ?c_law_whole ?k_law_whole ?n_law_common ?l_law_common ?c_law_common ?k_law_common ?n_law_odd ?l_law_odd ?c_law_odd ?k_law_odd ?n_law_term ?l_law_term ?c_law_term ?k_law_term ?n_law_part ?l_law_part ?c_law_part ?k_law_part ?n_law_text ?l_law_text ?c_law_text ?k_law_text ?n_law_number ?l_law_number ?c_law_number ?k_law_number ?n_law_alone ?l_law_alone ?c_law_alone ?k_law_alone ?n_law_row ?l_law_row ?c_law_row ?k_law_row ?n_law_sense ?l_law_sense ?c_law_sense ?k_law_sense ?n_law_due ?l_law_due ?c_law_due ?k_law_due ?n_law_kinds ?l_law_kinds ?c_law_kinds ?k_law_kinds ?n_law_later ?l_law_later ?c_law_later ?k_law_later ?n_law_only ?l_law_only ?c_law_only ?k_law_only ?n_law_right ?l_law_right ?c_law_right ?k_law_right ?n_law ?l_law ?c_law ?k_law ?n_LETTERS ?n_FIGURES ?n_MOST_FIGURES ?y_ValueError ?y_abs ?y_any ?y_bool ?y_enumerate ?y_int ?y_isinstance ?y_len ?y_list ?y_max ?y_min ?y_range ?y_reversed ?y_str ?y_sum ?y_tuple ?y_zip ?q_k_int ?q_k_ib ?q_k_tt ?q_k_ss ?q_x_NoText ?q_x_NoPlace ?q_x_NoDeed ?q_dm ?q_xm ?q_e_cg ?q_e_tk ?q_u_ga ?q_u_gt ?q_u_ca ?q_u_ob ?q_u_bx ?q_u_VE ?q_u_NoNumber ?q_u_NoChange ?q_u_NotKept ?q_u_TooMany ?q_u_NoDeed ?q_u_NoDrawing ?q_u_NoForm ?q_u_NoName ?q_u_NoPlace ?q_u_NoRow ?q_u_NoSheet ?q_u_NoText ?q_u_NotLeast ?q_u_NotWithin ?q_u_OffSheet
      (case n_CrystalError => k_is)
      (case n_NoNumber => k_is)
      (case n_NoChange => k_is)
      (case n_NotKept => k_is)
      (case n_TooMany => k_is)
      (case n_NoDeed => k_is)
      (case n_NoDrawing => k_is)
      (case n_NoForm => k_is)
      (case n_NoName => k_is)
      (case n_NoPlace => k_is)
      (case n_NoRow => k_is)
      (case n_NoSheet => k_is)
      (case n_NoText => k_is)
      (case n_NotLeast => k_is)
      (case n_NotWithin => k_is)
      (case n_OffSheet => k_is)
      (case n_copied => k_is)
      (case l_copied => k_is)
      (case c_copied => k_is)
      (case k_copied => k_is)
      (case n_divisor => k_is)
      (case l_divisor => k_is)
      (case c_divisor => k_is)
      (case k_divisor => k_is)
      (case n_place => k_is)
      (case l_place => k_is)
      (case c_place => k_is)
      (case k_place => k_is)
      (case n_without => k_is)
      (case l_without => k_is)
      (case c_without => k_is)
      (case k_without => k_is)
      (case n_determinant => k_is)
      (case l_determinant => k_is)
      (case c_determinant => k_is)
      (case k_determinant => k_is)
      (case n_joined => k_is)
      (case l_joined => k_is)
      (case c_joined => k_is)
      (case k_joined => k_is)
      (case n_deed => k_is)
      (case l_deed => k_is)
      (case c_deed => k_is)
      (case k_deed => k_is)
      (case n_read_whole => k_is)
      (case l_read_whole => k_is)
      (case c_read_whole => k_is)
      (case k_read_whole => k_is)
      (case n_read_fraction => k_is)
      (case l_read_fraction => k_is)
      (case c_read_fraction => k_is)
      (case k_read_fraction => k_is)
      (case n_read_signed => k_is)
      (case l_read_signed => k_is)
      (case c_read_signed => k_is)
      (case k_read_signed => k_is)
      (case n_read_amount => k_is)
      (case l_read_amount => k_is)
      (case c_read_amount => k_is)
      (case k_read_amount => k_is)
      (case n_terms_of => k_is)
      (case l_terms_of => k_is)
      (case c_terms_of => k_is)
      (case k_terms_of => k_is)
      (case n_read_part => k_is)
      (case l_read_part => k_is)
      (case c_read_part => k_is)
      (case k_read_part => k_is)
      (case n_parts_of => k_is)
      (case l_parts_of => k_is)
      (case c_parts_of => k_is)
      (case k_parts_of => k_is)
      (case n_common_under => k_is)
      (case l_common_under => k_is)
      (case c_common_under => k_is)
      (case k_common_under => k_is)
      (case n_read => k_is)
      (case l_read => k_is)
      (case c_read => k_is)
      (case k_read => k_is)
      (case n_law_cell_at => k_is)
      (case l_law_cell_at => k_is)
      (case c_law_cell_at => k_is)
      (case k_law_cell_at => k_is)
      (case n_law_whole => k_is)
      (case l_law_whole => k_is)
      (case c_law_whole => k_is)
      (case k_law_whole => k_is)
      (case n_law_common => k_is)
      (case l_law_common => k_is)
      (case c_law_common => k_is)
      (case k_law_common => k_is)
      (case n_law_odd => k_is)
      (case l_law_odd => k_is)
      (case c_law_odd => k_is)
      (case k_law_odd => k_is)
      (case n_law_term => k_is)
      (case l_law_term => k_is)
      (case c_law_term => k_is)
      (case k_law_term => k_is)
      (case n_law_part => k_is)
      (case l_law_part => k_is)
      (case c_law_part => k_is)
      (case k_law_part => k_is)
      (case n_law_text => k_is)
      (case l_law_text => k_is)
      (case c_law_text => k_is)
      (case k_law_text => k_is)
      (case n_law_number => k_is)
      (case l_law_number => k_is)
      (case c_law_number => k_is)
      (case k_law_number => k_is)
      (case n_law_alone => k_is)
      (case l_law_alone => k_is)
      (case c_law_alone => k_is)
      (case k_law_alone => k_is)
      (case n_law_row => k_is)
      (case l_law_row => k_is)
      (case c_law_row => k_is)
      (case k_law_row => k_is)
      (case n_law_sense => k_is)
      (case l_law_sense => k_is)
      (case c_law_sense => k_is)
      (case k_law_sense => k_is)
      (case n_law_due => k_is)
      (case l_law_due => k_is)
      (case c_law_due => k_is)
      (case k_law_due => k_is)
      (case n_law_kinds => k_is)
      (case l_law_kinds => k_is)
      (case c_law_kinds => k_is)
      (case k_law_kinds => k_is)
      (case n_law_later => k_is)
      (case l_law_later => k_is)
      (case c_law_later => k_is)
      (case k_law_later => k_is)
      (case n_law_only => k_is)
      (case l_law_only => k_is)
      (case c_law_only => k_is)
      (case k_law_only => k_is)
      (case n_law_right => k_is)
      (case l_law_right => k_is)
      (case c_law_right => k_is)
      (case k_law_right => k_is)
      (case n_law => k_is)
      (case l_law => k_is)
      (case c_law => k_is)
      (case k_law => k_is)
      (case n_LETTERS => k_is)
      (case n_FIGURES => k_is)
      (case n_MOST_FIGURES => k_is)
      (case y_ValueError => k_is)
      (case y_abs => k_is)
      (case y_any => k_is)
      (case y_bool => k_is)
      (case y_enumerate => k_is)
      (case y_int => k_is)
      (case y_isinstance => k_is)
      (case y_len => k_is)
      (case y_list => k_is)
      (case y_max => k_is)
      (case y_min => k_is)
      (case y_range => k_is)
      (case y_reversed => k_is)
      (case y_str => k_is)
      (case y_sum => k_is)
      (case y_tuple => k_is)
      (case y_zip => k_is)
      (case q_k_int => kit_is)
      (case q_k_ib => kit_is)
      (case q_k_tt => kit_is)
      (case q_k_ss => kit_is)
      (case q_x_NoText => k_exc)
      (case q_x_NoPlace => k_exc)
      (case q_x_NoDeed => k_exc)
      (case q_dm => kts_exm)
      (case q_xm => kts_exm)
      (case q_e_cg => k_is)
      (case q_e_tk => k_is)
      (case q_u_ga => k_is)
      (case q_u_gt => k_is)
      (case q_u_ca => k_is)
      (case q_u_ob => k_is)
      (case q_u_bx => k_is)
      (case q_u_VE => kit_is)
      (case q_u_NoNumber => kit_is)
      (case q_u_NoChange => kit_is)
      (case q_u_NotKept => kit_is)
      (case q_u_TooMany => kit_is)
      (case q_u_NoDeed => kit_is)
      (case q_u_NoDrawing => kit_is)
      (case q_u_NoForm => kit_is)
      (case q_u_NoName => kit_is)
      (case q_u_NoPlace => kit_is)
      (case q_u_NoRow => kit_is)
      (case q_u_NoSheet => kit_is)
      (case q_u_NoText => kit_is)
      (case q_u_NotLeast => kit_is)
      (case q_u_NotWithin => kit_is)
      (case q_u_OffSheet => kit_is)
    obtain ⟨t, T⟩ := T
    have e0 := hmg.symm.trans T.m_law
    cases e0
    exact ⟨t.d_law, T.bl, fun base kb nb => Cw.ok_law T⟩
#print axioms PySem.Challenge.cw_crystalwords_k18_refused_texts_holds
