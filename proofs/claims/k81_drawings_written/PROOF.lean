import PyProof.Rows.All
import Wide.All
import OpenK.AllK
import Wide.FinOn
import Lean
import PyProof.EqAt
import PyProof.EqKinds
import PyProof.TupleCall
import PySem.Challenge.RW_crystalwords_k81_drawings_written
set_option Elab.async false
set_option linter.all false
set_option maxRecDepth 100000
/-! THE HAND LAYER, for ints, bools, texts, own classes, LISTS and tuples (index, slices, in, append, pop ..), calls, loops. Paste it whole ahead of your own text; what your proof does not reach may be deleted. -/
namespace L2
open PySem PySem.Spec PyProof.Rows

/-- a key: an int or a str -/
noncomputable abbrev Key := Sum Int Str
noncomputable def keyIs : Key → Value → Bool
  | .inl k, v => Value.isInt k v
  | .inr x, v => Value.isStrOf x v
noncomputable def keyH (w : World) : Key → Int
  | .inl k => hashInt k
  | .inr x => hashStr w x
theorem keyIs_shape : ∀ {k : Key} {v : Value}, keyIs k v = true → (∃ i t, k = Sum.inl i ∧ v = Value.int i t) ∨ (∃ x t, k = Sum.inr x ∧ v = Value.str x t)
  | .inl i, v, h => by
    obtain ⟨t, e⟩ := Value.isInt_shape (k := i) (v := v) h
    exact .inl ⟨i, t, rfl, e⟩
  | .inr x, v, h => by
    obtain ⟨t, e⟩ := Value.isStrOf_shape (x := x) (v := v) h
    exact .inr ⟨x, t, rfl, e⟩
theorem key_ll (a b : Int) : decide ((Sum.inl a : Key) = Sum.inl b) = (a == b) := by
  by_cases e : a = b
  · subst e; simp
  · have h : ¬ (Sum.inl a : Key) = Sum.inl b := fun q => e (Sum.inl.inj q)
    rw [decide_eq_false h]
    exact (beq_eq_false_iff_ne.mpr e).symm
theorem key_rr (a b : Str) : decide ((Sum.inr a : Key) = Sum.inr b) = decide (a = b) := by
  by_cases e : a = b
  · subst e; simp
  · have h : ¬ (Sum.inr a : Key) = Sum.inr b := fun q => e (Sum.inr.inj q)
    rw [decide_eq_false h, decide_eq_false e]
theorem key_lr (a : Int) (b : Str) : decide ((Sum.inl a : Key) = Sum.inr b) = false := decide_eq_false (fun q => nomatch q)
theorem key_rl (a : Str) (b : Int) : decide ((Sum.inr a : Key) = Sum.inl b) = false := decide_eq_false (fun q => nomatch q)

noncomputable def mixKind (prog : Program) (w : World) : PySem.KeyKind prog w Key where
  is := keyIs
  hash := keyH w
  inj := fun v a b ha hb => by
    rcases keyIs_shape ha with ⟨i, t, rfl, rfl⟩ | ⟨x, t, rfl, rfl⟩
    · rcases keyIs_shape hb with ⟨j, u, rfl, e⟩ | ⟨y, u, rfl, e⟩
      · injection e with e1 _; rw [e1]
      · exact nomatch e
    · rcases keyIs_shape hb with ⟨j, u, rfl, e⟩ | ⟨y, u, rfl, e⟩
      · exact nomatch e
      · injection e with e1 _; rw [e1]
  byValue := fun k v h => by
    rcases keyIs_shape h with ⟨i, t, rfl, rfl⟩ | ⟨x, t, rfl, rfl⟩ <;> rfl
  pyHash := fun hv h => by
    rcases keyIs_shape hv with ⟨i, t, rfl, rfl⟩ | ⟨x, t, rfl, rfl⟩
    · exact wpAny_pyHash_int h
    · exact wpAny_pyHash_str h
  eqBool := fun hu hv h => by
    rcases keyIs_shape hu with ⟨i, t, rfl, rfl⟩ | ⟨x, t, rfl, rfl⟩
    · rcases keyIs_shape hv with ⟨j, u, rfl, rfl⟩ | ⟨y, u, rfl, rfl⟩
      · rw [key_ll] at h; exact wpAny_eqBool_int h
      · rw [key_lr] at h; exact SeqAt.EqAt.int_str i t y u _ _ _ _ h
    · rcases keyIs_shape hv with ⟨j, u, rfl, rfl⟩ | ⟨y, u, rfl, rfl⟩
      · rw [key_rl] at h; exact SeqAt.EqAt.str_int x t j u _ _ _ _ h
      · rw [key_rr] at h; exact wpAny_eqBool_str h
  «strs» := fun k x t v h => by
    rcases keyIs_shape h with ⟨i, u, rfl, e⟩ | ⟨y, u, rfl, e⟩
    · exact nomatch e
    · injection e with e1 _
      subst e1
      cases v <;> rfl

end L2

namespace L2
open PySem PySem.Spec PyProof.Rows

/-- a value, without the heap -/
inductive V where
  | non | bl (b : Bool) | int (i : Int) | str (x : Str) | byt (b : Array UInt8) | flt (b : UInt64) | ref (a : Addr) | ty (n : String)
  deriving DecidableEq

noncomputable def RelV : V → Value → Prop
  | .non, u => u = Value.none
  | .bl b, u => u = Value.bool b
  | .int i, u => ∃ t, u = Value.int i t
  | .str x, u => ∃ t, u = Value.str x t
  | .byt b, u => ∃ t, u = Value.bytes b t
  | .flt b, u => ∃ t, u = Value.float b t
  | .ref a, u => u = Value.ref a
  | .ty n, u => u = Value.type n

noncomputable abbrev Vals : List V → List Value → Prop := Paired RelV
theorem Vals.length {xs : List V} {us : List Value} (r : Vals xs us) : xs.length = us.length := Paired.length r
theorem Vals.get : ∀ {xs : List V} {us : List Value} {i : Nat} {x : V}, Vals xs us → xs[i]? = some x → ∃ u, us[i]? = some u ∧ RelV x u
  | _, _, _, _, .nil, e => by simp at e
  | _, _, 0, _, .cons r _, e => by simp at e; subst e; exact ⟨_, rfl, r⟩
  | _, _, i + 1, x, .cons _ t, e => by
    obtain ⟨u, h1, h2⟩ := Vals.get (i := i) (x := x) t (by simpa using e)
    exact ⟨u, by simpa using h1, h2⟩
theorem Vals.set {x : V} {u : Value} (r : RelV x u) : ∀ {xs : List V} {us : List Value} (i : Nat), Vals xs us → Vals (xs.set i x) (us.set i u)
  | _, _, _, .nil => .nil
  | _, _, 0, .cons _ t => .cons r t
  | _, _, i + 1, .cons q t => .cons q (Vals.set r i t)
theorem Vals.append : ∀ {xs ys : List V} {us ws : List Value}, Vals xs us → Vals ys ws → Vals (xs ++ ys) (us ++ ws)
  | _, _, _, _, .nil, s => s
  | _, _, _, _, .cons r t, s => .cons r (Vals.append t s)
theorem Vals.take : ∀ {xs : List V} {us : List Value} (n : Nat), Vals xs us → Vals (xs.take n) (us.take n)
  | _, _, 0, _ => .nil
  | _, _, _ + 1, .nil => .nil
  | _, _, n + 1, .cons r t => .cons r (Vals.take n t)
noncomputable def RelO : Option V → Option Value → Prop
  | some v, some u => RelV v u
  | none, none => True
  | _, _ => False
noncomputable def KV {κ : Type} : List (κ × V) → List (κ × Value) → Prop := Paired fun (p : κ × V) (q : κ × Value) => p.1 = q.1 ∧ RelV p.2 q.2

/-- a key of a dict (00_mix): an int or a text -/
noncomputable def kV : Key → V
  | .inl i => .int i
  | .inr x => .str x

/-- what stands at a tracked address -/
inductive HO where
  /-- a list -/
  | lst (xs : List V)
  /-- a tuple (never changes) -/
  | tup (xs : List V)
  /-- a dict whose keys are ints and texts; one whose keys are tuples of ints and texts (the empty one is both) -/
  | dK (kvs : List (Key × V)) | dT (kvs : List (List Key × V))
  /-- a set of ints: its members, its size -/
  | set (S : Int → Bool) (n : Nat)
  /-- an instance of the class at C, its dict at dx, its attributes -/
  | ins (C dx : Addr) (fs : List (Str × V))
  /-- the dict of the instance at x -/
  | own (x : Addr)
  /-- the dict of an exception -/
  | xd (fs : List (Str × V))
  /-- a bound method, f of x -/
  | met (f x : Addr)
  /-- a range object lo, lo + 1, .. below hi -/
  | rng (lo hi : Int)
  /-- a thing that is known to the object (the script; a dict while a loop walks it): read, never written while it is so -/
  | frz (o : Obj) (u : HO)
  /-- a code object's table -/
  | tbl (ps : Array Value)
  /-- any other thing, by what is true of its one object (a def of one's own: SetO a S n := HO.ext fun h => ..) -/
  | ext (φ : Heap → Prop)

noncomputable abbrev Hp := Addr → Option HO
noncomputable def upd (H : Hp) (a : Addr) (o : HO) : Hp := fun b => if b = a then some o else H b
theorem upd_same {H : Hp} {a : Addr} {o : HO} : upd H a o a = some o := by unfold upd; rw [if_pos rfl]
theorem upd_ne {H : Hp} {a b : Addr} {o : HO} (h : b ≠ a) : upd H a o b = H b := by unfold upd; rw [if_neg h]
theorem ne_of_none {H : Hp} {a b : Addr} {o : HO} (h : H a = some o) (h' : H b = none) : a ≠ b := by
  intro e; subst e; rw [h] at h'; cases h'

section
variable (P : Program) (w : World)
noncomputable def ObjOk (H : Hp) (h : Heap) (a : Addr) : HO → Prop
  | .lst xs => xs.length ≤ sizeLine ∧ ∃ (its : List Value) (n : Nat), Vals xs its ∧ h.get? a = some { cls := .type "list", data := .seq its.toArray n }
  | .tup xs => xs.length ≤ sizeLine ∧ ∃ its : List Value, Vals xs its ∧ IsTup h a its.toArray
  | .dK kvs => kvs.length ≤ sizeLine ∧ (a == sysModules) = false ∧ ∃ vs, KV kvs vs ∧ h.DictOf (mixKind P w) a vs
  | .dT kvs => kvs.length ≤ sizeLine ∧ (a == sysModules) = false ∧ ∃ xs : List (List Key × Addr × Value),
      Paired (fun (p : List Key × V) (q : List Key × Addr × Value) => p.1 = q.1 ∧ H q.2.1 = some (.tup (p.1.map kV)) ∧ RelV p.2 q.2.2) kvs xs ∧
      ∃ o es ep, h.get? a = some o ∧ o.ExactDict ∧ o.data = .dict es ep ∧ es.toList = xs.map (entryOfKey (tupleKind (mixKind P w))) ∧ (xs.map (·.1)).Nodup
  | .set S n => h.SetOf (intKind P w) a S n
  | .ins C dx fs => H dx = some (.own a) ∧ fs.length ≤ 1000 ∧ dx ≠ a ∧ h.get? a = some (PySem.W.instObj C dx) ∧
      ∃ mA, h.Ns1 dx mA ∧ (∀ f, RelO (fs.lookup f) (mA f)) ∧ PySem.Within mA (fs.map (·.1))
  | .own _ => ∃ o, h.get? a = some o
  | .xd fs => ∃ mA, h.Ns1 a mA ∧ ∀ f, RelO (fs.lookup f) (mA f)
  | .rng lo hi => ∃ t u v, h.get? a = some { cls := .type "range", data := .fields #[.int lo t, .int hi u, .int 1 v] }
  | .frz o u => h.get? a = some o ∧ ObjOk H h a u
  | .tbl ps => h.get? a = some { cls := .none, data := .fields ps }
  | .met f x => h.get? a = some (PySem.W.methodObj (.ref f) (.ref x))
  | .ext φ => φ h ∧ (∃ o, h.get? a = some o) ∧ ∀ h1 h2 : Heap, φ h1 → (∀ o, h1.get? a = some o → h2.get? a = some o) → φ h2
/-- the abstract heap is held -/
noncomputable def HOk (H : Hp) (h : Heap) : Prop := ∀ a o, H a = some o → ObjOk P w H h a o
end

section
variable {P : Program} {w : World} {H H' : Hp} {h h' : Heap} {a : Addr} {o : HO}
theorem ObjOk.lt (x : ObjOk P w H h a o) : a < h.objs.size := by
  cases o with
  | lst xs => obtain ⟨_, _, _, _, e⟩ := x; exact Heap.lt_size e
  | tup xs => obtain ⟨_, _, _, p⟩ := x; exact p.lt
  | dK kvs => obtain ⟨_, _, _, _, o, _, _, e, _⟩ := x; exact Heap.lt_size e
  | dT kvs => obtain ⟨_, _, _, _, o, _, _, e, _⟩ := x; exact Heap.lt_size e
  | set S n => obtain ⟨o, _, _, _, e, _⟩ := x; exact Heap.lt_size e
  | ins C dx fs => obtain ⟨_, _, _, e, _⟩ := x; exact Heap.lt_size e
  | own y => obtain ⟨_, e⟩ := x; exact Heap.lt_size e
  | xd fs => obtain ⟨_, ⟨_, _, _, e, _⟩, _⟩ := x; exact Heap.lt_size e
  | rng lo hi => obtain ⟨_, _, _, e⟩ := x; exact Heap.lt_size e
  | frz ob u => obtain ⟨e, _⟩ := x; exact Heap.lt_size e
  | tbl ps => exact Heap.lt_size (show h.get? a = some _ from x)
  | met f y => exact Heap.lt_size (show h.get? a = some _ from x)
  | ext φ => obtain ⟨_, ⟨_, e⟩, _⟩ := x; exact Heap.lt_size e
theorem Paired.mapP {α β : Type} {F G : α → β → Prop} : ∀ {l₁ : List α} {l₂ : List β}, Paired F l₁ l₂ → (∀ a b, F a b → G a b) → Paired G l₁ l₂
  | _, _, .nil, _ => .nil
  | _, _, .cons r t, f => .cons (f _ _ r) (Paired.mapP t f)
/-- what an object's description leans on: its own object, its own dict, the tuples -/
theorem ObjOk.stay (x : ObjOk P w H h a o) (k : ∀ b u, (b = a ∨ H b = some (.own a)) → h.get? b = some u → h'.get? b = some u)
    (ho : ∀ b, H b = some (.own a) → H' b = some (.own a)) (ht : ∀ b xs, H b = some (.tup xs) → H' b = some (.tup xs)) : ObjOk P w H' h' a o := by
  induction o with
  | lst xs => obtain ⟨z, its, n, r, e⟩ := x; exact ⟨z, its, n, r, k _ _ (.inl rfl) e⟩
  | tup xs => obtain ⟨z, its, r, ob, e, c⟩ := x; exact ⟨z, its, r, ob, k _ _ (.inl rfl) e, c⟩
  | dK kvs => obtain ⟨z, y, vs, r, ob, es, ep, e, c⟩ := x; exact ⟨z, y, vs, r, ob, es, ep, k _ _ (.inl rfl) e, c⟩
  | dT kvs =>
    obtain ⟨z, y, xs, r, ob, es, ep, e, c⟩ := x
    exact ⟨z, y, xs, Paired.mapP r fun p q z => ⟨z.1, ht _ _ z.2.1, z.2.2⟩, ob, es, ep, k _ _ (.inl rfl) e, c⟩
  | set S n => obtain ⟨ob, es, ep, t, e, c⟩ := x; exact ⟨ob, es, ep, t, k _ _ (.inl rfl) e, c⟩
  | ins C dx fs =>
    obtain ⟨d, z, ne, e, mA, ⟨od, es, ep, e2, c⟩, r⟩ := x
    exact ⟨ho _ d, z, ne, k _ _ (.inl rfl) e, mA, ⟨od, es, ep, k _ _ (.inr d) e2, c⟩, r⟩
  | own y => obtain ⟨ob, e⟩ := x; exact ⟨ob, k _ _ (.inl rfl) e⟩
  | xd fs => obtain ⟨mA, ⟨od, es, ep, e, c⟩, r⟩ := x; exact ⟨mA, ⟨od, es, ep, k _ _ (.inl rfl) e, c⟩, r⟩
  | rng lo hi => obtain ⟨t, u, v, e⟩ := x; exact ⟨t, u, v, k _ _ (.inl rfl) e⟩
  | frz ob u ih => obtain ⟨e, q⟩ := x; exact ⟨k _ _ (.inl rfl) e, ih q⟩
  | tbl ps =>
    have e : h.get? a = some { cls := .none, data := .fields ps } := x
    show h'.get? a = some { cls := .none, data := .fields ps }
    exact k a _ (.inl rfl) e
  | met f y =>
    have e : h.get? a = some (PySem.W.methodObj (.ref f) (.ref y)) := x
    show h'.get? a = some (PySem.W.methodObj (.ref f) (.ref y))
    exact k a _ (.inl rfl) e
  | ext φ => obtain ⟨p, ⟨o, e⟩, st⟩ := x; exact ⟨st _ _ p fun o q => k _ _ (.inl rfl) q, ⟨o, k _ _ (.inl rfl) e⟩, st⟩
theorem HOk.lt (x : HOk P w H h) (e : H a = some o) : a < h.objs.size := (x a o e).lt
theorem HOk.fresh (x : HOk P w H h) (e : h.objs.size ≤ a) : H a = none := by
  cases q : H a with
  | none => rfl
  | some u => exact absurd (Nat.lt_of_lt_of_le (x.lt q) e) (Nat.lt_irrefl _)
/-- every object of the heap is kept -/
theorem HOk.kept (x : HOk P w H h) (k : ∀ b u, h.get? b = some u → h'.get? b = some u) : HOk P w H h' := fun a o e =>
  (x a o e).stay (fun b u _ q => k b u q) (fun _ q => q) fun _ _ q => q
/-- a new object is laid and tracked -/
theorem HOk.laid (x : HOk P w H h) (k : ∀ b u, h.get? b = some u → h'.get? b = some u) (hp : h.objs.size ≤ a) (new : ObjOk P w (upd H a o) h' a o) : HOk P w (upd H a o) h' := fun b u e => by
  have hn := x.fresh hp
  by_cases hb : b = a
  · subst hb; rw [upd_same] at e; cases e; exact new
  · rw [upd_ne hb] at e
    exact (x b u e).stay (fun c v _ q => k c v q) (fun c q => by rw [upd_ne (ne_of_none q hn)]; exact q) fun c xs q => by rw [upd_ne (ne_of_none q hn)]; exact q
end

/-- what may be read as u: it is u, or a known u -/
noncomputable def Rd (H : Hp) (a : Addr) (u : HO) : Prop := H a = some u ∨ ∃ o, H a = some (.frz o u)
theorem Rd.of {H : Hp} {a : Addr} {u : HO} (h : H a = some u) : Rd H a u := .inl h
theorem Rd.ok {P : Program} {w : World} {H : Hp} {h : Heap} {a : Addr} {u : HO} (r : Rd H a u) (x : HOk P w H h) : ObjOk P w H h a u := by
  rcases r with r | ⟨o, r⟩
  · exact x a u r
  · obtain ⟨_, q⟩ := x a _ r
    exact q
/-- what may be written -/
noncomputable def Mut : Option HO → Prop
  | some (.lst _) => True
  | some (.dK _) => True
  | some (.dT _) => True
  | some (.set _ _) => True
  | some (.ins _ _ _) => True
  | some (.ext _) => True
  | _ => False
section
variable {P : Program} {w : World} {H : Hp} {h h' : Heap} {x e : Addr} {o' : HO}
/-- the object at e is changed: x itself, or the dict of the instance x -/
theorem HOk.write (ok : HOk P w H h) (mu : Mut (H x)) (he : e = x ∨ H e = some (.own x)) (k : ∀ b u, b ≠ e → h.get? b = some u → h'.get? b = some u) (heo : ∃ u, h'.get? e = some u)
    (new : ObjOk P w (upd H x o') h' x o') : HOk P w (upd H x o') h' := fun b u q => by
  have nown : ∀ c y, H c = some (.own y) → c ≠ x := fun c y r z => by subst z; rw [r] at mu; exact mu
  have ntup : ∀ c xs, H c = some (.tup xs) → c ≠ x := fun c xs r z => by subst z; rw [r] at mu; exact mu
  by_cases hb : b = x
  · subst hb; rw [upd_same] at q; cases q; exact new
  · rw [upd_ne hb] at q
    by_cases hbe : b = e
    · have q' : H b = some (.own x) := by
        rcases he with z | z
        · exact absurd (hbe.trans z) hb
        · rw [hbe]; exact z
      rw [q] at q'; cases q'
      obtain ⟨v, hv⟩ := heo
      exact ⟨v, by rw [hbe]; exact hv⟩
    · refine (ok b u q).stay (fun c v hc r => k c v ?_ r) (fun c r => by rw [upd_ne (nown c b r)]; exact r) fun c xs r => by rw [upd_ne (ntup c xs r)]; exact r
      rcases hc with rfl | hc
      · exact hbe
      · rintro rfl
        rcases he with z | z
        · exact nown c b hc z
        · rw [hc] at z; cases z; exact hb rfl
end

/-! ### kept unless tracked; of the frames at fs (the callers') the slots may change (an exception that passes writes there); of the records at ex (iterators) nothing is said -/
structure Un (fs ex : List Addr) (H H' : Hp) (h h' : Heap) : Prop where
  keep : ∀ b o, h.get? b = some o → H b = none → b ∉ fs → b ∉ ex → h'.get? b = some o
  slot : ∀ b o, h.get? b = some o → H b = none → b ∈ fs → b ∉ ex → ∃ sl, h'.get? b = some { o with slots := sl }
  free : ∀ b o, h.get? b = some o → H b = none → b ∉ ex → H' b = none
  there : ∀ b o, h.get? b = some o → b ∉ ex → ∃ o', h'.get? b = some o'
  tups : ∀ b xs, H b = some (.tup xs) → H' b = some (.tup xs)
  frzs : ∀ b o u, H b = some (.frz o u) → H' b = some (.frz o u)
  tbls : ∀ b ps, H b = some (.tbl ps) → ∃ more, H' b = some (.tbl (ps ++ more))
section
variable {fs fs' ex ex' : List Addr} {H H1 H2 : Hp} {h h1 h2 h' : Heap} {a x e : Addr} {o : HO}
theorem Un.any (u : Un fs ex H H1 h h1) {b : Addr} {ob : Obj} (q : h.get? b = some ob) (n : H b = none) (hx : b ∉ ex) : ∃ sl, h1.get? b = some { ob with slots := sl } := by
  by_cases hb : b ∈ fs
  · exact u.slot b ob q n hb hx
  · exact ⟨ob.slots, u.keep b ob q n hb hx⟩
theorem Un.trans (a : Un fs ex H H1 h h1) (b : Un fs ex H1 H2 h1 h2) : Un fs ex H H2 h h2 where
  keep := fun c ob q n hc hx => b.keep c ob (a.keep c ob q n hc hx) (a.free c ob q n hx) hc hx
  slot := fun c ob q n hc hx => by
    obtain ⟨sl, e1⟩ := a.slot c ob q n hc hx
    obtain ⟨sl', e2⟩ := b.slot c _ e1 (a.free c ob q n hx) hc hx
    exact ⟨sl', e2⟩
  free := fun c ob q n hx => by
    obtain ⟨o', e1⟩ := a.there c ob q hx
    exact b.free c o' e1 (a.free c ob q n hx) hx
  there := fun c ob q hx => by
    obtain ⟨o', e1⟩ := a.there c ob q hx
    exact b.there c o' e1 hx
  tups := fun c xs q => b.tups c xs (a.tups c xs q)
  frzs := fun c ob xs q => b.frzs c ob xs (a.frzs c ob xs q)
  tbls := fun c ps q => by
    obtain ⟨m1, e1⟩ := a.tbls c ps q
    obtain ⟨m2, e2⟩ := b.tbls c _ e1
    exact ⟨m1 ++ m2, by rw [e2, Array.append_assoc]⟩
theorem Un.kept (k : ∀ b u, h.get? b = some u → h'.get? b = some u) : Un fs ex H H h h' :=
  ⟨fun b ob q _ _ _ => k b ob q, fun b ob q _ _ _ => ⟨ob.slots, k b ob q⟩, fun _ _ _ n _ => n, fun b ob q _ => ⟨ob, k b ob q⟩, fun _ _ q => q, fun _ _ _ q => q, fun _ ps q => ⟨#[], by rw [q]; simp⟩⟩
theorem Un.refl : Un fs ex H H h h := Un.kept fun _ _ q => q
theorem Un.laid (k : ∀ b u, h.get? b = some u → h'.get? b = some u) (hp : h.objs.size ≤ a) (hn : H a = none) : Un fs ex H (upd H a o) h h' where
  keep := fun b u q _ _ _ => k b u q
  slot := fun b u q _ _ _ => ⟨u.slots, k b u q⟩
  free := fun b u q n _ => by rw [upd_ne (Nat.ne_of_lt (Nat.lt_of_lt_of_le (Heap.lt_size q) hp))]; exact n
  there := fun b u q _ => ⟨u, k b u q⟩
  tups := fun b xs q => by rw [upd_ne (ne_of_none q hn)]; exact q
  frzs := fun b u xs q => by rw [upd_ne (ne_of_none q hn)]; exact q
  tbls := fun b ps q => ⟨#[], by rw [upd_ne (ne_of_none q hn), q]; simp⟩
theorem Un.write (mu : Mut (H x)) (he : e = x ∨ H e = some (.own x)) (k : ∀ b u, b ≠ e → h.get? b = some u → h'.get? b = some u) (heo : ∃ u, h'.get? e = some u) : Un fs ex H (upd H x o) h h' := by
  have hx : ∀ b, H b = none → b ≠ x := fun b n z => by subst z; rw [n] at mu; exact mu
  have hb : ∀ b, H b = none → b ≠ e := fun b n z => by
    subst z
    rcases he with r | r
    · exact hx b n r
    · rw [n] at r; cases r
  have hm : ∀ b u, H b = some u → ¬ Mut (some u) → b ≠ x := fun b u q nm z => by subst z; rw [q] at mu; exact nm mu
  refine ⟨fun b u q n _ _ => k b u (hb b n) q, fun b u q n _ _ => ⟨u.slots, k b u (hb b n) q⟩, fun b u q n _ => by rw [upd_ne (hx b n)]; exact n, fun b u q _ => ?_,
    fun b xs q => by rw [upd_ne (hm b _ q fun z => z)]; exact q, fun b u xs q => by rw [upd_ne (hm b _ q fun z => z)]; exact q, fun b ps q => ⟨#[], by rw [upd_ne (hm b _ q fun z => z), q]; simp⟩⟩
  by_cases hbe : b = e
  · subst hbe; exact heo
  · exact ⟨u, k b u hbe q⟩
theorem Un.mono (u : Un fs ex H H1 h h1) (hs : ∀ b ∈ fs, b ∈ fs') (hx : ∀ b ∈ ex, b ∈ ex') : Un fs' ex' H H1 h h1 :=
  ⟨fun b ob q n hb he => u.keep b ob q n (fun z => hb (hs b z)) fun z => he (hx b z), fun _ _ q n _ he => u.any q n fun z => he (hx _ z), fun b ob q n he => u.free b ob q n fun z => he (hx b z), fun b ob q he => u.there b ob q fun z => he (hx b z), u.tups, u.frzs, u.tbls⟩
end

/-! ### the heap without what is tracked -/
noncomputable def trk (h : Heap) (H : Hp) : List Addr := (List.range h.objs.size).filter fun a => (H a).isSome
noncomputable def hidT (h : Heap) (H : Hp) : Heap := PySem.W.hideAll h (trk h H)
theorem hidT_size (h : Heap) (H : Hp) : (hidT h H).objs.size = h.objs.size := PySem.W.hideAll_size _ _
theorem hidT_get {h : Heap} {H : Hp} {b : Addr} {o : Obj} (e : h.get? b = some o) (n : H b = none) : (hidT h H).get? b = some o :=
  PySem.W.hideAll_get _ e fun hm => by
    have q : (H b).isSome = true := (List.mem_filter.mp hm).2
    rw [n] at q; simp at q
theorem of_hidT {h : Heap} {H : Hp} {b : Addr} {o : Obj} (e : (hidT h H).get? b = some o) : h.get? b = some o ∧ H b = none := by
  have e' : h.get? b = some o := PySem.W.of_hideAll (trk h H) e
  refine ⟨e', ?_⟩
  cases q : H b with
  | none => rfl
  | some x =>
    have hm : b ∈ trk h H := List.mem_filter.mpr ⟨List.mem_range.mpr (Heap.lt_size e'), by simp [q]⟩
    have z : (hidT h H).get? b = none := PySem.W.hideAll_none (trk h H) hm
    rw [z] at e; cases e

/-! ### OpenK's ledger, filled with every new object but one -/
noncomputable def allNews (g h : Heap) (L : Addr) : List (Addr × Obj) := (List.range h.objs.size).filterMap fun a => if a = L ∨ (g.get? a).isSome = true then none else (h.get? a).map fun o => (a, o)
noncomputable def rest (g h : Heap) (L d : Addr) : List (Addr × Obj) := (allNews g h L).filter fun p => decide (p.1 ≠ d)
end L2

namespace L2
open PySem PySem.Spec PyProof.Rows

/-- the module's facts, over the base: the heap at the law's entry without what is tracked there -/
structure Mod (K : PySem.W.Frag) (mg : Str → Option Value) (base : Heap) : Prop where
  kin : K.In base
  glob : base.Ns mainGlobals mg
  blt : ∃ mb, base.Ns builtinsNs mb ∧ ∀ x : Str, x ≠ "__name__" → mb x = bootBuiltins x
  nolimit : base.NoLimit

/-- the context: a def's body (or a comprehension's block) running. base: fixed through the whole law; s₀, H₀: the entry; outer: the frames whose slots others may change (a def's callers); stack: all frames that run;
   ex: iterators that were made ahead of the entry and are walked here (a comprehension's); fn: the names whose cells were made at the entry (a def: all; a comprehension's block: its own); calm: not within an except suite; pn: pins that every state bears; xe: what is wanted of an exception that leaves the code -/
structure Cx where
  prog : Program
  w : World
  K : PySem.W.Frag
  mg : Str → Option Value
  base : Heap
  A : Around
  N : List Str
  s₀ : Shared
  H₀ : Hp
  env : Env
  outer : List Env
  stack : List Env
  ex : List Addr
  fn : Str → Bool
  calm : Bool
  pn : List (Addr × Obj)
  xe : Value → Shared → Prop
/-- the callers' frames -/
noncomputable def frs (l : List Env) : List Addr := l.filterMap (·.frame)
noncomputable abbrev Cx.fs (X : Cx) : List Addr := frs X.outer

noncomputable def Vis (sc : Scope) (x : Str) : Prop := sc.names.lookup x = some .local ∨ sc.names.lookup x = some .cell ∨ sc.names.lookup x = some .free
noncomputable def Loc (sc : Scope) (x : Str) : Prop := sc.names.lookup x = some .local ∨ sc.names.lookup x = some .cell
noncomputable def Look (env : Env) (h : Heap) (m : Str → Option Value) (x : Str) (u : Value) : Prop :=
  (env.kindOf x = some .local ∧ m x = some u) ∨ ((env.kindOf x = some .cell ∨ env.kindOf x = some .free) ∧ ∃ c, env.cells.lookup x = some c ∧ h.IsCell c (some u))

structure Cx.Ok (X : Cx) : Prop where
  mod : Mod X.K X.mg X.base
  kind : X.env.scope.kind = .function
  glob : X.env.globals = mainGlobals
  blt : X.env.builtins = builtinsNs
  above : X.s₀.heap.objs.size ≤ X.env.locals
  inj : ∀ x y c, X.env.cells.lookup x = some c → X.env.cells.lookup y = some c → x = y
  has : ∀ x, (X.env.kindOf x = some .cell ∨ X.env.kindOf x = some .free) → ∃ c, X.env.cells.lookup x = some c
  cab : ∀ x c, X.fn x = true → X.env.cells.lookup x = some c → X.s₀.heap.objs.size ≤ c
  hd : X.calm = true → X.A.handled = none
  frames : X.A.frames = some X.stack
  stk : X.stack = X.outer ∨ (X.stack = X.env :: X.outer ∧ X.env.frame = some X.env.locals)
  exf : ∀ b ∈ X.ex, b ≠ X.env.locals ∧ ∀ x c, X.env.cells.lookup x = some c → c ≠ b
  bs : ∀ b o, X.base.get? b = some o → X.s₀.heap.get? b = some o ∧ X.H₀ b = none
  bsz : X.base.objs.size ≤ X.s₀.heap.objs.size
  noex : ∀ b o, X.base.get? b = some o → b ∉ X.ex
  exfs : ∀ b ∈ X.ex, b ∉ X.fs
  funs : X.s₀.heap.FunFrames X.base X.outer
  frf : ∀ b ∈ X.fs, X.H₀ b = none

structure Inv (X : Cx) (pins : List (Addr × Obj)) (σ : List (Option V)) (H : Hp) (s : Shared) : Prop where
  ok : X.Ok
  os : s.os = X.s₀.os
  bare : AllBare s.gens
  base : Un X.fs X.ex X.H₀ H X.s₀.heap s.heap
  loc : ∃ m, s.heap.Ns X.env.locals m ∧ ∀ (i : Nat) (x : Str) (v : V), X.N[i]? = some x → σ[i]? = some (some v) → Vis X.env.scope x → ∃ u, RelV v u ∧ Look X.env s.heap m x u
  cell : ∀ x c, X.env.cells.lookup x = some c → ∃ v, s.heap.IsCell c v
  free : H X.env.locals = none
  freeC : ∀ x c, X.env.cells.lookup x = some c → H c = none
  pin : ∀ p ∈ X.pn ++ pins, s.heap.get? p.1 = some p.2 ∧ H p.1 = none ∧ p.1 ≠ X.env.locals ∧ p.1 ∉ X.fs ∧ ∀ v, p.2.data ≠ .cell v
  hok : HOk X.prog X.w H s.heap
  len : σ.length = X.N.length

section
variable {X : Cx} {pins : List (Addr × Obj)} {σ : List (Option V)} {H H' : Hp} {s : Shared} {h' : Heap}

theorem Cx.Ok.nofr (ok : X.Ok) {b : Addr} {o : Obj} (e : X.base.get? b = some o) : b ∉ X.fs := fun hb => by
  have := (ok.funs.mem hb).1
  rw [e] at this; cases this
theorem Inv.bs (I : Inv X pins σ H s) : ∀ b o, X.base.get? b = some o → s.heap.get? b = some o ∧ H b = none := fun b o e =>
  ⟨I.base.keep b o (I.ok.bs b o e).1 (I.ok.bs b o e).2 (I.ok.nofr e) (I.ok.noex b o e), I.base.free b o (I.ok.bs b o e).1 (I.ok.bs b o e).2 (I.ok.noex b o e)⟩
theorem Inv.bk (I : Inv X pins σ H s) : ∀ b o, X.base.get? b = some o → s.heap.get? b = some o := fun b o e => (I.bs b o e).1
theorem Inv.mod (I : Inv X pins σ H s) : Mod X.K X.mg X.base := I.ok.mod
theorem Inv.kIn (I : Inv X pins σ H s) : X.K.In s.heap := I.ok.mod.kin.keeps I.bk
theorem Inv.nolimit (I : Inv X pins σ H s) : s.heap.NoLimit := I.ok.mod.nolimit.keeps I.bk
/-- the frame over the base: for OpenK's rules (K.In X.base is I.mod.kin) -/
theorem Inv.fr (I : Inv X pins σ H s) : ∃ m, Fr X.base X.env.locals s.heap m :=
  let ⟨m, hn, _⟩ := I.loc
  ⟨m, hn, I.bk, Nat.le_trans I.ok.bsz I.ok.above⟩
theorem Inv.lt (I : Inv X pins σ H s) : X.env.locals < s.heap.objs.size := let ⟨_, hn, _⟩ := I.loc; hn.lt
theorem Inv.sz (I : Inv X pins σ H s) : X.s₀.heap.objs.size ≤ s.heap.objs.size := Nat.le_trans I.ok.above (Nat.le_of_lt I.lt)
theorem Inv.nofs (I : Inv X pins σ H s) {a : Addr} (h : s.heap.objs.size ≤ a) : a ∉ X.fs := fun hb => by
  obtain ⟨_, o, ho, _⟩ := I.ok.funs.mem hb
  exact absurd (Nat.lt_of_lt_of_le (Heap.lt_size ho) (Nat.le_trans I.sz h)) (Nat.lt_irrefl _)
theorem Inv.cne (I : Inv X pins σ H s) : ∀ x c, X.env.cells.lookup x = some c → c ≠ X.env.locals := fun x c e z => by
  obtain ⟨v, o, ho, hd⟩ := I.cell x c e
  obtain ⟨m, ⟨o', es, ep, ho', hd', _⟩, _⟩ := I.loc
  rw [z, ho'] at ho; cases ho; rw [hd'] at hd; cases hd
theorem Inv.funs (I : Inv X pins σ H s) : s.heap.FunFrames X.base X.outer := by
  have all : ∀ (l : List Env), (∀ b ∈ frs l, b ∈ X.fs) → X.s₀.heap.FunFrames X.base l → s.heap.FunFrames X.base l := by
    intro l
    induction l with
    | nil => intro _ _; trivial
    | cons env r ih =>
      intro hs hl
      obtain ⟨hk, ⟨L, o, hf, hn, ho, hd⟩, hr⟩ := hl
      have hL : L ∈ X.fs := hs L (by unfold frs; rw [List.filterMap_cons, hf]; exact List.mem_cons_self)
      obtain ⟨sl, e⟩ := I.base.slot L o ho (I.ok.frf L hL) hL fun z => I.ok.exfs L z hL
      exact ⟨hk, ⟨L, _, hf, hn, e, hd⟩, ih (fun b hb => hs b (by unfold frs; rw [List.filterMap_cons, hf]; exact List.mem_cons_of_mem _ hb)) hr⟩
  exact all X.outer (fun _ hb => hb) I.ok.funs

/-- the frames that run, for a call -/
theorem Inv.stack (I : Inv X pins σ H s) : s.heap.FunFrames X.base X.stack := by
  rcases I.ok.stk with e | ⟨e, hf⟩
  · rw [e]; exact I.funs
  · rw [e]
    obtain ⟨m, hn, _⟩ := I.loc
    refine .cons (by rw [I.ok.kind]; decide) hf hn ?_ I.funs
    exact Heap.get?_none_of_le (Nat.le_trans I.ok.bsz I.ok.above)
theorem Inv.stkSub (I : Inv X pins σ H s) : ∀ b ∈ frs X.stack, b ∈ X.env.locals :: X.fs := fun b hb => by
  rcases I.ok.stk with e | ⟨e, hf⟩
  · rw [e] at hb; exact List.mem_cons_of_mem _ hb
  · rw [e] at hb
    unfold frs at hb
    rw [List.filterMap_cons, hf] at hb
    exact hb
theorem Inv.stkFree (I : Inv X pins σ H s) : ∀ b ∈ frs X.stack, H b = none := fun b hb => by
  rcases List.mem_cons.mp (I.stkSub b hb) with e | hb
  · rw [e]; exact I.free
  · obtain ⟨_, o, ho, _⟩ := I.ok.funs.mem hb
    exact I.base.free b o ho (I.ok.frf b hb) fun z => I.ok.exfs b z hb

/-- THE STEP: the untracked objects but the frame and the records at ch are kept (the callers' frames up to slots), the frame's map is kept, the new abstract heap is held -/
theorem Inv.step {g' : Array GenState} {t' : Nat} {d' : Drawn} {ch : List Addr} (I : Inv X pins σ H s)
    (hch : ∀ b ∈ ch, (b ∈ X.ex ∨ X.s₀.heap.objs.size ≤ b) ∧ b ≠ X.env.locals ∧ (∀ x c, X.env.cells.lookup x = some c → c ≠ b) ∧ ∀ p ∈ X.pn ++ pins, p.1 ≠ b)
    (keep : ∀ b o, b ≠ X.env.locals → b ∉ X.fs → b ∉ ch → s.heap.get? b = some o → H b = none → h'.get? b = some o)
    (slot : ∀ b o, b ≠ X.env.locals → b ∈ X.fs → b ∉ ch → s.heap.get? b = some o → H b = none → ∃ sl, h'.get? b = some { o with slots := sl }) (free : ∀ b o, b ∉ ch → s.heap.get? b = some o → H b = none → H' b = none)
    (there : ∀ b o, b ∉ ch → s.heap.get? b = some o → ∃ o', h'.get? b = some o')
    (tups : ∀ b xs, H b = some (.tup xs) → H' b = some (.tup xs)) (frzs : ∀ b o u, H b = some (.frz o u) → H' b = some (.frz o u)) (tbls : ∀ b ps, H b = some (.tbl ps) → ∃ more, H' b = some (.tbl (ps ++ more)))
    (ns : ∀ m, s.heap.Ns X.env.locals m → h'.Ns X.env.locals m) (hok : HOk X.prog X.w H' h') (hg : AllBare g') :
    Inv X pins σ H' { s with heap := h', gens := g', drawn := d', toks := t' } := by
  have neL : ∀ b o, X.s₀.heap.get? b = some o → b ≠ X.env.locals := fun b o e => Nat.ne_of_lt (Nat.lt_of_lt_of_le (Heap.lt_size e) I.ok.above)
  have neC : ∀ b o, X.s₀.heap.get? b = some o → b ∉ X.ex → b ∉ ch := fun b o e hx hb => by
    rcases (hch b hb).1 with z | z
    · exact hx z
    · exact absurd (Nat.lt_of_lt_of_le (Heap.lt_size e) z) (Nat.lt_irrefl _)
  have cellK : ∀ x c, X.env.cells.lookup x = some c → ∀ v, s.heap.IsCell c v → h'.IsCell c v := fun x c e v ⟨o, ho, hd⟩ => by
    have nch : c ∉ ch := fun z => (hch c z).2.2.1 x c e rfl
    by_cases hc : c ∈ X.fs
    · obtain ⟨sl, q⟩ := slot c o (I.cne x c e) hc nch ho (I.freeC x c e)
      exact ⟨_, q, hd⟩
    · exact ⟨o, keep c o (I.cne x c e) hc nch ho (I.freeC x c e), hd⟩
  refine ⟨I.ok, I.os, hg, ⟨fun b o e n hb hx => ?_, fun b o e n hb hx => ?_, fun b o e n hx => ?_, fun b o e hx => ?_, fun b xs e => tups b xs (I.base.tups b xs e), fun b o xs e => frzs b o xs (I.base.frzs b o xs e), fun b ps e => ?_⟩, ?_, fun x c e => ?_, ?_, fun x c e => ?_, fun p hp => ?_, hok, I.len⟩
  · exact keep b o (neL b o e) hb (neC b o e hx) (I.base.keep b o e n hb hx) (I.base.free b o e n hx)
  · obtain ⟨sl, e1⟩ := I.base.slot b o e n hb hx
    obtain ⟨sl', e2⟩ := slot b _ (neL b o e) hb (neC b o e hx) e1 (I.base.free b o e n hx)
    exact ⟨sl', e2⟩
  · obtain ⟨o', e1⟩ := I.base.there b o e hx
    exact free b o' (neC b o e hx) e1 (I.base.free b o e n hx)
  · obtain ⟨o', e1⟩ := I.base.there b o e hx
    exact there b o' (neC b o e hx) e1
  · obtain ⟨m1, e1⟩ := I.base.tbls b ps e
    obtain ⟨m2, e2⟩ := tbls b _ e1
    exact ⟨m1 ++ m2, by rw [e2, Array.append_assoc]⟩
  · obtain ⟨m, hn, hl⟩ := I.loc
    refine ⟨m, ns m hn, fun i x v e1 e2 e3 => ?_⟩
    obtain ⟨u, r, l⟩ := hl i x v e1 e2 e3
    refine ⟨u, r, ?_⟩
    rcases l with l | ⟨k, c, e, z⟩
    · exact .inl l
    · exact .inr ⟨k, c, e, cellK x c e _ z⟩
  · obtain ⟨v, z⟩ := I.cell x c e
    exact ⟨v, cellK x c e v z⟩
  · obtain ⟨m, ⟨o, _, _, ho, _⟩, _⟩ := I.loc
    exact free _ o (fun z => (hch _ z).2.1 rfl) ho I.free
  · obtain ⟨v, o, ho, hd⟩ := I.cell x c e
    exact free c o (fun z => (hch c z).2.2.1 x c e rfl) ho (I.freeC x c e)
  · obtain ⟨e, n, ne, nf, d⟩ := I.pin p hp
    have nch : p.1 ∉ ch := fun z => (hch p.1 z).2.2.2 p hp rfl
    exact ⟨keep p.1 p.2 ne nf nch e n, free p.1 p.2 nch e n, ne, nf, d⟩
/-- .. where the frame's own object is kept too -/
theorem Inv.un {t' : Nat} (I : Inv X pins σ H s) (u : Un X.fs [] H H' s.heap h') (hok : HOk X.prog X.w H' h') : Inv X pins σ H' { s with heap := h', toks := t' } := by
  obtain ⟨m, ⟨o, es, ep, ho, r⟩, _⟩ := id I.loc
  obtain ⟨sl, hL⟩ := u.any ho I.free (by simp)
  exact I.step (g' := s.gens) (d' := s.drawn) (ch := []) (fun _ z => nomatch z) (fun b o _ hb _ e n => u.keep b o e n hb (by simp)) (fun b o _ hb _ e n => u.slot b o e n hb (by simp)) (fun b o _ e n => u.free b o e n (by simp)) (fun b o _ e => u.there b o e (by simp)) u.tups u.frzs u.tbls (fun m' hm => by
    obtain ⟨o', es', ep', ho', r'⟩ := hm
    rw [ho] at ho'; cases ho'
    exact ⟨_, es', ep', hL, r'⟩) hok I.bare
/-- behind a call (or a comprehension's block): the slots of this frame may have changed too, the records at ch may have turned -/
theorem Inv.call {g' : Array GenState} {t' : Nat} {d' : Drawn} {ch : List Addr} (I : Inv X pins σ H s) (u : Un (frs X.stack) ch H H' s.heap h') (hok : HOk X.prog X.w H' h') (hg : AllBare g')
    (hch : ∀ b ∈ ch, (b ∈ X.ex ∨ X.s₀.heap.objs.size ≤ b) ∧ b ≠ X.env.locals ∧ (∀ x c, X.env.cells.lookup x = some c → c ≠ b) ∧ ∀ p ∈ X.pn ++ pins, p.1 ≠ b) :
    Inv X pins σ H' { s with heap := h', gens := g', drawn := d', toks := t' } := by
  obtain ⟨m, ⟨o, es, ep, ho, r⟩, _⟩ := id I.loc
  obtain ⟨sl, hL⟩ := u.any ho I.free fun z => (hch _ z).2.1 rfl
  exact I.step (ch := ch) hch (fun b o hL hb hc e n => u.keep b o e n (fun z => (List.mem_cons.mp (I.stkSub b z)).elim hL hb) hc) (fun b o _ _ hc e n => u.any e n hc) (fun b o hc e n => u.free b o e n hc) (fun b o hc e => u.there b o e hc) u.tups u.frzs u.tbls (fun m' hm => by
    obtain ⟨o', es', ep', ho', r'⟩ := hm
    rw [ho] at ho'; cases ho'
    exact ⟨_, es', ep', hL, r'⟩) hok hg
/-- an untracked record of ours (an iterator) has turned -/
theorem Inv.turned {t' : Nat} {it : Addr} (I : Inv X pins σ H s) (k : ∀ b o, b ≠ it → s.heap.get? b = some o → h'.get? b = some o) (hn : H it = none) (hL : it ≠ X.env.locals)
    (h1 : it ∈ X.ex ∨ X.s₀.heap.objs.size ≤ it) (h2 : ∀ x c, X.env.cells.lookup x = some c → c ≠ it) (h3 : ∀ p ∈ X.pn ++ pins, p.1 ≠ it) : Inv X pins σ H { s with heap := h', toks := t' } := by
  have nit : ∀ b u, H b = some u → b ≠ it := fun b u e z => by rw [z, hn] at e; cases e
  refine I.step (g' := s.gens) (d' := s.drawn) (ch := [it]) (fun b hb => ?_) (fun b o _ _ hc e _ => k b o (fun z => hc (by simp [z])) e) (fun b o _ _ hc e _ => ⟨o.slots, k b o (fun z => hc (by simp [z])) e⟩) (fun _ _ _ _ n => n)
    (fun b o hc e => ⟨o, k b o (fun z => hc (by simp [z])) e⟩) (fun _ _ e => e) (fun _ _ _ e => e) (fun b ps e => ⟨#[], by rw [e]; simp⟩) (fun m hm => ?_) (fun b u e => ?_) I.bare
  · have e : b = it := by simpa using hb
    subst e
    exact ⟨h1, hL, h2, h3⟩
  · obtain ⟨o, es, ep, ho, r⟩ := hm
    exact ⟨o, es, ep, k _ o (Ne.symm hL) ho, r⟩
  · refine (I.hok b u e).stay (fun c v hc q => k c v ?_ q) (fun _ q => q) fun _ _ q => q
    rcases hc with z | z
    · rw [z]; exact nit b u e
    · exact nit c _ z
theorem Inv.tok (I : Inv X pins σ H s) (t : Nat) : Inv X pins σ H { s with toks := t } := I.un (h' := s.heap) (t' := t) Un.refl I.hok
/-- all objects kept -/
theorem Inv.kept {t' : Nat} (I : Inv X pins σ H s) (k : ∀ b u, s.heap.get? b = some u → h'.get? b = some u) : Inv X pins σ H { s with heap := h', toks := t' } := I.un (Un.kept k) (I.hok.kept k)
/-- a new object laid and tracked -/
theorem Inv.laid {a : Addr} {o : HO} {t' : Nat} (I : Inv X pins σ H s) (k : ∀ b u, s.heap.get? b = some u → h'.get? b = some u) (hp : s.heap.objs.size ≤ a) (new : ObjOk X.prog X.w (upd H a o) h' a o) :
    Inv X pins σ (upd H a o) { s with heap := h', toks := t' } := I.un (Un.laid k hp (I.hok.fresh hp)) (I.hok.laid k hp new)
/-- an object written -/
theorem Inv.write {x e : Addr} {o : HO} {t' : Nat} (I : Inv X pins σ H s) (mu : Mut (H x)) (he : e = x ∨ H e = some (.own x)) (k : ∀ b u, b ≠ e → s.heap.get? b = some u → h'.get? b = some u) (heo : ∃ u, h'.get? e = some u)
    (new : ObjOk X.prog X.w (upd H x o) h' x o) : Inv X pins σ (upd H x o) { s with heap := h', toks := t' } := I.un (Un.write mu he k heo) (I.hok.write mu he k heo new)
theorem Inv.pins_of {pins' : List (Addr × Obj)} (I : Inv X pins σ H s) (h : ∀ p ∈ pins', s.heap.get? p.1 = some p.2 ∧ H p.1 = none ∧ p.1 ≠ X.env.locals ∧ p.1 ∉ X.fs ∧ ∀ v, p.2.data ≠ .cell v) : Inv X pins' σ H s :=
  ⟨I.ok, I.os, I.bare, I.base, I.loc, I.cell, I.free, I.freeC, fun p hp => (List.mem_append.mp hp).elim (fun z => I.pin p (List.mem_append_left _ z)) (h p), I.hok, I.len⟩

theorem nodup_ix {N : List Str} (hN : N.Nodup) {i j : Nat} {x : Str} (a : N[i]? = some x) (b : N[j]? = some x) : i = j := by
  obtain ⟨h1, e1⟩ := List.getElem?_eq_some_iff.mp a
  obtain ⟨h2, e2⟩ := List.getElem?_eq_some_iff.mp b
  exact (List.getElem_inj hN).mp (e1.trans e2.symm)

/-- a name is stored; what changed -/
theorem store_ok2 {M : Model} {A : Around} {E : Value → Shared → Prop} {i : Nat} {x : Str} {v : V} {u : Value} {Q : Unit → Shared → Prop} (I : Inv X pins σ H s) (hN : X.N.Nodup) (hi : X.N[i]? = some x) (hx : Loc X.env.scope x) (r : RelV v u)
    (h : ∀ s', Inv X pins (σ.set i (some v)) H s' → (∃ a, Heap.SameBut a s.heap s'.heap ∧ (a = X.env.locals ∨ X.env.cells.lookup x = some a)) → Q () s') (hf : X.fn x = true ∨ X.env.scope.names.lookup x = some .local := by first | exact .inl rfl | exact .inr rfl | assumption) : wpAny M A (storeName X.env x u) Q E s := by
  obtain ⟨m, hn, hl⟩ := id I.loc
  have hcls : (X.env.scope.kind == .class || (X.env.scope.kind == .module && X.env.locals != X.env.globals)) = false := by rw [I.ok.kind]; rfl
  have hiσ : i < σ.length := by rw [I.len]; exact (List.getElem?_eq_some_iff.mp hi).1
  have cne := I.cne
  have tracked : ∀ {a : Addr} {h' : Heap}, (∃ o, s.heap.get? a = some o ∧ H a = none) → Heap.SameBut a s.heap h' → HOk X.prog X.w H h' := fun {a h'} ha hs b ob e => by
    obtain ⟨_, _, hfree⟩ := ha
    refine (I.hok b ob e).stay (fun c w' hc q => (hs.2 c ?_).trans q) (fun _ q => q) fun _ _ q => q
    rintro rfl
    rcases hc with rfl | hc
    · rw [hfree] at e; cases e
    · rw [hfree] at hc; cases hc
  rcases hx with hk | hk
  · refine wpAny_storeName_local hk hn (fun h' hn' hs => ?_) hcls
    obtain ⟨oL, _, _, hoL, _⟩ := id hn
    refine h _ ⟨I.ok, I.os, I.bare, ⟨fun b o e n hb hx => ?_, fun b o e n hb hx => ?_, I.base.free, fun b o e hx => ?_, I.base.tups, I.base.frzs, I.base.tbls⟩, ⟨_, hn', fun j y v' e1 e2 e3 => ?_⟩, fun y c e => ?_, I.free, I.freeC, fun p hp => ?_, tracked ⟨oL, hoL, I.free⟩ hs, by simpa using I.len⟩ ⟨_, hs, .inl rfl⟩
    · exact (hs.2 b (Nat.ne_of_lt (Nat.lt_of_lt_of_le (Heap.lt_size e) I.ok.above))).trans (I.base.keep b o e n hb hx)
    · obtain ⟨sl, e1⟩ := I.base.slot b o e n hb hx
      exact ⟨sl, (hs.2 b (Nat.ne_of_lt (Nat.lt_of_lt_of_le (Heap.lt_size e) I.ok.above))).trans e1⟩
    · obtain ⟨o', e1⟩ := I.base.there b o e hx
      exact ⟨o', (hs.2 b (Nat.ne_of_lt (Nat.lt_of_lt_of_le (Heap.lt_size e) I.ok.above))).trans e1⟩
    · by_cases hj : j = i
      · subst hj
        rw [hi] at e1; cases e1
        rw [List.getElem?_set_self hiσ] at e2
        cases e2
        exact ⟨u, r, .inl ⟨hk, by simp⟩⟩
      · rw [List.getElem?_set_ne (Ne.symm hj)] at e2
        obtain ⟨u', r', q⟩ := hl j y v' e1 e2 e3
        refine ⟨u', r', ?_⟩
        rcases q with ⟨k, e⟩ | ⟨k, c, e, z⟩
        · refine .inl ⟨k, ?_⟩
          have : y ≠ x := fun e => hj (nodup_ix hN e1 (e ▸ hi))
          simp [this, e]
        · exact .inr ⟨k, c, e, z.sameBut hs (cne y c e)⟩
    · obtain ⟨w', z⟩ := I.cell y c e
      exact ⟨w', z.sameBut hs (cne y c e)⟩
    · obtain ⟨e, n, ne, nf, d⟩ := I.pin p hp
      exact ⟨(hs.2 p.1 ne).trans e, n, ne, nf, d⟩
  · have hfn : X.fn x = true := by
      rcases hf with z | z
      · exact z
      · rw [z] at hk; cases hk
    obtain ⟨c, hc⟩ := I.ok.has x (.inl hk)
    obtain ⟨w', z⟩ := I.cell x c hc
    refine wpAny_storeName_cell I.ok.kind hk hc z (fun h' hc' hs => ?_)
    obtain ⟨oc, hoc, hocd⟩ := id z
    refine h { s with heap := h' } ⟨I.ok, I.os, I.bare, ⟨fun b o e n hb hx => ?_, fun b o e n hb hx => ?_, I.base.free, fun b o e hx => ?_, I.base.tups, I.base.frzs, I.base.tbls⟩, ⟨m, hn.sameBut hs (Ne.symm (cne x c hc)), fun j y v' e1 e2 e3 => ?_⟩, fun y c' e => ?_, I.free, I.freeC, fun p hp => ?_, tracked ⟨oc, hoc, I.freeC x c hc⟩ hs, by simpa using I.len⟩ ⟨c, hs, .inr hc⟩
    · exact (hs.2 b (Nat.ne_of_lt (Nat.lt_of_lt_of_le (Heap.lt_size e) (I.ok.cab x c hfn hc)))).trans (I.base.keep b o e n hb hx)
    · obtain ⟨sl, e1⟩ := I.base.slot b o e n hb hx
      exact ⟨sl, (hs.2 b (Nat.ne_of_lt (Nat.lt_of_lt_of_le (Heap.lt_size e) (I.ok.cab x c hfn hc)))).trans e1⟩
    · obtain ⟨o', e1⟩ := I.base.there b o e hx
      exact ⟨o', (hs.2 b (Nat.ne_of_lt (Nat.lt_of_lt_of_le (Heap.lt_size e) (I.ok.cab x c hfn hc)))).trans e1⟩
    · by_cases hj : j = i
      · subst hj
        rw [hi] at e1; cases e1
        rw [List.getElem?_set_self hiσ] at e2
        cases e2
        exact ⟨u, r, .inr ⟨.inl hk, c, hc, hc'⟩⟩
      · rw [List.getElem?_set_ne (Ne.symm hj)] at e2
        obtain ⟨u', r', q⟩ := hl j y v' e1 e2 e3
        refine ⟨u', r', ?_⟩
        rcases q with q | ⟨k, c', e, z'⟩
        · exact .inl q
        · refine .inr ⟨k, c', e, z'.sameBut hs ?_⟩
          rintro rfl
          exact hj (nodup_ix hN e1 (I.ok.inj _ _ _ e hc ▸ hi))
    · by_cases hcc : c' = c
      · subst hcc; exact ⟨_, hc'⟩
      · obtain ⟨w2, z2⟩ := I.cell y c' e
        exact ⟨w2, z2.sameBut hs hcc⟩
    · obtain ⟨e, n, ne, nf, d⟩ := I.pin p hp
      refine ⟨(hs.2 p.1 ?_).trans e, n, ne, nf, d⟩
      intro q
      rw [q, hoc] at e
      have q' : oc = p.2 := Option.some.inj e
      exact d w' (by rw [← q']; exact hocd)
theorem store_ok {M : Model} {A : Around} {E : Value → Shared → Prop} {i : Nat} {x : Str} {v : V} {u : Value} {Q : Unit → Shared → Prop} (I : Inv X pins σ H s) (hN : X.N.Nodup) (hi : X.N[i]? = some x) (hx : Loc X.env.scope x) (r : RelV v u)
    (h : ∀ s', Inv X pins (σ.set i (some v)) H s' → Q () s') (hf : X.fn x = true ∨ X.env.scope.names.lookup x = some .local := by first | exact .inl rfl | exact .inr rfl | assumption) : wpAny M A (storeName X.env x u) Q E s :=
  store_ok2 I hN hi hx r (fun s' I' _ => h s' I') hf
/-- behind a call or a block, the state as it is -/
theorem Inv.call' {s' : Shared} {ch : List Addr} (I : Inv X pins σ H s) (ho : s'.os = s.os) (u : Un (frs X.stack) ch H H' s.heap s'.heap) (hok : HOk X.prog X.w H' s'.heap) (hg : AllBare s'.gens)
    (hch : ∀ b ∈ ch, (b ∈ X.ex ∨ X.s₀.heap.objs.size ≤ b) ∧ b ≠ X.env.locals ∧ (∀ x c, X.env.cells.lookup x = some c → c ≠ b) ∧ ∀ p ∈ X.pn ++ pins, p.1 ≠ b) : Inv X pins σ H' s' := by
  obtain ⟨h', g', d', t', o'⟩ := s'
  have e : o' = s.os := ho
  subst e
  exact I.call (g' := g') (t' := t') (d' := d') u hok hg hch
end

/-! ### the judgements -/
/-- an exception: its class, its own dict's address (where it has one), the abstract heap behind it -/
noncomputable abbrev XK := Value → Option Addr → Hp → Prop
noncomputable abbrev St := List (Option V)
noncomputable abbrev VK := V → Hp → Prop
/-- an expression's reading; a test's; an argument list's -/
noncomputable abbrev TE := St → Hp → VK → Prop
noncomputable abbrev TT := St → Hp → (Bool → Hp → Prop) → Prop
noncomputable abbrev TA := St → Hp → (List V → Hp → Prop) → Prop
/-- what is wanted behind a statement -/
structure Ends where
  nx : St → Hp → Prop
  rt : VK
  bk : St → Hp → Prop := fun _ _ => False
  ct : St → Hp → Prop := fun _ _ => False
noncomputable abbrev TS := Ends → St → Hp → Prop

noncomputable def EP (X : Cx) (pins : List (Addr × Obj)) (σ : St) (Q : VK) (u : Value) (s' : Shared) : Prop := ∃ v H', Inv X pins σ H' s' ∧ RelV v u ∧ Q v H'
noncomputable def TP (X : Cx) (pins : List (Addr × Obj)) (σ : St) (Q : Bool → Hp → Prop) (b : Bool) (s' : Shared) : Prop := ∃ H', Inv X pins σ H' s' ∧ Q b H'
noncomputable def AP (X : Cx) (pins : List (Addr × Obj)) (σ : St) (Q : List V → Hp → Prop) (us : List Value) (s' : Shared) : Prop := ∃ vs H', Inv X pins σ H' s' ∧ Vals vs us ∧ Q vs H'
noncomputable def SP (X : Cx) (pins : List (Addr × Obj)) (D : Ends) (f : Flow) (s' : Shared) : Prop :=
  match f with
  | .next => ∃ σ' H', Inv X pins σ' H' s' ∧ D.nx σ' H'
  | .brk => ∃ σ' H', Inv X pins σ' H' s' ∧ D.bk σ' H'
  | .cont => ∃ σ' H', Inv X pins σ' H' s' ∧ D.ct σ' H'
  | .ret u => ∃ v σ' H', Inv X pins σ' H' s' ∧ RelV v u ∧ D.rt v H'

noncomputable def PE (X : Cx) (e : Expr) (t : TE) : Prop :=
  ∀ (pins : List (Addr × Obj)) (s : Shared) (σ : St) (H : Hp) (Q : VK), Inv X pins σ H s → t σ H Q → wpAny (model X.prog X.w) X.A (eval e X.env) (EP X pins σ Q) X.xe s
noncomputable def PT (X : Cx) (e : Expr) (t : TT) : Prop :=
  ∀ (pins : List (Addr × Obj)) (s : Shared) (σ : St) (H : Hp) (Q : Bool → Hp → Prop), Inv X pins σ H s → t σ H Q → wpAny (model X.prog X.w) X.A (isTrue e X.env (eval e X.env)) (TP X pins σ Q) X.xe s
/-- a test whatever its 'whole' is (and, or) -/
noncomputable def PW (X : Cx) (e : Expr) (t : TT) : Prop :=
  ∀ (whole : Sem Value) (pins : List (Addr × Obj)) (s : Shared) (σ : St) (H : Hp) (Q : Bool → Hp → Prop), Inv X pins σ H s → t σ H Q → wpAny (model X.prog X.w) X.A (isTrue e X.env whole) (TP X pins σ Q) X.xe s
theorem PW.pt {X : Cx} {e : Expr} {t : TT} (h : PW X e t) : PT X e t := h _
/-- an argument list (no star), from the left -/
noncomputable def PA (X : Cx) (es : List Expr) (t : TA) : Prop :=
  ∀ (pos : Pos) (pins : List (Addr × Obj)) (s : Shared) (σ : St) (H : Hp) (Q : List V → Hp → Prop), Inv X pins σ H s → t σ H Q → wpAny (model X.prog X.w) X.A (spliced (backTo pos (starEach es X.env))) (AP X pins σ Q) X.xe s
noncomputable def PS (X : Cx) (st : Stmt) (t : TS) : Prop :=
  ∀ (pins : List (Addr × Obj)) (s : Shared) (σ : St) (H : Hp) (D : Ends), Inv X pins σ H s → t D σ H → wpAny (model X.prog X.w) X.A (exec st X.env) (SP X pins D) X.xe s
noncomputable def PSs (X : Cx) (st : List Stmt) (t : TS) : Prop :=
  ∀ (pins : List (Addr × Obj)) (s : Shared) (σ : St) (H : Hp) (D : Ends), Inv X pins σ H s → t D σ H → wpAny (model X.prog X.w) X.A (execs st X.env) (SP X pins D) X.xe s
/-- weaken the end -/
theorem thn {α : Type} {t : Sem α} {Q Q' : α → Shared → Prop} {M : Model} {A : Around} {E : Value → Shared → Prop} {s : Shared} (h : wpAny M A t Q E s) (hQ : ∀ a s, Q a s → Q' a s) : wpAny M A t Q' E s := wpAny_mono h hQ fun _ _ x => x
end L2

namespace L2
open PySem PySem.Spec PyProof.Rows
section
variable {X : Cx}

/-! ### names and constants -/
noncomputable def tVar (i : Nat) : TE := fun σ H Q => ∃ v, σ[i]? = some (some v) ∧ Q v H
noncomputable def tC (v : V) : TE := fun _ H Q => Q v H
theorem pe_var {i : Nat} {x : Str} {pos : Pos} (hN : X.N[i]? = some x) (hv : Vis X.env.scope x) (hd : (x == ("__debug__" : Str)) = false := by decide) (hcd : (x == ("__classdict__" : Str)) = false := by decide) : PE X (.Name x pos) (tVar i) := by
  intro pins s σ H Q I h
  obtain ⟨v, e, h⟩ := h
  obtain ⟨m, hn, hl⟩ := I.loc
  obtain ⟨u, r, l⟩ := hl i x v hN e hv
  have fin : EP X pins σ Q u s := ⟨v, H, I, r, h⟩
  rcases l with ⟨hk, hm⟩ | ⟨hk, c, hc, hcell⟩
  · exact wpAny_Name (wpAny_loadName_local I.ok.kind hk hn hm fin) hd
  · rcases hk with hk | hk
    · exact wpAny_Name (wpAny_loadName_cell I.ok.kind hk hc hcell fin) hd
    · exact wpAny_Name (wpAny_loadName_free I.ok.kind hk hc hcell fin hcd) hd
theorem pe_int {i j pos} : PE X (.Constant (.int i) j pos) (tC (.int i)) := fun _ _ _ H _ I h => wpAny_Constant_int ⟨.int i, H, I.tok _, ⟨_, rfl⟩, h⟩
theorem pe_bl {b j pos} : PE X (.Constant (.bool b) j pos) (tC (.bl b)) := fun _ _ _ H _ I h => Constant_bool ⟨.bl b, H, I, rfl, h⟩
theorem pe_non {j pos} : PE X (.Constant .none j pos) (tC .non) := fun _ _ _ H _ I h => Constant_none ⟨.non, H, I, rfl, h⟩
theorem pe_str {x j pos} : PE X (.Constant (.str x) j pos) (tC (.str x)) := fun _ _ _ H _ I h => Calls.Constant_str ⟨.str x, H, I.tok _, ⟨_, rfl⟩, h⟩

/-- a global name of the def -/
noncomputable def Gl (X : Cx) (x : Str) : Prop := X.env.kindOf x = some .globalImplicit
theorem ld_glob {E : Value → Shared → Prop} {pins : List (Addr × Obj)} {s : Shared} {σ : St} {H : Hp} {x : Str} {u : Value} {pos : Pos} {Q : Value → Shared → Prop} (I : Inv X pins σ H s) (hg : Gl X x) (hm : X.mg x = some u) (h : Q u s)
    (hd : (x == ("__debug__" : Str)) = false := by decide) : wpAny (model X.prog X.w) X.A (eval (.Name x pos) X.env) Q E s :=
  Calls.Name_function_global I.ok.kind hg (Calls.loadGlobal_global (by rw [I.ok.glob]; exact I.mod.glob.keeps I.bk) hm h) hd
theorem ld_blt {E : Value → Shared → Prop} {pins : List (Addr × Obj)} {s : Shared} {σ : St} {H : Hp} {x : Str} {u : Value} {pos : Pos} {Q : Value → Shared → Prop} (I : Inv X pins σ H s) (hg : Gl X x) (hm : X.mg x = none) (hv : bootBuiltins x = some u) (h : Q u s)
    (hn : x ≠ "__name__" := by decide) (hd : (x == ("__debug__" : Str)) = false := by decide) : wpAny (model X.prog X.w) X.A (eval (.Name x pos) X.env) Q E s := by
  obtain ⟨mb, h1, h2⟩ := I.mod.blt
  exact Calls.Name_function_global I.ok.kind hg (Calls.loadGlobal_builtin (by rw [I.ok.glob]; exact I.mod.glob.keeps I.bk) hm (by rw [I.ok.blt]; exact h1.keeps I.bk) ((h2 x hn).trans hv) h) hd
/-- a module's constant, a class, a function, as a value -/
theorem pe_glob {x : Str} {v : V} {u : Value} {pos : Pos} (hg : Gl X x) (hm : X.mg x = some u) (r : RelV v u) (hd : (x == ("__debug__" : Str)) = false := by decide) : PE X (.Name x pos) (tC v) :=
  fun _ _ _ H _ I h => ld_glob I hg hm ⟨v, H, I, r, h⟩ hd
theorem pe_bltn {x : Str} {v : V} {u : Value} {pos : Pos} (hg : Gl X x) (hm : X.mg x = none) (hv : bootBuiltins x = some u) (r : RelV v u) (hn : x ≠ "__name__" := by decide) (hd : (x == ("__debug__" : Str)) = false := by decide) : PE X (.Name x pos) (tC v) :=
  fun _ _ _ H _ I h => ld_blt I hg hm hv ⟨v, H, I, r, h⟩ hn hd

/-! ### arithmetic -/
variable {a b : Expr} {ta tb : TE} {pos : Pos}
/-! ### comparisons -/
/-- a comparison as a value, as a test -/
noncomputable def tB (t : TE) : TT := fun σ H Q => t σ H fun x H1 => ∃ c, x = .bl c ∧ Q c H1
/-- an expression whose value is a bool, as a test -/
theorem pt_val {e : Expr} {t : TE} (h : PE X e t) (he : ∀ whole, isTrue e X.env whole = (do let v ← whole; standAt e.pos; holding [v] (truthy v)) := by intro _; rfl) : PT X e (tB t) := by
  intro pins s σ H Q I hw
  refine isTrue_plain (thn (h pins s σ H _ I hw) fun v s1 ⟨x, H1, I1, r1, q1⟩ => ?_) (he _)
  obtain ⟨d, rfl, q⟩ := q1
  cases r1
  exact wpAny_truthy_bool ⟨H1, I1, q⟩

/-! ### and, or, not -/
variable {tA tB' : TT} {rest : List Expr}
noncomputable def tAnd (t u : TT) : TT := fun σ H Q => t σ H fun c H1 => if c = true then u σ H1 Q else Q false H1
noncomputable def tOr (t u : TT) : TT := fun σ H Q => t σ H fun c H1 => if c = true then Q true H1 else u σ H1 Q
noncomputable def tNot (t : TT) : TT := fun σ H Q => t σ H fun c H1 => Q (!c) H1
theorem pw_or1 (ha : PT X a tA) : PW X (.BoolOp .Or [a] pos) tA := by
  intro wh pins s σ H Q I h
  refine isTrue_or (thn (ha pins s σ H Q I h) fun c s1 e => ?_)
  cases c with
  | false => exact isTrue_or_nil e
  | true => exact e
theorem pw_or (ha : PT X a tA) (hb : PW X (.BoolOp .Or (b :: rest) pos) tB') : PW X (.BoolOp .Or (a :: b :: rest) pos) (tOr tA tB') := by
  intro wh pins s σ H Q I h
  refine isTrue_or (thn (ha pins s σ H _ I h) fun c s1 ⟨H1, I1, q1⟩ => ?_)
  cases c with
  | true => exact ⟨H1, I1, q1⟩
  | false => exact hb wh pins s1 σ H1 Q I1 q1
theorem pt_not (ha : PT X a tA) : PT X (.UnaryOp .Not a pos) (tNot tA) := by
  intro pins s σ H Q I h
  exact isTrue_not (ha pins s σ H (fun c H1 => Q (!c) H1) I h)
/-- .. as values (bools) -/
noncomputable def tAndV (ta tb : TE) : TE := fun σ H Q => ta σ H fun x H1 => ∃ c, x = .bl c ∧ if c = true then tb σ H1 Q else Q (.bl false) H1
noncomputable def tOrV (ta tb : TE) : TE := fun σ H Q => ta σ H fun x H1 => ∃ c, x = .bl c ∧ if c = true then Q (.bl true) H1 else tb σ H1 Q
noncomputable def tNotV (ta : TE) : TE := fun σ H Q => ta σ H fun x H1 => ∃ c, x = .bl c ∧ Q (.bl (!c)) H1
theorem pe_one {op} {t : TE} (h : PE X a t) : PE X (.BoolOp op [a] pos) t := fun pins s σ H Q I hw => BoolOp_one (h pins s σ H Q I hw)
theorem pe_and (ha : PE X a ta) (hb : PE X (.BoolOp .And (b :: rest) pos) tb) : PE X (.BoolOp .And (a :: b :: rest) pos) (tAndV ta tb) := by
  intro pins s σ H Q I h
  refine BoolOp_and (thn (ha pins s σ H _ I h) fun v s1 ⟨x, H1, I1, r1, q1⟩ => ?_)
  obtain ⟨c, rfl, q1⟩ := q1
  cases r1
  refine wpAny_truthy_bool ?_
  cases c with
  | true => exact hb pins s1 σ H1 Q I1 q1
  | false => exact ⟨.bl false, H1, I1, rfl, q1⟩
theorem pe_or (ha : PE X a ta) (hb : PE X (.BoolOp .Or (b :: rest) pos) tb) : PE X (.BoolOp .Or (a :: b :: rest) pos) (tOrV ta tb) := by
  intro pins s σ H Q I h
  refine BoolOp_or (thn (ha pins s σ H _ I h) fun v s1 ⟨x, H1, I1, r1, q1⟩ => ?_)
  obtain ⟨c, rfl, q1⟩ := q1
  cases r1
  refine wpAny_truthy_bool ?_
  cases c with
  | false => exact hb pins s1 σ H1 Q I1 q1
  | true => exact ⟨.bl true, H1, I1, rfl, q1⟩
theorem pe_not (ha : PE X a ta) : PE X (.UnaryOp .Not a pos) (tNotV ta) := by
  intro pins s σ H Q I h
  refine UnaryOp_ (thn (ha pins s σ H _ I h) fun v s1 ⟨x, H1, I1, r1, q1⟩ => ?_)
  obtain ⟨c, rfl, q1⟩ := q1
  cases r1
  exact not_of (wpAny_truthy_bool ⟨.bl (!c), H1, I1, rfl, q1⟩)
/-- a if t else b -/
noncomputable def tIf (t : TT) (ta tb : TE) : TE := fun σ H Q => t σ H fun c H1 => if c = true then ta σ H1 Q else tb σ H1 Q
end
end L2

namespace L2
open PySem PySem.Spec PyProof.Rows

/-! ### a list, a tuple that is read: tracked, frozen, or an object of the module -/
noncomputable def SqL (K : PySem.W.Frag) (H : Hp) (a : Addr) (xs : List V) : Prop :=
  Rd H a (.lst xs) ∨
    ∃ (o : Obj) (its : Array Value) (n : Nat), K.lookup a = some o ∧ o.cls = .type "list" ∧ o.dict = none ∧ o.data = .seq its n ∧ its.size ≤ sizeLine ∧ Vals xs its.toList
noncomputable def SqT (K : PySem.W.Frag) (H : Hp) (a : Addr) (xs : List V) : Prop :=
  Rd H a (.tup xs) ∨
    ∃ (o : Obj) (its : Array Value) (n : Nat), K.lookup a = some o ∧ o.cls = .type "tuple" ∧ o.data = .seq its n ∧ its.size ≤ sizeLine ∧ Vals xs its.toList
noncomputable def absV : Value → Option V
  | .none => some .non
  | .bool b => some (.bl b)
  | .int i _ => some (.int i)
  | .str x _ => some (.str x)
  | .bytes b _ => some (.byt b)
  | .float b _ => some (.flt b)
  | .ref a => some (.ref a)
  | .type n => some (.ty n)
  | _ => none
theorem RelV.abs {x : V} {u : Value} (r : RelV x u) : absV u = some x := by
  cases x with
  | non => cases r; rfl
  | bl _ => cases r; rfl
  | int _ => obtain ⟨t, rfl⟩ := r; rfl
  | str _ => obtain ⟨t, rfl⟩ := r; rfl
  | byt _ => obtain ⟨t, rfl⟩ := r; rfl
  | flt _ => obtain ⟨t, rfl⟩ := r; rfl
  | ref _ => cases r; rfl
  | ty _ => cases r; rfl
theorem RelV.inj {x y : V} {u : Value} (r : RelV x u) (q : RelV y u) : x = y := Option.some.inj (r.abs.symm.trans q.abs)
theorem Vals.inj : ∀ {xs ys : List V} {us : List Value}, Vals xs us → Vals ys us → xs = ys
  | _, _, _, .nil, .nil => rfl
  | _, _, _, .cons r t, .cons r' t' => by rw [r.inj r', Vals.inj t t']
section
variable {X : Cx} {pins : List (Addr × Obj)} {σ : St} {H : Hp} {s : Shared} {a : Addr} {xs ys : List V}
theorem SqL.of {K : PySem.W.Frag} (h : H a = some (.lst xs)) : SqL K H a xs := .inl (.inl h)
theorem SqT.of {K : PySem.W.Frag} (h : H a = some (.tup xs)) : SqT K H a xs := .inl (.inl h)
theorem Inv.list (I : Inv X pins σ H s) (h : SqL X.K H a xs) : ∃ its : List Value, Vals xs its ∧ PlainL s.heap a its.toArray ∧ xs.length ≤ sizeLine := by
  rcases h with h | ⟨o, its, n, hk, hc, hd, hs, hz, r⟩
  · obtain ⟨z, its, n, r, e⟩ := h.ok I.hok
    exact ⟨its, r, ⟨_, n, e, rfl, rfl, rfl⟩, z⟩
  · refine ⟨its.toList, r, ⟨o, n, I.kIn a o hk, hc, hd, by simpa using hs⟩, ?_⟩
    have e := r.length
    simp only [Array.length_toList] at e
    omega
theorem Inv.tuple (I : Inv X pins σ H s) (h : SqT X.K H a xs) : ∃ its : List Value, Vals xs its ∧ IsTup s.heap a its.toArray ∧ xs.length ≤ sizeLine := by
  rcases h with h | ⟨o, its, n, hk, hc, hs, hz, r⟩
  · obtain ⟨z, its, r, p⟩ := h.ok I.hok
    exact ⟨its, r, p, z⟩
  · refine ⟨its.toList, r, ⟨o, I.kIn a o hk, hc, n, by simpa using hs⟩, ?_⟩
    have e := r.length
    simp only [Array.length_toList] at e
    omega
theorem Inv.list_inj (I : Inv X pins σ H s) (h : SqL X.K H a xs) (h' : SqL X.K H a ys) : xs = ys := by
  obtain ⟨its, r, ⟨o, n, e, _, _, d⟩, _⟩ := I.list h
  obtain ⟨its', r', ⟨o', n', e', _, _, d'⟩, _⟩ := I.list h'
  rw [e] at e'; cases e'
  rw [d] at d'
  injection d' with d1 _
  have : its = its' := by simpa using congrArg Array.toList d1
  subst this
  exact r.inj r'
theorem Inv.tuple_inj (I : Inv X pins σ H s) (h : SqT X.K H a xs) (h' : SqT X.K H a ys) : xs = ys := by
  obtain ⟨its, r, ⟨o, e, _, n, d⟩, _⟩ := I.tuple h
  obtain ⟨its', r', ⟨o', e', _, n', d'⟩, _⟩ := I.tuple h'
  rw [e] at e'; cases e'
  rw [d] at d'
  injection d' with d1 _
  have : its = its' := by simpa using congrArg Array.toList d1
  subst this
  exact r.inj r'
end

/-! ### another wish about exceptions -/
noncomputable abbrev Cx.wish (X : Cx) (E : Value → Shared → Prop) : Cx := { X with xe := E }
/-- no exception leaves -/
noncomputable abbrev Cx.nox (X : Cx) : Cx := X.wish fun _ _ => False
theorem Cx.Ok.wish {X : Cx} (ok : X.Ok) (E : Value → Shared → Prop) : (X.wish E).Ok :=
  ⟨ok.mod, ok.kind, ok.glob, ok.blt, ok.above, ok.inj, ok.has, ok.cab, ok.hd, ok.frames, ok.stk, ok.exf, ok.bs, ok.bsz, ok.noex, ok.exfs, ok.funs, ok.frf⟩
theorem Cx.Ok.unwish {X : Cx} {E : Value → Shared → Prop} (ok : (X.wish E).Ok) : X.Ok :=
  ⟨ok.mod, ok.kind, ok.glob, ok.blt, ok.above, ok.inj, ok.has, ok.cab, ok.hd, ok.frames, ok.stk, ok.exf, ok.bs, ok.bsz, ok.noex, ok.exfs, ok.funs, ok.frf⟩
section
variable {X : Cx} {pins : List (Addr × Obj)} {σ : St} {H : Hp} {s : Shared} {E : Value → Shared → Prop}
theorem Inv.wish (I : Inv X pins σ H s) (E : Value → Shared → Prop) : Inv (X.wish E) pins σ H s := ⟨I.ok.wish E, I.os, I.bare, I.base, I.loc, I.cell, I.free, I.freeC, I.pin, I.hok, I.len⟩
theorem Inv.unwish (I : Inv (X.wish E) pins σ H s) : Inv X pins σ H s := ⟨I.ok.unwish, I.os, I.bare, I.base, I.loc, I.cell, I.free, I.freeC, I.pin, I.hok, I.len⟩
theorem SP.unwish {D : Ends} {f : Flow} {s' : Shared} (h : SP (X.wish E) pins D f s') : SP X pins D f s' := by
  cases f with
  | next => obtain ⟨σ', H', I, q⟩ := h; exact ⟨σ', H', I.unwish, q⟩
  | brk => obtain ⟨σ', H', I, q⟩ := h; exact ⟨σ', H', I.unwish, q⟩
  | cont => obtain ⟨σ', H', I, q⟩ := h; exact ⟨σ', H', I.unwish, q⟩
  | ret u => obtain ⟨v, σ', H', I, r, q⟩ := h; exact ⟨v, σ', H', I.unwish, r, q⟩
theorem PE.nox {e : Expr} {t : TE} (h : PE X.nox e t) : PE X e t := fun pins s σ H Q I hw =>
  wpAny_mono (h pins s σ H Q (I.wish _) hw) (fun _ _ ⟨v, H', I', r, q⟩ => ⟨v, H', I'.unwish, r, q⟩) fun _ _ z => False.elim z
theorem PT.nox {e : Expr} {t : TT} (h : PT X.nox e t) : PT X e t := fun pins s σ H Q I hw =>
  wpAny_mono (h pins s σ H Q (I.wish _) hw) (fun _ _ ⟨H', I', q⟩ => ⟨H', I'.unwish, q⟩) fun _ _ z => False.elim z
theorem PSs.nox {st : List Stmt} {t : TS} (h : PSs X.nox st t) : PSs X st t := fun pins s σ H D I hw =>
  wpAny_mono (h pins s σ H D (I.wish _) hw) (fun _ _ q => q.unwish) fun _ _ z => False.elim z
end

/-! ### blocks and small statements -/
section
variable {X : Cx} {st : Stmt} {rest : List Stmt} {t u : TS} {e : Expr} {te : TE} {pos : Pos}
noncomputable def tNext : TS := fun D σ H => D.nx σ H
noncomputable def tSeq (t u : TS) : TS := fun D σ H => t { D with nx := u D } σ H
theorem pss_nil : PSs X [] tNext := fun _ _ σ H _ I h => wpAny_execs_nil ⟨σ, H, I, h⟩
theorem pss_cons (h1 : PS X st t) (h2 : PSs X rest u) : PSs X (st :: rest) (tSeq t u) := by
  intro pins s σ H D I h
  refine wpAny_execs_cons (thn (h1 pins s σ H { D with nx := u D } I h) fun f s1 q => ?_)
  cases f with
  | next =>
    obtain ⟨σ', H', I', q⟩ := q
    exact h2 pins s1 σ' H' D I' q
  | ret v => exact q
  | brk => exact q
  | cont => exact q
theorem pss_one (h1 : PS X st t) : PSs X [st] t := by
  intro pins s σ H D I h
  refine wpAny_execs_cons (thn (h1 pins s σ H D I h) fun f s1 q => ?_)
  cases f with
  | next => exact wpAny_execs_nil q
  | ret v => exact q
  | brk => exact q
  | cont => exact q
/-- in a def's body nothing is shown -/
theorem Inv.quiet {pins : List (Addr × Obj)} {σ : St} {H : Hp} {s : Shared} (I : Inv X pins σ H s) : interactive X.env = false := by simp [interactive, I.ok.kind]
/-- an expression whose value is dropped -/
noncomputable def tDrop (te : TE) : TS := fun D σ H => te σ H fun _ H1 => D.nx σ H1
theorem ps_expr (he : PE X e te) (hs : swapsWith e none pos.line X.env = pure false := by rfl) : PS X (.Expr e pos) (tDrop te) := by
  intro pins s σ H D I h
  exact wpAny_Expr_any (thn (he pins s σ H _ I h) fun v s1 ⟨x, H1, I1, r1, q1⟩ => ⟨σ, H1, I1, q1⟩) I.quiet hs
noncomputable def tRet (te : TE) : TS := fun D σ H => te σ H D.rt
theorem ps_ret (he : PE X e te) : PS X (.Return (some e) pos) (tRet te) := by
  intro pins s σ H D I h
  exact wpAny_Return_some (thn (he pins s σ H _ I h) fun v s1 ⟨x, H1, I1, r1, q1⟩ => ⟨x, σ, H1, I1, r1, q1⟩)
noncomputable def tRetN : TS := fun D _ H => D.rt .non H
noncomputable def tIfS (c : TT) (t u : TS) : TS := fun D σ H => c σ H fun b H1 => if b = true then t D σ H1 else u D σ H1
theorem ps_if {c : Expr} {a b : List Stmt} {tc : TT} (hc : PT X c tc) (ha : PSs X a t) (hb : PSs X b u) : PS X (.If c a b pos) (tIfS tc t u) := by
  intro pins s σ H D I h
  refine wpAny_If (thn (hc pins s σ H _ I h) fun d s1 ⟨H1, I1, q1⟩ => ?_)
  cases d with
  | true => exact ha pins s1 σ H1 D I1 q1
  | false => exact hb pins s1 σ H1 D I1 q1
end

/-! ### targets -/
noncomputable abbrev TG := V → St → Hp → (St → Hp → Prop) → Prop
noncomputable def PG (X : Cx) (target : Expr) (t : TG) : Prop :=
  ∀ (pins : List (Addr × Obj)) (s : Shared) (σ : St) (H : Hp) (v : V) (u : Value) (Q : St → Hp → Prop), Inv X pins σ H s → RelV v u → t v σ H Q →
    wpAny (model X.prog X.w) X.A (assign target X.env u) (fun _ s' => ∃ σ' H', Inv X pins σ' H' s' ∧ Q σ' H') X.xe s
section
variable {X : Cx} {pos : Pos}
noncomputable def gName (i : Nat) : TG := fun v σ H Q => Q (σ.set i (some v)) H
theorem pg_name {i : Nat} {x : Str} (hN : X.N.Nodup) (hi : X.N[i]? = some x) (hx : Loc X.env.scope x) (hf : X.fn x = true ∨ X.env.scope.names.lookup x = some .local := by first | exact .inl rfl | exact .inr rfl | assumption) : PG X (.Name x pos) (gName i) := by
  intro pins s σ H v u Q I r h
  exact wpAny_assign_Name (store_ok I hN hi hx r (fun s' I' => ⟨_, H, I', h⟩) hf)
/-- target = value -/
noncomputable def tAsg (te : TE) (g : TG) : TS := fun D σ H => te σ H fun x H1 => g x σ H1 D.nx
/-- name = value -/
theorem ps_set {i : Nat} {x : Str} {e : Expr} {te : TE} {pos' : Pos} (hN : X.N.Nodup) (hi : X.N[i]? = some x) (hx : Loc X.env.scope x) (he : PE X e te) (hs : swapsWith e (some (.Name x pos')) pos.line X.env = pure false := by rfl) (hf : X.fn x = true ∨ X.env.scope.names.lookup x = some .local := by first | exact .inl rfl | exact .inr rfl | assumption) :
    PS X (.Assign [.Name x pos'] e pos) (tAsg te (gName i)) := by
  intro pins s σ H D I h
  refine wpAny_Assign_Name (thn (he pins s σ H _ I h) fun v s1 ⟨y, H1, I1, r1, q1⟩ => ?_) hs
  exact store_ok I1 hN hi hx r1 (fun s2 I2 => ⟨_, H1, I2, q1⟩) hf
/-- a, b = x, y with plain local names: stored from the right; the pair itself is not tracked (the opening rows as in PyProof/Rows/TupAssign.lean:23) -/
noncomputable def tPar (i j : Nat) (ta : TA) : TS := fun D σ H => ta σ H fun vs H1 => ∃ v w, vs = [v, w] ∧ D.nx ((σ.set i (some v)).set j (some w)) H1
end

/-! ### while -/
section
variable {X : Cx} {pos : Pos}
end

/-! ### what a loop or a comprehension walks -/
/-- at turn i: it yields x (the heap may grow), or it stops -/
structure It where
  go : Nat → Hp → Prop
  yld : Nat → Hp → V → Hp → Prop
  stop : Nat → Hp → Prop
/-- the iterator's own objects may turn: they are not the frame's, not pinned, younger than the entry (or a comprehension's own) -/
noncomputable def FpOk (X : Cx) (pins : List (Addr × Obj)) (H : Hp) (b : Addr) : Prop :=
  H b = none ∧ b ≠ X.env.locals ∧ b ∉ X.fs ∧ (b ∈ X.ex ∨ X.s₀.heap.objs.size ≤ b) ∧ (∀ x c, X.env.cells.lookup x = some c → c ≠ b) ∧ ∀ p ∈ X.pn ++ pins, p.1 ≠ b
theorem Inv.fpOk {X : Cx} {pins : List (Addr × Obj)} {σ : St} {H H' : Hp} {s : Shared} {b : Addr} (I : Inv X pins σ H s) (hb : s.heap.objs.size ≤ b) (hn : H' b = none) : FpOk X pins H' b := by
  refine ⟨hn, Nat.ne_of_gt (Nat.lt_of_lt_of_le I.lt hb), I.nofs hb, .inr (Nat.le_trans I.sz hb), fun x c e z => ?_, fun p hp z => ?_⟩
  · obtain ⟨v, q⟩ := I.cell x c e
    exact absurd (Nat.lt_of_lt_of_le q.lt (by rw [z]; exact hb)) (Nat.lt_irrefl _)
  · exact absurd (Nat.lt_of_lt_of_le (Heap.lt_size (I.pin p hp).1) (by rw [z]; exact hb)) (Nat.lt_irrefl _)
structure Turn (P : Program) (w : World) (K : PySem.W.Frag) (tg : Expr) (J : It) (fp : List Addr) (it : Addr) (tn : Nat → Heap → Prop) : Prop where
  mem : it ∈ fp
  obj : ∀ i h, tn i h → ∀ b ∈ fp, ∃ o, h.get? b = some o ∧ ∀ v, o.data ≠ .cell v
  keep : ∀ i h h', tn i h → (∀ b ∈ fp, ∀ o, h.get? b = some o → h'.get? b = some o) → tn i h'
  item : ∀ (X : Cx), X.prog = P → X.w = w → X.K = K → X.calm = true → ∀ (i : Nat) (pins : List (Addr × Obj)) (s : Shared) (σ : St) (H : Hp) (E : Value → Shared → Prop), Inv X pins σ H s → (∀ b ∈ fp, FpOk X pins H b) → tn i s.heap → J.go i H →
    wpAny (model P w) X.A (pyNext (.ref it)) (fun r s1 => ∃ u, r = some u ∧
      wpAny (model P w) X.A (letOwnedTupleGo tg (.ref it) u) (fun _ s2 => ∃ x H', Inv X pins σ H' s2 ∧ RelV x u ∧ J.yld i H x H' ∧ tn (i + 1) s2.heap ∧ ∀ b ∈ fp, H' b = none) E s1) E s
  done : ∀ (X : Cx), X.prog = P → X.w = w → X.K = K → X.calm = true → ∀ (i : Nat) (pins : List (Addr × Obj)) (s : Shared) (σ : St) (H : Hp) (E : Value → Shared → Prop), Inv X pins σ H s → (∀ b ∈ fp, FpOk X pins H b) → tn i s.heap → J.stop i H →
    wpAny (model P w) X.A (pyNext (.ref it)) (fun r s1 => r = none ∧ Inv X pins σ H s1) E s
  self : ∀ (A : Around) (i : Nat) (s : Shared) (Q : Value → Shared → Prop) (E : Value → Shared → Prop), tn i s.heap → Q (.ref it) s → wpAny (model P w) A (pyIter (.ref it)) Q E s
noncomputable abbrev TI := St → Hp → (It → Hp → Prop) → Prop
/-- an iterator has come -/
noncomputable def PIE (X : Cx) (pins : List (Addr × Obj)) (σ : St) (tg : Expr) (R : It → Hp → Prop) (itv : Value) (s2 : Shared) : Prop :=
  ∃ (it : Addr) (fp : List Addr) (tn : Nat → Heap → Prop) (J : It) (H' : Hp), itv = .ref it ∧ Inv X pins σ H' s2 ∧ Turn X.prog X.w X.K tg J fp it tn ∧ tn 0 s2.heap ∧ (∀ b ∈ fp, FpOk X pins H' b) ∧ R J H'
noncomputable def PI (X : Cx) (tg iter : Expr) (wi : TI) : Prop :=
  ∀ (pins : List (Addr × Obj)) (s : Shared) (σ : St) (H : Hp) (R : It → Hp → Prop), Inv X pins σ H s → wi σ H R →
    wpAny (model X.prog X.w) X.A (eval iter X.env) (fun v s1 => wpAny (model X.prog X.w) X.A (pyIter v) (PIE X pins σ tg R) X.xe s1) X.xe s

/-- the step ahead of the store is nothing for an iterator that keeps no tuple -/
theorem go_of {M : Model} {A : Around} {E : Value → Shared → Prop} {s : Shared} {tg : Expr} {it : Addr} {u : Value} {o : Obj} {n : String} {vs : Array Value} {Q : Unit → Shared → Prop} (ho : s.heap.get? it = some o) (hc : o.cls = .type n) (hd : o.data = .fields vs)
    (hn : ["enumerate", "zip", "dict_itemiterator", "dict_reverseitemiterator", "odict_iterator", "itertools.zip_longest", "itertools.pairwise"].contains n = false) (hQ : Q () s) : wpAny M A (letOwnedTupleGo tg (.ref it) u) Q E s := by
  unfold letOwnedTupleGo
  cases tg <;> first
    | exact wpAny_pure hQ
    | (cases u <;> first
        | exact wpAny_pure hQ
        | (refine wpAny_bind (wpAny_load ho ?_)
           rw [hc, hd]
           show wpAny M A (if (["enumerate", "zip", "dict_itemiterator", "dict_reverseitemiterator", "odict_iterator", "itertools.zip_longest", "itertools.pairwise"].contains n && vs[0]? == some (rawInt _)) = true then _ else _) Q E s
           rw [if_neg (by intro h; rw [hn, Bool.false_and] at h; cases h)]
           exact wpAny_pure hQ))

/-- the list at a, as it stands at each turn (a loop may append to it) -/
noncomputable def Itl (K : PySem.W.Frag) (a : Addr) : It :=
  ⟨fun i H => ∃ xs x, SqL K H a xs ∧ xs[i]? = some x, fun i H x H' => H' = H ∧ ∀ xs, SqL K H a xs → xs[i]? = some x, fun i H => ∃ xs, SqL K H a xs ∧ xs.length ≤ i⟩
noncomputable def Itt (K : PySem.W.Frag) (a : Addr) : It :=
  ⟨fun i H => ∃ xs x, SqT K H a xs ∧ xs[i]? = some x, fun i H x H' => H' = H ∧ ∀ xs, SqT K H a xs → xs[i]? = some x, fun i H => ∃ xs, SqT K H a xs ∧ xs.length ≤ i⟩
/-- lo, lo + 1, .. (n of them) -/
noncomputable def Itr (lo : Int) (n : Nat) : It := ⟨fun i _ => i < n, fun i H x H' => H' = H ∧ x = .int (lo + i), fun i _ => n ≤ i⟩
theorem turn_list {P : Program} {w : World} {K : PySem.W.Frag} {tg : Expr} (a it : Addr) : Turn P w K tg (Itl K a) [it] it (fun i h => h.IsListIter it a i) where
  mem := by simp
  obj := fun i h st b hb => by
    have e : b = it := by simpa using hb
    subst e
    obtain ⟨o, e, c, d⟩ := st
    exact ⟨o, e, fun v z => by rw [d] at z; cases z⟩
  keep := fun i h h' st k => st.at fun o e => k it (by simp) o e
  item := by
    intro X hP hw hK hc i pins s σ H E I hf st hg
    subst hP hw hK
    obtain ⟨xs, x, hq, hx⟩ := hg
    obtain ⟨its, rv, p, hz⟩ := I.list hq
    obtain ⟨u, hu, ru⟩ := rv.get hx
    obtain ⟨f0, f1, f2, f3, f4, f5⟩ := hf it (by simp)
    refine wpAny_pyNext_list_item st p.isList (x := u) (by simpa using hu) fun h' st' sb => ?_
    have I1 : Inv X pins σ H { s with heap := h' } := I.turned (t' := s.toks) (fun b o hb e => (sb.2 b hb).trans e) f0 f1 f3 f4 f5
    obtain ⟨o, e, c, d⟩ := id st'
    exact ⟨u, rfl, go_of (s := { s with heap := h' }) e c d (by decide) ⟨x, H, I1, ru, ⟨rfl, fun ys hy => by rw [I.list_inj hy hq]; exact hx⟩, st', fun b hb => (hf b hb).1⟩⟩
  done := by
    intro X hP hw hK hc i pins s σ H E I hf st hg
    subst hP hw hK
    obtain ⟨xs, hq, hx⟩ := hg
    obtain ⟨its, rv, p, hz⟩ := I.list hq
    obtain ⟨f0, f1, f2, f3, f4, f5⟩ := hf it (by simp)
    have hl := rv.length
    exact wpAny_pyNext_list_end (I.ok.hd hc) st p.isList (by simp; omega) fun h' eb => ⟨rfl, I.turned (t' := s.toks) (fun b o hb e => eb b o hb e) f0 f1 f3 f4 f5⟩
  self := fun _ _ _ _ _ st h => wpAny_pyIter_listiter st h
theorem turn_tuple {P : Program} {w : World} {K : PySem.W.Frag} {tg : Expr} (a it : Addr) : Turn P w K tg (Itt K a) [it] it (fun i h => h.IsTupleIter it a i) where
  mem := by simp
  obj := fun i h st b hb => by
    have e : b = it := by simpa using hb
    subst e
    obtain ⟨o, e, c, d⟩ := st
    exact ⟨o, e, fun v z => by rw [d] at z; cases z⟩
  keep := fun i h h' st k => st.at fun o e => k it (by simp) o e
  item := by
    intro X hP hw hK hc i pins s σ H E I hf st hg
    subst hP hw hK
    obtain ⟨xs, x, hq, hx⟩ := hg
    obtain ⟨its, rv, p, hz⟩ := I.tuple hq
    obtain ⟨u, hu, ru⟩ := rv.get hx
    obtain ⟨f0, f1, f2, f3, f4, f5⟩ := hf it (by simp)
    refine wpAny_pyNext_tuple_item st (show s.heap.IsTuple a its.toArray from p) (x := u) (by simpa using hu) fun h' st' sb => ?_
    have I1 : Inv X pins σ H { s with heap := h' } := I.turned (t' := s.toks) (fun b o hb e => (sb.2 b hb).trans e) f0 f1 f3 f4 f5
    obtain ⟨o, e, c, d⟩ := id st'
    exact ⟨u, rfl, go_of (s := { s with heap := h' }) e c d (by decide) ⟨x, H, I1, ru, ⟨rfl, fun ys hy => by rw [I.tuple_inj hy hq]; exact hx⟩, st', fun b hb => (hf b hb).1⟩⟩
  done := by
    intro X hP hw hK hc i pins s σ H E I hf st hg
    subst hP hw hK
    obtain ⟨xs, hq, hx⟩ := hg
    obtain ⟨its, rv, p, hz⟩ := I.tuple hq
    obtain ⟨f0, f1, f2, f3, f4, f5⟩ := hf it (by simp)
    have hl := rv.length
    exact wpAny_pyNext_tuple_end (I.ok.hd hc) st (show s.heap.IsTuple a its.toArray from p) (by simp; omega) fun h' eb => ⟨rfl, I.turned (t' := s.toks) (fun b o hb e => eb b o hb e) f0 f1 f3 f4 f5⟩
  self := fun _ _ _ _ _ st h => wpAny_pyIter_tupleiter st h
theorem turn_range {P : Program} {w : World} {K : PySem.W.Frag} {tg : Expr} (it : Addr) (lo : Int) (n : Nat) : Turn P w K tg (Itr lo n) [it] it (fun i h => IsRangeIter h it (lo + (i : Nat) * 1) ((n : Int) - (i : Nat)) 1) where
  mem := by simp
  obj := fun i h st b hb => by
    have e : b = it := by simpa using hb
    subst e
    exact ⟨_, st, fun v z => by
      have z' : Data.fields _ = Data.cell v := z
      cases z'⟩
  keep := fun i h h' st k => k it (by simp) _ st
  item := by
    intro X hP hw hK hc i pins s σ H E I hf st hg
    subst hP hw hK
    obtain ⟨f0, f1, f2, f3, f4, f5⟩ := hf it (by simp)
    have W := Walks.range (prog := X.prog) (w := X.w) (I.ok.hd hc) it lo 1 n
    refine W.item i s _ _ hg st fun v h' tk hv st' kk => ?_
    obtain ⟨t, rfl⟩ := hv
    have I1 : Inv X pins σ H { s with heap := h', toks := tk } := I.turned (fun b o hb e => kk b o (by simpa using hb) e) f0 f1 f3 f4 f5
    refine ⟨_, rfl, go_of (s := { s with heap := h', toks := tk }) (n := "range_iterator") st' rfl rfl (by decide) ⟨.int (lo + i), H, I1, ⟨t, ?_⟩, ⟨rfl, rfl⟩, st', fun b hb => (hf b hb).1⟩⟩
    rw [Int.mul_one]
  done := by
    intro X hP hw hK hc i pins s σ H E I hf st hg
    subst hP hw hK
    obtain ⟨f0, f1, f2, f3, f4, f5⟩ := hf it (by simp)
    exact wpAny_pyNext_range_end (I.ok.hd hc) st (by have : n ≤ i := hg; omega) fun h' eb => ⟨rfl, I.turned (t' := s.toks) (fun b o hb e => eb b o hb e) f0 f1 f3 f4 f5⟩
  self := fun _ _ _ _ _ st h => wpAny_pyIter_rangeiter st h
end L2

namespace L2
open PySem PySem.Spec PyProof.Rows
section
variable {X : Cx} {tg : Expr}
/-- a range object just made, walked -/
theorem range_it {pins : List (Addr × Obj)} {σ : St} {H : Hp} {s : Shared} {R : It → Hp → Prop} {E : Value → Shared → Prop} {lo hi : Int} {t u v : Tok} {tk : Nat} (I : Inv X pins σ H s) (h1 : -(2 ^ 62) ≤ lo) (h2 : lo < 2 ^ 62) (h3 : -(2 ^ 62) ≤ hi) (h4 : hi < 2 ^ 62)
    (q : R (Itr lo (hi - lo).toNat) H) : wpAny (model X.prog X.w) X.A (pyIter (.ref s.heap.objs.size)) (PIE X pins σ tg R) E { s with heap := s.heap.push { cls := .type "range", data := .fields #[.int lo t, .int hi u, .int 1 v] }, toks := tk } := by
  refine wpAny_pyIter_range (IsRange.new ..) (small_one h1 h2 h3 h4) ?_
  have I1 : Inv X pins σ H { s with heap := s.heap.push { cls := .type "range", data := .fields #[.int lo t, .int hi u, .int 1 v] }, toks := tk } := I.kept fun b o e => Heap.get?_push_of_some _ e
  refine ⟨(s.heap.push { cls := .type "range", data := .fields #[.int lo t, .int hi u, .int 1 v] }).objs.size, [(s.heap.push { cls := .type "range", data := .fields #[.int lo t, .int hi u, .int 1 v] }).objs.size], _, _, H, rfl,
    I1.kept (t' := tk) fun b o e => Heap.get?_push_of_some _ e, turn_range _ lo (hi - lo).toNat, ?_, fun b hb => ?_, q⟩
  · have e1 : lo + ((0 : Nat) : Int) * 1 = lo := by simp
    have e2 : (((hi - lo).toNat : Nat) : Int) - ((0 : Nat) : Int) = Builtin.Range.rangeSize lo hi 1 := by rw [rangeSize_one]; split <;> omega
    show IsRangeIter _ _ (lo + ((0 : Nat) : Int) * 1) ((((hi - lo).toNat : Nat) : Int) - ((0 : Nat) : Int)) 1
    rw [e1, e2]
    exact Heap.get?_push_size _ rfl
  · have e : b = (s.heap.push { cls := .type "range", data := .fields #[.int lo t, .int hi u, .int 1 v] }).objs.size := by simpa using hb
    subst e
    exact I1.fpOk (Nat.le_refl _) (I1.hok.fresh (Nat.le_refl _))
noncomputable def iRng1 (ta : TA) : TI := fun σ H R => ta σ H fun vs H1 => ∃ j : Int, vs = [.int j] ∧ -(2 ^ 62) ≤ j ∧ j < 2 ^ 62 ∧ R (Itr 0 j.toNat) H1
theorem pi_range1 {a : Expr} {ta : TA} {p pos : Pos} (hg : Gl X "range") (hm : X.mg "range" = none) (ha : PA X [a] ta) (hs : starEach [a] X.env = [(false, eval a X.env)] := by rfl) : PI X tg (.Call (.Name "range" p) [a] [] pos) (iRng1 ta) := by
  intro pins s σ H R I h
  refine Call_ (ld_blt I hg hm boot_range (PyProof.Rows.callWith_type1 (thn (ha pos pins s σ H _ I h) fun us s1 ⟨vs, H1, I1, r1, q1⟩ => ?_) hs rfl))
  obtain ⟨j, e, q1, q2, q⟩ := q1
  subst e
  cases r1 with
  | cons r rr =>
    cases rr
    obtain ⟨t, rfl⟩ := r
    exact call_range_1 (range_it I1 (by omega) (by omega) q1 q2 (by simpa using q))
/-! ### for -/
/-- W: the invariant by the turn and a measure; N: what the body is to reach -/
noncomputable def tFor (wi : TI) (g : TG) (tb : TS) : TS := fun D σ H => wi σ H fun J H1 => ∃ W : Nat → Nat → St → Hp → Prop, (∃ m, W 0 m σ H1) ∧ ∀ i m σ H, W i m σ H →
  (J.stop i H ∧ D.nx σ H) ∨ (J.go i H ∧ ∃ N : St → Hp → Prop, (∀ σ' H', N σ' H' → ∃ m', m' < m ∧ W (i + 1) m' σ' H') ∧ ∀ x H', J.yld i H x H' → g x σ H' fun σ2 H2 => tb { D with nx := N, ct := N, bk := D.nx } σ2 H2)
/-- the records at fp as they stand -/
noncomputable def pinsAt (fp : List Addr) (h : Heap) : List (Addr × Obj) := fp.filterMap fun b => (h.get? b).map fun o => (b, o)
theorem mem_pinsAt {fp : List Addr} {h : Heap} {b : Addr} {o : Obj} (hb : b ∈ fp) (e : h.get? b = some o) : (b, o) ∈ pinsAt fp h := List.mem_filterMap.mpr ⟨b, hb, by rw [e]; rfl⟩
theorem of_pinsAt {fp : List Addr} {h : Heap} {p : Addr × Obj} (hp : p ∈ pinsAt fp h) : p.1 ∈ fp ∧ h.get? p.1 = some p.2 := by
  obtain ⟨b, hb, e⟩ := List.mem_filterMap.mp hp
  cases q : h.get? b with
  | none => rw [q] at e; cases e
  | some o =>
    rw [q] at e
    have e' : (b, o) = p := Option.some.inj e
    subst e'
    exact ⟨hb, q⟩
theorem Inv.pinned {pins : List (Addr × Obj)} {σ : St} {H : Hp} {s : Shared} {fp : List Addr} (I : Inv X pins σ H s) (hf : ∀ b ∈ fp, FpOk X pins H b) (ho : ∀ b ∈ fp, ∃ o, s.heap.get? b = some o ∧ ∀ v, o.data ≠ .cell v) : Inv X (pins ++ pinsAt fp s.heap) σ H s :=
  I.pins_of fun p hp => (List.mem_append.mp hp).elim (fun z => I.pin p (List.mem_append_right _ z)) fun z => by
    obtain ⟨hb, e⟩ := of_pinsAt z
    obtain ⟨f0, f1, f2, _⟩ := hf p.1 hb
    obtain ⟨o, e', d⟩ := ho p.1 hb
    rw [e] at e'; cases e'
    exact ⟨e, f0, f1, f2, d⟩
theorem Inv.unpinned {pins pl : List (Addr × Obj)} {σ : St} {H : Hp} {s : Shared} (I : Inv X (pins ++ pl) σ H s) : Inv X pins σ H s := I.pins_of fun p hp => I.pin p (List.mem_append_right _ (List.mem_append_left _ hp))
theorem ps_for {iter : Expr} {body : List Stmt} {wi : TI} {g : TG} {tb : TS} {pos : Pos} (hp : PassesOwn (model X.prog X.w) X.A X.env X.xe) (hc : X.calm = true) (hi : PI X tg iter wi) (hg : PG X tg g) (hb : PSs X body tb)
    (hs : ∀ x, foldedSetIterable iter X.env x = pure x := by intro _; rfl) : PS X (.For tg iter body [] pos) (tFor wi g tb) := by
  intro pins s σ H D I h
  refine wpAny_For (thn (hi pins s σ H _ I h) fun v s1 h1 => thn h1 fun itv s2 h2 => ?_) hs
  obtain ⟨it, fp, tn, J, H2, e, I2, T, st2, f2, W, ⟨m0, w0⟩, turn⟩ := h2
  subst e
  -- what stays true of the iterator's objects through the loop
  have stat : ∀ {H' : Hp}, (∀ b ∈ fp, H' b = none) → ∀ b ∈ fp, FpOk X pins H' b := fun hn b hb => ⟨hn b hb, (f2 b hb).2⟩
  refine codeAny_forLoop_any (fun n s' => ∃ i σ' H', Inv X pins σ' H' s' ∧ tn i s'.heap ∧ (∀ b ∈ fp, H' b = none) ∧ W i n σ' H') ?_ m0 ⟨0, σ, H2, I2, st2, fun b hb => (f2 b hb).1, w0⟩
  rintro n s3 ⟨i, σ3, H3, I3, st3, fr3, w3⟩
  rcases turn i n σ3 H3 w3 with ⟨stop, qn⟩ | ⟨go, N, hN, step⟩
  · refine wpAny_passesOwn hp (thn (T.done X rfl rfl rfl hc i pins s3 σ3 H3 X.xe I3 (stat fr3) st3 stop) fun r s4 ⟨hr, I4⟩ => ?_)
    subst hr
    exact wpAny_execs_nil ⟨σ3, H3, I4, qn⟩
  · refine wpAny_passesOwn hp (thn (T.item X rfl rfl rfl hc i pins s3 σ3 H3 X.xe I3 (stat fr3) st3 go) fun r s4 ⟨u, hr, h4⟩ => ?_)
    subst hr
    refine wpAny_passesOwn hp (thn h4 fun _ s5 ⟨x, H5, I5, r5, y5, st5, fr5⟩ => ?_)
    have I5' := I5.pinned (stat fr5) (T.obj _ _ st5)
    refine wpAny_passesOwn hp (thn (hg _ s5 σ3 H5 x u _ I5' r5 (step x H5 y5)) fun _ s6 ⟨σ6, H6, I6, q6⟩ => ?_)
    refine wpAny_passesOwn hp (thn (hb _ s6 σ6 H6 _ I6 q6) fun f s7 q7 => ?_)
    have again : ∀ {σ7 : St} {H7 : Hp}, Inv X (pins ++ pinsAt fp s5.heap) σ7 H7 s7 → N σ7 H7 → ∃ m, m < n ∧ ∃ i σ' H', Inv X pins σ' H' s7 ∧ tn i s7.heap ∧ (∀ b ∈ fp, H' b = none) ∧ W i m σ' H' := fun {σ7 H7} I7 n7 => by
      obtain ⟨m', hm, w7⟩ := hN σ7 H7 n7
      refine ⟨m', hm, i + 1, σ7, H7, I7.unpinned, T.keep _ _ _ st5 fun b hb o e => (I7.pin (b, o) (List.mem_append_right _ (List.mem_append_right _ (mem_pinsAt hb e)))).1, fun b hb => ?_, w7⟩
      obtain ⟨o, e, d⟩ := T.obj _ _ st5 b hb
      exact (I7.pin (b, o) (List.mem_append_right _ (List.mem_append_right _ (mem_pinsAt hb e)))).2.1
    cases f with
    | next => obtain ⟨σ7, H7, I7, n7⟩ := q7; exact again I7 n7
    | cont => obtain ⟨σ7, H7, I7, n7⟩ := q7; exact again I7 n7
    | brk => obtain ⟨σ7, H7, I7, q7⟩ := q7; exact ⟨σ7, H7, I7.unpinned, q7⟩
    | ret v => obtain ⟨x7, σ7, H7, I7, r7, q7⟩ := q7; exact ⟨x7, σ7, H7, I7.unpinned, r7, q7⟩
end

/-! ### the forms one uses -/
/-- over a list that the body leaves as it is -/
theorem for_list {K : PySem.W.Frag} {a : Addr} {xs : List V} {g : TG} {tb : TS} {D : Ends} {σ : St} {H : Hp} (Pv : Nat → St → Hp → Prop) (h0 : Pv 0 σ H) (hl : ∀ i σ H, i ≤ xs.length → Pv i σ H → SqL K H a xs)
    (hs : ∀ i x σ H, xs[i]? = some x → Pv i σ H → g x σ H fun σ2 H2 => tb { D with nx := Pv (i + 1), ct := Pv (i + 1), bk := D.nx } σ2 H2) (hd : ∀ σ H, Pv xs.length σ H → D.nx σ H) :
    ∃ W : Nat → Nat → St → Hp → Prop, (∃ m, W 0 m σ H) ∧ ∀ i m σ H, W i m σ H →
      ((Itl K a).stop i H ∧ D.nx σ H) ∨ ((Itl K a).go i H ∧ ∃ N : St → Hp → Prop, (∀ σ' H', N σ' H' → ∃ m', m' < m ∧ W (i + 1) m' σ' H') ∧ ∀ x H', (Itl K a).yld i H x H' → g x σ H' fun σ2 H2 => tb { D with nx := N, ct := N, bk := D.nx } σ2 H2) := by
  refine ⟨fun i m σ H => m = xs.length - i ∧ i ≤ xs.length ∧ Pv i σ H, ⟨xs.length, by simp, Nat.zero_le _, h0⟩, ?_⟩
  rintro i m σ H ⟨rfl, hi, p⟩
  have q := hl i σ H hi p
  by_cases hlt : i < xs.length
  · refine .inr ⟨⟨xs, xs[i], q, by simp [hlt]⟩, Pv (i + 1), fun σ' H' p' => ⟨xs.length - (i + 1), by omega, rfl, hlt, p'⟩, fun x H' y => ?_⟩
    obtain ⟨e, y⟩ := y
    subst e
    exact hs i x σ _ (y xs q) p
  · have e : i = xs.length := by omega
    subst e
    exact .inl ⟨⟨xs, q, Nat.le_refl _⟩, hd σ H p⟩
theorem for_tup {K : PySem.W.Frag} {a : Addr} {xs : List V} {g : TG} {tb : TS} {D : Ends} {σ : St} {H : Hp} (Pv : Nat → St → Hp → Prop) (h0 : Pv 0 σ H) (hl : ∀ i σ H, i ≤ xs.length → Pv i σ H → SqT K H a xs)
    (hs : ∀ i x σ H, xs[i]? = some x → Pv i σ H → g x σ H fun σ2 H2 => tb { D with nx := Pv (i + 1), ct := Pv (i + 1), bk := D.nx } σ2 H2) (hd : ∀ σ H, Pv xs.length σ H → D.nx σ H) :
    ∃ W : Nat → Nat → St → Hp → Prop, (∃ m, W 0 m σ H) ∧ ∀ i m σ H, W i m σ H →
      ((Itt K a).stop i H ∧ D.nx σ H) ∨ ((Itt K a).go i H ∧ ∃ N : St → Hp → Prop, (∀ σ' H', N σ' H' → ∃ m', m' < m ∧ W (i + 1) m' σ' H') ∧ ∀ x H', (Itt K a).yld i H x H' → g x σ H' fun σ2 H2 => tb { D with nx := N, ct := N, bk := D.nx } σ2 H2) := by
  refine ⟨fun i m σ H => m = xs.length - i ∧ i ≤ xs.length ∧ Pv i σ H, ⟨xs.length, by simp, Nat.zero_le _, h0⟩, ?_⟩
  rintro i m σ H ⟨rfl, hi, p⟩
  have q := hl i σ H hi p
  by_cases hlt : i < xs.length
  · refine .inr ⟨⟨xs, xs[i], q, by simp [hlt]⟩, Pv (i + 1), fun σ' H' p' => ⟨xs.length - (i + 1), by omega, rfl, hlt, p'⟩, fun x H' y => ?_⟩
    obtain ⟨e, y⟩ := y
    subst e
    exact hs i x σ _ (y xs q) p
  · have e : i = xs.length := by omega
    subst e
    exact .inl ⟨⟨xs, q, Nat.le_refl _⟩, hd σ H p⟩
theorem for_range {lo : Int} {n : Nat} {g : TG} {tb : TS} {D : Ends} {σ : St} {H : Hp} (Pv : Nat → St → Hp → Prop) (h0 : Pv 0 σ H)
    (hs : ∀ i σ H, i < n → Pv i σ H → g (.int (lo + i)) σ H fun σ2 H2 => tb { D with nx := Pv (i + 1), ct := Pv (i + 1), bk := D.nx } σ2 H2) (hd : ∀ σ H, Pv n σ H → D.nx σ H) :
    ∃ W : Nat → Nat → St → Hp → Prop, (∃ m, W 0 m σ H) ∧ ∀ i m σ H, W i m σ H →
      ((Itr lo n).stop i H ∧ D.nx σ H) ∨ ((Itr lo n).go i H ∧ ∃ N : St → Hp → Prop, (∀ σ' H', N σ' H' → ∃ m', m' < m ∧ W (i + 1) m' σ' H') ∧ ∀ x H', (Itr lo n).yld i H x H' → g x σ H' fun σ2 H2 => tb { D with nx := N, ct := N, bk := D.nx } σ2 H2) := by
  refine ⟨fun i m σ H => m = n - i ∧ i ≤ n ∧ Pv i σ H, ⟨n, by simp, Nat.zero_le _, h0⟩, ?_⟩
  rintro i m σ H ⟨rfl, hi, p⟩
  by_cases hlt : i < n
  · refine .inr ⟨hlt, Pv (i + 1), fun σ' H' p' => ⟨n - (i + 1), by omega, rfl, hlt, p'⟩, fun x H' y => ?_⟩
    obtain ⟨e, y⟩ := y
    subst e y
    exact hs i σ _ hlt p
  · have e : i = n := by omega
    subst e
    exact .inl ⟨Nat.le_refl _, hd σ H p⟩
end L2

namespace L2
open PySem PySem.Spec PyProof.Rows

noncomputable abbrev R2 := V → V → Hp → VK → Prop
/-- a two-place operation on values: f is binaryOp op, inplaceOp op or compareOp op -/
noncomputable def OpR (X : Cx) (f : Value → Value → Sem Value) (r : R2) : Prop :=
  ∀ (pins : List (Addr × Obj)) (s : Shared) (σ : St) (H : Hp) (x y : V) (v u : Value) (Q : VK), Inv X pins σ H s → RelV x v → RelV y u → r x y H Q →
    wpAny (model X.prog X.w) X.A (f v u) (EP X pins σ Q) X.xe s
/-- a call of a value that is known (a builtin, a type) with values -/
noncomputable def CallR (X : Cx) (f : Value) (r : List V → Hp → VK → Prop) : Prop :=
  ∀ (pins : List (Addr × Obj)) (s : Shared) (σ : St) (H : Hp) (xs : List V) (us : List Value) (Q : VK), Inv X pins σ H s → Vals xs us → r xs H Q →
    wpAny (model X.prog X.w) X.A (call f us) (EP X pins σ Q) X.xe s
noncomputable def tOp (r : R2) (ta tb : TE) : TE := fun σ H Q => ta σ H fun x H1 => tb σ H1 fun y H2 => r x y H2 Q
noncomputable def tUn (r : V → Hp → VK → Prop) (ta : TE) : TE := fun σ H Q => ta σ H fun x H1 => r x H1 Q
/-- ints in, under C, and a value out -/
noncomputable def rI (C : Int → Int → Prop) (g : Int → Int → V) : R2 := fun x y H Q => ∃ i j, x = .int i ∧ y = .int j ∧ C i j ∧ Q (g i j) H
noncomputable def rI0 (g : Int → Int → V) : R2 := fun x y H Q => ∃ i j, x = .int i ∧ y = .int j ∧ Q (g i j) H
noncomputable def rU (g : Int → V) : V → Hp → VK → Prop := fun x H Q => ∃ i, x = .int i ∧ Q (g i) H

section
variable {X : Cx} {a b c : Expr} {ta tb tc : TE} {pos : Pos}

theorem binT (ha : PE X a ta) (hb : PE X b tb) {pins : List (Addr × Obj)} {s : Shared} {σ : St} {H : Hp} {R : V → V → Hp → Prop} (I : Inv X pins σ H s)
    (h : ta σ H fun x H1 => tb σ H1 fun y H2 => R x y H2) {Q : Value → Shared → Prop} {f : Value → Value → Sem Value}
    (hf : ∀ v u s2 x y H2, Inv X pins σ H2 s2 → RelV x v → RelV y u → R x y H2 → wpAny (model X.prog X.w) X.A (f v u) Q X.xe s2) :
    wpAny (model X.prog X.w) X.A (eval a X.env) (fun v s₁ => wpAny (model X.prog X.w) X.A (eval b X.env) (fun u s₂ => wpAny (model X.prog X.w) X.A (f v u) Q X.xe s₂) X.xe s₁) X.xe s := by
  refine thn (ha pins s σ H _ I h) fun v s1 ⟨x, H1, I1, r1, q1⟩ => ?_
  refine thn (hb pins s1 σ H1 _ I1 q1) fun u s2 ⟨y, H2, I2, r2, q2⟩ => ?_
  exact hf v u s2 x y H2 I2 r1 r2 q2

theorem pe_op {op : Operator} {r : R2} (ho : OpR X (binaryOp op) r) (ha : PE X a ta) (hb : PE X b tb) : PE X (.BinOp a op b pos) (tOp r ta tb) := by
  intro pins s σ H Q I h
  exact wpAny_BinOp (binT ha hb I h fun v u s2 x y H2 I2 rx ry q => ho pins s2 σ H2 x y v u Q I2 rx ry q)
/-! ### ints -/
theorem opI {f : Value → Value → Sem Value} {C : Int → Int → Prop} {g : Int → Int → Int}
    (rule : ∀ (i j : Int) (t u : Tok) (s : Shared) (Q : Value → Shared → Prop) (E : Value → Shared → Prop), C i j → Q (.int (g i j) s.toks) { s with toks := s.toks + 1 } → wpAny (model X.prog X.w) X.A (f (.int i t) (.int j u)) Q E s) :
    OpR X f (rI C fun i j => .int (g i j)) := by
  intro pins s σ H x y v u Q I rx ry h
  obtain ⟨i, j, rfl, rfl, hc, q⟩ := h
  obtain ⟨t, rfl⟩ := rx
  obtain ⟨t', rfl⟩ := ry
  exact rule i j t t' s _ _ hc ⟨.int (g i j), H, I.tok _, ⟨_, rfl⟩, q⟩
theorem opI0 {f : Value → Value → Sem Value} {g : Int → Int → Int}
    (rule : ∀ (i j : Int) (t u : Tok) (s : Shared) (Q : Value → Shared → Prop) (E : Value → Shared → Prop), Q (.int (g i j) s.toks) { s with toks := s.toks + 1 } → wpAny (model X.prog X.w) X.A (f (.int i t) (.int j u)) Q E s) :
    OpR X f (rI0 fun i j => .int (g i j)) := by
  intro pins s σ H x y v u Q I rx ry h
  obtain ⟨i, j, rfl, rfl, q⟩ := h
  obtain ⟨t, rfl⟩ := rx
  obtain ⟨t', rfl⟩ := ry
  exact rule i j t t' s _ _ ⟨.int (g i j), H, I.tok _, ⟨_, rfl⟩, q⟩
theorem opB0 {f : Value → Value → Sem Value} {g : Int → Int → Bool}
    (rule : ∀ (i j : Int) (t u : Tok) (s : Shared) (Q : Value → Shared → Prop) (E : Value → Shared → Prop), Q (.bool (g i j)) s → wpAny (model X.prog X.w) X.A (f (.int i t) (.int j u)) Q E s) :
    OpR X f (rI0 fun i j => .bl (g i j)) := by
  intro pins s σ H x y v u Q I rx ry h
  obtain ⟨i, j, rfl, rfl, q⟩ := h
  obtain ⟨t, rfl⟩ := rx
  obtain ⟨t', rfl⟩ := ry
  exact rule i j t t' s _ _ ⟨.bl (g i j), H, I, rfl, q⟩

noncomputable def CMul (i j : Int) : Prop := (-(2 ^ 64) < i ∧ i < 2 ^ 64) ∨ (-(2 ^ 64) < j ∧ j < 2 ^ 64)
theorem CMul.ok {i j : Int} (h : CMul i j) : IntMulOk i j := by
  rcases h with ⟨h1, h2⟩ | ⟨h1, h2⟩
  · exact .of_left (intBits_le_64 h1 h2)
  · exact .of_right (intBits_le_64 h1 h2)
theorem op_add : OpR X (binaryOp .Add) (rI0 fun i j => .int (i + j)) := opI0 fun _ _ _ _ _ _ _ q => add_int q
theorem op_modN : OpR X (binaryOp .Mod) (rI (fun _ j => j ≠ 0) fun i j => .int (i.fmod j)) := opI fun _ _ _ _ _ _ _ hc q => mod_int' hc q
/-! ### bools among ints: n += (a < b) -/
end

/-! ### comparisons -/
/-- the scalars that == tells apart as data does -/
noncomputable def scal : V → V → Bool
  | .non, .non => true | .non, .int _ => true | .int _, .non => true | .non, .bl _ => true | .bl _, .non => true | .non, .str _ => true | .str _, .non => true
  | .int _, .int _ => true | .bl _, .bl _ => true | .str _, .str _ => true | .byt _, .byt _ => true
  | .int _, .str _ => true | .str _, .int _ => true | .bl _, .str _ => true | .str _, .bl _ => true
  | _, _ => false
noncomputable def rEq : R2 := fun x y H Q => scal x y = true ∧ Q (.bl (decide (x = y))) H
noncomputable def rNe : R2 := fun x y H Q => scal x y = true ∧ Q (.bl (!decide (x = y))) H

theorem dec_int {i j : Int} : decide (V.int i = V.int j) = (i == j) := by
  rw [Bool.eq_iff_iff]
  simp
theorem dec_bl {i j : Bool} : decide (V.bl i = V.bl j) = (i == j) := by
  rw [Bool.eq_iff_iff]
  simp
theorem dec_str {i j : Str} : decide (V.str i = V.str j) = (i == j) := by
  rw [Bool.eq_iff_iff]
  simp
theorem dec_byt {i j : Array UInt8} : decide (V.byt i = V.byt j) = (i.toList == j.toList) := by
  rw [Bool.eq_iff_iff]
  cases i
  cases j
  simp

section
variable {X : Cx} {a b c : Expr} {ta tb tc : TE} {pos : Pos}
theorem fin_bl {pins : List (Addr × Obj)} {σ : St} {H : Hp} {s : Shared} {Q : VK} {k k' : Bool} (I : Inv X pins σ H s) (q : Q (.bl k) H) (e : k = k') : EP X pins σ Q (.bool k') s := by
  subst e
  exact ⟨.bl k, H, I, rfl, q⟩
theorem op_eq : OpR X (compareOp .Eq) rEq := by
  intro pins s σ H x y v u Q I rx ry h
  obtain ⟨hs, q⟩ := h
  cases x with
  | non =>
    cases rx
    cases y with
    | non => cases ry; exact PySem.EqNone.eq_none_none (fin_bl I q (by simp))
    | bl j => cases ry; exact PySem.EqNone.eq_none_bool (fin_bl I q (by simp))
    | int j => obtain ⟨t', rfl⟩ := ry; exact PySem.EqNone.eq_none_int (fin_bl I q (by simp))
    | str j => obtain ⟨t', rfl⟩ := ry; exact PySem.EqNone.eq_none_str (fin_bl I q (by simp))
    | _ => exact absurd (show false = true from hs) Bool.false_ne_true
  | bl i =>
    cases rx
    cases y with
    | non => cases ry; exact PySem.EqNone.eq_bool_none (fin_bl I q (by simp))
    | bl j => cases ry; exact eq_bool (fin_bl I q dec_bl)
    | str j => obtain ⟨t', rfl⟩ := ry; exact PySem.EqMixed.eq_bool_str (fin_bl I q (by simp))
    | _ => exact absurd (show false = true from hs) Bool.false_ne_true
  | int i =>
    obtain ⟨t, rfl⟩ := rx
    cases y with
    | non => cases ry; exact PySem.EqNone.eq_int_none (fin_bl I q (by simp))
    | int j => obtain ⟨t', rfl⟩ := ry; exact eq_int (fin_bl I q dec_int)
    | str j => obtain ⟨t', rfl⟩ := ry; exact PySem.EqMixed.eq_int_str (fin_bl I q (by simp))
    | _ => exact absurd (show false = true from hs) Bool.false_ne_true
  | str i =>
    obtain ⟨t, rfl⟩ := rx
    cases y with
    | non => cases ry; exact PySem.EqNone.eq_str_none (fin_bl I q (by simp))
    | bl j => cases ry; exact PySem.EqMixed.eq_str_bool (fin_bl I q (by simp))
    | int j => obtain ⟨t', rfl⟩ := ry; exact PySem.EqMixed.eq_str_int (fin_bl I q (by simp))
    | str j => obtain ⟨t', rfl⟩ := ry; exact eq_str (fin_bl I q dec_str)
    | _ => exact absurd (show false = true from hs) Bool.false_ne_true
  | byt i =>
    obtain ⟨t, rfl⟩ := rx
    cases y with
    | byt j => obtain ⟨t', rfl⟩ := ry; exact PySem.W.eq_bytes (fin_bl I q dec_byt)
    | _ => exact absurd (show false = true from hs) Bool.false_ne_true
  | _ => cases y <;> exact absurd (show false = true from hs) Bool.false_ne_true
theorem op_ne : OpR X (compareOp .NotEq) rNe := by
  intro pins s σ H x y v u Q I rx ry h
  obtain ⟨hs, q⟩ := h
  cases x with
  | non =>
    cases rx
    cases y with
    | non => cases ry; exact PySem.EqNone.ne_none_none (fin_bl I q (by simp))
    | bl j => cases ry; exact PySem.EqNone.ne_none_bool (fin_bl I q (by simp))
    | int j => obtain ⟨t', rfl⟩ := ry; exact PySem.EqNone.ne_none_int (fin_bl I q (by simp))
    | str j => obtain ⟨t', rfl⟩ := ry; exact PySem.EqNone.ne_none_str (fin_bl I q (by simp))
    | _ => exact absurd (show false = true from hs) Bool.false_ne_true
  | bl i =>
    cases rx
    cases y with
    | non => cases ry; exact PySem.EqNone.ne_bool_none (fin_bl I q (by simp))
    | bl j => cases ry; exact ne_bool (fin_bl I q (congrArg not dec_bl))
    | str j => obtain ⟨t', rfl⟩ := ry; exact PySem.EqMixed.ne_bool_str (fin_bl I q (by simp))
    | _ => exact absurd (show false = true from hs) Bool.false_ne_true
  | int i =>
    obtain ⟨t, rfl⟩ := rx
    cases y with
    | non => cases ry; exact PySem.EqNone.ne_int_none (fin_bl I q (by simp))
    | int j => obtain ⟨t', rfl⟩ := ry; exact ne_int (fin_bl I q (congrArg not dec_int))
    | str j => obtain ⟨t', rfl⟩ := ry; exact PySem.EqMixed.ne_int_str (fin_bl I q (by simp))
    | _ => exact absurd (show false = true from hs) Bool.false_ne_true
  | str i =>
    obtain ⟨t, rfl⟩ := rx
    cases y with
    | non => cases ry; exact PySem.EqNone.ne_str_none (fin_bl I q (by simp))
    | bl j => cases ry; exact PySem.EqMixed.ne_str_bool (fin_bl I q (by simp))
    | int j => obtain ⟨t', rfl⟩ := ry; exact PySem.EqMixed.ne_str_int (fin_bl I q (by simp))
    | str j => obtain ⟨t', rfl⟩ := ry; exact ne_str (fin_bl I q (congrArg not dec_str))
    | _ => exact absurd (show false = true from hs) Bool.false_ne_true
  | byt i =>
    obtain ⟨t, rfl⟩ := rx
    cases y with
    | byt j => obtain ⟨t', rfl⟩ := ry; exact PySem.W.ne_bytes (fin_bl I q (congrArg not dec_byt))
    | _ => exact absurd (show false = true from hs) Bool.false_ne_true
  | _ => cases y <;> exact absurd (show false = true from hs) Bool.false_ne_true

theorem op_lt : OpR X (compareOp .Lt) (rI0 fun i j => .bl (decide (i < j))) := opB0 fun _ _ _ _ _ _ _ q => lt_int q
theorem op_le : OpR X (compareOp .LtE) (rI0 fun i j => .bl (decide (i ≤ j))) := opB0 fun _ _ _ _ _ _ _ q => le_int q
theorem op_gt : OpR X (compareOp .Gt) (rI0 fun i j => .bl (decide (j < i))) := opB0 fun _ _ _ _ _ _ _ q => gt_int q
/-- the one string within the other -/
theorem op_in_str : OpR X (compareOp .In) (fun x y H Q => ∃ i j, x = .str i ∧ y = .str j ∧ Q (.bl (!(Builtin.Str.occurrences j i 0 j.length 1).isEmpty)) H) := by
  intro pins s σ H x y v u Q I rx ry h
  obtain ⟨i, j, rfl, rfl, q⟩ := h
  obtain ⟨t, rfl⟩ := rx
  obtain ⟨t', rfl⟩ := ry
  exact in_str (fin_bl I q rfl)

/-- is None, is not None: the right side a value none -/
theorem op_isN : OpR X (compareOp .Is) (fun x y H Q => y = .non ∧ Q (.bl (decide (x = .non))) H) := by
  intro pins s σ H x y v u Q I rx ry h
  obtain ⟨rfl, q⟩ := h
  cases ry
  refine is_none_gen (fin_bl I q ?_)
  cases x <;> first
    | (cases rx; rfl)
    | (obtain ⟨t, rfl⟩ := rx; rfl)
theorem op_notin_str : OpR X (compareOp .NotIn) (fun x y H Q => ∃ i j, x = .str i ∧ y = .str j ∧ Q (.bl (!(!(Builtin.Str.occurrences j i 0 j.length 1).isEmpty))) H) := by
  intro pins s σ H x y v u Q I rx ry h
  obtain ⟨i, j, rfl, rfl, q⟩ := h
  obtain ⟨t, rfl⟩ := rx
  obtain ⟨t', rfl⟩ := ry
  exact notIn_str (fin_bl I q rfl)
/-- two rules for one operation: by cases -/
theorem OpR.or {f : Value → Value → Sem Value} {r r' : R2} (h : OpR X f r) (h' : OpR X f r') : OpR X f (fun x y H Q => r x y H Q ∨ r' x y H Q) := by
  intro pins s σ H x y v u Q I rx ry q
  rcases q with q | q
  · exact h pins s σ H x y v u Q I rx ry q
  · exact h' pins s σ H x y v u Q I rx ry q

theorem nomark (b : Expr) {op : CmpOp} (h : op ≠ .In := by decide) (h2 : op ≠ .NotIn := by decide) : behindInMarks op b = false := by
  have e1 : (op == CmpOp.In) = false := by cases op <;> first | rfl | exact absurd rfl h
  have e2 : (op == CmpOp.NotIn) = false := by cases op <;> first | rfl | exact absurd rfl h2
  cases b <;> simp [behindInMarks, e1, e2]
/-- a comparison as a value; hm: nomark b, or (for in, not in) by with_unfolding_all rfl -/
theorem pe_cmpR {op : CmpOp} {r : R2} (ho : OpR X (compareOp op) r) (ha : PE X a ta) (hb : PE X b tb) (hm : behindInMarks op b = false) : PE X (.Compare a [op] [b] pos) (tOp r ta tb) := by
  intro pins s σ H Q I h
  exact wpAny_Compare1 (binT ha hb I h fun v u s2 x y H2 I2 rx ry q => ho pins s2 σ H2 x y v u Q I2 rx ry q) hm
/-- a reading of a value as a test -/
noncomputable def tTest (t : TE) : TT := fun σ H Q => t σ H fun x H' => ∃ k, x = .bl k ∧ Q k H'
theorem pt_cmpR {op : CmpOp} {r : R2} (ho : OpR X (compareOp op) r) (ha : PE X a ta) (hb : PE X b tb) (hm : behindInMarks op b = false) : PT X (.Compare a [op] [b] pos) (tTest (tOp r ta tb)) := by
  intro pins s σ H Q I h
  refine wpAny_isTrue_Compare1 (thn (ha pins s σ H _ I h) fun v s1 ⟨x, H1, I1, r1, q1⟩ => thn (hb pins s1 σ H1 _ I1 q1) fun u s2 ⟨y, H2, I2, r2, q2⟩ =>
    thn (ho pins s2 σ H2 x y v u _ I2 r1 r2 q2) fun c s3 ⟨z, H3, I3, r3, k, e, q3⟩ => ?_) hm
  subst e
  cases r3
  exact wpAny_truthy_bool ⟨H3, I3, q3⟩
/-! ### truth -/
theorem line63 : (sizeLine : Nat) < 2 ^ 63 := by rw [sizeLine_eq]; decide
/-! ### strs and bytes -/
theorem op_add_str : OpR X (binaryOp .Add) (fun x y H Q => ∃ i j, x = .str i ∧ y = .str j ∧ i.length + j.length ≤ sizeLine ∧ Q (.str (i ++ j)) H) := by
  intro pins s σ H x y v u Q I rx ry h
  obtain ⟨i, j, rfl, rfl, hz, q⟩ := h
  obtain ⟨t, rfl⟩ := rx
  obtain ⟨t', rfl⟩ := ry
  exact add_str (fun t' tk => ⟨.str (i ++ j), H, I.tok _, ⟨_, rfl⟩, q⟩) hz
/-! ### scalar builtins, by CallR -/
theorem vals1 {x : V} {us : List Value} (r : Vals [x] us) : ∃ u, us = [u] ∧ RelV x u := by
  cases r with
  | cons r1 r2 => cases r2; exact ⟨_, rfl, r1⟩
theorem vals2 {x y : V} {us : List Value} (r : Vals [x, y] us) : ∃ u w', us = [u, w'] ∧ RelV x u ∧ RelV y w' := by
  cases r with
  | cons r1 r2 =>
    cases r2 with
    | cons r3 r4 => cases r4; exact ⟨_, _, rfl, r1, r3⟩
theorem call_max2 (hc : X.calm = true) : CallR X (.builtin "max") (fun xs H Q => ∃ i j, xs = [.int i, .int j] ∧ Q (.int (if j > i then j else i)) H) := by
  intro pins s σ H xs us Q I r h
  obtain ⟨i, j, rfl, q⟩ := h
  obtain ⟨u, w', rfl, ⟨t, rfl⟩, ⟨t', rfl⟩⟩ := vals2 r
  refine max_two_ints (I.ok.hd hc) fun h' tk k => ⟨_, H, I.kept k, ?_, q⟩
  by_cases hj : j > i
  · rw [if_pos hj, if_pos hj]; exact ⟨_, rfl⟩
  · rw [if_neg hj, if_neg hj]; exact ⟨_, rfl⟩
end
end L2

namespace L2
open PySem PySem.Spec PyProof.Rows

/-! ### an instance, its attributes a map -/
structure ObjM (h : Heap) (x dx C : Addr) (mA : Str → Option Value) : Prop where
  obj : h.get? x = some (PySem.W.instObj C dx)
  ns : h.Ns1 dx mA
  ne : dx ≠ x

theorem lookIn_ns {h : Heap} {dx : Addr} {mA : Str → Option Value} (n : h.Ns1 dx mA) : ∃ od, h.get? dx = some od ∧ ∀ name, PySem.W.lookIn name od = some (mA name) := by
  obtain ⟨o, es, ep, ho, hd, hk, _, hm⟩ := n
  refine ⟨o, ho, fun name => ?_⟩
  have e := hm name
  unfold nsFind findBy at e
  rw [← Array.find?_toList] at e
  unfold PySem.W.lookIn
  rw [hd]
  dsimp only
  split
  · rename_i y q
    rw [q] at e
    exact congrArg some e
  · rename_i q
    rw [q] at e
    have a : es.toList.any (·.refKey) = false := by
      rw [List.any_eq_false]
      intro y hy
      obtain ⟨z, t, hkey⟩ := hk y (Array.mem_toList_iff.mp hy)
      simp [DictEntry.refKey, hkey]
    have a' : ¬ es.toList.any (·.refKey) = true := by rw [a]; exact Bool.false_ne_true
    rw [if_neg a']
    exact congrArg some e

theorem ObjM.look {h : Heap} {x dx C : Addr} {mA : Str → Option Value} (I : ObjM h x dx C mA) : ∃ od, PySem.W.InstAt h x (PySem.W.instObj C dx) C (some od) ∧ ∀ name, PySem.W.lookIn name od = some (mA name) :=
  let ⟨od, ho, hl⟩ := lookIn_ns I.ns
  ⟨od, ⟨I.obj, rfl, rfl, ho⟩, hl⟩

section
variable {prog : Program} {w : World} {A : Around} {E : Value → Shared → Prop} {s : Shared} {K : PySem.W.Frag} {x dx C f : Addr} {mA : Str → Option Value} {name : Str} {v : Value}

end

/-! ### the attributes as a list of pairs -/
section
variable {P : Program} {w : World} {H H' : Hp} {h h' : Heap} {a C dx : Addr} {fs fs' : List (Str × V)}
theorem ins_get (hok : HOk P w H h) (e : H a = some (.ins C dx fs)) : ∃ mA, ObjM h a dx C mA ∧ (∀ f, RelO (fs.lookup f) (mA f)) ∧ PySem.Within mA (fs.map (·.1)) ∧ fs.length ≤ 1000 ∧ H dx = some (.own a) := by
  obtain ⟨d, z, ne, ob, mA, n, r, q⟩ := (show ObjOk P w H h a (.ins C dx fs) from hok a _ e)
  exact ⟨mA, ⟨ob, n, ne⟩, r, q, z, d⟩
end

/-! ### what of the text a class must have -/
structure Cls (K : PySem.W.Frag) (C : Addr) : Prop where
  pg : PySem.W.plainGet K C Str.empty = true
  hd : PySem.W.hasDictIn K C = true
  po : PySem.W.plainOver K C = true
  sa : PySem.W.findIn K (.ref C) "__setattr__" = some (some (.builtin "object.__setattr__"))
theorem Cls.get {K : PySem.W.Frag} {C : Addr} (c : Cls K C) (f : Str) : PySem.W.plainGet K C f = true := c.pg
section
variable {X : Cx} {pins : List (Addr × Obj)} {σ : St} {H : Hp} {s : Shared} {a C dx : Addr} {fs : List (Str × V)} {f : Str} {v : V} {A : Around} {E : Value → Shared → Prop}

/-- a new instance, tracked, without attributes -/
theorem Inv.made (I : Inv X pins σ H s) : Inv X pins σ (upd (upd H s.heap.objs.size (.own (s.heap.objs.size + 1))) (s.heap.objs.size + 1) (.ins C s.heap.objs.size []))
    { s with heap := (s.heap.push PySem.W.emptyDict).push (PySem.W.instObj C s.heap.objs.size) } := by
  have e1 : (s.heap.push PySem.W.emptyDict).get? s.heap.objs.size = some PySem.W.emptyDict := Heap.get?_push_size s.heap rfl
  have e2 : ((s.heap.push PySem.W.emptyDict).push (PySem.W.instObj C s.heap.objs.size)).get? (s.heap.objs.size + 1) = some (PySem.W.instObj C s.heap.objs.size) := by
    have := Heap.get?_push_size (s.heap.push PySem.W.emptyDict) (o := PySem.W.instObj C s.heap.objs.size) rfl
    rwa [Heap.size_push] at this
  have e3 : (s.heap.push PySem.W.emptyDict).Ns s.heap.objs.size (fun _ => none) := ⟨PySem.W.emptyDict, #[], _, e1, rfl, (fun e he => absurd he (by simp)), fun _ => rfl⟩
  have I1 := I.laid (a := s.heap.objs.size) (o := .own (s.heap.objs.size + 1)) (h' := s.heap.push PySem.W.emptyDict) (t' := s.toks) (fun b u q => Heap.get?_push_of_some _ q) (Nat.le_refl _) ⟨_, e1⟩
  refine I1.laid (a := s.heap.objs.size + 1) (o := .ins C s.heap.objs.size []) (t' := s.toks) (fun b u q => Heap.get?_push_of_some _ q) (Nat.le_of_eq (Heap.size_push _ _)) ?_
  have ne : s.heap.objs.size ≠ s.heap.objs.size + 1 := Nat.ne_of_lt (Nat.lt_succ_self _)
  refine ⟨by rw [upd_ne ne, upd_same], Nat.zero_le _, ne, e2, fun _ => none, (Heap.Ns1.of_empty e3).at fun o q => Heap.get?_push_of_some _ q, fun _ => True.intro, fun y hy => absurd rfl hy⟩

end

/-! ### readings and rules -/
section
variable {X : Cx} {o e value : Expr} {f : Str} {pos pos' tpos : Pos} {ta tv : TE}
end

/-! ### isinstance -/
section
variable {X : Cx} {pins : List (Addr × Obj)} {σ : St} {H : Hp} {s : Shared} {A : Around} {E : Value → Shared → Prop} {Q : Value → Shared → Prop} {c : Value} {b : Bool}
/-- the type of a value, as the fragment's deciders take it; for an instance its class -/
inductive TyOf (K : PySem.W.Frag) (H : Hp) : V → Value → Prop where
  | non : TyOf K H .non (.type "NoneType")
  | bl (x : Bool) : TyOf K H (.bl x) (.type "bool")
  | int (i : Int) : TyOf K H (.int i) (.type "int")
  | str (x : Str) : TyOf K H (.str x) (.type "str")
  | flt (x : UInt64) : TyOf K H (.flt x) (.type "float")
  | lst {a : Addr} {xs : List V} (e : H a = some (.lst xs)) : TyOf K H (.ref a) (.type "list")
  | frz {a : Addr} {o : Obj} {xs : List V} (e : H a = some (.frz o (.lst xs))) : TyOf K H (.ref a) (.type "list")
  | tup {a : Addr} {xs : List V} (e : H a = some (.tup xs)) : TyOf K H (.ref a) (.type "tuple")
  | dK {a : Addr} {kvs : List (Key × V)} (e : H a = some (.dK kvs)) : TyOf K H (.ref a) (.type "dict")
  | dT {a : Addr} {kvs : List (List Key × V)} (e : H a = some (.dT kvs)) : TyOf K H (.ref a) (.type "dict")
  | ins {a C dx : Addr} {fs : List (Str × V)} (e : H a = some (.ins C dx fs)) (cl : Cls K C) (ha : PySem.W.findIn K (.ref C) "__class__" = some (some (.builtin "object.__class__")))
      (hn : PySem.W.specialIn K (.builtin "object.__class__") "__get__" = some (some (.builtin "getset_descriptor.__get__"))) (htk : PySem.W.takesIn K (.builtin "object.__class__") = some true)
      (hm : PySem.W.mroIn K C (.type "object") = some true) : TyOf K H (.ref a) (.ref C)
/-- isinstance(x, c) for one class c, a built-in or an own one: kitOne's answer -/
theorem isinst_ok {x : V} {u t : Value} (I : Inv X pins σ H s) (rx : RelV x u) (ty : TyOf X.K H x t) (e : PySem.W.kitOne X.K t c = some b) (h : ∀ tk, Q (.bool b) { s with toks := tk }) :
    wpAny (model X.prog X.w) A (call (.builtin "isinstance") [u, c]) Q E s := by
  cases ty with
  | non => cases (show u = Value.none from rx); exact PySem.W.kia_one PySem.W.kitx_none I.kIn True.intro e (fun z => nomatch z) h
  | bl y => cases (show u = Value.bool y from rx); exact PySem.W.kia_one PySem.W.kitx_bool I.kIn True.intro e (fun z => nomatch z) h
  | int i => obtain ⟨t, q⟩ := (show ∃ t, u = Value.int i t from rx); cases q; exact PySem.W.kia_one PySem.W.kitx_int I.kIn True.intro e (fun z => nomatch z) h
  | str y => obtain ⟨t, q⟩ := (show ∃ t, u = Value.str y t from rx); cases q; exact PySem.W.kia_one PySem.W.kitx_str I.kIn True.intro e (fun z => nomatch z) h
  | flt y => obtain ⟨t, q⟩ := (show ∃ t, u = Value.float y t from rx); cases q; exact PySem.W.kia_one PySem.W.kitx_float I.kIn True.intro e (fun z => nomatch z) h
  | @lst a xs ea =>
    cases (show u = Value.ref a from rx)
    obtain ⟨_, _, n, _, h1⟩ := (show ObjOk X.prog X.w H s.heap a (.lst xs) from I.hok a _ ea)
    exact PySem.W.kia_one PySem.W.kitx_list I.kIn ⟨_, h1, rfl⟩ e (fun z => nomatch z) h
  | @frz a ob xs ea =>
    cases (show u = Value.ref a from rx)
    obtain ⟨_, _, _, n, _, h1⟩ := (show ObjOk X.prog X.w H s.heap a (.frz ob (.lst xs)) from I.hok a _ ea)
    exact PySem.W.kia_one PySem.W.kitx_list I.kIn ⟨_, h1, rfl⟩ e (fun z => nomatch z) h
  | @tup a xs ea =>
    cases (show u = Value.ref a from rx)
    obtain ⟨_, _, _, p⟩ := (show ObjOk X.prog X.w H s.heap a (.tup xs) from I.hok a _ ea)
    obtain ⟨o, h1, h2, _⟩ := p
    exact PySem.W.kia_one PySem.W.kitx_tuple I.kIn ⟨o, h1, h2⟩ e (fun z => nomatch z) h
  | @dK a kvs ea =>
    cases (show u = Value.ref a from rx)
    obtain ⟨_, _, vs, _, p⟩ := (show ObjOk X.prog X.w H s.heap a (.dK kvs) from I.hok a _ ea)
    obtain ⟨o, es, ep, h1, h2, _⟩ := p
    exact PySem.W.kia_one PySem.W.kitx_dict I.kIn ⟨o, h1, h2.1⟩ e (fun z => nomatch z) h
  | @dT a kvs ea =>
    cases (show u = Value.ref a from rx)
    obtain ⟨_, _, xs, _, o, es, ep, h1, h2, _⟩ := (show ObjOk X.prog X.w H s.heap a (.dT kvs) from I.hok a _ ea)
    exact PySem.W.kia_one PySem.W.kitx_dict I.kIn ⟨o, h1, h2.1⟩ e (fun z => nomatch z) h
  | @ins a C dx fs ea cl ha hn htk hm =>
    cases (show u = Value.ref a from rx)
    obtain ⟨mA, O, _⟩ := ins_get I.hok ea
    obtain ⟨od, J, _⟩ := O.look
    exact PySem.W.kia_one (PySem.W.kitx_own (cl.get _) cl.hd ha hn htk hm) I.kIn J e (fun z => nomatch z) h
end
end L2

namespace L2
open PySem PySem.Spec PyProof.Rows

/-! ### room -/
structure Room (k : Nat) (A : Around) : Prop where
  hd : A.handled = none
  dp : A.depth + 3 * k + 5 < recursionLimit
  un : A.units + 16 * k + 200 < cLine
theorem Room.mono {j k : Nat} {A : Around} (r : Room k A) (h : j ≤ k) : Room j A := ⟨r.hd, by have := r.dp; omega, by have := r.un; omega⟩
theorem Room.deeper {k : Nat} {A : Around} (r : Room (k + 1) A) (env : Env) : Room k (A.deeper env) :=
  ⟨r.hd, by have := r.dp; show A.depth + 1 + 3 * k + 5 < _; omega, by have := r.un; show A.units + 3 + 16 * k + 200 < _; omega⟩
theorem Room.in1 {k : Nat} {A : Around} (r : Room (k + 1) A) : Room k A.in1 :=
  ⟨r.hd, by have := r.dp; show A.depth + 3 * k + 5 < _; omega, by have := r.un; show A.units + 1 + 16 * k + 200 < _; omega⟩
theorem Room.depth {k : Nat} {A : Around} (r : Room k A) : A.depth < recursionLimit := by have := r.dp; omega
theorem Room.units {k : Nat} {A : Around} (r : Room k A) : A.units + 64 < cLine := by have := r.un; omega
/-! ### argument lists and displays -/
noncomputable def tNil : TA := fun _ H Q => Q [] H
noncomputable def tCons (ta : TE) (tr : TA) : TA := fun σ H Q => ta σ H fun x H1 => tr σ H1 fun xs H2 => Q (x :: xs) H2
section
variable {X : Cx} {e : Expr} {es : List Expr} {te : TE} {t : TA} {pos : Pos}
theorem pa_nil : PA X [] tNil := fun _ _ _ _ H Q I h => Calls.spliced_nil ⟨[], H, I, .nil, h⟩
theorem pa_cons (ha : PE X e te) (hr : PA X es t) (hs : starEach (e :: es) X.env = (false, eval e X.env) :: starEach es X.env := by rfl) : PA X (e :: es) (tCons te t) := by
  intro pos pins s σ H Q I h
  rw [hs]
  show wpAny _ _ (spliced ((false, eval e X.env) :: backTo pos (starEach es X.env))) _ _ s
  refine Calls.spliced_cons (thn (ha pins s σ H _ I h) fun u s1 ⟨x, H1, I1, r1, q1⟩ => ?_)
  exact thn (hr pos pins s1 σ H1 _ I1 q1) fun us s2 ⟨xs, H2, I2, r2, q2⟩ => ⟨x :: xs, H2, I2, .cons r1 r2, q2⟩

/-- a tuple, a list of written items -/
noncomputable def tTup (t : TA) : TE := fun σ H Q => t σ H fun xs H1 => xs.length ≤ sizeLine ∧ ∀ p, H1 p = none → Q (.ref p) (upd H1 p (.tup xs))
noncomputable def tLst (t : TA) : TE := fun σ H Q => t σ H fun xs H1 => xs.length ≤ sizeLine ∧ ∀ p, H1 p = none → Q (.ref p) (upd H1 p (.lst xs))
theorem pe_lst (h : PA X es t) : PE X (.List es pos) (tLst t) := by
  intro pins s σ H Q I hq
  refine wpAny_List_spliced (thn (h pos pins s σ H _ I hq) fun us s1 ⟨xs, H1, I1, r, z, q⟩ => ⟨by rw [← r.length]; exact z, ?_⟩)
  have hf : H1 s1.heap.objs.size = none := I1.hok.fresh (Nat.le_refl _)
  refine ⟨.ref s1.heap.objs.size, upd H1 s1.heap.objs.size (.lst xs), I1.laid (t' := s1.toks) (fun b u e => Heap.get?_push_of_some _ e) (Nat.le_refl _) ?_, rfl, q _ hf⟩
  exact ⟨z, us, 0, r, Heap.get?_push_size _ rfl⟩
end

/-! ### what a def promises -/
/-- a def's promise: the bound arguments in the parameters' order, the heap, the wanted end, the wanted exception -/
noncomputable abbrev Sp := List V → Hp → VK → XK → Prop
/-- how an exception lies behind a call (file 08 gives it): the callers' frames, abstract heap and state ahead of the call, the wish, the exception, the state -/
noncomputable abbrev CXT := List Env → Hp → Shared → XK → Value → Shared → Prop

/-- the state at a call -/
structure Env0 (P : Program) (w : World) (K : PySem.W.Frag) (mg : Str → Option Value) (base : Heap) (A : Around) (outer : List Env) (s : Shared) (H : Hp) : Prop where
  frames : A.frames = some outer
  mod : Mod K mg base
  bs : ∀ b o, base.get? b = some o → s.heap.get? b = some o ∧ H b = none
  bsz : base.objs.size ≤ s.heap.objs.size
  funs : s.heap.FunFrames base outer
  frf : ∀ b ∈ frs outer, H b = none
  hok : HOk P w H s.heap
  bare : AllBare s.gens
/-- a call's end -/
noncomputable def CE (outer : List Env) (P : Program) (w : World) (H : Hp) (s : Shared) (Q : VK) (u : Value) (s' : Shared) : Prop :=
  ∃ v H', s'.os = s.os ∧ AllBare s'.gens ∧ Un (frs outer) [] H H' s.heap s'.heap ∧ HOk P w H' s'.heap ∧ RelV v u ∧ Q v H'
noncomputable def CR (CX : CXT) (outer : List Env) (P : Program) (w : World) (H : Hp) (s : Shared) (Q : VK) (E : XK) (r : Result) (s' : Shared) : Prop :=
  match r with
  | .ok (.ret u) => CE outer P w H s Q u s'
  | .ok _ => False
  | .error e => CX outer H s E e s'
structure FnOk (P : Program) (w : World) (K : PySem.W.Frag) (mg : Str → Option Value) (base : Heap) (CX : CXT) (k : Nat) (f : Addr) (fd : FuncData) (ps : List Str) (sp : Sp) : Prop where
  len : ∀ vs H Q E, sp vs H Q E → vs.length = ps.length
  run : ∀ (A : Around) (outer : List Env) (s : Shared) (H : Hp) (args : Args) (us : List Value) (vs : List V) (Q : VK) (E : XK), Room k A → Env0 P w K mg base A outer s H → BindsTo s fd args (ps.zip us) → Vals vs us → sp vs H Q E →
    codeAny (model P w) A (.call (.ref f) args) (CR CX outer P w H s Q E) s
theorem FnOk.mono {P : Program} {w : World} {K : PySem.W.Frag} {mg : Str → Option Value} {base : Heap} {CX : CXT} {j k : Nat} {f : Addr} {fd : FuncData} {ps : List Str} {sp : Sp} (F : FnOk P w K mg base CX j f fd ps sp) (h : j ≤ k) :
    FnOk P w K mg base CX k f fd ps sp := ⟨F.len, fun A outer s H args us vs Q E hr => F.run A outer s H args us vs Q E (hr.mono h)⟩
/-- a weaker promise -/
theorem FnOk.imp {P : Program} {w : World} {K : PySem.W.Frag} {mg : Str → Option Value} {base : Heap} {CX : CXT} {k : Nat} {f : Addr} {fd : FuncData} {ps : List Str} {sp sp' : Sp} (F : FnOk P w K mg base CX k f fd ps sp)
    (h : ∀ vs H Q E, sp' vs H Q E → sp vs H Q E) : FnOk P w K mg base CX k f fd ps sp' :=
  ⟨fun vs H Q E q => F.len vs H Q E (h _ _ _ _ q), fun A outer s H args us vs Q E hr he hb hv hs => F.run A outer s H args us vs Q E hr he hb hv (h _ _ _ _ hs)⟩

theorem Env0.in1 {P : Program} {w : World} {K : PySem.W.Frag} {mg : Str → Option Value} {base : Heap} {A : Around} {outer : List Env} {s : Shared} {H : Hp} (e : Env0 P w K mg base A outer s H) :
    Env0 P w K mg base A.in1 outer s H := ⟨e.frames, e.mod, e.bs, e.bsz, e.funs, e.frf, e.hok, e.bare⟩

section
variable {X : Cx} {pins : List (Addr × Obj)} {σ : St} {H : Hp} {s s' : Shared}
/-- from a body: what a callee wants -/
theorem Inv.env0 (I : Inv X pins σ H s) : Env0 X.prog X.w X.K X.mg X.base X.A X.stack s H :=
  ⟨I.ok.frames, I.ok.mod, I.bs, Nat.le_trans I.ok.bsz I.sz, I.stack, I.stkFree, I.hok, I.bare⟩
/-- behind a call -/
theorem Inv.after {Q : VK} {u : Value} (I : Inv X pins σ H s) (h : CE X.stack X.prog X.w H s Q u s') : EP X pins σ Q u s' := by
  obtain ⟨v, H', os, bare, un, hok, r, q⟩ := h
  obtain ⟨hh, g, d, t, os'⟩ := s'
  obtain rfl : os' = s.os := os
  exact ⟨v, H', I.call (h' := hh) (g' := g) (d' := d) (t' := t) (ch := []) un hok bare (fun b z => absurd z (by simp)), r, q⟩
end

/-! ### calls -/
/-- f(..): the written arguments, then the defaults dvs; E: what is wanted of an exception -/
noncomputable def tCall (sp : Sp) (dvs : List V) (E : XK) (t : TA) : TE := fun σ H Q => t σ H fun vs H1 => sp (vs ++ dvs) H1 Q E
/-- how the parameters are bound: us the positional arguments, kw the keywords' values by name, ds the defaults that fill up -/
noncomputable def Binds (K : PySem.W.Frag) (fd : FuncData) (ps : List Str) (ds : List Value) : Prop :=
  ∀ (s : Shared) (us : List Value), K.In s.heap → (us ++ ds).length = ps.length → BindsTo s fd ⟨us, []⟩ (ps.zip (us ++ ds))
/-- every parameter is given -/
theorem Binds.all {K : PySem.W.Frag} {fd : FuncData} {ps : List Str} (h : ∀ us : List Value, us.length = ps.length → bindArgs fd ⟨us, []⟩ = pure (ps.zip us)) : Binds K fd ps [] := fun s us _ hl => by
  rw [List.append_nil] at hl ⊢
  exact .of_eq (h us hl)

/-- an exception of a callee reaches what this body wants of exceptions -/
noncomputable def Passes (CX : CXT) (X : Cx) (E : XK) : Prop := ∀ (pins : List (Addr × Obj)) (σ : St) (H : Hp) (s : Shared) (e : Value) (s' : Shared), Inv X pins σ H s → CX X.stack H s E e s' → X.xe e s'

section
variable {X : Cx} {CX : CXT} {k : Nat} {f C : Addr} {fd : FuncData} {ps : List Str} {sp : Sp} {dvs : List V} {ds : List Value} {E : XK} {x m : Str} {p pos apos : Pos} {e o : Expr} {es : List Expr} {ta : TE} {t : TA}

/-- the callee runs -/
theorem run_fn {pins : List (Addr × Obj)} {σ : St} {H : Hp} {s : Shared} {Q : VK} {us : List Value} {vs : List V} (F : FnOk X.prog X.w X.K X.mg X.base CX k f fd ps sp) (hr : Room k X.A) (hb : Binds X.K fd ps ds) (hd : Vals dvs ds) (hx : Passes CX X E)
    (I : Inv X pins σ H s) (r : Vals vs us) (h : sp (vs ++ dvs) H Q E) : wpAny (model X.prog X.w) X.A (call (.ref f) us) (EP X pins σ Q) X.xe s := by
  have r2 : Vals (vs ++ dvs) (us ++ ds) := r.append hd
  have hl : (us ++ ds).length = ps.length := by rw [← r2.length]; exact F.len _ _ _ _ h
  refine wpAny_call (codeAny_mono (F.run X.A X.stack s H ⟨us, []⟩ (us ++ ds) (vs ++ dvs) Q E hr I.env0 (hb s us I.kIn hl) r2 h) fun r s' hq => ?_)
  cases r with
  | error e => exact hx pins σ H s e s' I hq
  | ok fl =>
    cases fl with
    | ret u => exact I.after hq
    | next => exact False.elim hq
    | brk => exact False.elim hq
    | cont => exact False.elim hq

theorem pe_call (F : FnOk X.prog X.w X.K X.mg X.base CX k f fd ps sp) (hr : Room k X.A) (hg : Gl X x) (hm : X.mg x = some (.ref f)) (hk : PySem.W.keepIn X.K (.ref f) = true) (hb : Binds X.K fd ps ds) (hd : Vals dvs ds) (hx : Passes CX X E)
    (ha : PA X (e :: es) t) (hdb : (x == ("__debug__" : Str)) = false := by decide) (he : starEach (e :: es) X.env = (false, eval e X.env) :: starEach es X.env := by rfl) (hpl : (backTo pos (starEach es X.env)).any (·.1) = false := by rfl) :
    PE X (.Call (.Name x p) (e :: es) [] pos) (tCall sp dvs E t) := by
  intro pins s σ H Q I h
  refine wpAny_Call_Name_kw (ld_glob I hg hm ?_ hdb)
  refine PySem.W.callWith_K (h₀ := X.base) I.ok.mod.kin hk (thn (ha pos pins s σ H _ I h) fun us s1 ⟨vs, H1, I1, r, q⟩ => ⟨I1.kIn, ?_⟩) he hpl
  exact run_fn F hr hb hd hx I1 r q
end

/-! ### keywords -/
section
variable {X : Cx} {CX : CXT} {k : Nat} {f C : Addr} {fd : FuncData} {ps ks : List Str} {sp : Sp} {E : XK} {x m : Str} {p pos apos kpos : Pos} {e o : Expr} {es : List Expr} {kws : List Keyword} {te ta : TE} {t tk : TA} {nm : Option Str}
variable {g : List Value → List Value → List Value} {gV : List V → List V → List V}
end

/-! ### a def's body keeps its promise -/
/-- names: the parameters first -/
structure FnScope (N P : List Str) (sc : Scope) : Prop where
  kind : sc.kind = .function
  co : sc.isCoroutine = false
  gen : sc.isGenerator = false
  nd : N.Nodup
  pre : N.take P.length = P
  par : ∀ x ∈ P, sc.names.lookup x = some .local ∨ sc.names.lookup x = some .cell
  nofree : ∀ y ∈ sc.names, y.2 ≠ .free

theorem bindL_out {kindOf : Str → Option NameKind} {x : Str} : ∀ {binds : List (Str × Value)} {m : Str → Option Value}, (∀ v, (x, v) ∉ binds) → bindL kindOf binds m x = m x
  | [], _, _ => rfl
  | (n, v) :: r, m, h => by
    unfold bindL
    rw [bindL_out fun w hw => h w (List.mem_cons_of_mem _ hw)]
    split
    · have : x ≠ n := by rintro rfl; exact h v List.mem_cons_self
      simp [this]
    · rfl
theorem bindC_out {kindOf : Str → Option NameKind} {x : Str} : ∀ {binds : List (Str × Value)} {m : Str → Option Value}, (∀ v, (x, v) ∉ binds) → bindC kindOf binds m x = m x
  | [], _, _ => rfl
  | (n, v) :: r, m, h => by
    unfold bindC
    rw [bindC_out fun w hw => h w (List.mem_cons_of_mem _ hw)]
    split
    · rfl
    · have : x ≠ n := by rintro rfl; exact h v List.mem_cons_self
      simp [this]
theorem bindL_get {kindOf : Str → Option NameKind} {x : Str} {v : Value} : ∀ {P : List Str} {vs : List Value} {i : Nat} {m : Str → Option Value}, P.Nodup → P[i]? = some x → vs[i]? = some v → kindOf x = some .local →
    bindL kindOf (P.zip vs) m x = some v
  | [], _, _, _, _, h, _, _ => by simp at h
  | _ :: _, [], _, _, _, _, h, _ => by simp at h
  | p :: P, w :: vs, 0, m, nd, h1, h2, hk => by
    simp at h1 h2; subst h1; subst h2
    show bindL kindOf ((p, w) :: P.zip vs) m p = _
    unfold bindL
    rw [bindL_out fun v hv => (List.nodup_cons.mp nd).1 (List.of_mem_zip hv).1, if_pos hk]
    simp
  | p :: P, w :: vs, i + 1, m, nd, h1, h2, hk => by
    show bindL kindOf ((p, w) :: P.zip vs) m x = _
    unfold bindL
    exact bindL_get (i := i) (List.nodup_cons.mp nd).2 (by simpa using h1) (by simpa using h2) hk
theorem bindC_get {kindOf : Str → Option NameKind} {x : Str} {v : Value} : ∀ {P : List Str} {vs : List Value} {i : Nat} {m : Str → Option Value}, P.Nodup → P[i]? = some x → vs[i]? = some v → kindOf x ≠ some .local →
    bindC kindOf (P.zip vs) m x = some v
  | [], _, _, _, _, h, _, _ => by simp at h
  | _ :: _, [], _, _, _, _, h, _ => by simp at h
  | p :: P, w :: vs, 0, m, nd, h1, h2, hk => by
    simp at h1 h2; subst h1; subst h2
    show bindC kindOf ((p, w) :: P.zip vs) m p = _
    unfold bindC
    rw [bindC_out fun v hv => (List.nodup_cons.mp nd).1 (List.of_mem_zip hv).1, if_neg hk]
    simp
  | p :: P, w :: vs, i + 1, m, nd, h1, h2, hk => by
    show bindC kindOf ((p, w) :: P.zip vs) m x = _
    unfold bindC
    exact bindC_get (i := i) (List.nodup_cons.mp nd).2 (by simpa using h1) (by simpa using h2) hk

/-- the names' values at the entry -/
noncomputable def start (N : List Str) (vs : List V) : St := vs.map some ++ List.replicate (N.length - vs.length) none

/-- the context of a def's body, at its entry; an exception leaves the frame, then lies as CX says -/
noncomputable def cxOf (CX : CXT) (P : Program) (w : World) (K : PySem.W.Frag) (mg : Str → Option Value) (base : Heap) (N : List Str) (qual : Str) (scope : Scope) (f : Addr) (cd : Value) (A : Around) (outer : List Env) (s : Shared) (H : Hp) (E : XK) : Cx where
  prog := P
  w := w
  K := K
  mg := mg
  base := base
  A := A.deeper (envOfC qual scope s.heap.objs.size f cd)
  N := N
  s₀ := s
  H₀ := H
  env := envOfC qual scope s.heap.objs.size f cd
  outer := outer
  stack := envOfC qual scope s.heap.objs.size f cd :: outer
  ex := []
  calm := true
  fn := fun _ => true
  pn := []
  xe := fun e s' => wpAny (model P w) (A.deeper (envOfC qual scope s.heap.objs.size f cd)) (leaving (envOfC qual scope s.heap.objs.size f cd) e) (fun _ s'' => CX outer H s E e s'') (fun e' s'' => CX outer H s E e' s'') s'

theorem cell_has {sc : Scope} {n : Nat} {x : Str} (h : sc.names.lookup x = some .cell) : ∃ c, (cellsFrom n sc.names []).lookup x = some c := by
  have q := PySem.W.cellsFrom_some sc.names n [] (.inl h)
  exact Option.isSome_iff_exists.mp q

theorem inv_start {CX : CXT} {P : Program} {w : World} {K : PySem.W.Frag} {mg : Str → Option Value} {base : Heap} {N ps : List Str} {qual : Str} {scope : Scope} {f : Addr} {cd : Value} {A : Around} {outer : List Env} {s s1 : Shared} {H : Hp} {E : XK} {us : List Value} {vs : List V}
    (S : FnScope N ps scope) (hd : A.handled = none) (e0 : Env0 P w K mg base A outer s H) (hl : vs.length = ps.length) (r : Vals vs us)
    (x : InCallC s s.heap.objs.size (bindL (envOfC qual scope s.heap.objs.size f cd).kindOf (ps.zip us) fun _ => none) (cellsFrom (s.heap.objs.size + 1) scope.names []) (bindC (envOfC qual scope s.heap.objs.size f cd).kindOf (ps.zip us) fun _ => none) s1) :
    Inv (cxOf CX P w K mg base N qual scope f cd A outer s H E) [] (start N vs) H s1 := by
  have hpl : ps.length ≤ N.length := by have := congrArg List.length S.pre; rw [List.length_take] at this; omega
  obtain ⟨h1, tk, rfl, hk⟩ := x.done
  have noA : ∀ b : Addr, b ∉ (cxOf CX P w K mg base N qual scope f cd A outer s H E).ex := fun b z => absurd (show b ∈ ([] : List Addr) from z) (by simp)
  refine ⟨⟨e0.mod, S.kind, rfl, rfl, Nat.le_refl _, fun y z c h1 h2 => ?_, fun y hy => ?_, fun y c _ h => ?_, fun _ => hd, Around.frames_deeper e0.frames, .inr ⟨rfl, rfl⟩, fun b z => absurd z (noA b), e0.bs, e0.bsz, fun b _ _ => noA b, fun b z => absurd z (noA b), e0.funs, e0.frf⟩,
    rfl, e0.bare, Un.kept hk, ⟨_, x.toInCall.ns, fun i y v h1 h2 h3 => ?_⟩, fun y c h => ⟨_, x.cell y c h⟩, e0.hok.fresh (Nat.le_refl _), fun y c h => ?_, fun p hp => absurd (show p ∈ ([] : List (Addr × Obj)) from hp) (by simp), e0.hok.kept hk, ?_⟩
  · exact name_of_addr x.apart (PySem.mem_of_lookup h1) (PySem.mem_of_lookup h2)
  · have hy : scope.names.lookup y = some .cell ∨ scope.names.lookup y = some .free := hy
    rcases hy with hy | hy
    · exact cell_has hy
    · exact absurd rfl (S.nofree _ (PySem.mem_of_lookup hy))
  · exact Nat.le_of_lt (x.above y c (PySem.mem_of_lookup h))
  · have hi : i < vs.length := by
      unfold start at h2
      by_cases hi : i < vs.length
      · exact hi
      · rw [List.getElem?_append_right (by simpa using hi)] at h2
        rw [List.getElem?_replicate] at h2
        split at h2 <;> cases h2
    have ha : vs[i]? = some v := by
      unfold start at h2
      rw [List.getElem?_append_left (by simpa using hi), List.getElem?_map] at h2
      cases e : vs[i]? with
      | none => rw [e] at h2; cases h2
      | some a => rw [e] at h2; cases h2; rfl
    obtain ⟨u, hu, rv⟩ := r.get ha
    have hp : ps[i]? = some y := by
      rw [← S.pre, List.getElem?_take_of_lt (by omega)]; exact h1
    have ndP : ps.Nodup := by rw [← S.pre]; exact S.nd.sublist (List.take_sublist _ _)
    refine ⟨u, rv, ?_⟩
    rcases S.par y (List.mem_of_getElem? hp) with k | k
    · exact .inl ⟨k, bindL_get ndP hp hu k⟩
    · obtain ⟨c, e⟩ := cell_has (n := s.heap.objs.size + 1) k
      refine .inr ⟨.inl k, c, e, ?_⟩
      have q := x.cell y c e
      rw [bindC_get ndP hp hu (by show scope.names.lookup y ≠ _; rw [k]; decide)] at q
      exact q
  · exact e0.hok.fresh (Nat.le_of_lt (x.above y c (PySem.mem_of_lookup h)))
  · unfold start
    show _ = N.length
    rw [List.length_append, List.length_map, List.length_replicate]
    omega

/-- THE RULE: a def (or a method) of the text, by its body. The body's reading t is chosen for each entry; it is run at the parameters' values -/
theorem fn_of {CX : CXT} {P : Program} {w : World} {K : PySem.W.Frag} {mg : Str → Option Value} {base : Heap} {k : Nat} {f : Addr} {name qual : Str} {params : Arguments} {body : List Stmt} {scope : Scope} {dV kV doc pm cdv ct oc : Value} {an od : Option Addr}
    {osl : Array (Option Value)} {N ps : List Str} {sp : Sp} (lk : K.lookup f = some ⟨oc, od, .func (PySem.W.fnOf name qual params body scope dV kV doc pm an cdv ct), osl⟩) (hcd : PySem.W.codeIn K cdv qual = true) (S : FnScope N ps scope)
    (len : ∀ vs H Q E, sp vs H Q E → vs.length = ps.length)
    (hbody : ∀ (A : Around) (outer : List Env) (s : Shared) (H : Hp) (vs : List V) (Q : VK) (E : XK), Room k (A.deeper (envOfC qual scope s.heap.objs.size f cdv)) → sp vs H Q E →
      ∃ t, PSs (cxOf CX P w K mg base N qual scope f cdv A outer s H E) body t ∧ t { nx := fun _ H' => Q .non H', rt := Q } (start N vs) H) :
    FnOk P w K mg base CX (k + 1) f (PySem.W.fnOf name qual params body scope dV kV doc pm an cdv ct) ps sp := by
  refine ⟨len, fun A outer s H args us vs Q E hr e0 hb r hsp => ?_⟩
  have hl := len _ _ _ _ hsp
  have KX : K.In s.heap := e0.mod.kin.keeps fun b o e => (e0.bs b o e).1
  have lim : s.heap.NoLimit := e0.mod.nolimit.keeps fun b o e => (e0.bs b o e).1
  have hkind : ∀ y ∈ ps.zip us, scope.names.lookup y.1 = some .local ∨ (scope.names.lookup y.1 = some .cell ∧ ((cellsFrom (s.heap.objs.size + 1) scope.names []).lookup y.1).isSome = true) := fun ⟨n, v⟩ hy => by
    rcases S.par n (List.of_mem_zip hy).1 with q | q
    · exact .inl q
    · exact .inr ⟨q, PySem.W.cellsFrom_some _ _ _ (.inl q)⟩
  refine codeAny_call_function hr.depth (KX _ _ lk) rfl S.co S.gen rfl (PySem.W.codeRec_of KX hcd) (hb _ _ _ _ ?_)
  refine wpAny_newFunctionEnv_cells S.kind hkind fun env he s1 x => ?_
  subst he
  refine ⟨lim.keeps x.toInCall.keep, codeAny_func ?_⟩
  obtain ⟨t, ht, hq⟩ := hbody A outer s H vs Q E (hr.deeper _) hsp
  have I : Inv (cxOf CX P w K mg base N qual scope f cdv A outer s H E) [] (start N vs) H s1 := inv_start S hr.hd e0 hl r x
  refine wpAny_mono (ht [] s1 (start N vs) H _ I hq) (fun fl s' hs => ?_) fun e s' hs => hs
  have fin : ∀ {σ' : St} {H' : Hp} {v : V} {u : Value}, Inv (cxOf CX P w K mg base N qual scope f cdv A outer s H E) [] σ' H' s' → RelV v u → Q v H' → CE outer P w H s Q u s' :=
    fun {σ' H' v u} J rv q => ⟨v, H', J.os, J.bare, J.base, J.hok, rv, q⟩
  cases fl with
  | ret u =>
    obtain ⟨v, σ', H', J, rv, q⟩ := hs
    exact fin J rv q
  | next =>
    obtain ⟨σ', H', J, q⟩ := hs
    exact fin (v := V.non) (u := Value.none) J rfl q
  | brk =>
    obtain ⟨_, _, _, q⟩ := hs
    exact False.elim q
  | cont =>
    obtain ⟨_, _, _, q⟩ := hs
    exact False.elim q
end L2

namespace L2
open PySem PySem.Spec PyProof.Rows
section
variable {X : Cx} {x : Str} {p pos : Pos} {e : Expr} {es : List Expr} {t : TA} {id T : String} {r : List V → Hp → VK → Prop}

noncomputable def tCB (r : List V → Hp → VK → Prop) (t : TA) : TE := fun σ H Q => t σ H fun vs H1 => r vs H1 Q
/-- f(e, ..), f a built-in function -/
theorem pe_callB (hc : CallR X (.builtin id) r) (hg : Gl X x) (hm : X.mg x = none) (hv : bootBuiltins x = some (.builtin id)) (ha : PA X (e :: es) t) (hn : x ≠ "__name__" := by decide) (hdb : (x == ("__debug__" : Str)) = false := by decide)
    (he : starEach (e :: es) X.env = (false, eval e X.env) :: starEach es X.env := by rfl) (hpl : (backTo pos (starEach es X.env)).any (·.1) = false := by rfl) : PE X (.Call (.Name x p) (e :: es) [] pos) (tCB r t) := by
  intro pins s σ H Q I h
  refine wpAny_Call_Name_kw (ld_blt I hg hm hv ?_ hn hdb)
  exact PyProof.Rows.callWith_builtin1 (thn (ha pos pins s σ H _ I h) fun us s1 ⟨vs, H1, I1, r1, q1⟩ => hc pins s1 σ H1 vs us Q I1 r1 q1) he hpl
/-- T(e, ..), T a built-in type -/
theorem pe_callTy (hc : CallR X (.type T) r) (hg : Gl X x) (hm : X.mg x = none) (hv : bootBuiltins x = some (.type T)) (ha : PA X (e :: es) t) (hn : x ≠ "__name__" := by decide) (hdb : (x == ("__debug__" : Str)) = false := by decide)
    (he : starEach (e :: es) X.env = (false, eval e X.env) :: starEach es X.env := by rfl) (hpl : (backTo pos (starEach es X.env)).any (·.1) = false := by rfl) : PE X (.Call (.Name x p) (e :: es) [] pos) (tCB r t) := by
  intro pins s σ H Q I h
  refine wpAny_Call_Name_kw (ld_blt I hg hm hv ?_ hn hdb)
  exact PyProof.Rows.callWith_type1 (thn (ha pos pins s σ H _ I h) fun us s1 ⟨vs, H1, I1, r1, q1⟩ => hc pins s1 σ H1 vs us Q I1 r1 q1) he hpl
end
end L2

namespace HT
open PySem PyProof.Rows

section
open PySem.SeqAt
open PySem.AutoSeq1 (wpAny_loadPart')
open PySem.MeetsSeq PySem.MeetsSeq2 PySem.MeetsSeq3

end

section
variable {prog : Program} {w : World} {A : Around} {E : Value → Shared → Prop} {s : Shared}

/-! ### t[a:b], not the whole -/
end
end HT

namespace L2
open PySem PySem.Spec PyProof.Rows

/-! ### the parts of a slice -/
noncomputable abbrev TO := St → Hp → (Option Int → Hp → Prop) → Prop
/-- a slice's part (left out, or an int) -/
noncomputable def PO (X : Cx) (e : Option Expr) (t : TO) : Prop :=
  ∀ (pins : List (Addr × Obj)) (s : Shared) (σ : St) (H : Hp) (Q : Option Int → Hp → Prop), Inv X pins σ H s → t σ H Q →
    wpAny (model X.prog X.w) X.A (evalPart e X.env) (fun u s' => ∃ o H', Inv X pins σ H' s' ∧ IsPart u o ∧ Q o H') X.xe s
noncomputable def tNoPart : TO := fun _ H Q => Q none H
noncomputable def tPart (t : TE) : TO := fun σ H Q => t σ H fun x H1 => ∃ i, x = .int i ∧ Q (some i) H1

section
variable {X : Cx} {e : Expr} {te : TE} {lo hi : Option Expr} {tl th : TO} {pos p2 : Pos}

theorem po_none : PO X none tNoPart := by
  intro pins s σ H Q I h
  rw [evalPart_none]
  exact wpAny_pure ⟨none, H, I, .none, h⟩
theorem po_some (h : PE X e te) : PO X (some e) (tPart te) := by
  intro pins s σ H Q I hw
  rw [evalPart_some]
  refine thn (h pins s σ H _ I hw) fun u s1 ⟨x, H1, I1, r1, q1⟩ => ?_
  obtain ⟨i, rfl, q⟩ := q1
  obtain ⟨t, rfl⟩ := r1
  exact ⟨some i, H1, I1, .int i t, q⟩

/-- what a slice of a value is, by values: the slice object stands at sl -/
noncomputable def SlR (X : Cx) (r : V → Option Int → Option Int → Hp → VK → Prop) : Prop :=
  ∀ (pins : List (Addr × Obj)) (s : Shared) (σ : St) (H : Hp) (x : V) (v vl vu : Value) (lo hi : Option Int) (sl : Addr) (Q : VK), Inv X pins σ H s → RelV x v → s.heap.IsSliceOf sl vl vu .none → IsPart vl lo → IsPart vu hi → r x lo hi H Q →
    ∃ T id, typeLookup (.type T) "__getitem__" = pure (some (.builtin id)) ∧ s.TypeIs v T ∧ wpAny (model X.prog X.w) X.A (getItem v (.ref sl)) (EP X pins σ Q) X.xe s
theorem SlR.or {r r' : V → Option Int → Option Int → Hp → VK → Prop} (h : SlR X r) (h' : SlR X r') : SlR X (fun x lo hi H Q => r x lo hi H Q ∨ r' x lo hi H Q) := by
  intro pins s σ H x v vl vu lo hi sl Q I rx hs pl pu q
  rcases q with q | q
  · exact h pins s σ H x v vl vu lo hi sl Q I rx hs pl pu q
  · exact h' pins s σ H x v vl vu lo hi sl Q I rx hs pl pu q
noncomputable def tSl (r : V → Option Int → Option Int → Hp → VK → Prop) (te : TE) (tl th : TO) : TE := fun σ H Q => te σ H fun x H1 => tl σ H1 fun l H2 => th σ H2 fun u H3 => r x l u H3 Q
/-- a[lo:hi], any a -/
theorem pe_slice {r : V → Option Int → Option Int → Hp → VK → Prop} (hr : SlR X r) (he : PE X e te) (hl : PO X lo tl) (hu : PO X hi th) : PE X (.Subscript e (.Slice lo hi none p2) pos) (tSl r te tl th) := by
  intro pins s σ H Q I h
  refine Subscript_ (thn (he pins s σ H _ I h) fun v s1 ⟨x, H1, I1, r1, q1⟩ => ?_)
  refine wpAny_Slice (thn (hl pins s1 σ H1 _ I1 q1) fun vl s2 ⟨l, H2, I2, pl, q2⟩ => thn (hu pins s2 σ H2 _ I2 q2) fun vu s3 ⟨u, H3, I3, pu, q3⟩ => ?_)
  rw [evalPart_none]
  refine wpAny_pure ?_
  have I4 : Inv X pins σ H3 { s3 with heap := s3.heap.push { cls := .type "slice", data := .fields #[vl, vu, .none] } } := I3.kept (t' := s3.toks) fun b ob q => Heap.get?_push_of_some _ q
  obtain ⟨T, id, hT, ht, hg⟩ := hr pins { s3 with heap := s3.heap.push { cls := .type "slice", data := .fields #[vl, vu, .none] } } σ H3 x v vl vu l u s3.heap.objs.size Q I4 r1 (Heap.IsSliceOf.new ..) pl pu q3
  show wpAny (model X.prog X.w) X.A (subscriptTail e (.Slice lo hi none p2) v (.ref s3.heap.objs.size)) (EP X pins σ Q) X.xe { s3 with heap := s3.heap.push { cls := .type "slice", data := .fields #[vl, vu, .none] } }
  exact tail_any (ops := [.ref s3.heap.objs.size, v]) ht hT hg (by with_unfolding_all rfl)

/-! ### t < u, t + u -/
end
end L2

namespace L2
open PySem PySem.Spec PyProof.Rows

/-! ### places -/
/-- the place that an index of any sign means -/
noncomputable def ixN (n : Nat) (i : Int) : Option Nat := if 0 ≤ i then (if i < n then some i.toNat else none) else if -(n : Int) ≤ i then some (i + n).toNat else none
noncomputable def atI {α : Type} (xs : List α) (i : Int) : Option α := (ixN xs.length i).bind fun j => xs[j]?
theorem ixN_seq {n : Nat} {i : Int} {j : Nat} (h : ixN n i = some j) : seqIndex? i n = some j ∧ j < n ∧ -(n : Int) ≤ i ∧ i < n := by
  unfold ixN at h
  by_cases h0 : 0 ≤ i
  · rw [if_pos h0] at h
    by_cases h1 : i < n
    · rw [if_pos h1] at h
      have e : i.toNat = j := Option.some.inj h
      exact ⟨by rw [seqIndex_of h0 h1, e], by omega, by omega, h1⟩
    · rw [if_neg h1] at h; cases h
  · rw [if_neg h0] at h
    by_cases h1 : -(n : Int) ≤ i
    · rw [if_pos h1] at h
      have e : (i + n).toNat = j := Option.some.inj h
      exact ⟨by rw [seqIndex_neg (by omega) h1, e], by omega, h1, by omega⟩
    · rw [if_neg h1] at h; cases h
theorem atI_get {α : Type} {xs : List α} {i : Int} {v : α} (h : atI xs i = some v) : ∃ j, seqIndex? i xs.length = some j ∧ xs[j]? = some v ∧ j < xs.length ∧ -(xs.length : Int) ≤ i ∧ i < xs.length := by
  unfold atI at h
  cases e : ixN xs.length i with
  | none => rw [e] at h; cases h
  | some j =>
    rw [e] at h
    obtain ⟨h1, h2, h3, h4⟩ := ixN_seq e
    exact ⟨j, h1, h, h2, h3, h4⟩
theorem atI_nat {α : Type} {xs : List α} {j : Nat} {v : α} (h : xs[j]? = some v) : atI xs (j : Int) = some v := by
  have hj : j < xs.length := (List.getElem?_eq_some_iff.mp h).1
  have e : ixN xs.length (j : Int) = some j := by
    unfold ixN
    rw [if_pos (by omega), if_pos (by omega)]; simp
  unfold atI; rw [e]; exact h
/-! ### what may be subscripted -/
/-- what stands as an index of a plain subscript -/
noncomputable def PlainIx (b : Expr) : Prop := ∀ o i, subscripted b false o i = operate [o, i] (getItem o i)
/-- a subscript by values -/
noncomputable def IxR (X : Cx) (r : R2) : Prop :=
  ∀ (value slice : Expr) (pins : List (Addr × Obj)) (s : Shared) (σ : St) (H : Hp) (x y : V) (v u : Value) (Q : VK), Inv X pins σ H s → RelV x v → RelV y u → r x y H Q →
    subscripted slice false v u = operate [v, u] (getItem v u) → wpAny (model X.prog X.w) X.A (subscriptTail value slice v u) (EP X pins σ Q) X.xe s
/-- a call of a builtin's method by values: the receiver, the arguments -/
noncomputable def MtR (X : Cx) (id : String) (r : V → List V → Hp → VK → Prop) : Prop :=
  ∀ (pins : List (Addr × Obj)) (s : Shared) (σ : St) (H : Hp) (x : V) (xs : List V) (v : Value) (us : List Value) (Q : VK), Inv X pins σ H s → RelV x v → Vals xs us → r x xs H Q →
    wpAny (model X.prog X.w) X.A (call (.builtin id) (v :: us)) (EP X pins σ Q) X.xe s
section
variable {X : Cx} {a b : Expr} {ta tb : TE} {pos : Pos}
theorem IxR.or {r r' : R2} (h : IxR X r) (h' : IxR X r') : IxR X (fun x y H Q => r x y H Q ∨ r' x y H Q) := by
  intro value slice pins s σ H x y v u Q I rx ry q hs
  rcases q with q | q
  · exact h value slice pins s σ H x y v u Q I rx ry q hs
  · exact h' value slice pins s σ H x y v u Q I rx ry q hs
theorem MtR.or {id : String} {r r' : V → List V → Hp → VK → Prop} (h : MtR X id r) (h' : MtR X id r') : MtR X id (fun x xs H Q => r x xs H Q ∨ r' x xs H Q) := by
  intro pins s σ H x xs v us Q I rx rs q
  rcases q with q | q
  · exact h pins s σ H x xs v us Q I rx rs q
  · exact h' pins s σ H x xs v us Q I rx rs q
/-- a[b] -/
theorem pe_ix {r : R2} (hr : IxR X r) (ha : PE X a ta) (hb : PE X b tb) (hs : PlainIx b) : PE X (.Subscript a b pos) (tOp r ta tb) := by
  intro pins s σ H Q I h
  exact Subscript_ (binT ha hb I h fun v u s2 x y H2 I2 rx ry q => hr a b pins s2 σ H2 x y v u Q I2 rx ry q (hs _ _))

noncomputable def rIxL (K : PySem.W.Frag) : R2 := fun x y H Q => ∃ p xs i v, x = .ref p ∧ y = .int i ∧ SqL K H p xs ∧ atI xs i = some v ∧ Q v H
noncomputable def rIxT (K : PySem.W.Frag) : R2 := fun x y H Q => ∃ p xs i v, x = .ref p ∧ y = .int i ∧ SqT K H p xs ∧ atI xs i = some v ∧ Q v H
noncomputable def rIxS : R2 := fun x y H Q => ∃ z i c, x = .str z ∧ y = .int i ∧ z.length ≤ sizeLine ∧ atI z.cps.toList i = some c ∧ Q (.str ⟨#[c]⟩) H
theorem ix_list : IxR X (rIxL X.K) := by
  intro value slice pins s σ H x y v u Q I rx ry h hs
  obtain ⟨p, xs, i, z, rfl, rfl, hq, he, q⟩ := h
  cases rx
  obtain ⟨t, rfl⟩ := ry
  obtain ⟨its, r, pl, hz⟩ := I.list hq
  obtain ⟨j, h1, h2, h3, h4, h5⟩ := atI_get he
  obtain ⟨w, ew, rw'⟩ := r.get h2
  have hl := r.length
  have hn := line63
  have fin : EP X pins σ Q w s := ⟨z, H, I, rw', q⟩
  by_cases h0 : 0 ≤ i
  · have hj : i.toNat = j := by
      rw [seqIndex_of h0 h5] at h1
      exact Option.some.inj h1
    exact item_listR pl.isList h0 (by omega) (by rw [hj]; simpa using ew) fin hs
  · have hj : (i + (its.toArray.size : Int)).toNat = j := by
      rw [seqIndex_neg (by omega) h4] at h1
      rw [List.size_toArray, ← hl]
      exact Option.some.inj h1
    exact subscriptTail_builtinR (x := w) pl.isList.typeIs slot_list_getitem.lookup
      (wpAny_getItem_list_neg (Q := fun r s' => r = w ∧ EP X pins σ Q r s') pl.isList (by omega) (by rw [List.size_toArray] <;> omega) (by omega) (by rw [hj]; simpa using ew) ⟨rfl, fin⟩) hs
theorem ix_tup : IxR X (rIxT X.K) := by
  intro value slice pins s σ H x y v u Q I rx ry h hs
  obtain ⟨p, xs, i, z, rfl, rfl, hq, he, q⟩ := h
  cases rx
  obtain ⟨t, rfl⟩ := ry
  obtain ⟨its, r, pl, hz⟩ := I.tuple hq
  obtain ⟨j, h1, h2, h3, h4, h5⟩ := atI_get he
  obtain ⟨w, ew, rw'⟩ := r.get h2
  have hl := r.length
  have hn := line63
  have fin : EP X pins σ Q w s := ⟨z, H, I, rw', q⟩
  exact subscriptTail_builtinR (x := w) pl.typeIs slot_tuple_getitem.lookup
    (getItem_tuple (j := j) (Q := fun r s' => r = w ∧ EP X pins σ Q r s') pl (by omega) (by omega) (by rw [List.size_toArray, ← hl]; exact h1) (by simpa using ew) ⟨rfl, fin⟩) hs
theorem ix_str : IxR X rIxS := by
  intro value slice pins s σ H x y v u Q I rx ry h hs
  obtain ⟨z, i, c, rfl, rfl, hz, he, q⟩ := h
  obtain ⟨t, rfl⟩ := rx
  obtain ⟨t', rfl⟩ := ry
  obtain ⟨j, h1, h2, h3, h4, h5⟩ := atI_get he
  have hl : z.cps.toList.length = z.length := by simp [Str.length]
  rw [hl] at h1 h4 h5
  have hn := line63
  exact tail_any (typeIs_str s z t) slot_str_getitem.lookup (getItem_str (c := c) (by
    have e1 : decide (i < -(2 ^ 63 : Int)) = false := decide_eq_false (by omega)
    have e2 : decide (i ≥ 2 ^ 63) = false := decide_eq_false (by omega)
    rw [e1, e2, Bool.or_false]) (by rw [h1]; simpa using h2) ⟨.str ⟨#[c]⟩, H, I.tok _, ⟨_, rfl⟩, q⟩) hs
/-! ### xs[i] = v, any sign -/
theorem Inv.lst {pins : List (Addr × Obj)} {σ : St} {H : Hp} {s : Shared} {p : Addr} {xs : List V} (I : Inv X pins σ H s) (h : H p = some (.lst xs)) :
    ∃ (its : List Value) (n : Nat), Vals xs its ∧ s.heap.get? p = some { cls := .type "list", data := .seq its.toArray n } ∧ xs.length ≤ sizeLine := by
  obtain ⟨z, its, n, r, e⟩ := I.hok p _ h
  exact ⟨its, n, r, e, z⟩
/-! ### slices -/
/-! ### in, not in: flat items -/
/-! ### len, list(x), tuple(x) of any list or tuple that is read -/
theorem call_len_seq : CallR X (.builtin "len") (fun xs H Q => ∃ p ys, xs = [.ref p] ∧ (SqL X.K H p ys ∨ SqT X.K H p ys) ∧ Q (.int ys.length) H) := by
  intro pins s σ H xs us Q I r h
  obtain ⟨p, ys, rfl, hq, q⟩ := h
  obtain ⟨u, rfl, rx⟩ := vals1 r
  cases rx
  have hn := line63
  rcases hq with hq | hq
  · obtain ⟨its, r', pl, hz⟩ := I.list hq
    have hlen := r'.length
    exact Calls.call_len_list pl.isList (by simp only [List.size_toArray] <;> omega) ⟨.int ys.length, H, I.tok _, ⟨s.toks + 1, by rw [List.size_toArray, hlen]⟩, q⟩
  · obtain ⟨its, r', pl, hz⟩ := I.tuple hq
    have hlen := r'.length
    exact len_tuple pl (by simp only [List.size_toArray] <;> omega) ⟨.int ys.length, H, I.tok _, ⟨s.toks + 1, by rw [List.size_toArray, hlen]⟩, q⟩
theorem call_len_str : CallR X (.builtin "len") (fun xs H Q => ∃ z, xs = [.str z] ∧ z.length ≤ sizeLine ∧ Q (.int z.length) H) := by
  intro pins s σ H xs us Q I r h
  obtain ⟨z, rfl, hz, q⟩ := h
  obtain ⟨u, rfl, t, rfl⟩ := vals1 r
  have hn := line63
  exact len_str (by omega) ⟨.int z.length, H, I.tok _, ⟨_, rfl⟩, q⟩
theorem CallR.or {f : Value} {r r' : List V → Hp → VK → Prop} (h : CallR X f r) (h' : CallR X f r') : CallR X f (fun xs H Q => r xs H Q ∨ r' xs H Q) := by
  intro pins s σ H xs us Q I rs q
  rcases q with q | q
  · exact h pins s σ H xs us Q I rs q
  · exact h' pins s σ H xs us Q I rs q
theorem call_tuple_of : CallR X (.type "tuple") (fun xs H Q => ∃ p ys, xs = [.ref p] ∧ ((SqL X.K H p ys ∧ ∀ l, H l = none → Q (.ref l) (upd H l (.tup ys))) ∨ (SqT X.K H p ys ∧ Q (.ref p) H))) := by
  intro pins s σ H xs us Q I r h
  obtain ⟨p, ys, rfl, h⟩ := h
  obtain ⟨u, rfl, rx⟩ := vals1 r
  cases rx
  rcases h with ⟨hq, q⟩ | ⟨hq, q⟩
  · obtain ⟨its, r', pl, hz⟩ := I.list hq
    have hlen := r'.length
    refine call_tuple_list pl.isList (fun h' kp => ?_) (by simp only [List.size_toArray] <;> omega)
    have I1 : Inv X pins σ H { s with heap := h' } := I.kept (t' := s.toks) kp
    have I2 : Inv X pins σ (upd H h'.objs.size (.tup ys)) { s with heap := h'.push { cls := .type "tuple", data := .seq its.toArray } } :=
      I1.laid (t' := s.toks) (fun b o e => Heap.get?_push_of_some _ e) (Nat.le_refl _) (show ObjOk X.prog X.w _ _ _ (.tup ys) from ⟨hz, its, r', IsTup.new _ _⟩)
    exact ⟨.ref h'.objs.size, _, I2, rfl, q _ (I1.hok.fresh (Nat.le_refl _))⟩
  · obtain ⟨its, r', pl, hz⟩ := I.tuple hq
    exact call_tuple_same pl ⟨.ref p, H, I, rfl, q⟩

/-! ### the call of a builtin's method: o.m(..) -/
/-- the value is of that builtin type -/
noncomputable def tyV (K : PySem.W.Frag) (T : String) (x : V) (H : Hp) : Prop := match x with
  | .str _ => T = "str"
  | .int _ => T = "int"
  | .ref p => (T = "list" ∧ ∃ xs, SqL K H p xs) ∨ (T = "tuple" ∧ ∃ o, K.lookup p = some o ∧ o.cls = .type "tuple" ∧ o.dict = none) ∨
      (T = "dict" ∧ ((∃ kvs, H p = some (.dK kvs)) ∨ ∃ kvs, H p = some (.dT kvs))) ∨ (T = "set" ∧ ∃ S n, H p = some (.set S n))
  | _ => False
theorem tyV_is {pins : List (Addr × Obj)} {σ : St} {H : Hp} {s : Shared} {T : String} {x : V} {v : Value} (I : Inv X pins σ H s) (r : RelV x v) (ty : tyV X.K T x H) :
    s.TypeIs v T ∧ ∀ a, v = .ref a → ∃ ob, s.heap.get? a = some ob ∧ ob.dict = none := by
  cases x with
  | str z =>
    obtain ⟨t, rfl⟩ := r
    cases (show T = "str" from ty)
    exact ⟨typeIs_str s z t, fun _ e => nomatch e⟩
  | int i =>
    obtain ⟨t, rfl⟩ := r
    cases (show T = "int" from ty)
    exact ⟨typeIs_int s i t, fun _ e => nomatch e⟩
  | ref p =>
    cases r
    rcases ty with ⟨rfl, xs, hq⟩ | ⟨rfl, o, hk, hc, hd⟩ | ⟨rfl, hk⟩ | ⟨rfl, S, n, hk⟩
    · obtain ⟨its, _, pl, _⟩ := I.list hq
      refine ⟨pl.isList.typeIs, fun a e => ?_⟩
      cases e
      obtain ⟨o, n, e, c, hd, _⟩ := pl
      exact ⟨o, e, hd⟩
    · refine ⟨⟨o, I.kIn p o hk, hc⟩, fun a e => ?_⟩
      cases e
      exact ⟨o, I.kIn _ o hk, hd⟩
    · have z : ∃ o, s.heap.get? p = some o ∧ o.ExactDict := by
        rcases hk with ⟨kvs, hk⟩ | ⟨kvs, hk⟩
        · obtain ⟨_, _, _, _, o, _, _, e, ex, _⟩ := I.hok p _ hk
          exact ⟨o, e, ex⟩
        · obtain ⟨_, _, _, _, o, _, _, e, ex, _⟩ := I.hok p _ hk
          exact ⟨o, e, ex⟩
      obtain ⟨o, e, ex⟩ := z
      refine ⟨⟨o, e, ex.1⟩, fun a e2 => ?_⟩
      cases e2
      exact ⟨o, e, ex.2.1⟩
    · obtain ⟨o, _, _, _, e, ex, _⟩ := I.hok p _ hk
      refine ⟨⟨o, e, ex.1⟩, fun a e2 => ?_⟩
      cases e2
      exact ⟨o, e, ex.2.1⟩
  | _ => exact False.elim ty
noncomputable def tBM0 (K : PySem.W.Frag) (T : String) (r : V → List V → Hp → VK → Prop) (to : TE) : TE := fun σ H Q => to σ H fun x H1 => tyV K T x H1 ∧ r x [] H1 Q
noncomputable def tBM (K : PySem.W.Frag) (T : String) (r : V → List V → Hp → VK → Prop) (to : TE) (t : TA) : TE := fun σ H Q => to σ H fun x H1 => tyV K T x H1 ∧ t σ H1 fun xs H2 => r x xs H2 Q
variable {o e : Expr} {es : List Expr} {to : TE} {t : TA} {name : Str} {apos cpos : Pos} {T id : String} {r : V → List V → Hp → VK → Prop}
theorem pe_bm (pa : PlainAttrs T) (slot : Slot T name id) (hty : typeOf (.builtin id) = pure (.type "method_descriptor")) (hm : MtR X id r) (ho : PE X o to) (ha : PA X (e :: es) t)
    (hbase : attributeBase o name X.env (eval o X.env) = eval o X.env := by rfl)
    (hfew : ((backTo cpos (starEach (e :: es) X.env)).all (fun x => !x.1) && (backToKw cpos (keywordEach [] X.env)).all (fun x => x.1.isSome)
      && decide ((e :: es).length + ([] : List Keyword).length + (if ([] : List Keyword).isEmpty then 0 else 1) < 30)) = true := by rfl)
    (hline : (apos.endLine == cpos.line) = true := by rfl) (hs : starEach (e :: es) X.env = (false, eval e X.env) :: starEach es X.env := by rfl) (hplain : (backTo cpos (starEach es X.env)).any (·.1) = false := by rfl) :
    PE X (.Call (.Attribute o name apos) (e :: es) [] cpos) (tBM X.K T r to t) := by
  intro pins s σ H Q I h
  refine wpAny_Call_method_late hbase hfew hline rfl (thn (ho pins s σ H _ I h) fun v s1 ⟨x, H1, I1, r1, ty, q1⟩ => ?_)
  obtain ⟨h1, h2⟩ := tyV_is I1 r1 ty
  refine ⟨T, id, pa, slot, hty, h1, h2, ?_⟩
  have hA := ha cpos pins s1 σ H1 _ I1 q1
  rw [hs] at hA ⊢
  refine Calls.callWith_builtin (by show (false || (backTo cpos (starEach es X.env)).any (·.1)) = false; rw [hplain] <;> rfl) (Calls.evalArgs_plain ?_)
  exact thn hA fun us s2 ⟨vs, H2, I2, r2, q2⟩ => hm pins s2 σ H2 x vs v us Q I2 r1 r2 q2
/- xs.append(e), list.index on a module's tuple .. are MtR facts of 06m -/
end
end L2

namespace L2
open PySem PySem.Spec PyProof.Rows

noncomputable def MtM (X : Cx) (id : String) (r : V → List V → Hp → VK → Prop) : Prop :=
  ∀ (pins : List (Addr × Obj)) (s : Shared) (σ : St) (H : Hp) (x : V) (xs : List V) (v : Value) (us : List Value) (Q : VK), Inv X pins σ H s → RelV x v → Vals xs us → r x xs H Q →
    wpAny (model X.prog X.w) X.A (call (.builtin id) (v :: us)) (EP X pins σ Q) X.xe s

/-! ### lists of values -/
theorem Vals.one : ∀ {x : V} {us : List Value}, Vals [x] us → ∃ u, us = [u] ∧ RelV x u
  | _, _, .cons r .nil => ⟨_, rfl, r⟩
theorem Vals.two : ∀ {x y : V} {us : List Value}, Vals [x, y] us → ∃ u v, us = [u, v] ∧ RelV x u ∧ RelV y v
  | _, _, _, .cons r (.cons q .nil) => ⟨_, _, rfl, r, q⟩
theorem Vals.zero : ∀ {us : List Value}, Vals [] us → us = []
  | _, .nil => rfl
section
variable {X : Cx} {pins : List (Addr × Obj)} {σ : St} {H : Hp} {s : Shared} {l b : Addr} {xs ys zs : List V}

/-! ### the two steps: a tracked list is rewritten, a new list is laid -/
theorem Inv.lset {its its' : List Value} {n : Nat} {f : Array Value → Array Value} {t' : Nat} (I : Inv X pins σ H s) (hH : H l = some (.lst xs))
    (e : s.heap.get? l = some { cls := .type "list", data := .seq its.toArray n }) (hf : f its.toArray = its'.toArray) (hv : Vals ys its') (hz : ys.length ≤ sizeLine) :
    Inv X pins σ (upd H l (.lst ys)) { s with heap := s.heap.update l (Obj.mapSeq f), toks := t' } := by
  have q := PySem.IsL.update e f
  rw [hf] at q
  refine I.write (x := l) (e := l) (by rw [hH]; exact trivial) (.inl rfl) (fun b' u hb hu => (Heap.get?_update_other s.heap (Obj.mapSeq f) (Ne.symm hb)).trans hu) ⟨_, q⟩ ?_
  exact ⟨hz, its', _, hv, q⟩
theorem Inv.lnew {its : List Value} {t' : Nat} (I : Inv X pins σ H s) (hv : Vals ys its) (hz : ys.length ≤ sizeLine) :
    Inv X pins σ (upd H s.heap.objs.size (.lst ys)) { s with heap := s.heap.push { cls := .type "list", data := .seq its.toArray }, toks := t' } :=
  I.laid (fun _ _ q => Heap.get?_push_of_some _ q) (Nat.le_refl _) ⟨hz, its, 0, hv, Heap.get?_push_size _ rfl⟩
theorem Inv.fresh (I : Inv X pins σ H s) : H s.heap.objs.size = none := I.hok.fresh (Nat.le_refl _)
theorem Inv.lstM (I : Inv X pins σ H s) (hH : H l = some (.lst xs)) : xs.length ≤ sizeLine ∧ ∃ (its : List Value) (n : Nat), Vals xs its ∧ xs.length = its.length ∧ s.heap.get? l = some { cls := .type "list", data := .seq its.toArray n } := by
  obtain ⟨z, its, n, r, e⟩ := I.hok l _ hH
  exact ⟨z, its, n, r, r.length, e⟩

end

section
variable {X : Cx}

/-! ### methods -/
noncomputable def rAppend : V → List V → Hp → VK → Prop := fun x vs H Q => ∃ l xs y, x = .ref l ∧ vs = [y] ∧ H l = some (.lst xs) ∧ xs.length < sizeLine ∧ Q .non (upd H l (.lst (xs ++ [y])))
theorem mt_append : MtM X "list.append" rAppend := by
  intro pins s σ H x vs v us Q I rx rv h
  obtain ⟨l, xs, y, rfl, rfl, hH, hz, q⟩ := h
  cases rx
  obtain ⟨u, rfl, ru⟩ := rv.one
  obtain ⟨z, its, n, r, hl, e⟩ := I.lstM hH
  refine call_meets F.slot_list_append ⟨_, e, rfl⟩ F.entry_list_append (F.args_list_append_2 _ _) (PySem.list_append l its.toArray n u (by rw [List.size_toArray]; omega)) ⟨e, ?_⟩
  refine ⟨.non, _, I.lset (its' := its ++ [u]) hH e (by simp) (r.append (.cons ru .nil)) ?_, rfl, q⟩
  rw [List.length_append, List.length_singleton]
  omega

/-! ### list + list, list += list, list * int -/
noncomputable def rCat : R2 := fun x y H Q => ∃ l b xs zs, x = .ref l ∧ y = .ref b ∧ H l = some (.lst xs) ∧ H b = some (.lst zs) ∧ xs.length + zs.length ≤ sizeLine ∧ ∀ p, H p = none → Q (.ref p) (upd H p (.lst (xs ++ zs)))
theorem op_cat : OpR X (binaryOp .Add) rCat := by
  intro pins s σ H x y v u Q I rx ry h
  obtain ⟨l, b, xs, zs, rfl, rfl, hH, hB, hz, q⟩ := h
  cases rx
  cases ry
  obtain ⟨z, its, n, r, hl, e⟩ := I.lstM hH
  obtain ⟨z2, its2, n2, r2, hl2, e2⟩ := I.lstM hB
  refine PySem.P.add_list e e2 ?_ (by rw [List.size_toArray, List.size_toArray]; omega)
  have ea : its.toArray ++ its2.toArray = (its ++ its2).toArray := by simp
  rw [ea]
  exact ⟨.ref _, _, I.lnew (t' := s.toks) (r.append r2) (by rw [List.length_append]; omega), rfl, q _ I.fresh⟩
/-! ### del xs[i] -/
end

/-! ### xs[a:b] = ys -/
section
variable {prog : Program} {w : World} {A : Around} {E : Value → Shared → Prop} {s : Shared}
set_option maxRecDepth 100000 in
end

section
variable {X : Cx}
end
end L2

namespace Att
open PySem PySem.W PySem.Calls PyProof.Rows

/-! ### the script -/
theorem ints_of_wellAll {P : Params} {h : Heap} : ∀ (ns : List Int) (vs : List Value), WellAll P h vs (ns.map WData.int) → IntsAre vs ns := by
  intro ns
  induction ns with
  | nil =>
    intro vs w
    rw [List.map_nil] at w
    cases w
    exact .nil
  | cons n ns ih =>
    intro vs w
    rw [List.map_cons] at w
    cases w with
    | cons a b =>
      cases a
      exact .cons _ _ (ih _ b)

theorem script_of {l : OpenLaw} {n : Nat} (hn : l.most = some n) {P : Params} {h : Heap} {args : List WData} {vals : List Value}
    (hpre : l.row.toRowW.claim.pre args = true) (hwl : WellAll P h vals args) :
    ∃ a vs ns, vals = [Value.ref a] ∧ args = [WData.list (ns.map WData.int)] ∧ h.get? a = some { cls := .type "list", data := .seq vs.toArray } ∧ IntsAre vs ns ∧ ns.length ≤ n := by
  have hsh : WShape.hasAll [] args [.list .int] = true := (pre_splitW hpre).1
  have hc : l.pre.holds [] { args := args } = true := (pre_splitW hpre).2
  obtain ⟨d, r, rfl, h1, h2⟩ := hasAllW_cons hsh
  obtain rfl := hasAllW_nil h2
  obtain ⟨xs, rfl, h3⟩ := hasW_list h1
  obtain ⟨ns, rfl⟩ := items_int h3
  have hlen : ns.length ≤ n := by
    unfold OpenLaw.pre at hc
    have h4 : (WTm.not (.lt (.lit (.int (n : Int))) (.len (.arg 0)))).holds [] { args := [.list (ns.map .int)] } = true := by
      have h4 := (holds_andW hc).1
      rw [hn] at h4
      exact h4
    have h5 := condW_of h4 (w_not (w_lt w_lit (w_len_list (w_arg rfl))))
    rw [List.length_map] at h5
    refine Nat.le_of_not_lt fun q => ?_
    have q' : (n : Int) < ((ns.length : Nat) : Int) := by omega
    first
      | (rw [decide_eq_true q'] at h5; exact absurd h5 (by decide))
      | (simp at h5; omega)
  cases hwl with
  | cons w1 w2 =>
    cases w2
    cases w1 with
    | list ho hall => exact ⟨_, _, ns, rfl, rfl, ho, ints_of_wellAll ns _ hall, hlen⟩

theorem post_true (l : OpenLaw) (args : List WData) : l.row.toRowW.claim.post args (.bool true) args = true :=
  postW_of (r := l.row.toRowW) (X := (true == true))
    (show WShape.has [] (.bool true) .bool = true by first | rfl | decide | simp [WShape.has, WShape.arms, WShape.armsAll])
    (show (WTm.eq .res (.lit (.bool true))).value [] { args := args, res := some (.bool true), after := args } = some (.bool (true == true)) from w_eq_bool (w_res rfl) w_lit) rfl

/-! ### the attachment: holds_open's last premise (the goal 'hc' behind k_head) from a wpAny of the law's body -/
/-- the same from a codeAny of the CALL (for a layer whose function contracts speak of calls) -/
theorem attach_call {l : OpenLaw} {n : Nat} {q : Program} {loose : List Str} {XP : (Str → Option Value) → Heap → Prop} {YP : World → Heap → Prop} {d : DefRec}
    (hn : l.most = some n) (hdf : d.params.defaults = [])
    (call : ∀ (w : World) (s₀ s₁ : Shared) (mg mb : Str → Option Value) (fa : Addr) (o : Obj) (pm cd doc : Value) (a : Addr) (vs : List Value) (ns : List Int),
      Ground q loose [] XP w s₀ mg mb s₁.heap → YP w s₁.heap →
      s₁.heap.get? fa = some o → o.data = .func (docDef d.name d.params d.body d.scope pm cd doc) → s₁.heap.CodeRec cd d.name → mg d.name = some (.ref fa) →
      s₁.heap.get? a = some { cls := .type "list", data := .seq vs.toArray } → IntsAre vs ns → ns.length ≤ n → s₁.gens = #[] →
      codeAny (model l.prog w) callerA (.call (.ref fa) ⟨[.ref a], []⟩) (fun r s' => r = .ok (.ret (.bool true)) ∧ OldK s₁.heap s'.heap ∧ s'.os = s₁.os ∧ AllBare s'.gens) s₁) :
    WalkO q loose XP YP l.row.toRowW d [] (fun f vs => PySem.call f vs) := by
  intro w s₀ s₁ mg mb G Y fa o pm cd doc dV kV ho hd hcd hD hmg hg args vals as hpre hlay hrd hwl hlo
  obtain rfl : dV = .none := Dflts.none hD hdf
  obtain rfl : kV = .none := Dflts.noKw hD
  obtain ⟨a, vs, ns, rfl, rfl, hobj, hints, hlen⟩ := script_of hn hpre hwl
  refine enter_call (codeAny_mono (call w s₀ s₁ mg mb fa o pm cd doc a vs ns G Y ho (fd_plain hd) hcd hmg hobj hints hlen hg) fun r s' hq => ?_)
  obtain ⟨rfl, h2, h3, h4⟩ := hq
  exact ⟨.inl ⟨.bool true, .bool true, [], rfl, fun _ => rfl, .bool true, post_true l _, fun _ => ⟨List.Pairwise.nil, fun _ hm => (nomatch hm)⟩⟩, h2, h3, h4⟩

/-! ### rules over ANY heap (no ledger) from facts about the written part K: the library's own take a ledger (News) for what they write -/
section
variable {prog : Program} {w : World} {A : Around} {E : Value → Shared → Prop} {s : Shared} {K : Frag}

/-! the whole heap as the ledger: makes every rule that writes through a ledger a rule over any heap -/
noncomputable def ledger (h : Heap) (L d : Addr) : List (Addr × Obj) := (List.range h.objs.size).filterMap fun a => if a = L ∨ a = d then none else (h.get? a).map fun o => (a, o)
end
end Att

namespace L2
open PySem PySem.Spec PyProof.Rows

theorem vals_ints : ∀ {vs : List Value} {ns : List Int}, IntsAre vs ns → Vals (ns.map V.int) vs
  | _, _, .nil => .nil
  | _, _, .cons n t h => .cons ⟨t, rfl⟩ (vals_ints h)

/-- nothing is tracked but the script, known to the object (or it is an object of the module) -/
noncomputable def Only (H : Hp) : Prop := ∀ b, H b = none ∨ ∃ o xs, H b = some (.frz o (.lst xs))

/-- THE HEAD: the law's promise, at the heap behind the top. F, the promise of the law's def, may use that base is part of the heap (so K.In base, base.Ns mainGlobals mg stand in Mod) -/
theorem law_call {P : Program} {w : World} {K : PySem.W.Frag} {mg mb : Str → Option Value} {CX : CXT} {k : Nat} {fa a : Addr} {fd : FuncData} {x : Str} {sp : Sp} {s₁ : Shared} {vs : List Value} {ns : List Int}
    (KX : K.In s₁.heap) (hns : s₁.heap.Ns mainGlobals mg) (hb : s₁.heap.Ns builtinsNs mb) (hbb : ∀ x : Str, x ≠ "__name__" → mb x = bootBuiltins x) (hlim : s₁.heap.NoLimit) (hg : s₁.gens = #[])
    (ha : s₁.heap.get? a = some { cls := .type "list", data := .seq vs.toArray }) (hi : IntsAre vs ns) (hl : ns.length ≤ sizeLine) (hr : Room k callerA)
    (F : ∀ base : Heap, K.In base → base.Ns mainGlobals mg → FnOk P w K mg base CX k fa fd [x] sp) (hbind : ∀ (s : Shared) (u : Value), BindsTo s fd ⟨[u], []⟩ [(x, u)])
    (hsp : ∀ H : Hp, Only H → SqL K H a (ns.map V.int) → sp [.ref a] H (fun v _ => v = .bl true) fun _ _ _ => False)
    (hCX : ∀ H e s', CX [] H s₁ (fun _ _ _ => False) e s' → False) :
    codeAny (model P w) callerA (.call (.ref fa) ⟨[.ref a], []⟩) (fun r s' => r = .ok (.ret (.bool true)) ∧ OldK s₁.heap s'.heap ∧ s'.os = s₁.os ∧ AllBare s'.gens) s₁ := by
  have rv := vals_ints hi
  have lenV := hi.length
  -- from an abstract heap in which nothing but the script may be tracked
  have core : ∀ H : Hp, Only H → SqL K H a (ns.map V.int) → HOk P w H s₁.heap → (∀ b, H b ≠ none → b = a) → (H a ≠ none → K.lookup a = none) →
      codeAny (model P w) callerA (.call (.ref fa) ⟨[.ref a], []⟩) (fun r s' => r = .ok (.ret (.bool true)) ∧ OldK s₁.heap s'.heap ∧ s'.os = s₁.os ∧ AllBare s'.gens) s₁ := by
    intro H hO hS hok hA hK
    have base_of : ∀ {b : Addr} {o : Obj}, s₁.heap.get? b = some o → H b = none → (hidT s₁.heap H).get? b = some o := fun e n => hidT_get e n
    have noA : ∀ {b : Addr} {o : Obj} {es : Array DictEntry} {ep : Nat}, s₁.heap.get? b = some o → o.data = .dict es ep → H b = none := fun {b o es ep} e d => by
      cases q : H b with
      | none => rfl
      | some u =>
        have e' : b = a := hA b (by rw [q]; simp)
        subst e'
        rw [ha] at e; cases e
        have d' : Data.seq vs.toArray _ = Data.dict es ep := d
        cases d'
    have nsK : ∀ {b : Addr} {m : Str → Option Value}, s₁.heap.Ns b m → (hidT s₁.heap H).Ns b m := fun {b m} ⟨o, es, ep, e, d, r⟩ => ⟨o, es, ep, base_of e (noA e d), d, r⟩
    have hKb : K.In (hidT s₁.heap H) := fun b o e => base_of (KX b o e) (by
      cases q : H b with
      | none => rfl
      | some u =>
        have e' : b = a := hA b (by rw [q]; simp)
        subst e'
        rw [hK (by rw [q]; simp)] at e; cases e)
    have hM : Mod K mg (hidT s₁.heap H) := ⟨hKb, nsK hns, ⟨mb, nsK hb, hbb⟩, let ⟨mc, h1, h2⟩ := hlim; ⟨mc, nsK h1, h2⟩⟩
    have e0 : Env0 P w K mg (hidT s₁.heap H) callerA [] s₁ H := ⟨rfl, hM, fun b o e => of_hidT e, Nat.le_of_eq (hidT_size _ _), trivial, fun b hb => absurd (show b ∈ ([] : List Addr) from hb) (by simp), hok, .of_eq hg⟩
    refine codeAny_mono ((F _ hKb (nsK hns)).run callerA [] s₁ H ⟨[.ref a], []⟩ [.ref a] [.ref a] _ _ hr e0 (hbind s₁ (.ref a)) (.cons rfl .nil) (hsp H hO hS)) fun r s' h => ?_
    cases r with
    | error e => exact (hCX H e s' h).elim
    | ok fl =>
      cases fl with
      | next => exact False.elim h
      | brk => exact False.elim h
      | cont => exact False.elim h
      | ret u =>
        obtain ⟨v, H', os, bare, un, hok', r', q⟩ := h
        have q' : v = .bl true := q
        subst q'
        obtain rfl : u = Value.bool true := r'
        refine ⟨rfl, OldK.of_keep fun b o e => ?_, os, bare⟩
        cases q : H b with
        | none => exact un.keep b o e q (by intro z; exact absurd (show b ∈ ([] : List Addr) from z) (by simp)) (by simp)
        | some u =>
          rcases hO b with z | ⟨ob, xs, z⟩
          · rw [q] at z; cases z
          · have z2 := un.frzs b ob _ z
            obtain ⟨e1, _⟩ := hok b _ z
            obtain ⟨e2, _⟩ := hok' b _ z2
            rw [e] at e1; cases e1
            exact e2
  cases hk : K.lookup a with
  | some o =>
    -- the script is one of the module's own objects
    have e := KX a o hk
    rw [ha] at e
    cases e
    refine core (fun _ => none) (fun _ => .inl rfl) (.inr ⟨_, vs.toArray, _, hk, rfl, rfl, rfl, by rw [List.size_toArray, lenV]; exact hl, by simpa using rv⟩) (fun b u z => by have z' : (none : Option HO) = some u := z; cases z') (fun b z => absurd rfl z) fun z => absurd rfl z
  | none =>
    refine core (fun b => if b = a then some (.frz { cls := .type "list", data := .seq vs.toArray } (.lst (ns.map V.int))) else none) (fun b => ?_) (.inl (.inr ⟨{ cls := .type "list", data := .seq vs.toArray }, if_pos rfl⟩)) (fun b u z => ?_) (fun b z => ?_) fun _ => hk
    · by_cases hb : b = a
      · exact .inr ⟨_, _, if_pos hb⟩
      · exact .inl (if_neg hb)
    · by_cases hb : b = a
      · have z' := (if_pos hb).symm.trans z
        cases z'
        subst hb
        exact ⟨ha, by rw [List.length_map]; exact hl, vs, _, rv, ha⟩
      · have z' := (if_neg hb).symm.trans z
        cases z'
    · by_cases hb : b = a
      · exact hb
      · exact absurd (if_neg hb) z
end L2

namespace L2
open PySem PySem.Spec PyProof.Rows

noncomputable abbrev KOf {K : PySem.W.Frag} {h : Heap} (_ : K.In h) : PySem.W.Frag := K

/-- the goal that k_head leaves (case hc), from the law's promise. F gives the function object fd (K's own) once, then the promise over every base -/
theorem walk_of {l : PySem.W.OpenLaw} {n k : Nat} {q : Program} {loose : List Str} {XP : (Str → Option Value) → Heap → Prop} {YP : World → Heap → Prop} {d : DefRec} {K : Params → PySem.W.Frag} {CX : World → CXT} {sp : World → Sp} {x : Str}
    (hn : l.most = some n) (hn2 : n ≤ sizeLine) (hdf : d.params.defaults = []) (hr : Room k callerA)
    (hY : ∀ (w : World) (h : Heap), YP w h → (K w.params).In h)
    (F : ∀ (w : World) (mg : Str → Option Value) (fa : Addr) (h : Heap), (K w.params).In h → h.Ns mainGlobals mg → mg d.name = some (.ref fa) →
      ∃ fd : FuncData, (∀ (s : Shared) (u : Value), BindsTo s fd ⟨[u], []⟩ [(x, u)]) ∧
        ∀ base : Heap, (K w.params).In base → base.Ns mainGlobals mg → FnOk l.prog w (K w.params) mg base (CX w) k fa fd [x] (sp w))
    (hsp : ∀ (w : World) (H : Hp) (a : Addr) (ns : List Int), ns.length ≤ n → Only H → SqL (K w.params) H a (ns.map V.int) → sp w [.ref a] H (fun v _ => v = .bl true) fun _ _ _ => False)
    (hCX : ∀ (w : World) (H : Hp) (s : Shared) (e : Value) (s' : Shared), CX w [] H s (fun _ _ _ => False) e s' → False) :
    PySem.W.WalkO q loose XP YP l.row.toRowW d [] (fun f vs => PySem.call f vs) := by
  refine Att.attach_call hn hdf fun w s₀ s₁ mg mb fa o pm cd doc a vs ns G Y ho hd hcd hmg hobj hints hlen hg => ?_
  have KX := hY w _ Y
  obtain ⟨fd, hb, hF⟩ := F w mg fa _ KX G.T.g hmg
  exact law_call KX G.T.g G.T.b G.T.builtins G.T.nolimit hg hobj hints (Nat.le_trans hlen hn2) hr hF hb (fun H hO hS => hsp w H a ns hlen hO hS) fun H e s' => hCX w H s₁ e s'
end L2

/- THE LAST THEOREM (shape; LID, My.* are yours):
   My.Adr: a structure of the addresses that your layer names (classes, functions); My.Txt K t: a structure (Prop) of the equations over K;
   My.txt_mk : {K} {implicit addresses ..} (e1 : nsIn K mainGlobals "law" = some (some (.ref f))) (e2 : K.lookup f = some ⟨oc, od, .func (fnOf "law" "law" params body scope dV kV doc pm an cdv ct), sl⟩) (e3 : codeIn K cdv "law" = true) .. : ∃ t, My.Txt K t

set_option maxRecDepth 100000 in
set_option maxHeartbeats 0 in
theorem PySem.Challenge.cw_LID_holds : PySem.Challenge.rw_LID.Holds := by
  w_on; o_law; k_head; (case hw => w_witness2)
  k_fill
  refine L2.walk_of (l := PySem.Challenge.rw_LID) (n := 63) (k := 40) (x := "script") (CX := fun w => ..) (sp := fun _ => My.sp_law) rfl (by decide) rfl ⟨rfl, by decide, by decide⟩ (fun w h Y => PySem.W.kIn_of Y) ?F ?S ?C
  case F =>
    intro w mg fa h KX G hmg
    have T : ∃ t, My.Txt (L2.KOf KX) t := by
      dsimp only [L2.KOf]                          -- K must stand as «<heap const> w.params» for k_is
      refine' My.txt_mk ?e1 ?e2 ?e3 ..
      (case e1 => PySem.W.k_is)                    -- in the order: a name -> its address -> its object -> its parts
      (case e2 => PySem.W.k_is)
      ..
    obtain ⟨t, T⟩ := T
    have e0 := hmg.symm.trans (PySem.W.mg_of KX G T.law)
    cases e0                                       -- fa is the law's own address
    exact ⟨_, fun s u => .of_eq rfl, fun base kb nb => My.law_fn T kb nb⟩     -- if «.of_eq rfl» comes too early: refine' ⟨_, ?b, fun base kb nb => My.law_fn T kb nb⟩; exact fun s u => .of_eq rfl
  case S => exact fun w H a ns hl hO hS => ..
  case C => exact ..
(the tactic k_is has no namespace: write k_is) -/

/-! SHORT WORDS over the layer: a def of the text, its body, what a loop and a test want. -/
namespace L2
open PySem PySem.Spec PyProof.Rows

/-! ### the text by places -/
noncomputable def defArgs (s : Stmt) : Arguments := match s with
  | .FunctionDef _ a _ _ _ _ _ _ _ _ => a
  | _ => { posonlyargs := [], args := [], vararg := none, kwonlyargs := [], kw_defaults := [], kwarg := none, defaults := [] }
noncomputable def defBody (s : Stmt) : List Stmt := match s with
  | .FunctionDef _ _ b _ _ _ _ _ _ _ => b
  | _ => []
noncomputable def defScope (s : Stmt) : Scope := match s with
  | .FunctionDef _ _ _ _ _ _ sc _ _ _ => sc
  | _ => { kind := .function, names := [], isGenerator := false, isCoroutine := false }

/-! ### no exception leaves a def -/
noncomputable abbrev CX0 : CXT := fun _ _ _ _ _ _ => False
noncomputable abbrev E0 : XK := fun _ _ _ => False
theorem pass0 {X : Cx} : Passes CX0 X E0 := fun _ _ _ _ _ _ _ h => h.elim

/-! ### a def (or method) of the text as it stands behind the top -/
structure Fun (K : PySem.W.Frag) (x qual : Str) (st : Stmt) (f : Addr) (fd : FuncData) : Prop where
  ex : ∃ (oc : Value) (od : Option Addr) (kV doc pm : Value) (an : Option Addr) (cdv ct : Value) (osl : Array (Option Value)),
    fd = PySem.W.fnOf x qual (defArgs st) (defBody st) (defScope st) .none kV doc pm an cdv ct ∧ K.lookup f = some ⟨oc, od, .func fd, osl⟩ ∧ PySem.W.codeIn K cdv qual = true
  kp : PySem.W.keepIn K (.ref f) = true
section
variable {P : Program} {w : World} {K : PySem.W.Frag} {mg : Str → Option Value} {base : Heap}
/-- THE RULE for a def: its body as a term of rules, and the reading of that term -/
theorem Fun.ok {x qual : Str} {st : Stmt} {f : Addr} {fd : FuncData} {N ps : List Str} {k : Nat} {sp : Sp} (F : Fun K x qual st f fd) (S : FnScope N ps (defScope st)) (len : ∀ vs H Q E, sp vs H Q E → vs.length = ps.length)
    (hbody : ∀ (cdv : Value) (A : Around) (outer : List Env) (s : Shared) (H : Hp) (vs : List V) (Q : VK) (E : XK), Room k (A.deeper (envOfC qual (defScope st) s.heap.objs.size f cdv)) → sp vs H Q E →
      ∃ t, PSs (cxOf CX0 P w K mg base N qual (defScope st) f cdv A outer s H E).nox (defBody st) t ∧ t { nx := fun _ H' => Q .non H', rt := Q } (start N vs) H) : FnOk P w K mg base CX0 (k + 1) f fd ps sp := by
  obtain ⟨oc, od, kV, doc, pm, an, cdv, ct, osl, rfl, lk, hcd⟩ := F.ex
  refine fn_of lk hcd S len fun A outer s H vs Q E hr hsp => ?_
  obtain ⟨t, h, q⟩ := hbody cdv A outer s H vs Q E hr hsp
  exact ⟨t, h.nox, q⟩
/-- how its arguments bind (no defaults): h is «fun _ _ _ _ _ _ us hl => match us, hl with | [_, _], _ => rfl», one _ a parameter -/
theorem Fun.binds {x qual : Str} {st : Stmt} {f : Addr} {fd : FuncData} {ps : List Str} (F : Fun K x qual st f fd)
    (h : ∀ (kV doc pm : Value) (an : Option Addr) (cdv ct : Value) (us : List Value), us.length = ps.length → bindArgs (PySem.W.fnOf x qual (defArgs st) (defBody st) (defScope st) .none kV doc pm an cdv ct) ⟨us, []⟩ = pure (ps.zip us)) : Binds K fd ps [] := by
  obtain ⟨oc, od, kV, doc, pm, an, cdv, ct, osl, rfl, lk, hcd⟩ := F.ex
  exact .all (h kV doc pm an cdv ct)
theorem fun_mk {x qual : Str} {st : Stmt} {f : Addr} {oc : Value} {od an : Option Addr} {osl : Array (Option Value)} {kV doc pm cdv ct : Value} (l : K.lookup f = some ⟨oc, od, .func (PySem.W.fnOf x qual (defArgs st) (defBody st) (defScope st) .none kV doc pm an cdv ct), osl⟩)
    (c : PySem.W.codeIn K cdv qual = true) (k : PySem.W.keepIn K (.ref f) = true) : Fun K x qual st f (PySem.W.fnOf x qual (defArgs st) (defBody st) (defScope st) .none kV doc pm an cdv ct) := ⟨⟨oc, od, kV, doc, pm, an, cdv, ct, osl, rfl, l, c⟩, k⟩
end
theorem small1000 {n : Nat} (h : n ≤ 1000) : n < sizeLine := Nat.lt_of_le_of_lt h (by decide)

/-! ### expressions in short: the name that stands in the i-th slot -/
section
variable {X : Cx}
theorem pv (i : Nat) {x : Str} {pos : Pos} (hN : X.N[i]? = some x := by rfl) (hv : Vis X.env.scope x := by first | exact Or.inl rfl | exact Or.inr (Or.inl rfl) | exact Or.inr (Or.inr rfl)) (hd : (x == ("__debug__" : Str)) = false := by decide)
    (hcd : (x == ("__classdict__" : Str)) = false := by decide) : PE X (.Name x pos) (tVar i) := pe_var hN hv hd hcd
end

/-! ### tests -/
theorem iteF {A B : Prop} (h : B) : if false = true then A else B := by
  rw [if_neg Bool.false_ne_true]
  exact h
theorem iteT {A B : Prop} (h : A) : if true = true then A else B := by
  rw [if_pos rfl]
  exact h
/-! ### heaps -/
/-- all that was tracked is as it was -/
noncomputable def Same (H H' : Hp) : Prop := ∀ b o, H b = some o → H' b = some o
theorem Same.refl (H : Hp) : Same H H := fun _ _ h => h
theorem Same.trans {H H1 H2 : Hp} (a : Same H H1) (b : Same H1 H2) : Same H H2 := fun c o h => b c o (a c o h)
theorem Same.free {H H' : Hp} (e : Same H H') {l : Addr} (h : H' l = Option.none) : H l = Option.none := by
  cases q : H l with
  | none => rfl
  | some o =>
    rw [e l o q] at h
    cases h
theorem Same.seq {K : PySem.W.Frag} {H H' : Hp} {a : Addr} {xs : List V} (e : Same H H') (h : SqL K H a xs) : SqL K H' a xs := by
  rcases h with (h | ⟨o, h⟩) | h
  · exact .inl (.inl (e _ _ h))
  · exact .inl (.inr ⟨o, e _ _ h⟩)
  · exact .inr h

end L2

set_option maxHeartbeats 4000000
/-! COMPREHENSIONS: [elt for x in iter], as a value and as what a name is set to. -/
namespace L2
open PySem PySem.Spec PyProof.Rows

/-- the cells that a comprehension's block takes along from the frame around it -/
noncomputable def clOf (env : Env) : List (Str × NameKind) → List (Str × Addr) → List (Str × Addr)
  | [], cs => cs
  | (n, k) :: r, cs => clOf env r (if k == .free then (n, (env.cells.lookup n).getD 0) :: cs else cs)
theorem clOf_lookup {env : Env} {n : Str} {c : Addr} : ∀ {l : List (Str × NameKind)} {cs : List (Str × Addr)}, (∀ y ∈ l, y.2 = .free → ∃ c, env.cells.lookup y.1 = some c) →
    (clOf env l cs).lookup n = some c → cs.lookup n = some c ∨ env.cells.lookup n = some c
  | [], _, _, h => .inl h
  | (m, k) :: r, cs, hl, h => by
    have hr : ∀ y ∈ r, y.2 = .free → ∃ c, env.cells.lookup y.1 = some c := fun y hy => hl y (List.mem_cons_of_mem _ hy)
    rcases clOf_lookup hr h with q | q
    · by_cases hk : (k == NameKind.free) = true
      · rw [if_pos hk] at q
        obtain ⟨c', e⟩ := hl (m, k) List.mem_cons_self (by simpa using hk)
        rw [List.lookup_cons] at q
        cases hm : n == m with
        | true =>
          rw [hm] at q
          have q' : (env.cells.lookup m).getD 0 = c := Option.some.inj q
          have em : n = m := by simpa using hm
          rw [e] at q'
          have q2 : c' = c := q'
          rw [em, e, q2]
          exact .inr rfl
        | false =>
          rw [hm] at q
          exact .inl q
      · rw [if_neg hk] at q
        exact .inl q
    · exact .inr q
theorem clOf_has {env : Env} {n : Str} : ∀ {l : List (Str × NameKind)} {cs : List (Str × Addr)}, ((n, NameKind.free) ∈ l ∨ ∃ c, cs.lookup n = some c) → ∃ c, (clOf env l cs).lookup n = some c
  | [], _, h => by
    rcases h with h | h
    · simp at h
    · exact h
  | (m, k) :: r, cs, h => by
    refine clOf_has (l := r) ?_
    by_cases hn : (n, NameKind.free) ∈ r
    · exact .inl hn
    · refine .inr ?_
      rcases h with h | ⟨c, h⟩
      · rcases List.mem_cons.mp h with e | e
        · cases e
          rw [if_pos (by decide)]
          exact ⟨(env.cells.lookup n).getD 0, by rw [List.lookup_cons]; simp⟩
        · exact absurd e hn
      · by_cases hk : (k == NameKind.free) = true
        · rw [if_pos hk, List.lookup_cons]
          cases hm : n == m with
          | true => exact ⟨_, rfl⟩
          | false => exact ⟨c, h⟩
        · rw [if_neg hk]
          exact ⟨c, h⟩
theorem closure_is {scope : Scope} {env : Env} (h : ∀ y ∈ scope.names, y.2 = .free → ∃ c, env.cells.lookup y.1 = some c) : closureFor scope env = pure (clOf env scope.names []) := by
  have go : ∀ (l : List (Str × NameKind)) (cs : List (Str × Addr)), (∀ y ∈ l, y.2 = .free → ∃ c, env.cells.lookup y.1 = some c) →
      (forIn l cs (fun (x : Str × NameKind) (r : List (Str × Addr)) => if x.2 == NameKind.free then (do let a ← cellOf env x.1; pure (ForInStep.yield ((x.1, a) :: r))) else (pure (ForInStep.yield r) : Sem _)) : Sem _) = pure (clOf env l cs) := by
    intro l
    induction l with
    | nil => intro cs _; rfl
    | cons y r ih =>
      intro cs hl
      obtain ⟨n, k⟩ := y
      have hr : ∀ y ∈ r, y.2 = .free → ∃ c, env.cells.lookup y.1 = some c := fun y hy => hl y (List.mem_cons_of_mem _ hy)
      rw [List.forIn_cons]
      by_cases hk : (k == NameKind.free) = true
      · obtain ⟨c, e⟩ := hl (n, k) List.mem_cons_self (by simpa using hk)
        have e1 : cellOf env n = pure c := by unfold cellOf; rw [show env.cells.lookup n = some c from e]
        dsimp only
        rw [if_pos hk, e1]
        simp only [pure_bind]
        rw [ih _ hr]
        show _ = pure (clOf env r _)
        rw [if_pos hk, show env.cells.lookup n = some c from e]
        all_goals rfl
      · dsimp only
        rw [if_neg hk]
        simp only [pure_bind]
        rw [ih _ hr]
        show _ = pure (clOf env r _)
        rw [if_neg hk]
  have e : closureFor scope env = (forIn scope.names ([] : List (Str × Addr)) (fun (x : Str × NameKind) (r : List (Str × Addr)) => if x.2 == NameKind.free then (do let a ← cellOf env x.1; pure (ForInStep.yield ((x.1, a) :: r))) else (pure (ForInStep.yield r) : Sem _)) : Sem _) := by
    unfold closureFor
    first
      | rfl
      | (simp only [bind_pure]; rfl)
      | (simp; done)
  rw [e]
  exact go _ _ h

theorem relabel_free {env : Env} : ∀ {names : List (Str × NameKind)} {x : Str}, names.lookup x = some .free →
    (names.map fun (n, k) => if (k == NameKind.free && env.scope.kind == .function && env.kindOf n == some .cell) then (n, NameKind.cell) else (n, k)).lookup x = some .cell ∨
    (names.map fun (n, k) => if (k == NameKind.free && env.scope.kind == .function && env.kindOf n == some .cell) then (n, NameKind.cell) else (n, k)).lookup x = some .free
  | [], _, h => by simp at h
  | (n, k) :: r, x, h => by
    have ih := @relabel_free env r x
    cases hx : x == n with
    | true =>
      simp only [List.lookup_cons, hx] at h
      cases h
      by_cases hc : (NameKind.free == NameKind.free && env.scope.kind == .function && env.kindOf n == some .cell) = true
      · refine .inl ?_
        rw [List.map_cons]
        dsimp only
        rw [if_pos hc, List.lookup_cons, hx]
      · refine .inr ?_
        rw [List.map_cons]
        dsimp only
        rw [if_neg hc, List.lookup_cons, hx]
    | false =>
      simp only [List.lookup_cons, hx] at h
      rw [List.map_cons]
      dsimp only
      by_cases hc : (k == NameKind.free && env.scope.kind == .function && env.kindOf n == some .cell) = true
      · rw [if_pos hc, List.lookup_cons, hx]; exact ih h
      · rw [if_neg hc, List.lookup_cons, hx]; exact ih h
/-- what the text of a comprehension must be; fr: the names it takes from around, with their slots there -/
structure CompOk (X : Cx) (scope : Scope) (x : Str) (fr : List (Str × Nat)) : Prop where
  kind : scope.kind = .function
  cell : ∀ y ∈ scope.names, y.2 ≠ .cell
  free : ∀ y ∈ scope.names, y.2 = .free → X.env.kindOf y.1 = some .cell ∨ X.env.kindOf y.1 = some .free
  loc : ∀ y ∈ scope.names, y.2 = .local → scope.names.lookup y.1 = some .local
  name : scope.names.lookup x = some .local
  nd : (x :: fr.map (·.1)).Nodup
  fr : ∀ p ∈ fr, X.N[p.2]? = some p.1 ∧ scope.names.lookup p.1 = some .free

noncomputable def frees (fr : List (Str × Nat)) (σ : St) : St := fr.map fun p => σ.getD p.2 none
section
variable {X : Cx} {scope : Scope} {x : Str} {fr : List (Str × Nat)}
theorem CompOk.cells {pins : List (Addr × Obj)} {σ : St} {H : Hp} {s : Shared} (c : CompOk X scope x fr) (I : Inv X pins σ H s) : ∀ y ∈ scope.names, y.2 = .free → ∃ c, X.env.cells.lookup y.1 = some c :=
  fun y hy hf => I.ok.has y.1 (c.free y hy hf)
theorem CompOk.was {pins : List (Addr × Obj)} {σ : St} {H : Hp} {s : Shared} (c : CompOk X scope x fr) (I : Inv X pins σ H s) {y : Str} {b : Addr} (h : (clOf X.env scope.names []).lookup y = some b) : X.env.cells.lookup y = some b := by
  rcases clOf_lookup (c.cells I) h with q | q
  · simp at q
  · exact q

/-- y = [elt for x in iter], y a plain local: the store goes ahead of the block's own end -/
noncomputable def tSetC (i : Nat) (te : TE) : TS := fun D σ H => te σ H fun v H1 => D.nx (σ.set i (some v)) H1
end

/-! ### the forms one uses: Pv i H: behind i turns -/
section
variable {K : PySem.W.Frag} {b a : Addr} {xs : List V} {te : TE} {fr : List (Str × Nat)} {σ : St} {H : Hp} {Q : VK}
end
end L2

/-! REFUSALS: raise, a call that may raise, try with one except clause. -/
namespace L2
open PySem PySem.Spec PyProof.Rows

theorem ObjOk.there {P : Program} {w : World} {H : Hp} {h : Heap} {a : Addr} {o : HO} (x : ObjOk P w H h a o) : ∃ ob, h.get? a = some ob := by
  cases o with
  | lst xs => obtain ⟨_, _, _, _, e⟩ := x; exact ⟨_, e⟩
  | tup xs => obtain ⟨_, _, _, ob, e, _⟩ := x; exact ⟨ob, e⟩
  | dK kvs => obtain ⟨_, _, _, _, o, _, _, e, _⟩ := x; exact ⟨_, e⟩
  | dT kvs => obtain ⟨_, _, _, _, o, _, _, e, _⟩ := x; exact ⟨_, e⟩
  | set S n => obtain ⟨o, _, _, _, e, _⟩ := x; exact ⟨_, e⟩
  | ins C dx fs => obtain ⟨_, _, _, e, _⟩ := x; exact ⟨_, e⟩
  | own y => exact x
  | xd fs => obtain ⟨_, ⟨_, _, _, e, _⟩, _⟩ := x; exact ⟨_, e⟩
  | rng lo hi => obtain ⟨_, _, _, e⟩ := x; exact ⟨_, e⟩
  | frz ob u => exact ⟨_, x.1⟩
  | tbl ps => exact ⟨_, x⟩
  | met f y => exact ⟨_, x⟩
  | ext φ => exact x.2.1

/-- what must not be touched by an exception on its way: what was there at the entry, what is tracked; all but the frames -/
noncomputable abbrev Cov (fs : List Addr) (h₀ : Heap) (H : Hp) (h B : Heap) : Prop := ∀ b o, h.get? b = some o → b ∉ fs → ((∃ o', h₀.get? b = some o') ∨ ∃ u, H b = some u) → B.get? b = some o
/-- an exception e of the class C is on its way through the body -/
noncomputable def FlyX (X : Cx) (pins : List (Addr × Obj)) (H : Hp) (e : Addr) (C : Value) (h : Heap) : Prop := ∃ B a0, Heap.FlyingW B X.stack e C a0 h ∧ Cov (frs X.stack) X.s₀.heap H h B ∧ ∀ p ∈ X.pn ++ pins, B.get? p.1 = some p.2
/-- how it lies behind a call -/
noncomputable def CX1 (P : Program) (w : World) : CXT := fun outer H s E ev s' => ∃ e C H' B a0, ev = .ref e ∧ s'.os = s.os ∧ AllBare s'.gens ∧ Un (frs outer) [] H H' s.heap s'.heap ∧ HOk P w H' s'.heap ∧
  Heap.FlyingW B outer e C a0 s'.heap ∧ Cov (frs outer) s.heap H' s'.heap B ∧ E C none H'
/-- what this body wants of an exception is right for every one that EX lets pass; for one that is raised here -/
noncomputable abbrev XE := St → Value → Hp → Prop
noncomputable def Lands (X : Cx) (EX : XE) : Prop := ∀ (pins : List (Addr × Obj)) (σ : St) (H : Hp) (s : Shared) (e : Addr) (C : Value), Inv X pins σ H s → FlyX X pins H e C s.heap → EX σ C H → X.xe (.ref e) s
noncomputable def LandsN (X : Cx) (EX : XE) : Prop := ∀ (pins : List (Addr × Obj)) (σ : St) (H : Hp) (s : Shared) (h' : Heap) (e : Addr) (C : Value) (vs : List Value), Inv X pins σ H s → Heap.MadeExcOf s.heap h' e C vs → EX σ C H → X.xe (.ref e) { s with heap := h' }

/-- out of a frame: what stays -/
theorem fly_out {X : Cx} {pins : List (Addr × Obj)} {σ : St} {H : Hp} {s : Shared} {h'' B : Heap} (I : Inv X pins σ H s) (hst : X.stack = X.env :: X.outer) (hfr : X.env.frame = some X.env.locals) (hex : X.ex = [])
    (stay : B.StaysIn h'') (sm : s.heap.UpToSlots h'') (cov : Cov (frs X.stack) X.s₀.heap H s.heap B) :
    Un X.fs [] X.H₀ H X.s₀.heap h'' ∧ HOk X.prog X.w H h'' ∧ Cov X.fs X.s₀.heap H h'' B := by
  have u := I.base
  rw [hex] at u
  have hfs : frs X.stack = X.env.locals :: X.fs := by
    rw [hst]
    unfold frs
    rw [List.filterMap_cons, hfr]
    rfl
  have old : ∀ b o, X.s₀.heap.get? b = some o → b ∉ X.fs → b ∉ frs X.stack := fun b o e hb hm => by
    rw [hfs] at hm
    rcases List.mem_cons.mp hm with z | z
    · exact absurd (Nat.lt_of_lt_of_le (Heap.lt_size e) I.ok.above) (by rw [z]; exact Nat.lt_irrefl _)
    · exact hb z
  have trk : ∀ b v, H b = some v → b ∉ frs X.stack := fun b v e hm => by
    have := I.stkFree b hm
    rw [e] at this
    cases this
  have keepO : ∀ b o, s.heap.get? b = some o → b ∉ frs X.stack → ((∃ o', X.s₀.heap.get? b = some o') ∨ ∃ v, H b = some v) → h''.get? b = some o := fun b o e hb hc => stay b o (cov b o e hb hc)
  have frm : ∀ b, b ∈ X.fs → ∀ o, s.heap.get? b = some o → ∃ sl, h''.get? b = some { o with slots := sl } := fun b hb o e => by
    obtain ⟨_, o', e', nf⟩ := I.funs.mem hb
    rw [e] at e'
    cases e'
    exact sm b o e nf
  refine ⟨⟨fun b o e n hb hx => ?_, fun b o e n hb hx => ?_, u.free, fun b o e hx => ?_, u.tups, u.frzs, u.tbls⟩, fun a o ha => ?_, fun b o e hb hc => ?_⟩
  · exact keepO b o (u.keep b o e n hb hx) (old b o e hb) (.inl ⟨o, e⟩)
  · obtain ⟨sl, e1⟩ := u.slot b o e n hb hx
    obtain ⟨sl', e2⟩ := frm b hb _ e1
    exact ⟨sl', e2⟩
  · obtain ⟨o1, e1⟩ := u.there b o e hx
    by_cases hb : b ∈ X.fs
    · obtain ⟨sl, e2⟩ := frm b hb _ e1
      exact ⟨_, e2⟩
    · exact ⟨o1, keepO b o1 e1 (old b o e hb) (.inl ⟨o, e⟩)⟩
  · refine (I.hok a o ha).stay (fun b v hb q => ?_) (fun _ q => q) fun _ _ q => q
    rcases hb with hb | hb
    · subst hb
      exact keepO b v q (trk b o ha) (.inr ⟨o, ha⟩)
    · exact keepO b v q (trk b _ hb) (.inr ⟨_, hb⟩)
  · rcases hc with ⟨o', e'⟩ | ⟨v, e'⟩
    · obtain ⟨o1, e1⟩ := u.there b o' e' (by simp)
      have q := keepO b o1 e1 (old b o' e' hb) (.inl ⟨o', e'⟩)
      rw [e] at q
      cases q
      exact cov b o e1 (old b o' e' hb) (.inl ⟨o', e'⟩)
    · obtain ⟨o1, e1⟩ := (I.hok b v e').there
      have q := keepO b o1 e1 (trk b v e') (.inr ⟨v, e'⟩)
      rw [e] at q
      cases q
      exact cov b o e1 (trk b v e') (.inr ⟨v, e'⟩)

section
variable {P : Program} {w : World} {K : PySem.W.Frag} {mg : Str → Option Value} {base : Heap} {N : List Str} {qual : Str} {scope : Scope} {f : Addr} {cd : Value} {A : Around} {outer : List Env} {s₀ : Shared} {H₀ : Hp} {E : XK}
theorem landsN_def : LandsN (cxOf (CX1 P w) P w K mg base N qual scope f cd A outer s₀ H₀ E) (fun _ C H => E C none H) := by
  intro pins σ H s h' e C vs I M hE
  have hfu := I.stack
  have hid := PySem.W.funFrames_hide (as := frs (cxOf (CX1 P w) P w K mg base N qual scope f cd A outer s₀ H₀ E).stack) hfu (fun env he a ha => List.mem_filterMap.mpr ⟨env, he, ha⟩)
  refine wpAny_leaves_madeW (s := { s with heap := h' }) (h := s.heap) I.ok.frames rfl (fun b o q => PySem.W.of_hideAll _ q) hid M fun h'' t fl'' _ _ sm => ?_
  obtain ⟨un, ok, cv⟩ := fly_out I rfl rfl rfl fl''.1 ((Heap.UpToSlots.of_keeps M.keeps).trans sm) fun b o q hb _ => PySem.W.hideAll_get _ q hb
  exact ⟨e, C, H, _, _, rfl, I.os, I.bare, un, ok, fl'', cv, hE⟩
end

section
variable {X : Cx} {EX : XE} {k : Nat} {f : Addr} {fd : FuncData} {ps : List Str} {sp : Sp} {dvs : List V} {ds : List Value} {x : Str} {p pos : Pos} {e : Expr} {es : List Expr} {t : TA}
/-- a call that may raise: the wish may hang on the names' values here -/
noncomputable def tCallX (sp : Sp) (dvs : List V) (EX : XE) (t : TA) : TE := fun σ H Q => t σ H fun vs H1 => sp (vs ++ dvs) H1 Q fun C _ H' => EX σ C H'
theorem run_fnX {pins : List (Addr × Obj)} {σ : St} {H : Hp} {s : Shared} {Q : VK} {us : List Value} {vs : List V} (F : FnOk X.prog X.w X.K X.mg X.base (CX1 X.prog X.w) k f fd ps sp) (hr : Room k X.A) (hb : Binds X.K fd ps ds) (hd : Vals dvs ds) (hx : Lands X EX)
    (hex : X.ex = []) (I : Inv X pins σ H s) (r : Vals vs us) (h : sp (vs ++ dvs) H Q fun C _ H' => EX σ C H') : wpAny (model X.prog X.w) X.A (call (.ref f) us) (EP X pins σ Q) X.xe s := by
  have r2 : Vals (vs ++ dvs) (us ++ ds) := r.append hd
  have hl : (us ++ ds).length = ps.length := by rw [← r2.length]; exact F.len _ _ _ _ h
  refine wpAny_call (codeAny_mono (F.run X.A X.stack s H ⟨us, []⟩ (us ++ ds) (vs ++ dvs) Q _ hr I.env0 (hb s us I.kIn hl) r2 h) fun r s' hq => ?_)
  cases r with
  | error ev =>
    obtain ⟨e, C, H', B, a0, rfl, os, bare, un, ok, fl, cov, q⟩ := hq
    have J : Inv X pins σ H' s' := I.call' os un ok bare fun b z => absurd z (by simp)
    refine hx pins σ H' s' e C J ⟨B, a0, fl, fun b o e1 hb hc => cov b o e1 hb ?_, fun p hp => ?_⟩ q
    · rcases hc with ⟨o', e'⟩ | hc
      · obtain ⟨o2, e2⟩ := I.base.there b o' e' (by rw [hex]; simp)
        exact .inl ⟨o2, e2⟩
      · exact .inr hc
    · obtain ⟨e1, n1, ne, nf, _⟩ := J.pin p hp
      refine cov p.1 p.2 e1 (fun hm => ?_) (.inl ⟨_, (I.pin p hp).1⟩)
      rcases List.mem_cons.mp (I.stkSub p.1 hm) with z | z
      · exact ne z
      · exact nf z
  | ok fl =>
    cases fl with
    | ret u => exact I.after hq
    | next => exact False.elim hq
    | brk => exact False.elim hq
    | cont => exact False.elim hq
theorem pe_callX (F : FnOk X.prog X.w X.K X.mg X.base (CX1 X.prog X.w) k f fd ps sp) (hr : Room k X.A) (hg : Gl X x) (hm : X.mg x = some (.ref f)) (hk : PySem.W.keepIn X.K (.ref f) = true) (hb : Binds X.K fd ps ds) (hd : Vals dvs ds) (hx : Lands X EX)
    (ha : PA X (e :: es) t) (hex : X.ex = [] := by rfl) (hdb : (x == ("__debug__" : Str)) = false := by decide) (he : starEach (e :: es) X.env = (false, eval e X.env) :: starEach es X.env := by rfl) (hpl : (backTo pos (starEach es X.env)).any (·.1) = false := by rfl) :
    PE X (.Call (.Name x p) (e :: es) [] pos) (tCallX sp dvs EX t) := by
  intro pins s σ H Q I h
  refine wpAny_Call_Name_kw (ld_glob I hg hm ?_ hdb)
  refine PySem.W.callWith_K (h₀ := X.base) I.ok.mod.kin hk (thn (ha pos pins s σ H _ I h) fun us s1 ⟨vs, H1, I1, r, q⟩ => ⟨I1.kIn, ?_⟩) he hpl
  exact run_fnX F hr hb hd hx hex I1 r q
end

/-! ### raise C(..) -/
/-- the class object of an own exception, as it stands in the heap -/
theorem excObj {K : PySem.W.Frag} {h : Heap} {C : Addr} {bmB : List Value} {newId : String} (KX : K.In h) (hq : PySem.W.excIn K C bmB newId = true) :
    ∃ bm N nm qn bs hd sn sub ab col dd k0 k1 k2 k3 k5 mN, h.get? C = some (excClassObj nm qn C N bs bm hd sn sub ab col dd k0 k1 k2 k3 k5 newId) ∧ h.Ns N mN ∧ mN "__init__" = none ∧ OwnTail h bmB bm := by
  revert hq
  unfold PySem.W.excIn
  split
  · next dd cd sl lk =>
    split
    · next C1 bm k0 k1 k2 k3 nw k5 em es =>
      intro hq
      simp only [Bool.and_eq_true, beq_iff_eq, Bool.not_eq_true'] at hq
      obtain ⟨⟨⟨⟨⟨e1, e2⟩, e3⟩, e4⟩, e5⟩, e6⟩ := hq
      subst e1 e2
      cases cd with
      | mk nm bs mro ns qn hd sn sub ab col del =>
        have em' : mro = Value.ref C1 :: bm := em
        have e3' : del = false := e3
        subst em' e3'
        have esl : sl = #[k0, k1, k2, k3, some (Value.builtin nw), k5] := by
          cases sl with
          | mk l => exact congrArg Array.mk es
        subst esl
        exact ⟨bm, ns, nm, qn, bs, hd, sn, sub, ab, col, dd, k0, k1, k2, k3, k5, _, KX _ _ lk, Heap.Ns.of_isNs (PySem.W.isNs_of_in KX e5), PySem.W.nsMap_none_of_in KX e5 e6, PySem.W.tail_of_in KX e4⟩
    · intro z; cases z
  · intro z; cases z
theorem OwnTail.up {h h' : Heap} {bmB bm : List Value} (T : OwnTail h bmB bm) (k : ∀ b o, h.get? b = some o → h'.get? b = some o) : OwnTail h' bmB bm := T.keeps k

section
variable {X : Cx} {EX : XE} {C : Addr} {x : Str} {np cpos pos : Pos} {e₀ : Expr} {rest : List Expr} {t : TA} {bmB : List Value} {B newId initId : String}
noncomputable def tRaise (C : Addr) (EX : XE) (t : TA) : TS := fun _ σ H => t σ H fun vs H1 => vs.length ≤ sizeLine ∧ EX σ (.ref C) H1
theorem ps_raise (hc : X.calm = true) (hx : LandsN X EX) (hg : Gl X x) (hm : X.mg x = some (.ref C)) (hC : PySem.W.excIn X.K C bmB newId = true) (FB : ExcBaseFacts B newId initId bmB) (ha : PA X (e₀ :: rest) t)
    (hdb : (x == ("__debug__" : Str)) = false := by decide) (he : starEach (e₀ :: rest) X.env = (false, eval e₀ X.env) :: starEach rest X.env := by rfl) (hpl : (backTo cpos (starEach rest X.env)).any (·.1) = false := by rfl) :
    PS X (.Raise (some (.Call (.Name x np) (e₀ :: rest) [] cpos)) none pos) (tRaise C EX t) := by
  intro pins s σ H D I h
  obtain ⟨bm, N, nm, q, bs, hd, sn, sub, ab, col, dd, k0, k1, k2, k3, k5, mN, hcls, hns, hni, T⟩ := excObj I.mod.kin hC
  have hpl' : (backTo cpos (starEach (e₀ :: rest) X.env)).any (·.1) = false := by
    rw [he]
    show (false || (backTo cpos (starEach rest X.env)).any (·.1)) = false
    rw [hpl]
    rfl
  refine wpAny_Raise_call_subT (C := C) (nm := nm) (q := q) (N := N) (bs := bs) (bm := bm) (hdct := hd) (sn := sn) (sub := sub) (ab := ab) (col := col) (dd := dd) (k0 := k0) (k1 := k1) (k2 := k2) (k3 := k3) (k5 := k5) FB (mN := mN) (T.hasType FB.hasBase) (I.ok.hd hc) hpl' hni
    (ld_glob I hg hm ⟨rfl, ?_⟩ hdb)
  have hw := ha cpos pins s σ H _ I h
  rw [he] at hw ⊢
  refine Calls.evalArgs_plain (thn hw fun us s2 ⟨vs, H2, I2, r, z, q2⟩ => ⟨rfl, ?_, I2.bk _ _ hcls, hns.keeps I2.bk, T.keeps I2.bk, fun h' e M => hx pins σ H2 s2 h' e _ us I2 M q2⟩)
  show us.length ≤ sizeLine
  rw [← r.length]
  exact z
end

/-! ### try .. except C as n -/
section
variable {X : Cx} {pins : List (Addr × Obj)} {σ : St} {H : Hp} {s : Shared}
/-- an exception has passed over the heap -/
theorem Inv.flown {h' B : Heap} (I : Inv X pins σ H s) (hst : X.stack = X.env :: X.outer) (hfr : X.env.frame = some X.env.locals) (hex : X.ex = []) (stay : B.StaysIn h') (sm : s.heap.UpToSlots h') (cov : Cov (frs X.stack) X.s₀.heap H s.heap B)
    (hp : ∀ p ∈ X.pn ++ pins, B.get? p.1 = some p.2) : Inv X pins σ H { s with heap := h' } := by
  obtain ⟨un, ok, _⟩ := fly_out I hst hfr hex stay sm cov
  have cl : ∀ c v, s.heap.IsCell c v → h'.IsCell c v := fun c v ⟨o, e, d⟩ => by
    obtain ⟨sl, e'⟩ := sm c o e fun vs z => by rw [d] at z; cases z
    exact ⟨_, e', d⟩
  refine ⟨I.ok, I.os, I.bare, by rw [hex]; exact un, ?_, fun x c e => ?_, I.free, I.freeC, fun p hm => ?_, ok, I.len⟩
  · obtain ⟨m, hn, hl⟩ := I.loc
    refine ⟨m, sm.ns hn, fun i x v e1 e2 e3 => ?_⟩
    obtain ⟨u, r, l⟩ := hl i x v e1 e2 e3
    refine ⟨u, r, ?_⟩
    rcases l with l | ⟨k, c, e, z⟩
    · exact .inl l
    · exact .inr ⟨k, c, e, cl c _ z⟩
  · obtain ⟨v, z⟩ := I.cell x c e
    exact ⟨v, cl c v z⟩
  · obtain ⟨_, r⟩ := I.pin p hm
    exact ⟨stay _ _ (hp p hm), r⟩
/-- a caught exception: an object of that class -/
noncomputable def ExcAt (e : Addr) (C : Value) : HO := .ext fun h => ∃ o, h.get? e = some o ∧ o.cls = C
theorem Inv.trackE {e : Addr} {C : Value} {oe : Obj} {vs : Array Value} (I : Inv X pins σ H s) (he : s.heap.get? e = some oe) (hc : oe.cls = C) (hd : oe.data = .fields vs) (hn : H e = none) (hnew : X.s₀.heap.get? e = none) (hpn : ∀ p ∈ X.pn ++ pins, p.1 ≠ e) :
    Inv X pins σ (upd H e (ExcAt e C)) s := by
  have ne : ∀ b u, H b = some u → b ≠ e := fun b u q z => by rw [z, hn] at q; cases q
  have nL : X.env.locals ≠ e := fun z => by
    obtain ⟨m, ⟨o, es, ep, ho, hdd, _⟩, _⟩ := I.loc
    rw [z, he] at ho
    cases ho
    rw [hd] at hdd
    cases hdd
  have nC : ∀ x c, X.env.cells.lookup x = some c → c ≠ e := fun x c q z => by
    obtain ⟨v, o, ho, hdd⟩ := I.cell x c q
    rw [z, he] at ho
    cases ho
    rw [hd] at hdd
    cases hdd
  have u := I.base
  refine ⟨I.ok, I.os, I.bare, ⟨u.keep, u.slot, fun b o q n hx => ?_, u.there, fun b xs q => ?_, fun b o v q => ?_, fun b ps q => ?_⟩, I.loc, I.cell, ?_, fun x c q => ?_, fun p hp => ?_, fun a o q => ?_, I.len⟩
  · rw [upd_ne (fun z => by rw [z, hnew] at q; cases q)]
    exact u.free b o q n hx
  · have := u.tups b xs q
    rw [upd_ne (ne _ _ this)]
    exact this
  · have := u.frzs b o v q
    rw [upd_ne (ne _ _ this)]
    exact this
  · obtain ⟨m, e1⟩ := u.tbls b ps q
    exact ⟨m, by rw [upd_ne (ne _ _ e1)]; exact e1⟩
  · rw [upd_ne nL]; exact I.free
  · rw [upd_ne (nC x c q)]; exact I.freeC x c q
  · obtain ⟨e1, n1, r⟩ := I.pin p hp
    exact ⟨e1, by rw [upd_ne (hpn p hp)]; exact n1, r⟩
  · by_cases ha : a = e
    · subst ha
      rw [upd_same] at q
      cases q
      exact ⟨⟨oe, he, hc⟩, ⟨oe, he⟩, fun h1 h2 ⟨o, e1, r⟩ k => ⟨o, k o e1, r⟩⟩
    · rw [upd_ne ha] at q
      exact (I.hok a o q).stay (fun _ _ _ z => z) (fun b z => by rw [upd_ne (ne _ _ z)]; exact z) fun b xs z => by rw [upd_ne (ne _ _ z)]; exact z
/-- the name that an except clause has bound goes -/
theorem Inv.unbind {h' : Heap} {m : Str → Option Value} {u : Option Value} {i : Nat} {n : Str} (I : Inv X pins σ H s) (hN : X.N.Nodup) (hi : X.N[i]? = some n) (hl : X.env.scope.names.lookup n = some .local)
    (hn : s.heap.Ns X.env.locals m) (hn' : h'.Ns X.env.locals (fun x => if x = n then u else m x)) (hs : Heap.SameBut X.env.locals s.heap h') (hm : ∀ (j : Nat) x v, X.N[j]? = some x → σ[j]? = some (some v) → Vis X.env.scope x → ∃ u, RelV v u ∧ Look X.env s.heap m x u) :
    Inv X pins (σ.set i none) H { s with heap := h' } := by
  obtain ⟨oL, esL, epL, hoL, _⟩ := id hn
  have nL : ∀ b o, X.s₀.heap.get? b = some o → b ≠ X.env.locals := fun b o e => Nat.ne_of_lt (Nat.lt_of_lt_of_le (Heap.lt_size e) I.ok.above)
  have kp : ∀ b o, b ≠ X.env.locals → s.heap.get? b = some o → h'.get? b = some o := fun b o hb e => (hs.2 b hb).trans e
  have nT : ∀ b v, H b = some v → b ≠ X.env.locals := fun b v e z => by rw [z, I.free] at e; cases e
  have u0 := I.base
  refine ⟨I.ok, I.os, I.bare, ⟨fun b o e n hb hx => kp b o (nL b o e) (u0.keep b o e n hb hx), fun b o e n hb hx => ?_, u0.free, fun b o e hx => ?_, u0.tups, u0.frzs, u0.tbls⟩, ⟨_, hn', fun j x v e1 e2 e3 => ?_⟩, fun x c e => ?_, I.free, I.freeC, fun p hp => ?_, fun a o e => ?_, by simpa using I.len⟩
  · obtain ⟨sl, e1⟩ := u0.slot b o e n hb hx
    exact ⟨sl, kp b _ (nL b o e) e1⟩
  · obtain ⟨o1, e1⟩ := u0.there b o e hx
    exact ⟨o1, kp b o1 (nL b o e) e1⟩
  · have hj : j ≠ i := fun z => by
      subst z
      have hlt : j < σ.length := by rw [I.len]; exact (List.getElem?_eq_some_iff.mp hi).1
      rw [List.getElem?_set_self hlt] at e2
      cases e2
    rw [List.getElem?_set_ne (Ne.symm hj)] at e2
    have hx : x ≠ n := fun z => hj (nodup_ix hN e1 (z ▸ hi))
    obtain ⟨w, r, l⟩ := hm j x v e1 e2 e3
    refine ⟨w, r, ?_⟩
    rcases l with ⟨k, e⟩ | ⟨k, c, e, z⟩
    · exact .inl ⟨k, by simp [hx, e]⟩
    · exact .inr ⟨k, c, e, z.sameBut hs (I.cne x c e)⟩
  · obtain ⟨v, z⟩ := I.cell x c e
    exact ⟨v, z.sameBut hs (I.cne x c e)⟩
  · obtain ⟨e1, n1, ne, r⟩ := I.pin p hp
    exact ⟨kp _ _ ne e1, n1, ne, r⟩
  · refine (I.hok a o e).stay (fun b v hb q => kp b v ?_ q) (fun _ q => q) fun _ _ q => q
    rcases hb with hb | hb
    · rw [hb]; exact nT a o e
    · exact nT b _ hb
end

/-- the try's own body; the except suite (an exception is being handled: not calm; none leaves it) -/
noncomputable abbrev Cx.body (X : Cx) (pn : List (Addr × Obj)) (E : Value → Shared → Prop) : Cx := { X with pn := pn, xe := E }
noncomputable abbrev Cx.suite (X : Cx) (e : Addr) : Cx := { X with A := X.A.mark (some (.ref e)), calm := false, xe := fun _ _ => False }
section
variable {X : Cx} {pins pins' : List (Addr × Obj)} {σ : St} {H : Hp} {s : Shared} {E : Value → Shared → Prop} {e : Addr}
theorem Inv.intry (I : Inv X pins σ H s) : Inv (X.body (X.pn ++ pins) E) [] σ H s :=
  ⟨⟨I.ok.mod, I.ok.kind, I.ok.glob, I.ok.blt, I.ok.above, I.ok.inj, I.ok.has, I.ok.cab, I.ok.hd, I.ok.frames, I.ok.stk, I.ok.exf, I.ok.bs, I.ok.bsz, I.ok.noex, I.ok.exfs, I.ok.funs, I.ok.frf⟩,
    I.os, I.bare, I.base, I.loc, I.cell, I.free, I.freeC, fun p hp => I.pin p (by simpa using hp), I.hok, I.len⟩
theorem Inv.offtry (I : Inv (X.body (X.pn ++ pins) E) pins' σ H s) : Inv X pins σ H s :=
  ⟨⟨I.ok.mod, I.ok.kind, I.ok.glob, I.ok.blt, I.ok.above, I.ok.inj, I.ok.has, I.ok.cab, I.ok.hd, I.ok.frames, I.ok.stk, I.ok.exf, I.ok.bs, I.ok.bsz, I.ok.noex, I.ok.exfs, I.ok.funs, I.ok.frf⟩,
    I.os, I.bare, I.base, I.loc, I.cell, I.free, I.freeC, fun p hp => I.pin p (List.mem_append_left _ hp), I.hok, I.len⟩
theorem Inv.insuite (I : Inv X pins σ H s) : Inv (X.suite e) pins σ H s :=
  ⟨⟨I.ok.mod, I.ok.kind, I.ok.glob, I.ok.blt, I.ok.above, I.ok.inj, I.ok.has, I.ok.cab, (fun z => by cases z), I.ok.frames, I.ok.stk, I.ok.exf, I.ok.bs, I.ok.bsz, I.ok.noex, I.ok.exfs, I.ok.funs, I.ok.frf⟩,
    I.os, I.bare, I.base, I.loc, I.cell, I.free, I.freeC, I.pin, I.hok, I.len⟩
theorem Inv.offsuite (I : Inv (X.suite e) pins σ H s) (ok : X.Ok) : Inv X pins σ H s :=
  ⟨ok, I.os, I.bare, I.base, I.loc, I.cell, I.free, I.freeC, I.pin, I.hok, I.len⟩
theorem SP.offtry {D : Ends} {f : Flow} (h : SP (X.body (X.pn ++ pins) E) [] D f s) : SP X pins D f s := by
  cases f with
  | next => obtain ⟨σ', H', J, q⟩ := h; exact ⟨σ', H', J.offtry, q⟩
  | brk => obtain ⟨σ', H', J, q⟩ := h; exact ⟨σ', H', J.offtry, q⟩
  | cont => obtain ⟨σ', H', J, q⟩ := h; exact ⟨σ', H', J.offtry, q⟩
  | ret u => obtain ⟨v, σ', H', J, r, q⟩ := h; exact ⟨v, σ', H', J.offtry, r, q⟩
end
/-- the ends of an except suite whose name stands in slot i -/
noncomputable def Ends.gone (D : Ends) (i : Nat) : Ends := { nx := fun σ H => D.nx (σ.set i none) H, rt := D.rt, bk := fun σ H => D.bk (σ.set i none) H, ct := fun σ H => D.ct (σ.set i none) H }
/-- try: body; except C0 as n: suite. tb EX: the body's reading, EX what is wanted of an exception out of it -/
noncomputable def tTry (K : PySem.W.Frag) (C0 : Addr) (i : Nat) (tb : XE → TS) (ts : TS) : TS := fun D σ H =>
  tb (fun σ' C H' => PySem.W.exmOne K C (.ref C0) = some true ∧ ∀ e, H' e = none → ts (D.gone i) (σ'.set i (some (.ref e))) (upd H' e (ExcAt e C))) D σ H
section
variable {X : Cx} {C0 : Addr} {x n : Str} {np hpos pos : Pos} {i : Nat} {body suite : List Stmt} {b₀ : Stmt} {tb : XE → TS} {ts : TS}
theorem gone_ok {pins : List (Addr × Obj)} {D : Ends} {f : Flow} {s : Shared} {e : Addr} (ok : X.Ok) (hN : X.N.Nodup) (hi : X.N[i]? = some n) (hl : X.env.scope.names.lookup n = some .local) (h : SP (X.suite e) pins (D.gone i) f s) :
    wpAny (model X.prog X.w) X.A (do bindName X.env n .none; unbindBehindTheSuite X.env n hpos) (fun _ s' => SP X pins D f s') X.xe s := by
  have hcls : (X.env.scope.kind == .class || (X.env.scope.kind == .module && X.env.locals != X.env.globals)) = false := by rw [ok.kind]; rfl
  have main : ∀ (σ' : St) (H' : Hp), Inv (X.suite e) pins σ' H' s → ∀ (R : Shared → Prop), (∀ s', Inv X pins (σ'.set i none) H' s' → R s') →
      wpAny (model X.prog X.w) X.A (do bindName X.env n .none; unbindBehindTheSuite X.env n hpos) (fun _ s' => R s') X.xe s := by
    intro σ' H' J R hR
    have J1 := J.offsuite ok
    refine wpAny_bind (wpAny_bindName (store_ok (v := .non) J1 hN hi (.inl hl) rfl (fun s1 J2 => ?_) (.inr hl)))
    obtain ⟨m, hn, hm⟩ := J2.loc
    have hlt : i < σ'.length := by rw [J1.len]; exact (List.getElem?_eq_some_iff.mp hi).1
    obtain ⟨u, ru, lk⟩ := hm i n .non hi (List.getElem?_set_self hlt) (.inl hl)
    have hmn : m n = some u := by
      rcases lk with ⟨_, z⟩ | ⟨z, _⟩
      · exact z
      · rcases z with z | z <;> (have z' : X.env.scope.names.lookup n = _ := z; rw [hl] at z'; cases z')
    unfold unbindBehindTheSuite
    refine wpAny_onRaise (wpAny_mono (wpAny_unbindName_local hl hn hmn hcls fun h' v hn' hs => ?_) (fun _ _ q => q) fun _ _ q => wpAny_standAt q)
    refine hR _ ?_
    have J3 := J2.unbind hN hi hl hn hn' hs hm
    rw [List.set_set] at J3
    exact J3
  cases f with
  | next => obtain ⟨σ', H', J, q⟩ := h; exact main σ' H' J _ fun s' J' => ⟨_, H', J', q⟩
  | brk => obtain ⟨σ', H', J, q⟩ := h; exact main σ' H' J _ fun s' J' => ⟨_, H', J', q⟩
  | cont => obtain ⟨σ', H', J, q⟩ := h; exact main σ' H' J _ fun s' J' => ⟨_, H', J', q⟩
  | ret u => obtain ⟨v, σ', H', J, r, q⟩ := h; exact main σ' H' J _ fun s' J' => ⟨v, _, H', J', r, q⟩
theorem ps_try (hst : X.stack = X.env :: X.outer) (hfr : X.env.frame = some X.env.locals) (hex : X.ex = []) (hN : X.N.Nodup) (hi : X.N[i]? = some n) (hl : X.env.scope.names.lookup n = some .local)
    (hg : Gl X x) (hm : X.mg x = some (.ref C0)) (hb : ∀ pn E EX, Lands (X.body pn E) EX → PSs (X.body pn E) body (tb EX)) (hs : ∀ e, PSs (X.suite e) (b₀ :: suite) ts)
    (hdb : (x == ("__debug__" : Str)) = false := by decide) : PS X (.Try body [.ExceptHandler (some (.Name x np)) (some n) (b₀ :: suite) hpos] [] [] pos) (tTry X.K C0 i tb ts) := by
  intro pins s σ H D I h
  refine wpAny_Try_except (wpAny_mono (hb (X.pn ++ pins) (fun ev s₁ => wpAny (model X.prog X.w) X.A (noteFrame ev X.env) (fun _ s₂ => wpAny (model X.prog X.w) X.A (setFlight ev none) (fun _ s₃ =>
    wpAny (model X.prog X.w) X.A (handleBy ev X.env [.ExceptHandler (some (.Name x np)) (some n) (b₀ :: suite) hpos]) (SP X pins D) X.xe s₃) X.xe s₂) X.xe s₁) _ ?_ [] s σ H D I.intry h) (fun f s1 q => ?_) fun _ _ q => q)
  · -- an exception arrives
    intro pins' σ' H' s1 e C J F hE
    obtain ⟨hmt, hsuite⟩ := hE
    have J1 : Inv X pins σ' H' s1 := J.offtry
    obtain ⟨B, a0, fl, cov, cvp⟩ := F
    have fl' : Heap.FlyingW B (X.env :: X.outer) e C a0 s1.heap := hst ▸ fl
    have hfrm : X.A.frames = some (X.env :: X.outer) := I.ok.frames.trans (by rw [hst])
    have pn1 : ∀ p ∈ X.pn ++ pins, B.get? p.1 = some p.2 := fun p hp => cvp p (List.mem_append_left _ hp)
    -- where e lies
    have notB : ∀ b o, B.get? b = some o → b ≠ e := fun b o q z => by have := fl'.2.1; rw [← z, q] at this; cases this
    obtain ⟨oe1, vs1, he1, hc1, hd1, _⟩ := fl'.first
    have nfr : e ∉ frs X.stack := fun hm => by
      obtain ⟨_, o, ho, nf⟩ := J1.stack.mem hm
      rw [he1] at ho
      cases ho
      exact nf vs1 hd1
    have hEn : H' e = none := by
      cases q : H' e with
      | none => rfl
      | some v => exact absurd rfl (notB e _ (cov e _ he1 nfr (.inr ⟨v, q⟩)))
    have hE0 : X.s₀.heap.get? e = none := by
      cases q : X.s₀.heap.get? e with
      | none => rfl
      | some o => exact absurd rfl (notB e _ (cov e _ he1 nfr (.inl ⟨o, q⟩)))
    refine wpAny_looks_onW hfrm hfr fl' fun h4 held4 sm4 => ?_
    refine wpAny_landsW held4 fun h5 fl5 sm5 => ?_
    have J5 : Inv X pins σ' H' { s1 with heap := h5 } := J1.flown hst hfr hex fl5.1 (sm4.trans sm5) cov pn1
    have J5' : Inv (X.suite e) pins σ' H' { s1 with heap := h5 } := J5.insuite
    obtain ⟨ob, hob, hobc⟩ := fl5.there
    refine wpAny_handleBy_cons (codeAny_handlers_test (ld_glob (X := X.suite e) J5' hg hm ?_ hdb)) (by intro q; cases q)
    have LT : PySem.W.Looks (model X.prog X.w) h5 (typeOf (.ref e)) C := by
      rw [← hobc]
      exact (PySem.W.Looks.ld hob).andThen .now
    refine (PySem.W.exm_one J5.kIn LT hmt).here ?_
    show codeAny _ _ _ _ _
    refine codeAny_handlers_suite_as ?_
    refine lands_againW fl5 fun h6 fl6 sm6 => ?_
    have J6 : Inv X pins σ' H' { s1 with heap := h6 } := J1.flown hst hfr hex fl6.1 ((sm4.trans sm5).trans sm6) cov pn1
    obtain ⟨oe, vs, he, hc, hd, _⟩ := fl6.first
    have J7 := J6.trackE he hc hd hEn hE0 fun p hp => notB _ _ (pn1 p hp)
    refine store_ok (X := X.suite e) J7.insuite hN hi (.inl hl) (show RelV (.ref e) (.ref e) from rfl) (fun s8 J8 => ?_) (.inr hl)
    refine wpAny_mono (hs e pins s8 _ _ _ J8 (hsuite e hEn)) (fun f s9 q => ?_) fun _ _ q => q.elim
    exact gone_ok I.ok hN hi hl q
  · cases f with
    | next => exact wpAny_execs_nil (SP.offtry q)
    | brk => exact SP.offtry q
    | cont => exact SP.offtry q
    | ret u => exact SP.offtry q
end
end L2

/-! MORE OPERATIONS: products and quotients of great ints; == and != of data; isinstance; calls while an exception is handled. -/
namespace L2
open PySem PySem.Spec PyProof.Rows
section
variable {X : Cx}
theorem op_mulB : OpR X (binaryOp .Mult) (rI (fun i j => IntMulOk i j) fun i j => .int (i * j)) := opI fun _ _ _ _ _ _ _ hc q => mul_int q hc
noncomputable def CDivB (_ j : Int) : Prop := j ≠ 0 ∧ j.natAbs.log2 < 9000
theorem op_fdivB : OpR X (binaryOp .FloorDiv) (rI CDivB fun i j => .int (i.fdiv j)) := opI fun _ _ _ _ _ _ _ hc q => floordiv_int hc.1 q (.inl (PyProof.noPylong_of_log2 hc.2))
end

mutual
/-- a value is this data, by the abstract heap -/
inductive Dt (K : PySem.W.Frag) (H : Hp) : V → PyData → Prop
  | non : Dt K H .non .none
  | bl (b) : Dt K H (.bl b) (.bool b)
  | int (i) : Dt K H (.int i) (.int i)
  | str (x) : Dt K H (.str x) (.str x)
  | lst {a xs ds} : SqL K H a xs → Dts K H xs ds → Dt K H (.ref a) (.list ds)
  | tup {a xs ds} : SqT K H a xs → Dts K H xs ds → Dt K H (.ref a) (.tuple ds)
inductive Dts (K : PySem.W.Frag) (H : Hp) : List V → List PyData → Prop
  | nil : Dts K H [] []
  | cons {x xs d ds} : Dt K H x d → Dts K H xs ds → Dts K H (x :: xs) (d :: ds)
end
theorem Dts.ints {K : PySem.W.Frag} {H : Hp} : ∀ (ns : List Int), Dts K H (ns.map V.int) (ns.map PyData.int)
  | [] => .nil
  | n :: r => .cons (.int n) (Dts.ints r)
section
variable {X : Cx} {pins : List (Addr × Obj)} {σ : St} {H : Hp} {s : Shared}
mutual
theorem Dt.reads (I : Inv X pins σ H s) : ∀ {x : V} {d : PyData} {u : Value}, Dt X.K H x d → RelV x u → ∃ as, Reads s.heap u d as
  | _, _, _, .non, r => by cases (show _ = Value.none from r); exact ⟨_, .none⟩
  | _, _, _, .bl b, r => by cases (show _ = Value.bool b from r); exact ⟨_, .bool b⟩
  | _, _, _, .int i, r => by obtain ⟨t, e⟩ := (show ∃ t, _ = Value.int i t from r); cases e; exact ⟨_, .int i t⟩
  | _, _, _, .str x, r => by obtain ⟨t, e⟩ := (show ∃ t, _ = Value.str x t from r); cases e; exact ⟨_, .str x t⟩
  | _, _, _, .lst (a := a) h hd, r => by
    cases (show _ = Value.ref a from r)
    obtain ⟨its, rv, ⟨o, n, e, c, _, dd⟩, _⟩ := I.list h
    obtain ⟨as, q⟩ := Dts.reads I hd rv
    exact ⟨_, .list e c dd (by simpa using q)⟩
  | _, _, _, .tup (a := a) h hd, r => by
    cases (show _ = Value.ref a from r)
    obtain ⟨its, rv, ⟨o, e, c, n, dd⟩, _⟩ := I.tuple h
    obtain ⟨as, q⟩ := Dts.reads I hd rv
    exact ⟨_, .tuple e c dd (by simpa using q)⟩
theorem Dts.reads (I : Inv X pins σ H s) : ∀ {xs : List V} {ds : List PyData} {us : List Value}, Dts X.K H xs ds → Vals xs us → ∃ as, ReadsAll s.heap us ds as
  | _, _, _, .nil, r => by cases r; exact ⟨_, .nil⟩
  | _, _, _, .cons h t, r => by
    cases r with
    | cons r1 r2 =>
      obtain ⟨as, q1⟩ := Dt.reads I h r1
      obtain ⟨bs, q2⟩ := Dts.reads I t r2
      exact ⟨_, .cons q1 q2⟩
end
end
/-! ### == and != of data -/
section
variable {X : Cx}
noncomputable def rNeD (K : PySem.W.Frag) : R2 := fun x y H Q => ∃ d d', Dt K H x d ∧ Dt K H y d' ∧ SeqAt.shaped d = true ∧ SeqAt.shaped d' = true ∧ SeqAt.noMix d d' = true ∧ Q (.bl (!same d d')) H
theorem op_neD (hu : X.A.units + 64 < cLine) : OpR X (compareOp .NotEq) (rNeD X.K) := by
  intro pins s σ H x y v u Q I rx ry h
  obtain ⟨d, d', h1, h2, s1, s2, mx, q⟩ := h
  obtain ⟨as, r1⟩ := h1.reads I rx
  obtain ⟨bs, r2⟩ := h2.reads I ry
  exact ne_dataH_same r1 r2 s1 s2 hu mx ⟨.bl (!same d d'), H, I, rfl, q⟩
end

/-! ### a list or a tuple walked -/
theorem PI.or {X : Cx} {tg l : Expr} {wi wi' : TI} (h : PI X tg l wi) (h' : PI X tg l wi') : PI X tg l (fun σ H R => wi σ H R ∨ wi' σ H R) := by
  intro pins s σ H R I q
  rcases q with q | q
  · exact h pins s σ H R I q
  · exact h' pins s σ H R I q

/-! ### isinstance -/
/-- the facts of an exception class of one's own, for isinstance -/
structure ExcCls (K : PySem.W.Frag) (C : Addr) : Prop where
  ga : PySem.W.findIn K (.ref C) "__getattribute__" = some (some (.builtin "BaseException.__getattribute__"))
  gt : PySem.W.findIn K (.ref C) "__getattr__" = some none
  ca : PySem.W.findIn K (.ref C) "__class__" = some (some (.builtin "object.__class__"))
  cg : PySem.W.specialIn K (.builtin "object.__class__") "__get__" = some (some (.builtin "getset_descriptor.__get__"))
  tk : PySem.W.takesIn K (.builtin "object.__class__") = some true
  ob : PySem.W.mroIn K C (.type "object") = some true
  bx : PySem.W.mroIn K C (.type "BaseException") = some true
  cl : (PySem.W.clsIn K C).isSome = true
theorem exc_class {prog : Program} {w : World} {A : Around} {E : Value → Shared → Prop} {s : Shared} {K : PySem.W.Frag} {x C : Addr} {Q : Option Value → Shared → Prop} (F : ExcCls K C) (KX : K.In s.heap) (ho : ∃ o, s.heap.get? x = some o ∧ o.cls = .ref C)
    (h : Q (some (.ref C)) { s with toks := s.toks + 1 }) : wpAny (model prog w) A (getAttr? (.ref x) "__class__") Q E s := by
  obtain ⟨hh, g, d, t, os⟩ := s
  obtain ⟨o, ho, hc⟩ := ho
  have L0 : PySem.W.Looks (model prog w) hh (typeOf (.ref x)) (.ref C) := hc ▸ (PySem.W.Looks.ld ho).andThen .now
  have L1 := PySem.W.looks_findIn (M := model prog w) KX F.ga
  have L2 := PySem.W.looks_findIn (M := model prog w) KX F.gt
  have L3 := PySem.W.looks_findIn (M := model prog w) KX F.ca
  have L4 := PySem.W.looks_specialIn (M := model prog w) KX F.cg
  have L5 := PySem.W.looks_takesIn (M := model prog w) KX F.tk
  have L6 := PySem.W.looks_mroIn (M := model prog w) KX F.ob
  have L7 := PySem.W.looks_mroIn (M := model prog w) KX F.bx
  unfold getAttr? getAttrBy? getAttrBy
  refine wpAny_bind (wpAny_mkText (wpAny_bind (wpAny_attempt (wpAny_holding (wpAny_bind (L0.at (wpAny_bind (L1.at ?_))))))))
  show wpAny _ _ (getAttrByItsOwn _ _ _ _ _ _) _ _ _
  unfold getAttrByItsOwn
  refine wpAny_bind (show wpAny _ _ (hookBefore (.ref C)) _ _ _ from L2.at ?_)
  refine wpAny_bind (wpAny_attempt (wpAny_holding ?_))
  show wpAny _ _ (boundAndCalled _ _ _) _ _ _
  unfold boundAndCalled
  rw [PySem.F.attr_ValueError.ga.bind (.ref x)]
  refine wpAny_bind (wpAny_pure (wpAny_call ?_))
  refine codeAny_call_builtin PySem.F.attr_ValueError.ga.plain PySem.F.entry_bexc_ga ?_
  have hk : builtinKind "BaseException.__getattribute__" = some .slot := by decide +kernel
  have hsplit : splitId "BaseException.__getattribute__" = some ("BaseException", "__getattribute__") := by decide +kernel
  have hargs := PySem.F.args_bexc_ga (.ref x) (.str "__class__" t)
  have LI : PySem.W.Looks (model prog w) hh (isInstance (.ref x) (.type "BaseException")) true := L0.andThen L7
  show wpAny _ _ (checkBuiltinCall "BaseException.__getattribute__" ⟨[.ref x, .str "__class__" t], []⟩) _ _ _
  simp only [checkBuiltinCall, hk, hsplit]
  refine wpAny_bind (LI.at ?_)
  repeat wp_step
  rw [hc]
  refine L3.at ?_
  refine wpAny_bind (show wpAny _ _ (Builtin.ObjectAttr.getOf (some (.builtin "object.__class__"))) _ _ _ from L4.at ?_)
  have LD : PySem.W.Looks (model prog w) hh (Builtin.ObjectAttr.dataDescriptor? (some (.builtin "object.__class__")) (some (.builtin "getset_descriptor.__get__"))) (some (.builtin "getset_descriptor.__get__", .builtin "object.__class__")) := L5.andThen .now
  refine wpAny_bind (LD.at ?_)
  repeat wp_step
  have LO : PySem.W.Looks (model prog w) hh (isInstance (.ref x) (.type "object")) true := L0.andThen L6
  refine codeAny_call_builtin PySem.W.KF.slot_gs.plain PySem.W.KF.entry_gs (PySem.W.KF.slot_gs.check _ _ _ _ _ _ _ _ PySem.W.KF.type_class (PySem.W.KF.args_gs _ _ _) ?_)
  (unfold Builtin.«getset_descriptor.__get__» Builtin.Getset_descriptor.descrGet; rw [PySem.W.dga_obj]; refine wpAny_bind (wpAny_pure ?_))
  (unfold Builtin.Getset_descriptor.descrGetter Builtin.Getset_descriptor.descrCheckInstance Builtin.Getset_descriptor.descrNameAndClass; simp only [PySem.W.KF.owner_class])
  refine wpAny_bind (wpAny_bind (wpAny_pure (wpAny_bind (LO.at (wpAny_pure ?_)))))
  repeat wp_step
  refine ⟨Code.quiet_builtin _ (by decide +kernel), codeAny_builtin PySem.W.KF.entry_class ?_⟩
  (unfold Builtin.«object.__class__» shownTypeOf; repeat wp_step)
  rw [hc]
  exact wpAny_pure (wpAny_pure h)
theorem kitx_exc {K : PySem.W.Frag} {x C : Addr} (F : ExcCls K C) : PySem.W.KitX K (.ref x) (.ref C) (fun h => ∃ o, h.get? x = some o ∧ o.cls = .ref C) where
  ty := fun M h _ ⟨o, ho, hc⟩ => hc ▸ (PySem.W.Looks.ld ho).andThen .now
  it := fun M h KX _ => by
    have q := F.cl
    unfold PySem.W.clsIn at q
    split at q
    · next lk =>
      intro A' Q' E' s' k z
      (unfold isType loadHead; exact wpAny_bind (wpAny_loadPart (k _ _ (KX _ _ lk)) (wpAny_pure z)))
    · cases q
  ne := fun h tp dd its n sl KX htp => by
    have q := F.cl
    refine Bool.eq_false_iff.mpr fun z => ?_
    have e : C = tp := Value.ref.inj (beq_iff_eq.mp z)
    subst e
    unfold PySem.W.clsIn at q
    split at q
    · next lk => exact absurd ((KX _ _ lk).symm.trans htp) (by intro z2; cases z2)
    · cases q
  ca := fun KX p k => exc_class F KX p k
/-- the type of a value: as TyOf has it, or a caught exception's class -/
inductive TyX (K : PySem.W.Frag) (H : Hp) : V → Value → Prop where
  | ty {x : V} {t : Value} (h : TyOf K H x t) : TyX K H x t
  | exc {e C : Addr} (h : H e = some (ExcAt e (.ref C))) (F : ExcCls K C) : TyX K H (.ref e) (.ref C)
  | tupS {a : Addr} {xs : List V} (h : SqT K H a xs) : TyX K H (.ref a) (.type "tuple")
noncomputable def clsV : V → Value
  | .ty n => .type n
  | .ref a => .ref a
  | _ => .none
noncomputable def isCls : V → Bool
  | .ty _ => true
  | .ref _ => true
  | _ => false
noncomputable def rIsi (K : PySem.W.Frag) : List V → Hp → VK → Prop := fun vs H Q => ∃ x c t b, vs = [x, c] ∧ TyX K H x t ∧ isCls c = true ∧ PySem.W.kitOne K t (clsV c) = some b ∧ Q (.bl b) H
theorem call_isi {X : Cx} : CallR X (.builtin "isinstance") (rIsi X.K) := by
  intro pins s σ H xs us Q I rv h
  obtain ⟨x, c, t, b, rfl, ty, ic, e, q⟩ := h
  obtain ⟨u, w, rfl, r1, r2⟩ := rv.two
  have ew : w = clsV c := by
    cases c <;> first | exact r2 | cases ic
  subst ew
  have fin : ∀ tk, EP X pins σ Q (.bool b) { s with toks := tk } := fun tk => ⟨.bl b, H, I.tok tk, rfl, q⟩
  cases ty with
  | ty h => exact isinst_ok I r1 h e fin
  | exc h F =>
    obtain rfl : u = _ := r1
    obtain ⟨φ, _, _⟩ := (show ObjOk X.prog X.w H s.heap _ (ExcAt _ _) from I.hok _ _ h)
    exact PySem.W.kia_one (kitx_exc F) I.kIn φ e (fun z => nomatch z) fin
  | tupS h =>
    obtain rfl : u = _ := r1
    obtain ⟨its, _, ⟨o, h1, h2, _⟩, _⟩ := I.tuple h
    exact PySem.W.kia_one PySem.W.kitx_tuple I.kIn ⟨o, h1, h2⟩ e (fun z => nomatch z) fin

/-! ### defs that are called while an exception is handled -/
/-- room, without a word on what is handled -/
structure RoomA (k : Nat) (A : Around) : Prop where
  dp : A.depth + 3 * k + 5 < recursionLimit
  un : A.units + 16 * k + 200 < cLine
theorem Room.a {k : Nat} {A : Around} (r : Room k A) : RoomA k A := ⟨r.dp, r.un⟩
theorem RoomA.mono {j k : Nat} {A : Around} (r : RoomA k A) (h : j ≤ k) : RoomA j A := ⟨by have := r.dp; omega, by have := r.un; omega⟩
theorem RoomA.deeper {k : Nat} {A : Around} (r : RoomA (k + 1) A) (env : Env) : RoomA k (A.deeper env) :=
  ⟨by have := r.dp; show A.depth + 1 + 3 * k + 5 < _; omega, by have := r.un; show A.units + 3 + 16 * k + 200 < _; omega⟩
theorem RoomA.mark {k : Nat} {A : Around} (r : RoomA k A) (v : Option Value) : RoomA k (A.mark v) := ⟨r.dp, r.un⟩
theorem RoomA.calm {k : Nat} {A : Around} (r : RoomA k A) : Room k { A with handled := none } := ⟨rfl, r.dp, r.un⟩
/-- a def's promise, whatever is handled; no exception leaves it -/
structure FnOkA (P : Program) (w : World) (K : PySem.W.Frag) (mg : Str → Option Value) (base : Heap) (k : Nat) (f : Addr) (fd : FuncData) (ps : List Str) (sp : Sp) : Prop where
  len : ∀ vs H Q E, sp vs H Q E → vs.length = ps.length
  run : ∀ (A : Around) (outer : List Env) (s : Shared) (H : Hp) (args : Args) (us : List Value) (vs : List V) (Q : VK) (E : XK), RoomA k A → Env0 P w K mg base A outer s H → BindsTo s fd args (ps.zip us) → Vals vs us → sp vs H Q E →
    codeAny (model P w) A (.call (.ref f) args) (CR CX0 outer P w H s Q E) s
theorem FnOkA.ok {P : Program} {w : World} {K : PySem.W.Frag} {mg : Str → Option Value} {base : Heap} {k : Nat} {f : Addr} {fd : FuncData} {ps : List Str} {sp : Sp} (F : FnOkA P w K mg base k f fd ps sp) : FnOk P w K mg base CX0 k f fd ps sp :=
  ⟨F.len, fun A outer s H args us vs Q E hr => F.run A outer s H args us vs Q E hr.a⟩
/-- the body's context: as cxOf, but not calm -/
noncomputable abbrev cxA (P : Program) (w : World) (K : PySem.W.Frag) (mg : Str → Option Value) (base : Heap) (N : List Str) (qual : Str) (scope : Scope) (f : Addr) (cd : Value) (A : Around) (outer : List Env) (s : Shared) (H : Hp) (E : XK) : Cx :=
  { cxOf CX0 P w K mg base N qual scope f cd A outer s H E with calm := false, xe := fun _ _ => False }
section
variable {P : Program} {w : World} {K : PySem.W.Frag} {mg : Str → Option Value} {base : Heap}
theorem Fun.okA {x qual : Str} {st : Stmt} {f : Addr} {fd : FuncData} {N ps : List Str} {k : Nat} {sp : Sp} (F : Fun K x qual st f fd) (S : FnScope N ps (defScope st)) (len : ∀ vs H Q E, sp vs H Q E → vs.length = ps.length)
    (hbody : ∀ (cdv : Value) (A : Around) (outer : List Env) (s : Shared) (H : Hp) (vs : List V) (Q : VK) (E : XK), RoomA k (A.deeper (envOfC qual (defScope st) s.heap.objs.size f cdv)) → sp vs H Q E →
      ∃ t, PSs (cxA P w K mg base N qual (defScope st) f cdv A outer s H E) (defBody st) t ∧ t { nx := fun _ H' => Q .non H', rt := Q } (start N vs) H) : FnOkA P w K mg base (k + 1) f fd ps sp := by
  obtain ⟨oc, od, kV, doc, pm, an, cdv, ct, osl, rfl, lk, hcd⟩ := F.ex
  refine ⟨len, fun A outer s H args us vs Q E hr e0 hb r hsp => ?_⟩
  have hl := len _ _ _ _ hsp
  have kp : ∀ b o, base.get? b = some o → s.heap.get? b = some o := fun b o e => (e0.bs b o e).1
  have hkind : ∀ y ∈ ps.zip us, (defScope st).names.lookup y.1 = some .local ∨ ((defScope st).names.lookup y.1 = some .cell ∧ ((cellsFrom (s.heap.objs.size + 1) (defScope st).names []).lookup y.1).isSome = true) := fun ⟨n, v⟩ hy => by
    rcases S.par n (List.of_mem_zip hy).1 with q | q
    · exact .inl q
    · exact .inr ⟨q, PySem.W.cellsFrom_some _ _ _ (.inl q)⟩
  refine codeAny_call_function (by have := hr.dp; omega) (e0.mod.kin.keeps kp _ _ lk) rfl S.co S.gen rfl (PySem.W.codeRec_of (e0.mod.kin.keeps kp) hcd) (hb _ _ _ _ ?_)
  refine wpAny_newFunctionEnv_cells S.kind hkind fun env he s1 x => ?_
  subst he
  refine ⟨(e0.mod.nolimit.keeps kp).keeps x.toInCall.keep, codeAny_func ?_⟩
  obtain ⟨t, ht, hq⟩ := hbody cdv A outer s H vs Q E (hr.deeper _) hsp
  have I0 : Inv (cxOf CX0 P w K mg base N qual (defScope st) f cdv { A with handled := none } outer s H E) [] (start N vs) H s1 :=
    inv_start S rfl (⟨e0.frames, e0.mod, e0.bs, e0.bsz, e0.funs, e0.frf, e0.hok, e0.bare⟩ : Env0 P w K mg base { A with handled := none } outer s H) hl r x
  have I : Inv (cxA P w K mg base N qual (defScope st) f cdv A outer s H E) [] (start N vs) H s1 :=
    ⟨⟨I0.ok.mod, I0.ok.kind, I0.ok.glob, I0.ok.blt, I0.ok.above, I0.ok.inj, I0.ok.has, I0.ok.cab, (fun z => by cases z), Around.frames_deeper e0.frames, I0.ok.stk, I0.ok.exf, I0.ok.bs, I0.ok.bsz, I0.ok.noex, I0.ok.exfs, I0.ok.funs, I0.ok.frf⟩,
      I0.os, I0.bare, I0.base, I0.loc, I0.cell, I0.free, I0.freeC, I0.pin, I0.hok, I0.len⟩
  refine wpAny_mono (ht [] s1 (start N vs) H _ I hq) (fun fl s' hs => ?_) fun _ _ z => z.elim
  cases fl with
  | ret u => obtain ⟨v, σ', H', J, rv, q⟩ := hs; exact ⟨v, H', J.os, J.bare, J.base, J.hok, rv, q⟩
  | next => obtain ⟨σ', H', J, q⟩ := hs; exact ⟨.non, H', J.os, J.bare, J.base, J.hok, rfl, q⟩
  | brk => obtain ⟨_, _, _, q⟩ := hs; exact q.elim
  | cont => obtain ⟨_, _, _, q⟩ := hs; exact q.elim
end
section
variable {X : Cx} {k : Nat} {f : Addr} {fd : FuncData} {ps : List Str} {sp : Sp} {dvs : List V} {ds : List Value} {x : Str} {p pos : Pos} {e : Expr} {es : List Expr} {t : TA}
theorem pe_callA (F : FnOkA X.prog X.w X.K X.mg X.base k f fd ps sp) (hr : RoomA k X.A) (hg : Gl X x) (hm : X.mg x = some (.ref f)) (hk : PySem.W.keepIn X.K (.ref f) = true) (hb : Binds X.K fd ps ds) (hd : Vals dvs ds)
    (ha : PA X (e :: es) t) (hdb : (x == ("__debug__" : Str)) = false := by decide) (he : starEach (e :: es) X.env = (false, eval e X.env) :: starEach es X.env := by rfl) (hpl : (backTo pos (starEach es X.env)).any (·.1) = false := by rfl) :
    PE X (.Call (.Name x p) (e :: es) [] pos) (tCall sp dvs E0 t) := by
  intro pins s σ H Q I h
  refine wpAny_Call_Name_kw (ld_glob I hg hm ?_ hdb)
  refine PySem.W.callWith_K (h₀ := X.base) I.ok.mod.kin hk (thn (ha pos pins s σ H _ I h) fun us s1 ⟨vs, H1, I1, r, q⟩ => ⟨I1.kIn, ?_⟩) he hpl
  have r2 : Vals (vs ++ dvs) (us ++ ds) := r.append hd
  have hl : (us ++ ds).length = ps.length := by rw [← r2.length]; exact F.len _ _ _ _ q
  refine wpAny_call (codeAny_mono (F.run X.A X.stack s1 H1 ⟨us, []⟩ (us ++ ds) (vs ++ dvs) Q E0 hr I1.env0 (hb s1 us I1.kIn hl) r2 q) fun r s' hq => ?_)
  cases r with
  | error e => exact False.elim hq
  | ok fl =>
    cases fl with
    | ret u => exact I1.after hq
    | next => exact False.elim hq
    | brk => exact False.elim hq
    | cont => exact False.elim hq
end
end L2

/-! SMALL WORDS for the terms that a program prints. -/
namespace L2
open PySem PySem.Spec PyProof.Rows
section
variable {X : Cx}
theorem op_eqZ : OpR X (compareOp .Eq) (rI0 fun i j => .bl (decide (i = j))) := opB0 fun i j _ _ _ _ _ q => eq_int (by rw [Bool.beq_eq_decide_eq]; exact q)
theorem op_neZ : OpR X (compareOp .NotEq) (rI0 fun i j => .bl (!decide (i = j))) := opB0 fun i j _ _ _ _ _ q => ne_int (by rw [bne, Bool.beq_eq_decide_eq]; exact q)
theorem PS.nox {st : Stmt} {t : TS} (h : PS X.nox st t) : PS X st t := fun pins s σ H D I hw =>
  wpAny_mono (h pins s σ H D (I.wish _) hw) (fun _ _ q => q.unwish) fun _ _ z => z.elim
end
section
variable {P : Program} {w : World} {K : PySem.W.Frag} {mg : Str → Option Value} {base : Heap}
/-- a def that may raise -/
theorem Fun.okX {x qual : Str} {st : Stmt} {f : Addr} {fd : FuncData} {N ps : List Str} {k : Nat} {sp : Sp} (F : Fun K x qual st f fd) (S : FnScope N ps (defScope st)) (len : ∀ vs H Q E, sp vs H Q E → vs.length = ps.length)
    (hbody : ∀ (cdv : Value) (A : Around) (outer : List Env) (s : Shared) (H : Hp) (vs : List V) (Q : VK) (E : XK), Room k (A.deeper (envOfC qual (defScope st) s.heap.objs.size f cdv)) → sp vs H Q E →
      ∃ t, PSs (cxOf (CX1 P w) P w K mg base N qual (defScope st) f cdv A outer s H E) (defBody st) t ∧ t { nx := fun _ H' => Q .non H', rt := Q } (start N vs) H) : FnOk P w K mg base (CX1 P w) (k + 1) f fd ps sp := by
  obtain ⟨oc, od, kV, doc, pm, an, cdv, ct, osl, rfl, lk, hcd⟩ := F.ex
  exact fn_of lk hcd S len fun A outer s H vs Q E hr hsp => hbody cdv A outer s H vs Q E hr hsp
end
end L2
namespace Att
open PySem PySem.W PySem.Calls PyProof.Rows
theorem ofPy_ints : ∀ ns : List Int, ofPys (ns.map PyData.int) = ns.map WData.int
  | [] => rfl
  | n :: r => by
    show ofPy (.int n) :: ofPys (r.map PyData.int) = _
    rw [ofPy_ints r]
    rfl
theorem lay_bits {ns : List Int} (h : (WData.list (ns.map WData.int)).layable = true) : ∀ n ∈ ns, Builtin.Int.intBits n ≤ 1048576 := fun n hn => by
  have e : ofPy (.list (ns.map PyData.int)) = WData.list (ns.map WData.int) := by
    show WData.list (ofPys (ns.map PyData.int)) = _
    rw [ofPy_ints]
  have sh : PySem.Spec.Shape.has (.list .int) (.list (ns.map PyData.int)) = true := by
    simp [PySem.Spec.Shape.has]
  exact intBits_le_of_item hn (layable0_of_all (lay0_ofPy (s := .list .int) rfl sh (by rw [e]; exact h)))
/-- as attach_call, with the size of the script's ints -/
theorem attach_callB {l : OpenLaw} {n : Nat} {q : Program} {loose : List Str} {XP : (Str → Option Value) → Heap → Prop} {YP : World → Heap → Prop} {d : DefRec} (hn : l.most = some n) (hdf : d.params.defaults = [])
    (call : ∀ (w : World) (s₀ s₁ : Shared) (mg mb : Str → Option Value) (fa : Addr) (a : Addr) (vs : List Value) (ns : List Int), Ground q loose [] XP w s₀ mg mb s₁.heap → YP w s₁.heap → mg d.name = some (.ref fa) →
      s₁.heap.get? a = some { cls := .type "list", data := .seq vs.toArray } → IntsAre vs ns → ns.length ≤ n → (∀ m ∈ ns, Builtin.Int.intBits m ≤ 1048576) → s₁.gens = #[] →
      codeAny (model l.prog w) callerA (.call (.ref fa) ⟨[.ref a], []⟩) (fun r s' => r = .ok (.ret (.bool true)) ∧ OldK s₁.heap s'.heap ∧ s'.os = s₁.os ∧ AllBare s'.gens) s₁) :
    WalkO q loose XP YP l.row.toRowW d [] (fun f vs => PySem.call f vs) := by
  intro w s₀ s₁ mg mb G Y fa o pm cd doc dV kV ho hd hcd hD hmg hg args vals as hpre hlay hrd hwl hlo
  obtain rfl : dV = .none := Dflts.none hD hdf
  obtain rfl : kV = .none := Dflts.noKw hD
  obtain ⟨a, vs, ns, rfl, rfl, hobj, hints, hlen⟩ := script_of hn hpre hwl
  have hb := lay_bits (layableW_arg hlay _ List.mem_cons_self)
  refine enter_call (codeAny_mono (call w s₀ s₁ mg mb fa a vs ns G Y hmg hobj hints hlen hb hg) fun r s' hq => ?_)
  obtain ⟨rfl, h2, h3, h4⟩ := hq
  exact ⟨.inl ⟨.bool true, .bool true, [], rfl, fun _ => rfl, .bool true, post_true l _, fun _ => ⟨List.Pairwise.nil, fun _ hm => (nomatch hm)⟩⟩, h2, h3, h4⟩
end Att
namespace L2
open PySem PySem.Spec PyProof.Rows
/-- the law's promise: handed a script of at most 63 ints of at most 2^20 bits, True comes out -/
noncomputable def spLaw (K : PySem.W.Frag) : Sp := fun vs H Q _ => ∃ (a : Addr) (ns : List Int), vs = [.ref a] ∧ SqL K H a (ns.map V.int) ∧ ns.length ≤ 63 ∧ (∀ m ∈ ns, Builtin.Int.intBits m ≤ 1048576) ∧ ∀ H', Q (.bl true) H'
theorem walkB {l : PySem.W.OpenLaw} {k : Nat} {q : Program} {loose : List Str} {XP : (Str → Option Value) → Heap → Prop} {YP : World → Heap → Prop} {d : DefRec} {K : Params → PySem.W.Frag} {x : Str}
    (hn : l.most = some 63) (hdf : d.params.defaults = []) (hr : Room k callerA) (hY : ∀ (w : World) (h : Heap), YP w h → (K w.params).In h)
    (F : ∀ (w : World) (mg : Str → Option Value) (fa : Addr) (h : Heap), (K w.params).In h → h.Ns mainGlobals mg → mg d.name = some (.ref fa) →
      ∃ fd : FuncData, (∀ (s : Shared) (u : Value), BindsTo s fd ⟨[u], []⟩ [(x, u)]) ∧ ∀ base : Heap, (K w.params).In base → base.Ns mainGlobals mg → FnOk l.prog w (K w.params) mg base CX0 k fa fd [x] (spLaw (K w.params))) :
    PySem.W.WalkO q loose XP YP l.row.toRowW d [] (fun f vs => PySem.call f vs) := by
  refine Att.attach_callB hn hdf fun w s₀ s₁ mg mb fa a vs ns G Y hmg hobj hints hlen hb hg => ?_
  have KX := hY w _ Y
  obtain ⟨fd, hbn, hF⟩ := F w mg fa _ KX G.T.g hmg
  exact law_call KX G.T.g G.T.b G.T.builtins G.T.nolimit hg hobj hints (Nat.le_trans hlen (by decide)) hr hF hbn (fun H _ hS => ⟨a, ns, rfl, hS, hlen, hb, fun _ => rfl⟩) fun H e s' z => z
/-! ### readings, turned to plain words -/
/-- a loop alone: its body is a name B -/
theorem for_st {wi : TI} {g : TG} {tb : TS} {D : Ends} {σ : St} {H : Hp} (h : ∀ B : TS, B = tb → wi σ H fun J H1 => ∃ W : Nat → Nat → St → Hp → Prop, (∃ m, W 0 m σ H1) ∧ ∀ i m σ H, W i m σ H →
    (J.stop i H ∧ D.nx σ H) ∨ (J.go i H ∧ ∃ N : St → Hp → Prop, (∀ σ' H', N σ' H' → ∃ m', m' < m ∧ W (i + 1) m' σ' H') ∧ ∀ x H', J.yld i H x H' → g x σ H' fun σ2 H2 => B { D with nx := N, ct := N, bk := D.nx } σ2 H2)) : tFor wi g tb D σ H := h _ rfl
/-- a statement alone: what stands behind it is a name NX -/
theorem st {t u : TS} {D : Ends} {σ : St} {H : Hp} (h : ∀ NX : St → Hp → Prop, NX = u D → t { D with nx := NX } σ H) : tSeq t u D σ H := h _ rfl
section
variable {g : Int → Int → V} {C : Int → Int → Prop} {f : Int → V} {i j : Int} {H : Hp} {Q : VK}
theorem rd_rI0 : rI0 g (.int i) (.int j) H Q = Q (g i j) H := propext ⟨fun ⟨_, _, e1, e2, q⟩ => by cases e1; cases e2; exact q, fun q => ⟨_, _, rfl, rfl, q⟩⟩
theorem rd_rI : rI C g (.int i) (.int j) H Q = (C i j ∧ Q (g i j) H) := propext ⟨fun ⟨_, _, e1, e2, q⟩ => by cases e1; cases e2; exact q, fun q => ⟨_, _, rfl, rfl, q⟩⟩
theorem rd_rU : rU f (.int i) H Q = Q (f i) H := propext ⟨fun ⟨_, e1, q⟩ => by cases e1; exact q, fun q => ⟨_, rfl, q⟩⟩
end
/-! ### comprehensions whose elements leave what is tracked as it is: R i x y: the element at place i, of x, is y -/
theorem Same.new {H : Hp} {a : Addr} {o : HO} (h : H a = none) : Same H (upd H a o) := fun b u e => by rw [upd_ne (ne_of_none e h)]; exact e
theorem Same.over {H H1 : Hp} {a : Addr} {o : HO} (h : H a = none) (s : Same H H1) : Same H (upd H1 a o) := fun b u e => by rw [upd_ne (ne_of_none e h)]; exact s b u e
theorem Same.tup {K : PySem.W.Frag} {H H' : Hp} {a : Addr} {xs : List V} (e : Same H H') (h : SqT K H a xs) : SqT K H' a xs := by
  rcases h with (h | ⟨o, h⟩) | h
  · exact .inl (.inl (e _ _ h))
  · exact .inl (.inr ⟨o, e _ _ h⟩)
  · exact .inr h
section
variable {K : PySem.W.Frag} {a b : Addr} {xs : List V} {te : TE} {fr : List (Str × Nat)} {σ : St} {H : Hp} {Q : VK}
/-- what holds behind i turns -/
noncomputable def CompP (H : Hp) (a : Addr) (R : Nat → V → Prop) (i : Nat) (H1 : Hp) : Prop := Same H H1 ∧ ∃ ys : List V, H1 a = some (.lst ys) ∧ ys.length = i ∧ ∀ j y, ys[j]? = some y → R j y
theorem CompP.start (ha : H a = none) (R : Nat → V → Prop) : CompP H a R 0 (upd H a (.lst [])) := ⟨Same.new ha, [], upd_same, rfl, fun j y e => by simp at e⟩
theorem CompP.next {R : Nat → V → Prop} {i : Nat} {H1 H2 : Hp} {y : V} (ha : H a = none) (h : CompP H a R i H1) (s : Same H1 H2) (r : R i y) (hz : i < sizeLine) :
    ∃ zs, H2 a = some (.lst zs) ∧ zs.length < sizeLine ∧ CompP H a R (i + 1) (upd H2 a (.lst (zs ++ [y]))) := by
  obtain ⟨s1, ys, e, hl, hr⟩ := h
  refine ⟨ys, s _ _ e, by omega, Same.over ha (s1.trans s), _, upd_same, by simp [hl], fun j z q => ?_⟩
  by_cases hj : j < ys.length
  · rw [List.getElem?_append_left hj] at q
    exact hr j z q
  · rw [List.getElem?_append_right (by omega)] at q
    have : j = i := by
      by_cases h0 : j - ys.length = 0
      · omega
      · rw [List.getElem?_eq_none (by simp; omega)] at q
        cases q
    subst this
    rw [show j - ys.length = 0 by omega] at q
    cases Option.some.inj q
    exact r
end
/-- a list that is told by its places -/
theorem list_is {α β : Type} {ys : List β} {xs : List α} {f : α → β} (hl : ys.length = xs.length) (h : ∀ (j : Nat) (y : β), ys[j]? = some y → ∃ x, xs[j]? = some x ∧ y = f x) : ys = xs.map f := by
  refine List.ext_getElem (by simpa using hl) fun i h1 h2 => ?_
  obtain ⟨x, e1, e2⟩ := h i ys[i] (by simp [h1])
  obtain ⟨hx, e3⟩ := List.getElem?_eq_some_iff.mp e1
  rw [List.getElem_map, e2, e3]
end L2

/-! COMPREHENSIONS IN GENERAL: any target, one test, names that inner comprehensions take along. -/
namespace L2
open PySem PySem.Spec PyProof.Rows
noncomputable def relab (sc scope : Scope) : Scope := { scope with names := scope.names.map fun (n, k) => if (k == .free && sc.kind == .function && sc.names.lookup n == some .cell) then (n, .cell) else (n, k) }
theorem relab_is {scope sc : Scope} {env : Env} (h : env.scope = sc) : relabel scope env = relab sc scope := by subst h; rfl
theorem own_app : ∀ (names : List (Str × NameKind)) (n : Nat) (acc : List (Str × Addr)), cellsFrom n names acc = cellsFrom n names [] ++ acc
  | [], _, _ => rfl
  | (x, k) :: r, n, acc => by
    unfold cellsFrom
    split
    · rw [own_app r (n + 1) ((x, n) :: acc), own_app r (n + 1) [(x, n)], List.append_assoc]
      rfl
    · exact own_app r n acc
theorem own_mem {y : Str} {b : Addr} : ∀ {names : List (Str × NameKind)} {n : Nat} {acc : List (Str × Addr)}, (y, b) ∈ cellsFrom n names acc → (y, b) ∈ acc ∨ (y, NameKind.cell) ∈ names
  | [], _, _, h => .inl h
  | (x, k) :: r, n, acc, h => by
    unfold cellsFrom at h
    split at h
    · rename_i hk
      rcases own_mem h with q | q
      · rcases List.mem_cons.mp q with e | e
        · have ek : k = .cell := by simpa using hk
          cases e
          exact .inr (by rw [ek]; exact List.mem_cons_self)
        · exact .inl e
      · exact .inr (List.mem_cons_of_mem _ q)
    · rcases own_mem h with q | q
      · exact .inl q
      · exact .inr (List.mem_cons_of_mem _ q)
theorem own_has {y : Str} : ∀ {names : List (Str × NameKind)} {n : Nat} {acc : List (Str × Addr)}, ((y, NameKind.cell) ∈ names ∨ ∃ b, acc.lookup y = some b) → ∃ b, (cellsFrom n names acc).lookup y = some b
  | [], _, _, h => by
    rcases h with h | h
    · simp at h
    · exact h
  | (x, k) :: r, n, acc, h => by
    unfold cellsFrom
    split
    · rename_i hk
      refine own_has ?_
      rcases h with h | ⟨b, h⟩
      · rcases List.mem_cons.mp h with e | e
        · cases e
          exact .inr ⟨n, by rw [List.lookup_cons]; simp⟩
        · exact .inl e
      · rw [List.lookup_cons]
        cases hx : y == x with
        | true => exact .inr ⟨n, rfl⟩
        | false => exact .inr ⟨b, h⟩
    · rename_i hk
      refine own_has ?_
      rcases h with h | h
      · rcases List.mem_cons.mp h with e | e
        · cases e
          simp at hk
        · exact .inl e
      · exact .inr h
theorem relab_was {env : Env} {q : NameKind} : ∀ {names : List (Str × NameKind)} {x : Str},
    (names.map fun (n, k) => if (k == NameKind.free && env.scope.kind == .function && env.kindOf n == some .cell) then (n, NameKind.cell) else (n, k)).lookup x = some q →
    (q = .cell ∨ q = .free) → (x, NameKind.free) ∈ names ∨ (x, NameKind.cell) ∈ names
  | [], _, h, _ => by simp at h
  | (n, k) :: r, x, h, hq => by
    have ih := @relab_was env q r x
    rw [List.map_cons] at h
    dsimp only at h
    by_cases hc : (k == NameKind.free && env.scope.kind == .function && env.kindOf n == some .cell) = true
    · rw [if_pos hc, List.lookup_cons] at h
      cases hx : x == n with
      | true =>
        have ex : x = n := by simpa using hx
        have ek : k = .free := by
          have := (Bool.and_eq_true _ _ ▸ ((Bool.and_eq_true _ _ ▸ hc).1)).1
          simpa using this
        rw [ex, ek]
        exact .inl List.mem_cons_self
      | false =>
        rw [hx] at h
        exact (ih h hq).imp (List.mem_cons_of_mem _) (List.mem_cons_of_mem _)
    · rw [if_neg hc, List.lookup_cons] at h
      cases hx : x == n with
      | true =>
        rw [hx] at h
        have ex : x = n := by simpa using hx
        have ek : k = q := Option.some.inj h
        rcases hq with e | e
        · rw [ex, ek, e]; exact .inr List.mem_cons_self
        · rw [ex, ek, e]; exact .inl List.mem_cons_self
      | false =>
        rw [hx] at h
        exact (ih h hq).imp (List.mem_cons_of_mem _) (List.mem_cons_of_mem _)
theorem key_one {α : Type} {x : Str} {k k' : α} : ∀ {l : List (Str × α)}, (l.map (·.1)).Nodup → (x, k) ∈ l → (x, k') ∈ l → k = k'
  | (n, q) :: r, nd, h, h' => by
    obtain ⟨n1, n2⟩ := List.nodup_cons.mp nd
    rcases List.mem_cons.mp h with e | e <;> rcases List.mem_cons.mp h' with e' | e'
    · cases e; cases e'; rfl
    · cases e; exact absurd (List.mem_map.mpr ⟨_, e', rfl⟩) n1
    · cases e'; exact absurd (List.mem_map.mpr ⟨_, e, rfl⟩) n1
    · exact key_one n2 e e'
theorem newEnv_own {M : Model} {A : Around} {E : Value → Shared → Prop} {s : Shared} {scope : Scope} {globals : Addr} {cl : List (Str × Addr)} {qual : Str} {func : Option Addr} {code : Value} {env : Env} {bl : Addr} {Q : Env → Shared → Prop}
    (h : Q (newEnv scope s.heap.objs.size globals (cellsFrom (s.heap.objs.size + 1) scope.names cl) qual func code (some env) bl) { s with heap := pushCells (s.heap.push { cls := .type "dict", data := .dict #[] }) scope.names }) :
    wpAny M A (newFunctionEnv scope globals cl [] qual func code (some env) bl) Q E s := by
  simp only [newFunctionEnv, Option.isSome_some, if_true]
  refine wpAny_bind (wpAny_alloc ?_)
  refine wpAny_bind (wpAny_layCells _ (fun name kind cells => by cases hkc : kind == NameKind.cell <;> simp [hkc]) _ _ _ _ ?_)
  rw [show ({ s with heap := s.heap.push { cls := .type "dict", data := .dict #[] } } : Shared).heap.objs.size = s.heap.objs.size + 1 from Heap.size_push ..]
  exact wpAny_pure h

/-- the context of a comprehension's block -/
noncomputable def cxCompG (X : Cx) (scope : Scope) (N : List Str) (s : Shared) (H : Hp) (fp : List Addr) : Cx :=
  { X with N := N, s₀ := s, H₀ := H, env := compEnvC scope (cellsFrom (s.heap.objs.size + 1) scope.names (clOf X.env scope.names [])) s.heap.objs.size X.env, outer := X.stack, ex := fp, fn := fun y => scope.names.lookup y == some .cell, pn := [], xe := fun _ _ => False }
structure CompOkG (X : Cx) (sc scope : Scope) (xs : List Str) (fr : List (Str × Nat)) : Prop where
  hsc : X.env.scope = sc
  kind : scope.kind = .function
  nn : (scope.names.map (·.1)).Nodup
  free : ∀ y ∈ scope.names, y.2 = .free → sc.names.lookup y.1 = some .cell ∨ sc.names.lookup y.1 = some .free
  loc : ∀ y ∈ scope.names, y.2 = .local → scope.names.lookup y.1 = some .local
  fr : ∀ p ∈ fr, X.N[p.2]? = some p.1 ∧ scope.names.lookup p.1 = some .free
section
variable {X : Cx} {sc scope : Scope} {xs : List Str} {fr : List (Str × Nat)}
theorem CompOkG.free' (c : CompOkG X sc scope xs fr) : ∀ y ∈ scope.names, y.2 = .free → X.env.kindOf y.1 = some .cell ∨ X.env.kindOf y.1 = some .free := fun y hy hf => by
  unfold Env.kindOf
  rw [c.hsc]
  exact c.free y hy hf
theorem CompOkG.cells {pins : List (Addr × Obj)} {σ : St} {H : Hp} {s : Shared} (c : CompOkG X sc scope xs fr) (I : Inv X pins σ H s) : ∀ y ∈ scope.names, y.2 = .free → ∃ c, X.env.cells.lookup y.1 = some c :=
  fun y hy hf => I.ok.has y.1 (c.free' y hy hf)
theorem CompOkG.was {pins : List (Addr × Obj)} {σ : St} {H : Hp} {s : Shared} (c : CompOkG X sc scope xs fr) (I : Inv X pins σ H s) {y : Str} {b : Addr} (h : (clOf X.env scope.names []).lookup y = some b) : X.env.cells.lookup y = some b := by
  rcases clOf_lookup (c.cells I) h with q | q
  · simp at q
  · exact q
theorem cells_cases {names : List (Str × NameKind)} {n : Nat} {cl : List (Str × Addr)} {y : Str} {b : Addr} (h : (cellsFrom n names cl).lookup y = some b) : (cellsFrom n names []).lookup y = some b ∨ ((cellsFrom n names []).lookup y = none ∧ cl.lookup y = some b) := by
  rw [own_app, List.lookup_append] at h
  cases q : (cellsFrom n names []).lookup y with
  | none => rw [q] at h; exact .inr ⟨rfl, h⟩
  | some c => rw [q] at h; exact .inl h
theorem comp_startG {pins : List (Addr × Obj)} {σ : St} {H : Hp} {s : Shared} {fp : List Addr} (c : CompOkG X sc scope xs fr) (I : Inv X pins σ H s)
    (hf : ∀ b ∈ fp, FpOk X pins H b ∧ ∃ o, s.heap.get? b = some o) :
    Inv (cxCompG X scope (xs ++ fr.map (·.1)) s H fp) [] (xs.map (fun _ => none) ++ frees fr σ) H { s with heap := pushCells (s.heap.push { cls := .type "dict", data := .dict #[] }) scope.names } := by
  have k : ∀ b o, s.heap.get? b = some o → (pushCells (s.heap.push { cls := .type "dict", data := .dict #[] }) scope.names).get? b = some o := fun b o e => pushCells_keeps _ _ b o (Heap.get?_push_of_some _ e)
  have hn : (pushCells (s.heap.push { cls := .type "dict", data := .dict #[] }) scope.names).Ns s.heap.objs.size (fun _ => none) := (Heap.Ns.new s.heap (.type "dict")).keeps (pushCells_keeps _ _)
  have ok := cellsFrom_ok scope.names (s.heap.push { cls := .type "dict", data := .dict #[] }) (s.heap.objs.size + 1) [] ⟨fun _ _ hm => (nomatch hm), List.Pairwise.nil⟩ (by rw [Heap.size_push]; exact Nat.le_refl _)
  rw [Heap.size_push] at ok
  have I4 : Inv X pins σ H { s with heap := pushCells (s.heap.push { cls := .type "dict", data := .dict #[] }) scope.names } := I.kept (t' := s.toks) k
  generalize hh : pushCells (s.heap.push { cls := .type "dict", data := .dict #[] }) scope.names = h₁ at k hn ok I4
  have old : ∀ {y : Str} {b : Nat}, (clOf X.env scope.names []).lookup y = some b → b < s.heap.objs.size := fun {y b} e => by
    obtain ⟨v, z⟩ := I.cell y b (c.was I e)
    exact z.lt
  have own : ∀ {y : Str} {b : Nat}, (cellsFrom (s.heap.objs.size + 1) scope.names []).lookup y = some b → h₁.IsCell b none ∧ s.heap.objs.size + 1 ≤ b := fun {y b} e => ok.empty y b (mem_of_lookup e)
  refine ⟨⟨I.ok.mod, c.kind, I.ok.glob, I.ok.blt, Nat.le_refl _, fun y z b h1 h2 => ?_, fun y hy => ?_, fun y b h0 h1 => ?_, I.ok.hd, I.ok.frames, .inl rfl, fun b hb => ?_, fun b o e => ?_, ?_, fun b o e hb => ?_, fun b hb hs => ?_, ?_, fun b hb => ?_⟩,
    rfl, I.bare, Un.kept k, ⟨_, hn, fun i y v h1 h2 h3 => ?_⟩, fun y b h => ?_, ?_, fun y b h => ?_, fun p hp => absurd (show p ∈ ([] : List (Addr × Obj)) from hp) (by simp), I4.hok, ?_⟩
  · rcases cells_cases h1 with e1 | ⟨_, e1⟩ <;> rcases cells_cases h2 with e2 | ⟨_, e2⟩
    · exact name_of_addr ok.apart (mem_of_lookup e1) (mem_of_lookup e2)
    · exact absurd (Nat.lt_of_lt_of_le (old e2) (Nat.le_of_succ_le (own e1).2)) (Nat.lt_irrefl _)
    · exact absurd (Nat.lt_of_lt_of_le (old e1) (Nat.le_of_succ_le (own e2).2)) (Nat.lt_irrefl _)
    · exact I.ok.inj y z b (c.was I e1) (c.was I e2)
  · show ∃ b, (cellsFrom (s.heap.objs.size + 1) scope.names (clOf X.env scope.names [])).lookup y = some b
    have hm : (y, NameKind.free) ∈ scope.names ∨ (y, NameKind.cell) ∈ scope.names := by
      rcases hy with hy | hy
      · exact relab_was hy (.inl rfl)
      · exact relab_was hy (.inr rfl)
    rcases hm with hm | hm
    · exact own_has (.inr (clOf_has (.inl hm)))
    · exact own_has (.inl hm)
  · have hy : scope.names.lookup y = some .cell := by
      have h0' : (scope.names.lookup y == some NameKind.cell) = true := h0
      simpa using h0'
    rcases cells_cases h1 with e1 | ⟨e1, _⟩
    · have := (own e1).2
      show s.heap.objs.size ≤ b
      omega
    · obtain ⟨b', e⟩ := own_has (n := s.heap.objs.size + 1) (acc := []) (.inl (mem_of_lookup hy))
      rw [e1] at e
      cases e
  · obtain ⟨⟨_, _, _, _, f5, _⟩, o, e⟩ := hf b hb
    refine ⟨Nat.ne_of_lt (Heap.lt_size e), fun y b' h => ?_⟩
    rcases cells_cases h with e1 | ⟨_, e1⟩
    · exact fun z => absurd (Nat.lt_of_lt_of_le (Heap.lt_size e) (Nat.le_of_succ_le (z ▸ (own e1).2))) (Nat.lt_irrefl _)
    · exact f5 y b' (c.was I e1)
  · exact I.bs b o e
  · exact Nat.le_trans I.ok.bsz I.sz
  · obtain ⟨⟨_, _, _, f4, _, _⟩, _⟩ := hf b hb
    rcases f4 with z | z
    · exact I.ok.noex b o e z
    · exact absurd (Nat.lt_of_lt_of_le (Heap.lt_size e) (Nat.le_trans I.ok.bsz z)) (Nat.lt_irrefl _)
  · obtain ⟨⟨_, f2, f3, _, _, _⟩, _⟩ := hf b hb
    rcases List.mem_cons.mp (I.stkSub b hs) with z | z
    · exact f2 z
    · exact f3 z
  · exact I.stack
  · exact I.stkFree b hb
  · have h1' : (xs ++ fr.map (·.1))[i]? = some y := h1
    by_cases hi : i < xs.length
    · rw [List.getElem?_append_left (by simpa using hi), List.getElem?_map] at h2
      cases q : xs[i]? with
      | none => rw [q] at h2; cases h2
      | some z => rw [q] at h2; cases Option.some.inj h2
    · rw [List.getElem?_append_right (by omega)] at h1'
      rw [List.getElem?_append_right (by simpa using hi), List.length_map] at h2
      generalize i - xs.length = j at h1' h2
      rw [List.getElem?_map] at h1'
      unfold frees at h2
      rw [List.getElem?_map] at h2
      cases e : fr[j]? with
      | none => rw [e] at h1'; cases h1'
      | some p =>
        rw [e] at h1' h2
        have e1 : p.1 = y := Option.some.inj h1'
        have e2 : σ.getD p.2 none = some v := Option.some.inj h2
        obtain ⟨n1, n2⟩ := c.fr p (List.mem_of_getElem? e)
        have e3 : σ[p.2]? = some (some v) := by
          rw [List.getD_eq_getElem?_getD] at e2
          cases q : σ[p.2]? with
          | none => rw [q] at e2; cases e2
          | some o => rw [q] at e2; have e2' : o = some v := e2; rw [e2']
        subst e1
        have hm : (p.1, NameKind.free) ∈ scope.names := PySem.mem_of_lookup n2
        have kd := c.free' _ hm rfl
        obtain ⟨m', _, hl⟩ := I4.loc
        obtain ⟨u, ru, lk⟩ := hl p.2 p.1 v n1 e3 (.inr kd)
        refine ⟨u, ru, .inr ⟨relabel_free n2, ?_⟩⟩
        rcases lk with ⟨k1, _⟩ | ⟨_, b, q, z⟩
        · rcases kd with kd | kd <;> (rw [kd] at k1; cases k1)
        · obtain ⟨b', q'⟩ := clOf_has (env := X.env) (l := scope.names) (cs := []) (.inl hm)
          have e4 := c.was I q'
          rw [q] at e4
          cases e4
          refine ⟨b, ?_, z⟩
          show (cellsFrom (s.heap.objs.size + 1) scope.names (clOf X.env scope.names [])).lookup p.1 = some b
          rw [own_app, List.lookup_append]
          cases w : (cellsFrom (s.heap.objs.size + 1) scope.names []).lookup p.1 with
          | none => exact q'
          | some b2 =>
            rcases own_mem (mem_of_lookup w) with w | w
            · simp at w
            · cases key_one c.nn hm w
  · rcases cells_cases h with e1 | ⟨_, e1⟩
    · exact ⟨none, (own e1).1⟩
    · exact I4.cell y b (c.was I e1)
  · exact I.hok.fresh (Nat.le_refl _)
  · rcases cells_cases h with e1 | ⟨_, e1⟩
    · exact I.hok.fresh (by have := (own e1).2; omega)
    · exact I4.freeC y b (c.was I e1)
  · show (xs.map (fun _ => none) ++ frees fr σ).length = (xs ++ fr.map (·.1)).length
    simp [frees]
end

/-! ### a turn: the test, the element -/
noncomputable abbrev TOx := St → Hp → (Option V → Hp → Prop) → Prop
noncomputable def tEl (te : TE)  : TOx := fun σ H Q => te σ H fun y H' => Q (some y) H'
/-- what a turn runs, behind the store: tests, then the element -/
noncomputable def turnOf (elt : Expr) (ifs : List Expr) (env : Env) (M : Model) (A : Around) (Q : Option Value → Shared → Prop) (E : Value → Shared → Prop) (s : Shared) : Prop :=
  match ifs with
  | [] => wpAny M A (eval elt env) (fun x s1 => Q (some x) s1) E s
  | [c] => wpAny M A (isTrue c env (eval c env)) (fun b s1 => if b = true then wpAny M A (eval elt env) (fun x s2 => Q (some x) s2) E s1 else Q none s1) E s
  | _ => False
noncomputable def POx (X : Cx) (elt : Expr) (ifs : List Expr) (t : TOx) : Prop := ∀ (pins : List (Addr × Obj)) (s : Shared) (σ : St) (H : Hp) (Q : Option V → Hp → Prop), Inv X pins σ H s → t σ H Q →
  turnOf elt ifs X.env (model X.prog X.w) X.A (fun o s' => ∃ v H', Inv X pins σ H' s' ∧ (match o, v with | some u, some y => RelV y u | none, none => True | _, _ => False) ∧ Q v H') X.xe s
theorem po_el {X : Cx} {elt : Expr} {te : TE} (h : PE X elt te) : POx X elt [] (tEl te) := fun pins s σ H Q I hw =>
  thn (h pins s σ H _ I hw) fun u s1 ⟨y, H1, I1, r1, q1⟩ => ⟨some y, H1, I1, r1, q1⟩
theorem codeAny_compLoop_gen {prog : Program} {w : World} {A : Around} {R : Result → Shared → Prop} {s : Shared} {elt target iter : Expr} {ifs : List Expr} {scope : Scope} {pos : Pos} {it acc : Value} {env : Env} (I : Nat → Shared → Prop)
    (turn : ∀ n s, I n s → wpAny (model prog w) A (pyNext it) (fun r s₁ => match r with
      | none => R (.ok .next) s₁
      | some v => wpAny (model prog w) A (letOwnedTupleGo target it v) (fun _ s₁' => wpAny (model prog w) A (assign target env v) (fun _ s₂ => turnOf elt ifs env (model prog w) A (fun o s₃ => match o with
          | some x => wpAny (model prog w) A (call (.builtin "list.append") [acc, x]) (fun _ s₄ => ∃ m, m < n ∧ I m s₄) (fun _ _ => False) s₃
          | none => ∃ m, m < n ∧ I m s₃)
          (fun _ _ => False) s₂) (fun _ _ => False) s₁') (fun _ _ => False) s₁) (fun _ _ => False) s)
    (n : Nat) (h : I n s) (hifs : ifs.length ≤ 1) :
    codeAny (model prog w) A (.compLoop (.ListComp elt [⟨target, iter, ifs, 0⟩] scope pos) 0 it acc env) R s := by
  refine codeAny_loop rfl I (fun n s hI => ?_) n h
  show wpAny _ _ ((compTurn (.ListComp elt [⟨target, iter, ifs, 0⟩] scope pos) 0 it acc env).onRaise (fun x => do noteFrame x env; theTreesLotGoes x)) _ _ s
  refine wpAny_noted ?_
  have T := turn n s hI
  match ifs, hifs, T with
  | [], _, T =>
    rw [compTurn_list1]
    refine wpAny_bind (wpAny_standAt (wpAny_bind (wpAny_mono T (fun r s₁ h₁ => ?_) fun _ _ h' => h'.elim)))
    cases r with
    | none => exact wpAny_pure h₁
    | some v =>
      refine wpAny_bind (wpAny_mono h₁ (fun _ s₁' h₁' => ?_) fun _ _ h' => h'.elim)
      exact wpAny_bind (wpAny_mono h₁' (fun _ s₂ h₂ => wpAny_bind (wpAny_bind (wpAny_mono (show wpAny _ _ _ _ _ _ from h₂) (fun x s₃ h₃ => wpAny_bind (wpAny_mono h₃
        (fun _ s₄ h₄ => wpAny_pure (wpAny_pure ⟨rfl, h₄⟩)) fun _ _ h' => h'.elim)) fun _ _ h' => h'.elim))) fun _ _ h' => h'.elim)
  | [c], _, T =>
    have e1 : compTurn (.ListComp elt [⟨target, iter, [c], 0⟩] scope pos) 0 it acc env = (standAt iter.pos >>= fun _ => pyNext it >>= fun r => match r with
      | none => pure (.done .next)
      | some v => letOwnedTupleGo target it v >>= fun _ => assign target env v >>= fun _ => isTrue c env (eval c env) >>= fun ok =>
        (if ok = true then (eval elt env >>= fun x => call (.builtin "list.append") [acc, x] >>= fun _ => pure ()) >>= fun _ => again (.compLoop (.ListComp elt [⟨target, iter, [c], 0⟩] scope pos) 0 it acc env)
          else again (.compLoop (.ListComp elt [⟨target, iter, [c], 0⟩] scope pos) 0 it acc env))) := by
      unfold compTurn
      simp only [List.forIn_cons, List.forIn_nil, if_true, bind_assoc, pure_bind, List.getElem?_cons_zero]
      rfl
    rw [e1]
    refine wpAny_bind (wpAny_standAt (wpAny_bind (wpAny_mono T (fun r s₁ h₁ => ?_) fun _ _ h' => h'.elim)))
    cases r with
    | none => exact wpAny_pure h₁
    | some v =>
      refine wpAny_bind (wpAny_mono h₁ (fun _ s₁' h₁' => ?_) fun _ _ h' => h'.elim)
      refine wpAny_bind (wpAny_mono h₁' (fun _ s₂ h₂ => wpAny_bind (wpAny_mono (show wpAny _ _ _ _ _ _ from h₂) (fun b s₃ h₃ => ?_) fun _ _ h' => h'.elim)) fun _ _ h' => h'.elim)
      cases b with
      | true =>
        rw [if_pos rfl] at h₃ ⊢
        exact wpAny_bind (wpAny_bind (wpAny_mono h₃ (fun x s₄ h₄ => wpAny_bind (wpAny_mono h₄ (fun _ s₅ h₅ => wpAny_pure (wpAny_pure ⟨rfl, h₅⟩)) fun _ _ h' => h'.elim)) fun _ _ h' => h'.elim))
      | false =>
        rw [if_neg Bool.false_ne_true] at h₃ ⊢
        exact wpAny_pure ⟨rfl, h₃⟩
  | _ :: _ :: _, hifs, T =>
    exact absurd hifs (by simp)
end L2
namespace L2
open PySem PySem.Spec PyProof.Rows
noncomputable def outTo (a : Addr) (N : Hp → Prop) : Option V → Hp → Prop
  | some y, H => ∃ zs, H a = some (.lst zs) ∧ zs.length < sizeLine ∧ N (upd H a (.lst (zs ++ [y])))
  | none, H => N H
noncomputable abbrev CompWG (J : It) (g : TG) (tt : TOx) (n : Nat) (fr : List (Str × Nat)) (σ : St) (a : Addr) (H : Hp) (Q : VK) : Prop :=
  ∃ W : Nat → Nat → Hp → Prop, (∃ m, W 0 m (upd H a (.lst []))) ∧ ∀ i m H2, W i m H2 → (J.stop i H2 ∧ Q (.ref a) H2) ∨
    (J.go i H2 ∧ ∃ N : Hp → Prop, (∀ H', N H' → ∃ m', m' < m ∧ W (i + 1) m' H') ∧ ∀ (ys : St) x H3, ys.length = n → J.yld i H2 x H3 →
      g x (ys ++ frees fr σ) H3 fun σ4 H4 => (∃ ys' : St, ys'.length = n ∧ σ4 = ys' ++ frees fr σ) ∧ tt σ4 H4 (outTo a N))
noncomputable def tCompG (wi : TI) (g : TG) (tt : TOx) (n : Nat) (fr : List (Str × Nat)) : TE := fun σ H Q => wi σ H fun J H1 => ∀ a, H1 a = none → CompWG J g tt n fr σ a H1 Q
section
variable {X : Cx} {sc scope : Scope} {xs : List Str} {fr : List (Str × Nat)} {elt tg iter : Expr} {ifs : List Expr} {g : TG} {tt : TOx}
theorem comp_coreG {pins : List (Addr × Obj)} {σ : St} {H : Hp} {s : Shared} {pos : Pos} {J : It} {fp : List Addr} {it : Addr} {tn : Nat → Heap → Prop} {Q : VK} {RR : Value → Addr → Result → Shared → Prop} {E : Value → Shared → Prop}
    (c : CompOkG X sc scope xs fr) (hc : X.calm = true) (hifs : ifs.length ≤ 1) (I : Inv X pins σ H s) (T : Turn X.prog X.w X.K tg J fp it tn) (t0 : tn 0 s.heap) (hf : ∀ b ∈ fp, FpOk X pins H b)
    (hg : ∀ (s₃ : Shared) (H₃ : Hp) (fp : List Addr), (cxCompG X scope (xs ++ fr.map (·.1)) s₃ H₃ fp).env.scope = relab sc scope → PG (cxCompG X scope (xs ++ fr.map (·.1)) s₃ H₃ fp) tg g)
    (he : ∀ (s₃ : Shared) (H₃ : Hp) (fp : List Addr), (cxCompG X scope (xs ++ fr.map (·.1)) s₃ H₃ fp).env.scope = relab sc scope → POx (cxCompG X scope (xs ++ fr.map (·.1)) s₃ H₃ fp) elt ifs tt)
    (hw : ∀ a, H a = none → CompWG J g tt xs.length fr σ a H Q)
    (hRR : ∀ a C H' s' m, s'.heap.Ns C m → Inv X pins σ H' s' → FpOk X pins H' C → Q (.ref a) H' → RR (.ref a) C (.ok .next) s') :
    wpAny (model X.prog X.w) X.A (newList []) (fun acc s₃ => wpAny (model X.prog X.w) X.A (newFunctionEnv scope X.env.globals (clOf X.env scope.names []) [] X.env.qual none .none (some X.env)) (fun cenv s₄ =>
      codeAny (model X.prog X.w) X.A (.compStart (.ListComp elt [⟨tg, iter, ifs, 0⟩] scope pos) 0 (.ref it) acc { cenv with scope := relabel scope X.env }) (RR acc cenv.locals) s₄) E s₃) E s := by
  obtain ⟨W, ⟨m0, w0⟩, turn⟩ := hw s.heap.objs.size I.fresh
  refine wpAny_newObj_type (newEnv_own ?_)
  have I3 : Inv X pins σ (upd H s.heap.objs.size (.lst [])) { s with heap := s.heap.push { cls := .type "list", dict := none, data := .seq ([] : List Value).toArray } } := I.lnew (ys := []) (its := []) (t' := s.toks) .nil (Nat.zero_le _)
  have kp : ∀ b o, s.heap.get? b = some o → (s.heap.push { cls := .type "list", dict := none, data := .seq ([] : List Value).toArray }).get? b = some o := fun b o e => Heap.get?_push_of_some _ e
  have un0 : Un (frs X.stack) fp H (upd H s.heap.objs.size (.lst [])) s.heap (s.heap.push { cls := .type "list", dict := none, data := .seq ([] : List Value).toArray }) := Un.laid kp (Nat.le_refl _) I.fresh
  dsimp only
  generalize hH2 : s.heap.push { cls := .type "list", dict := none, data := .seq ([] : List Value).toArray } = hp2 at I3 kp un0 ⊢
  have hsz : s.heap.objs.size ≤ hp2.objs.size := by rw [← hH2, Heap.size_push]; exact Nat.le_succ _
  have ft : ∀ b ∈ fp, ∃ o, s.heap.get? b = some o := fun b hb => let ⟨o, e, _⟩ := T.obj _ _ t0 b hb; ⟨o, e⟩
  have nea : ∀ b ∈ fp, b ≠ s.heap.objs.size := fun b hb => let ⟨_, e⟩ := ft b hb; Nat.ne_of_lt (Heap.lt_size e)
  have f3 : ∀ b ∈ fp, FpOk X pins (upd H s.heap.objs.size (.lst [])) b ∧ ∃ o, hp2.get? b = some o := fun b hb => by
    obtain ⟨o, e⟩ := ft b hb
    exact ⟨⟨by rw [upd_ne (nea b hb)]; exact (hf b hb).1, (hf b hb).2⟩, o, kp b o e⟩
  have J0 := comp_startG c I3 f3
  have k4 : ∀ b o, hp2.get? b = some o → (pushCells (hp2.push { cls := .type "dict", data := .dict #[] }) scope.names).get? b = some o := fun b o e => pushCells_keeps _ _ b o (Heap.get?_push_of_some _ e)
  have t4 : tn 0 (pushCells (hp2.push { cls := .type "dict", data := .dict #[] }) scope.names) := T.keep 0 _ _ t0 fun b hb o e => k4 b o (kp b o e)
  have esc : ∀ (s₃ : Shared) (H₃ : Hp) (fp : List Addr), (cxCompG X scope (xs ++ fr.map (·.1)) s₃ H₃ fp).env.scope = relab sc scope := fun _ _ _ => relab_is c.hsc
  have stat : ∀ {H' : Hp}, (∀ b ∈ fp, H' b = none) → ∀ b ∈ fp, FpOk (cxCompG X scope (xs ++ fr.map (·.1)) { s with heap := hp2 } (upd H s.heap.objs.size (.lst [])) fp) [] H' b := fun hn b hb => by
    obtain ⟨e1, e2⟩ := J0.ok.exf b hb
    exact ⟨hn b hb, e1, J0.ok.exfs b hb, .inl hb, e2, fun p hp => absurd (show p ∈ ([] : List (Addr × Obj)) from hp) (by simp)⟩
  have loop : codeAny (model X.prog X.w) X.A (.compLoop (.ListComp elt [⟨tg, iter, ifs, 0⟩] scope pos) 0 (.ref it) (.ref s.heap.objs.size) (compEnvC scope (cellsFrom (hp2.objs.size + 1) scope.names (clOf X.env scope.names [])) hp2.objs.size X.env))
      (RR (.ref s.heap.objs.size) hp2.objs.size) { s with heap := pushCells (hp2.push { cls := .type "dict", data := .dict #[] }) scope.names } := by
    refine codeAny_compLoop_gen (fun n s' => ∃ i, ∃ ys : St, ∃ H', ys.length = xs.length ∧ Inv (cxCompG X scope (xs ++ fr.map (·.1)) { s with heap := hp2 } (upd H s.heap.objs.size (.lst [])) fp) [] (ys ++ frees fr σ) H' s' ∧ tn i s'.heap ∧ (∀ b ∈ fp, H' b = none) ∧ W i n H')
      ?_ m0 ⟨0, xs.map fun _ => none, _, by simp, J0, t4, fun b hb => (f3 b hb).1.1, w0⟩ hifs
    rintro n s3 ⟨i, ys, H3, hys, K3, st3, fr3, w3⟩
    rcases turn i n H3 w3 with ⟨stop, qn⟩ | ⟨go, N, hN, step⟩
    · refine thn (T.done (cxCompG X scope (xs ++ fr.map (·.1)) { s with heap := hp2 } (upd H s.heap.objs.size (.lst [])) fp) rfl rfl rfl hc i [] s3 _ H3 (fun _ _ => False) K3 (stat fr3) st3 stop) fun r s4 ⟨hr, K4⟩ => ?_
      subst hr
      obtain ⟨m4, hn4, _⟩ := K4.loc
      have K5 : Inv X pins σ H3 s4 := I.call' K4.os (un0.trans K4.base) K4.hok K4.bare fun b hb => let f := hf b hb; ⟨f.2.2.2.1, f.2.1, f.2.2.2.2.1, f.2.2.2.2.2⟩
      exact hRR _ _ H3 s4 m4 hn4 K5 (I.fpOk hsz K4.free) qn
    · refine thn (T.item (cxCompG X scope (xs ++ fr.map (·.1)) { s with heap := hp2 } (upd H s.heap.objs.size (.lst [])) fp) rfl rfl rfl hc i [] s3 _ H3 (fun _ _ => False) K3 (stat fr3) st3 go) fun r s4 ⟨u, hr, h4⟩ => ?_
      subst hr
      refine thn h4 fun _ s5 ⟨y, H5, K5, r5, y5, st5, fr5⟩ => ?_
      have K5' := K5.pinned (stat fr5) (T.obj _ _ st5)
      refine thn (hg _ _ _ (esc _ _ _) _ s5 _ H5 y u _ K5' r5 (step ys y H5 hys y5)) fun _ s6 ⟨σ6, H6, K6, ⟨ys6, hl6, e6⟩, q6⟩ => ?_
      subst e6
      have fin : ∀ (s8 : Shared) (H8 : Hp), Inv (cxCompG X scope (xs ++ fr.map (·.1)) { s with heap := hp2 } (upd H s.heap.objs.size (.lst [])) fp) ([] ++ pinsAt fp s5.heap) (ys6 ++ frees fr σ) H8 s8 → N H8 →
          ∃ m, m < n ∧ ∃ i, ∃ ys : St, ∃ H', ys.length = xs.length ∧ Inv (cxCompG X scope (xs ++ fr.map (·.1)) { s with heap := hp2 } (upd H s.heap.objs.size (.lst [])) fp) [] (ys ++ frees fr σ) H' s8 ∧ tn i s8.heap ∧ (∀ b ∈ fp, H' b = none) ∧ W i m H' := by
        intro s8 H8 K8 n8
        obtain ⟨m', hm, w8⟩ := hN H8 n8
        refine ⟨m', hm, i + 1, ys6, H8, hl6, K8.unpinned, T.keep _ _ _ st5 fun b hb o e => (K8.pin (b, o) (List.mem_append_right _ (List.mem_append_right _ (mem_pinsAt hb e)))).1, fun b hb => ?_, w8⟩
        obtain ⟨o, e, d⟩ := T.obj _ _ st5 b hb
        exact (K8.pin (b, o) (List.mem_append_right _ (List.mem_append_right _ (mem_pinsAt hb e)))).2.1
      have h7 := he _ _ _ (esc _ _ _) _ s6 _ H6 _ K6 q6
      have mono : ∀ {Q Q' : Option Value → Shared → Prop} {E : Value → Shared → Prop} {s' : Shared} {env : Env}, (∀ o s1, Q o s1 → Q' o s1) → turnOf elt ifs env (model X.prog X.w) X.A Q E s' → turnOf elt ifs env (model X.prog X.w) X.A Q' E s' := by
        intro Q Q' E s' env hq ht
        unfold turnOf at ht ⊢
        match ifs, hifs, ht with
        | [], _, ht => exact wpAny_mono ht (fun x s1 q => hq _ _ q) fun _ _ e => e
        | [c], _, ht =>
          refine wpAny_mono ht (fun b s1 q => ?_) fun _ _ e => e
          split at q
          · rename_i hb; rw [if_pos hb]; exact wpAny_mono q (fun x s2 q => hq _ _ q) fun _ _ e => e
          · rename_i hb; rw [if_neg hb]; exact hq _ _ q
        | _ :: _ :: _, hifs, _ => exact absurd hifs (by simp)
      refine mono (fun o s7 ⟨z7, H7, K7, r7, q7⟩ => ?_) h7
      cases o with
      | none =>
        cases z7 with
        | none => exact fin s7 H7 K7 q7
        | some z => exact r7.elim
      | some v7 =>
        cases z7 with
        | none => exact r7.elim
        | some z7 =>
          obtain ⟨zs, hz, hl, w7⟩ := q7
          exact thn (mt_append _ s7 _ H7 (.ref s.heap.objs.size) [z7] (.ref s.heap.objs.size) [v7] (fun _ H8 => N H8) K7 rfl (.cons r7 .nil) ⟨_, zs, z7, rfl, rfl, hz, hl, w7⟩) fun _ s8 ⟨_, H8, K8, _, n8⟩ => fin s8 H8 K8 n8
  exact codeAny_compStart_list loop (T.self _ 0 _ _ _ t4 loop)
variable {wi : TI}
theorem pe_compG {pos : Pos} (c : CompOkG X sc scope xs fr) (hc : X.calm = true) (hi : PI X tg iter wi)
    (hg : ∀ (s₃ : Shared) (H₃ : Hp) (fp : List Addr), (cxCompG X scope (xs ++ fr.map (·.1)) s₃ H₃ fp).env.scope = relab sc scope → PG (cxCompG X scope (xs ++ fr.map (·.1)) s₃ H₃ fp) tg g)
    (he : ∀ (s₃ : Shared) (H₃ : Hp) (fp : List Addr), (cxCompG X scope (xs ++ fr.map (·.1)) s₃ H₃ fp).env.scope = relab sc scope → POx (cxCompG X scope (xs ++ fr.map (·.1)) s₃ H₃ fp) elt ifs tt)
    (hifs : ifs.length ≤ 1 := by exact Nat.le_of_ble_eq_true rfl) (hs : ∀ x, foldedSetIterable iter X.env x = pure x := by intro _; rfl) : PE X (.ListComp elt [⟨tg, iter, ifs, 0⟩] scope pos) (tCompG wi g tt xs.length fr) := by
  intro pins s σ H Q I h
  rw [eval_ListComp]
  refine wpAny_comprehension_free (use := none) rfl hs (closure_is (c.cells I)) c.kind c.loc (thn (hi pins s σ H _ I h) fun v s1 h1 => thn h1 fun itv s2 h2 => ?_)
  obtain ⟨it, fp, tn, J, H2, e, I2, T, t2, f2, hw⟩ := h2
  subst e
  refine comp_coreG (RR := fun acc C => compPost (model X.prog X.w) X.A X.xe none (EP X pins σ Q) acc C) c hc hifs I2 T t2 f2 hg he hw ?_
  intro a C H' s' m hn K f q
  exact ⟨m, hn, fun h' hs' => ⟨.ref a, H', K.turned (t' := s'.toks) (fun b o hb e => (hs'.2 b hb).trans e) f.1 f.2.1 f.2.2.2.1 f.2.2.2.2.1 f.2.2.2.2.2, rfl, q⟩⟩
theorem ps_setCG {pos spos py : Pos} {y : Str} {i : Nat} (c : CompOkG X sc scope xs fr) (hc : X.calm = true) (hN : X.N.Nodup) (hy : X.N[i]? = some y) (hl : X.env.scope.names.lookup y = some .local) (hi : PI X tg iter wi)
    (hg : ∀ (s₃ : Shared) (H₃ : Hp) (fp : List Addr), (cxCompG X scope (xs ++ fr.map (·.1)) s₃ H₃ fp).env.scope = relab sc scope → PG (cxCompG X scope (xs ++ fr.map (·.1)) s₃ H₃ fp) tg g)
    (he : ∀ (s₃ : Shared) (H₃ : Hp) (fp : List Addr), (cxCompG X scope (xs ++ fr.map (·.1)) s₃ H₃ fp).env.scope = relab sc scope → POx (cxCompG X scope (xs ++ fr.map (·.1)) s₃ H₃ fp) elt ifs tt)
    (hsw : swapsWith (.ListComp elt [⟨tg, iter, ifs, 0⟩] scope pos) (some (.Name y py)) spos.line X.env = pure true := by rfl)
    (hifs : ifs.length ≤ 1 := by exact Nat.le_of_ble_eq_true rfl) (hs : ∀ x, foldedSetIterable iter X.env x = pure x := by intro _; rfl) : PS X (.Assign [.Name y py] (.ListComp elt [⟨tg, iter, ifs, 0⟩] scope pos) spos) (tSetC i (tCompG wi g tt xs.length fr)) := by
  intro pins s σ H D I h
  rw [exec_Assign_Name_used _ _ _ _ hsw]
  refine wpAny_bind (wpAny_standAt (wpAny_bind ?_))
  show wpAny _ _ (do let _ ← comprehension (.ListComp elt [⟨tg, iter, ifs, 0⟩] scope pos) scope X.env _ (newList []) false (eval iter X.env) (some (assign (.Name y py) X.env))) _ _ s
  refine wpAny_bind (wpAny_mono (wpAny_comprehension_free (use := some (assign (.Name y py) X.env)) (Q := fun _ s' => SP X pins D .next s') rfl hs (closure_is (c.cells I)) c.kind c.loc
    (thn (hi pins s σ H _ I h) fun v s1 h1 => thn h1 fun itv s2 h2 => ?_)) (fun _ s' hq => wpAny_pure (wpAny_pure hq)) fun _ _ e => e)
  obtain ⟨it, fp, tn, J, H2, e, I2, T, t2, f2, hw⟩ := h2
  subst e
  refine comp_coreG (RR := fun acc C => compPost (model X.prog X.w) X.A X.xe (some (assign (.Name y py) X.env)) (fun _ s' => SP X pins D .next s') acc C) (Q := fun v H1 => D.nx (σ.set i (some v)) H1) c hc hifs I2 T t2 f2 hg he hw ?_
  intro a C H' s' m hn K f q
  show wpAny _ _ (assign (.Name y py) X.env (.ref a)) _ _ _
  refine wpAny_assign_Name (store_ok2 K hN hy (.inl hl) (show RelV (.ref a) (.ref a) from rfl) (fun s'' K2 ⟨b, sb, hb⟩ => ?_) (.inr hl))
  have hCb : C ≠ b := by
    rcases hb with e | e
    · rw [e]; exact f.2.1
    · exact Ne.symm (f.2.2.2.2.1 y b e)
  refine ⟨m, hn.sameBut sb hCb, fun h' hs' => ?_⟩
  exact ⟨_, H', K2.turned (t' := s''.toks) (fun b o hb e => (hs'.2 b hb).trans e) f.1 f.2.1 f.2.2.2.1 f.2.2.2.2.1 f.2.2.2.2.2, q⟩
end
noncomputable def compGB (sc : Scope) (N : List Str) (scope : Scope) (fr : List (Str × Nat)) : Bool :=
  decide (scope.kind = .function) && decide ((scope.names.map (·.1)).Nodup) && decide (∀ y ∈ scope.names, y.2 = .free → sc.names.lookup y.1 = some .cell ∨ sc.names.lookup y.1 = some .free) &&
  decide (∀ y ∈ scope.names, y.2 = .local → scope.names.lookup y.1 = some .local) && decide (∀ p ∈ fr, N[p.2]? = some p.1 ∧ scope.names.lookup p.1 = some .free)
theorem compG_ok {X : Cx} {sc scope : Scope} {N xs : List Str} {fr : List (Str × Nat)} (h1 : X.env.scope = sc) (h2 : X.N = N) (h : compGB sc N scope fr = true) : CompOkG X sc scope xs fr := by
  unfold compGB at h
  simp only [Bool.and_eq_true, decide_eq_true_eq] at h
  obtain ⟨⟨⟨⟨e1, e2⟩, e3⟩, e4⟩, e5⟩ := h
  subst h2
  exact ⟨h1, e1, e2, e3, e4, e5⟩
/-- a name of a block's own, in slot i -/
noncomputable def nameB (sc : Scope) (N : List Str) (i : Nat) (x : Str) : Bool := decide (N.Nodup) && decide (N[i]? = some x) && (decide (sc.names.lookup x = some .local))
theorem pg_own {X : Cx} {sc : Scope} {N : List Str} {i : Nat} {x : Str} {pos : Pos} (h1 : X.env.scope = sc) (h2 : X.N = N) (h : nameB sc N i x = true) : PG X (.Name x pos) (gName i) := by
  unfold nameB at h
  simp only [Bool.and_eq_true, decide_eq_true_eq] at h
  subst h1 h2
  exact pg_name h.1.1 h.1.2 (.inl h.2) (.inr h.2)
end L2

/-! ZIP, ENUMERATE, SUM. -/
namespace L2
open PySem PySem.Spec PyProof.Rows
/-- lists: false; tuples: true -/
noncomputable def SqB (b : Bool) (K : PySem.W.Frag) (H : Hp) (a : Addr) (xs : List V) : Prop := match b with | false => SqL K H a xs | true => SqT K H a xs
noncomputable def ItB (b : Bool) (h : Heap) (it a : Addr) (i : Nat) : Prop := match b with | false => h.IsListIter it a i | true => h.IsTupleIter it a i
noncomputable def seqB (b : Bool) (h : Heap) (a : Addr) (its : Array Value) : Prop := match b with | false => h.IsList a its | true => h.IsTuple a its
theorem ItB.at {b : Bool} {h h' : Heap} {it a : Addr} {i : Nat} (x : ItB b h it a i) (e : ∀ o, h.get? it = some o → h'.get? it = some o) : ItB b h' it a i := by
  cases b
  · exact Heap.IsListIter.at x e
  · exact Heap.IsTupleIter.at x e
theorem seqB.at {b : Bool} {h h' : Heap} {a : Addr} {its : Array Value} (x : seqB b h a its) (e : ∀ o, h.get? a = some o → h'.get? a = some o) : seqB b h' a its := by
  cases b
  · exact Heap.IsList.at x e
  · obtain ⟨o, ho, r⟩ := x
    exact ⟨o, e o ho, r⟩
theorem ItB.lt {b : Bool} {h : Heap} {it a : Addr} {i : Nat} (x : ItB b h it a i) : ∃ o, h.get? it = some o ∧ ∀ v, o.data ≠ .cell v := by
  cases b
  · obtain ⟨o, e, c, d⟩ := x
    exact ⟨o, e, fun v z => by rw [d] at z; cases z⟩
  · obtain ⟨o, e, c, d⟩ := x
    exact ⟨o, e, fun v z => by rw [d] at z; cases z⟩
section
variable {prog : Program} {w : World} {A : Around} {E : Value → Shared → Prop} {s : Shared}
/-! zip -/
end
end L2
namespace L2
open PySem PySem.Spec PyProof.Rows
section
variable {X : Cx} {pins : List (Addr × Obj)} {σ : St} {H : Hp} {s : Shared} {h' : Heap}
theorem Inv.seqB {b : Bool} {a : Addr} {xs : List V} (I : Inv X pins σ H s) (h : SqB b X.K H a xs) : ∃ its : List Value, Vals xs its ∧ L2.seqB b s.heap a its.toArray := by
  cases b
  · obtain ⟨its, rv, p, _⟩ := I.list h
    exact ⟨its, rv, p.isList⟩
  · obtain ⟨its, rv, p, _⟩ := I.tuple h
    exact ⟨its, rv, p⟩
end
section
variable {X : Cx}
end
end L2

/-! ENUMERATE, SUM. -/
namespace L2
open PySem PySem.Spec PyProof.Rows
open AutoSeq1 (wpAny_loadPart')
set_option maxRecDepth 100000 in
section
variable {X : Cx}
end
end L2

/-! SEQUENCES OF EITHER KIND; the forms of comprehensions. -/
namespace L2
open PySem PySem.Spec PyProof.Rows
theorem SqB.or {b : Bool} {K : PySem.W.Frag} {H : Hp} {a : Addr} {xs : List V} (h : SqB b K H a xs) : SqL K H a xs ∨ SqT K H a xs := by
  cases b
  · exact .inl h
  · exact .inr h
theorem SqB.up {b : Bool} {K : PySem.W.Frag} {H H' : Hp} {a : Addr} {xs : List V} (h : SqB b K H a xs) (s : Same H H') : SqB b K H' a xs := by
  cases b
  · exact s.seq h
  · exact s.tup h
theorem SqB.lst {K : PySem.W.Frag} {H : Hp} {a : Addr} {xs : List V} (h : H a = some (.lst xs)) : SqB false K H a xs := SqL.of h
theorem SqB.tup {K : PySem.W.Frag} {H : Hp} {a : Addr} {xs : List V} (h : H a = some (.tup xs)) : SqB true K H a xs := SqT.of h
noncomputable def Its (K : PySem.W.Frag) (b : Bool) (a : Addr) : It := match b with | false => Itl K a | true => Itt K a
theorem Its.go {K : PySem.W.Frag} {b : Bool} {a : Addr} {xs : List V} {x : V} {i : Nat} {H : Hp} (h : SqB b K H a xs) (e : xs[i]? = some x) : (Its K b a).go i H := by
  cases b
  · exact ⟨xs, x, h, e⟩
  · exact ⟨xs, x, h, e⟩
theorem Its.stop {K : PySem.W.Frag} {b : Bool} {a : Addr} {xs : List V} {i : Nat} {H : Hp} (h : SqB b K H a xs) (e : xs.length ≤ i) : (Its K b a).stop i H := by
  cases b
  · exact ⟨xs, h, e⟩
  · exact ⟨xs, h, e⟩
theorem Its.yld {K : PySem.W.Frag} {b : Bool} {a : Addr} {xs : List V} {i : Nat} {H H' : Hp} {x : V} (h : SqB b K H a xs) (y : (Its K b a).yld i H x H') : H' = H ∧ xs[i]? = some x := by
  cases b
  · exact ⟨y.1, y.2 xs h⟩
  · exact ⟨y.1, y.2 xs h⟩
section
variable {X : Cx}
noncomputable def iSeq (K : PySem.W.Frag) (tl : TE) : TI := fun σ H R => tl σ H fun x H1 => ∃ b a, x = .ref a ∧ (∃ xs, SqB b K H1 a xs) ∧ R (Its K b a) H1
theorem pi_seq {tg l : Expr} {tl : TE} (hl : PE X l tl) : PI X tg l (iSeq X.K tl) := by
  intro pins s σ H R I h
  refine thn (hl pins s σ H _ I h) fun v s1 ⟨x, H1, I1, r1, q1⟩ => ?_
  obtain ⟨b, a, e, ⟨xs, hq⟩, q⟩ := q1
  subst e
  cases r1
  cases b
  · obtain ⟨its, rv, p, hz⟩ := I1.list hq
    refine wpAny_pyIter_list p.isList ?_
    refine ⟨s1.heap.objs.size, [s1.heap.objs.size], _, _, H1, rfl, I1.kept (t' := s1.toks) fun b o e => Heap.get?_push_of_some _ e, turn_list a _, ⟨_, Heap.get?_push_size _ rfl, rfl, rfl⟩, fun b hb => ?_, q⟩
    have e : b = s1.heap.objs.size := by simpa using hb
    subst e
    exact I1.fpOk (Nat.le_refl _) (I1.hok.fresh (Nat.le_refl _))
  · obtain ⟨its, rv, p, hz⟩ := I1.tuple hq
    refine wpAny_pyIter_tuple (show s1.heap.IsTuple a its.toArray from p) ?_
    refine ⟨s1.heap.objs.size, [s1.heap.objs.size], _, _, H1, rfl, I1.kept (t' := s1.toks) fun b o e => Heap.get?_push_of_some _ e, turn_tuple a _, ⟨_, Heap.get?_push_size _ rfl, rfl, rfl⟩, fun b hb => ?_, q⟩
    have e : b = s1.heap.objs.size := by simpa using hb
    subst e
    exact I1.fpOk (Nat.le_refl _) (I1.hok.fresh (Nat.le_refl _))
noncomputable def rIxB (K : PySem.W.Frag) : R2 := fun x y H Q => ∃ b p xs i v, x = .ref p ∧ y = .int i ∧ SqB b K H p xs ∧ atI xs i = some v ∧ Q v H
theorem ix_B : IxR X (rIxB X.K) := by
  intro value slice pins s σ H x y v u Q I rx ry h
  obtain ⟨b, p, xs, i, v', e1, e2, hq, ha, q⟩ := h
  cases b
  · exact ix_list value slice pins s σ H x y v u Q I rx ry ⟨p, xs, i, v', e1, e2, hq, ha, q⟩
  · exact ix_tup value slice pins s σ H x y v u Q I rx ry ⟨p, xs, i, v', e1, e2, hq, ha, q⟩
noncomputable def rLenB (K : PySem.W.Frag) : List V → Hp → VK → Prop := fun xs H Q => ∃ b p ys, xs = [.ref p] ∧ SqB b K H p ys ∧ Q (.int ys.length) H
theorem call_lenB : CallR X (.builtin "len") (rLenB X.K) := by
  intro pins s σ H xs us Q I r h
  obtain ⟨b, p, ys, e, hq, q⟩ := h
  exact call_len_seq pins s σ H xs us Q I r ⟨p, ys, e, hq.or, q⟩
noncomputable def rTupB (K : PySem.W.Frag) : List V → Hp → VK → Prop := fun xs H Q => ∃ p ys, xs = [.ref p] ∧ ((SqL K H p ys ∧ ∀ l, H l = none → Q (.ref l) (upd H l (.tup ys))) ∨ (SqT K H p ys ∧ Q (.ref p) H))
theorem call_tupB : CallR X (.type "tuple") (rTupB X.K) := call_tuple_of
end
/-! ### for, over a sequence that stays -/
theorem for_seq {K : PySem.W.Frag} {b : Bool} {a : Addr} {xs : List V} {g : TG} {tb : TS} {D : Ends} {σ : St} {H : Hp} (Pv : Nat → St → Hp → Prop) (h0 : Pv 0 σ H) (hl : ∀ i σ H, i ≤ xs.length → Pv i σ H → SqB b K H a xs)
    (hs : ∀ i x σ H, xs[i]? = some x → Pv i σ H → g x σ H fun σ2 H2 => tb { D with nx := Pv (i + 1), ct := Pv (i + 1), bk := D.nx } σ2 H2) (hd : ∀ σ H, Pv xs.length σ H → D.nx σ H) :
    ∃ W : Nat → Nat → St → Hp → Prop, (∃ m, W 0 m σ H) ∧ ∀ i m σ H, W i m σ H →
      ((Its K b a).stop i H ∧ D.nx σ H) ∨ ((Its K b a).go i H ∧ ∃ N : St → Hp → Prop, (∀ σ' H', N σ' H' → ∃ m', m' < m ∧ W (i + 1) m' σ' H') ∧ ∀ x H', (Its K b a).yld i H x H' → g x σ H' fun σ2 H2 => tb { D with nx := N, ct := N, bk := D.nx } σ2 H2) := by
  cases b
  · exact for_list Pv h0 hl hs hd
  · exact for_tup Pv h0 hl hs hd
/-! ### comprehensions -/
/-- all that stood but at a stands still -/
noncomputable def SameX (a : Addr) (H H' : Hp) : Prop := ∀ b o, b ≠ a → H b = some o → H' b = some o
theorem Same.x {a : Addr} {H H' : Hp} (s : Same H H') : SameX a H H' := fun b o _ e => s b o e
section
variable {J : It} {g : TG} {tt : TOx} {te : TE} {n : Nat} {fr : List (Str × Nat)} {σ : St} {a : Addr} {H : Hp} {Q : VK} {K : PySem.W.Frag}
/-- P i zs H: behind i turns the list is zs -/
theorem cg_inv (len : Nat) (P : Nat → List V → Hp → Prop) (ha : H a = none) (hz : len ≤ 1000) (h0 : P 0 [] (upd H a (.lst [])))
    (hl : ∀ i zs H1, P i zs H1 → zs.length ≤ i) (mono : ∀ i zs H1 H2, P i zs H1 → SameX a H1 H2 → P i zs H2)
    (hgo : ∀ i H1, i < len → Same H H1 → J.go i H1) (hstop : ∀ H1, Same H H1 → J.stop len H1)
    (he : ∀ i H1 zs, i < len → Same H H1 → H1 a = some (.lst zs) → P i zs H1 → ∀ (ys : St) x H3, ys.length = n → J.yld i H1 x H3 → ∀ C : Option V → Hp → Prop,
      (∀ y H2, Same H1 H2 → P (i + 1) (zs ++ [y]) H2 → C (some y) H2) → (∀ H2, Same H1 H2 → P (i + 1) zs H2 → C none H2) →
      g x (ys ++ frees fr σ) H3 fun σ4 H4 => (∃ ys' : St, ys'.length = n ∧ σ4 = ys' ++ frees fr σ) ∧ tt σ4 H4 C)
    (hd : ∀ H1 ys, Same H H1 → H1 a = some (.lst ys) → P len ys H1 → Q (.ref a) H1) : CompWG J g tt n fr σ a H Q := by
  refine ⟨fun i m H1 => m = len - i ∧ i ≤ len ∧ Same H H1 ∧ ∃ zs, H1 a = some (.lst zs) ∧ P i zs H1, ⟨len, by simp, Nat.zero_le _, Same.new ha, [], upd_same, h0⟩, ?_⟩
  rintro i m H1 ⟨rfl, hi, s1, zs, ez, p⟩
  by_cases hlt : i < len
  · refine .inr ⟨hgo i H1 hlt s1, fun H' => i + 1 ≤ len ∧ Same H H' ∧ ∃ zs, H' a = some (.lst zs) ∧ P (i + 1) zs H', fun H' q => ⟨len - (i + 1), by omega, rfl, q⟩, fun ys x H3 hys hy => ?_⟩
    refine he i H1 zs hlt s1 ez p ys x H3 hys hy _ (fun y H2 s2 p2 => ?_) fun H2 s2 p2 => ?_
    · refine ⟨zs, s2 _ _ ez, small1000 (by have := hl i zs H1 p; omega), hlt, Same.over ha (s1.trans s2), _, upd_same, mono _ _ _ _ p2 fun b o hb e => ?_⟩
      rw [upd_ne hb]
      exact e
    · exact ⟨hlt, s1.trans s2, zs, s2 _ _ ez, p2⟩
  · have e : i = len := by omega
    subst e
    exact .inl ⟨hstop H1 s1, hd H1 zs s1 ez p⟩
/-- R i y H: the element of turn i is y -/
theorem cg_rel (len : Nat) (R : Nat → V → Hp → Prop) (ha : H a = none) (hz : len ≤ 1000) (mono : ∀ i y H1 H2, R i y H1 → SameX a H1 H2 → R i y H2)
    (hgo : ∀ i H1, i < len → Same H H1 → J.go i H1) (hstop : ∀ H1, Same H H1 → J.stop len H1)
    (he : ∀ i H1 zs, i < len → Same H H1 → H1 a = some (.lst zs) → ∀ (ys : St) x H3, ys.length = n → J.yld i H1 x H3 → ∀ Q' : VK, (∀ y H2, Same H1 H2 → R i y H2 → Q' y H2) →
      g x (ys ++ frees fr σ) H3 fun σ4 H4 => (∃ ys' : St, ys'.length = n ∧ σ4 = ys' ++ frees fr σ) ∧ te σ4 H4 Q')
    (hd : ∀ H1 ys, Same H H1 → H1 a = some (.lst ys) → ys.length = len → (∀ j y, ys[j]? = some y → R j y H1) → Q (.ref a) H1) : CompWG J g (tEl te) n fr σ a H Q := by
  refine cg_inv len (fun i zs H1 => zs.length = i ∧ ∀ j y, zs[j]? = some y → R j y H1) ha hz ⟨rfl, fun j y e => by simp at e⟩ (fun i zs H1 p => Nat.le_of_eq p.1) (fun i zs H1 H2 p s => ⟨p.1, fun j y e => mono _ _ _ _ (p.2 j y e) s⟩) hgo hstop ?_ fun H1 ys s e p => hd H1 ys s e p.1 p.2
  intro i H1 zs hi s1 ez p ys x H3 hys hy C hC _
  refine he i H1 zs hi s1 ez ys x H3 hys hy _ fun y H2 s2 r => hC y H2 s2 ⟨by simp [p.1], fun j z e => ?_⟩
  by_cases hj : j < zs.length
  · rw [List.getElem?_append_left hj] at e
    exact mono _ _ _ _ (p.2 j z e) s2.x
  · rw [List.getElem?_append_right (by omega)] at e
    have e0 : j - zs.length = 0 := by
      by_cases h0 : j - zs.length = 0
      · exact h0
      · rw [List.getElem?_eq_none (by simp; omega)] at e; cases e
    rw [e0] at e
    cases Option.some.inj e
    have : j = i := by have := p.1; omega
    rw [this]
    exact r
/-- a name over a range -/
theorem cg_range {lo : Int} {len : Nat} (R : Nat → V → Hp → Prop) (ha : H a = none) (hz : len ≤ 1000) (mono : ∀ i y H1 H2, R i y H1 → SameX a H1 H2 → R i y H2)
    (he : ∀ (i : Nat) H1 zs, i < len → Same H H1 → H1 a = some (.lst zs) → ∀ Q' : VK, (∀ y H2, Same H1 H2 → R i y H2 → Q' y H2) → te (some (.int (lo + i)) :: frees fr σ) H1 Q')
    (hd : ∀ H1 ys, Same H H1 → H1 a = some (.lst ys) → ys.length = len → (∀ j y, ys[j]? = some y → R j y H1) → Q (.ref a) H1) : CompWG (Itr lo len) (gName 0) (tEl te) 1 fr σ a H Q := by
  refine cg_rel len R ha hz mono (fun i H1 hi s => hi) (fun H1 s => Nat.le_refl _) ?_ hd
  intro i H1 zs hi s1 ez ys x H3 hys hy Q' hQ'
  obtain ⟨e1, e2⟩ := hy
  subst e1 e2
  match ys, hys with
  | [o], _ => exact ⟨⟨[_], rfl, rfl⟩, he i H3 zs hi s1 ez Q' hQ'⟩
end
/-! ### rows of ints -/
/-- rows of ints at a: a list (false) or tuple (true) of lists or tuples -/
noncomputable def MatB (b1 b2 : Bool) (K : PySem.W.Frag) (H : Hp) (a : Addr) (rows : List (List Int)) : Prop := ∃ ps : List Addr, SqB b1 K H a (ps.map V.ref) ∧ ps.length = rows.length ∧ ∀ (i : Nat) (p : Addr) (r : List Int), ps[i]? = some p → rows[i]? = some r → SqB b2 K H p (r.map V.int)
theorem MatB.up {b1 b2 : Bool} {K : PySem.W.Frag} {H H' : Hp} {a : Addr} {rows : List (List Int)} (h : MatB b1 b2 K H a rows) (s : Same H H') : MatB b1 b2 K H' a rows := let ⟨ps, h1, h2, h3⟩ := h; ⟨ps, h1.up s, h2, fun i p r e1 e2 => (h3 i p r e1 e2).up s⟩
/-- a list of new lists of ints, at turn j of a comprehension that makes a -/
noncomputable def RowR (a : Addr) (f : Nat → List Int) (j : Nat) (y : V) (H : Hp) : Prop := ∃ p, y = .ref p ∧ p ≠ a ∧ H p = some (.lst ((f j).map V.int))
theorem RowR.mono {a : Addr} {f : Nat → List Int} (i : Nat) (y : V) (H1 H2 : Hp) (h : RowR a f i y H1) (s : SameX a H1 H2) : RowR a f i y H2 := let ⟨p, e, n, q⟩ := h; ⟨p, e, n, s _ _ n q⟩
theorem MatB.of {K : PySem.W.Frag} {H : Hp} {a : Addr} {f : Nat → List Int} {ys : List V} (h : H a = some (.lst ys)) (hr : ∀ (j : Nat) y, ys[j]? = some y → RowR a f j y H) : MatB false false K H a ((List.range ys.length).map f) := by
  have hp : ∃ ps : List Addr, ys = ps.map V.ref := by
    clear h
    have : ∀ (zs : List V) (k : Nat), (∀ (j : Nat) y, zs[j]? = some y → RowR a f (j + k) y H) → ∃ ps : List Addr, zs = ps.map V.ref := by
      intro zs
      induction zs with
      | nil => intro k _; exact ⟨[], rfl⟩
      | cons z r ih =>
        intro k hz
        obtain ⟨p, e, _⟩ := hz 0 z rfl
        obtain ⟨ps, e2⟩ := ih (k + 1) fun j y q => by
          have := hz (j + 1) y (by simpa using q)
          rwa [Nat.add_assoc, Nat.add_comm 1 k] at this
        exact ⟨p :: ps, by rw [e, e2]; rfl⟩
    exact this ys 0 hr
  obtain ⟨ps, rfl⟩ := hp
  refine ⟨ps, SqB.lst h, by simp, fun i p r e1 e2 => ?_⟩
  obtain ⟨p', e, _, q⟩ := hr i (.ref p) (by simp [e1])
  cases e
  have hi : i < ps.length := (List.getElem?_eq_some_iff.mp e1).1
  have : r = f i := by
    rw [List.getElem?_map, List.length_map, List.getElem?_range hi] at e2
    exact (Option.some.inj e2).symm
  rw [this]
  exact SqB.lst q
end L2

/-! TREES OF INTS as data: what == and != ask of them. -/
namespace L2
open PySem PySem.Spec PyProof.Rows
section
variable {K : PySem.W.Frag} {H : Hp} {x y : V} {d d' : PyData} {Q : VK}
end
/-- rows as data -/
noncomputable def seqD (b : Bool) (ds : List PyData) : PyData := match b with | false => .list ds | true => .tuple ds
theorem Dt.seqB {b : Bool} {K : PySem.W.Frag} {H : Hp} {a : Addr} {xs : List V} {ds : List PyData} (h : SqB b K H a xs) (hd : Dts K H xs ds) : Dt K H (.ref a) (seqD b ds) := by
  cases b
  · exact .lst h hd
  · exact .tup h hd
end L2

/-! SMALL WORDS, II; rows of whole numbers. -/
namespace L2
open PySem PySem.Spec PyProof.Rows
section
variable {wi : TI} {g : TG} {tt : TOx} {te : TE} {tc : TT} {n : Nat} {fr : List (Str × Nat)} {σ : St} {H : Hp} {Q : VK}
theorem compE_st (h : ∀ B : TE, B = te → wi σ H fun J H1 => ∀ a, H1 a = none → CompWG J g (tEl B) n fr σ a H1 Q) : tCompG wi g (tEl te) n fr σ H Q := h _ rfl
end
/-- a new list of new lists of ints -/
noncomputable def MatL (H : Hp) (a : Addr) (rows : List (List Int)) : Prop := ∃ ps : List Addr, H a = some (.lst (ps.map V.ref)) ∧ ps.length = rows.length ∧ ∀ (i : Nat) (p : Addr) (r : List Int), ps[i]? = some p → rows[i]? = some r → p ≠ a ∧ H p = some (.lst (r.map V.int))
theorem MatL.b {K : PySem.W.Frag} {H : Hp} {a : Addr} {rows : List (List Int)} (h : MatL H a rows) : MatB false false K H a rows := let ⟨ps, h1, h2, h3⟩ := h; ⟨ps, SqB.lst h1, h2, fun i p r e1 e2 => SqB.lst (h3 i p r e1 e2).2⟩
theorem MatL.up {H H' : Hp} {a : Addr} {rows : List (List Int)} (h : MatL H a rows) (s : Same H H') : MatL H' a rows := let ⟨ps, h1, h2, h3⟩ := h; ⟨ps, s _ _ h1, h2, fun i p r e1 e2 => ⟨(h3 i p r e1 e2).1, s _ _ (h3 i p r e1 e2).2⟩⟩
theorem MatL.of {H : Hp} {a : Addr} {f : Nat → List Int} {ys : List V} (h : H a = some (.lst ys)) (hr : ∀ (j : Nat) y, ys[j]? = some y → RowR a f j y H) : MatL H a ((List.range ys.length).map f) := by
  have hp : ∃ ps : List Addr, ys = ps.map V.ref := by
    clear h
    have : ∀ (zs : List V) (k : Nat), (∀ (j : Nat) y, zs[j]? = some y → RowR a f (j + k) y H) → ∃ ps : List Addr, zs = ps.map V.ref := by
      intro zs
      induction zs with
      | nil => intro k _; exact ⟨[], rfl⟩
      | cons z r ih =>
        intro k hz
        obtain ⟨p, e, _⟩ := hz 0 z rfl
        obtain ⟨ps, e2⟩ := ih (k + 1) fun j y q => by
          have := hz (j + 1) y (by simpa using q)
          rwa [Nat.add_assoc, Nat.add_comm 1 k] at this
        exact ⟨p :: ps, by rw [e, e2]; rfl⟩
    exact this ys 0 hr
  obtain ⟨ps, rfl⟩ := hp
  refine ⟨ps, h, by simp, fun i p r e1 e2 => ?_⟩
  obtain ⟨p', e, n, q⟩ := hr i (.ref p) (by simp [e1])
  cases e
  have hi : i < ps.length := (List.getElem?_eq_some_iff.mp e1).1
  have : r = f i := by
    rw [List.getElem?_map, List.length_map, List.getElem?_range hi] at e2
    exact (Option.some.inj e2).symm
  rw [this]
  exact ⟨n, q⟩
theorem MatL.app {H : Hp} {l p : Addr} {M : List (List Int)} {r : List Int} (h : MatL H l M) (hp : H p = some (.lst (r.map V.int))) (ne : p ≠ l) : ∃ xs, H l = some (.lst xs) ∧ xs.length = M.length ∧ MatL (upd H l (.lst (xs ++ [.ref p]))) l (M ++ [r]) := by
  obtain ⟨ps, h1, h2, h3⟩ := h
  refine ⟨_, h1, by simp [h2], ps ++ [p], by rw [upd_same]; simp, by simp [h2], fun i q z e1 e2 => ?_⟩
  by_cases hi : i < ps.length
  · rw [List.getElem?_append_left hi] at e1
    rw [List.getElem?_append_left (by omega)] at e2
    obtain ⟨n, w⟩ := h3 i q z e1 e2
    exact ⟨n, by rw [upd_ne n]; exact w⟩
  · have e0 : i = ps.length := by
      have := (List.getElem?_eq_some_iff.mp e1).1
      simp at this
      omega
    subst e0
    rw [List.getElem?_append_right (Nat.le_refl _)] at e1
    rw [h2, List.getElem?_append_right (Nat.le_refl _)] at e2
    simp at e1 e2
    subst e1 e2
    exact ⟨ne, by rw [upd_ne ne]; exact hp⟩
theorem MatB.row {b1 b2 : Bool} {K : PySem.W.Frag} {H : Hp} {a : Addr} {rows : List (List Int)} (h : MatB b1 b2 K H a rows) {i : Nat} {r : List Int} (e : rows[i]? = some r) : ∃ ps : List Addr, ∃ p, SqB b1 K H a (ps.map V.ref) ∧ (ps.map V.ref)[i]? = some (.ref p) ∧ (ps.map V.ref).length = rows.length ∧ SqB b2 K H p (r.map V.int) := by
  obtain ⟨ps, h1, h2, h3⟩ := h
  have hi : i < ps.length := by have := (List.getElem?_eq_some_iff.mp e).1; omega
  exact ⟨ps, ps[i], h1, by simp [hi], by simp [h2], h3 i _ r (by simp [hi]) e⟩
theorem atI_at {α : Type} {xs : List α} {k : Nat} {x : α} {i : Int} (h : xs[k]? = some x) (hi : i = k) : atI xs i = some x := by
  subst hi
  exact atI_nat h
theorem int_at {ns : List Int} {i : Nat} {n : Int} (h : ns[i]? = some n) : (ns.map V.int)[i]? = some (.int n) := by rw [List.getElem?_map, h]; rfl
theorem getD_at {ns : List Int} {k : Nat} (h : k < ns.length) : ns[k]? = some (ns.getD k 0) := by simp [h]
theorem getD_mem {ns : List Int} {k : Nat} (h : k < ns.length) : ns.getD k 0 ∈ ns := by
  rw [show ns.getD k 0 = ns[k] by simp [h]]
  exact List.getElem_mem h
/-! ### what is reckoned -/
end L2
namespace L2
open PySem PySem.Spec PyProof.Rows
section
variable {K : PySem.W.Frag} {g : TG} {tb : TS} {σ : St} {H : Hp} {nx : St → Hp → Prop} {rt : VK}
/-- the loops, with the ways out one by one -/
noncomputable abbrev LoopW (J : It) (g : TG) (tb : TS) (nx : St → Hp → Prop) (rt : VK) (σ : St) (H : Hp) : Prop := ∃ W : Nat → Nat → St → Hp → Prop, (∃ m, W 0 m σ H) ∧ ∀ i m σ H, W i m σ H →
  (J.stop i H ∧ nx σ H) ∨ (J.go i H ∧ ∃ N : St → Hp → Prop, (∀ σ' H', N σ' H' → ∃ m', m' < m ∧ W (i + 1) m' σ' H') ∧ ∀ x H', J.yld i H x H' → g x σ H' fun σ2 H2 => tb { nx := N, rt := rt, bk := nx, ct := N } σ2 H2)
theorem fr_range {lo : Int} {n : Nat} (Pv : Nat → St → Hp → Prop) (h0 : Pv 0 σ H)
    (hs : ∀ i σ H, i < n → Pv i σ H → g (.int (lo + i)) σ H fun σ2 H2 => tb { nx := Pv (i + 1), rt := rt, bk := nx, ct := Pv (i + 1) } σ2 H2) (hd : ∀ σ H, Pv n σ H → nx σ H) : LoopW (Itr lo n) g tb nx rt σ H :=
  for_range (D := { nx := nx, rt := rt, bk := nx, ct := nx }) Pv h0 hs hd
theorem fr_seq {b : Bool} {a : Addr} {xs : List V} (Pv : Nat → St → Hp → Prop) (h0 : Pv 0 σ H) (hl : ∀ i σ H, i ≤ xs.length → Pv i σ H → SqB b K H a xs)
    (hs : ∀ i x σ H, xs[i]? = some x → Pv i σ H → g x σ H fun σ2 H2 => tb { nx := Pv (i + 1), rt := rt, bk := nx, ct := Pv (i + 1) } σ2 H2) (hd : ∀ σ H, Pv xs.length σ H → nx σ H) : LoopW (Its K b a) g tb nx rt σ H :=
  for_seq (D := { nx := nx, rt := rt, bk := nx, ct := nx }) Pv h0 hl hs hd
end
/-- len(p) of ints -/
theorem ints_len {b : Bool} {K : PySem.W.Frag} {H : Hp} {a : Addr} {ns : List Int} {Q : VK} (h : SqB b K H a (ns.map V.int)) (q : Q (.int ns.length) H) : rLenB K [.ref a] H Q := by
  refine ⟨b, a, _, rfl, h, ?_⟩
  rw [List.length_map]
  exact q
end L2

/-! RANGES WITH A STEP; names op= ..; lists of new rows, by turns. -/
namespace L2
open PySem PySem.Spec PyProof.Rows
/-- lo, lo + st, .. (n of them) -/
noncomputable def Itq (lo st : Int) (n : Nat) : It := ⟨fun i _ => i < n, fun i H x H' => H' = H ∧ x = .int (lo + i * st), fun i _ => n ≤ i⟩
theorem turn_rangeS {P : Program} {w : World} {K : PySem.W.Frag} {tg : Expr} (it : Addr) (lo st : Int) (n : Nat) : Turn P w K tg (Itq lo st n) [it] it (fun i h => IsRangeIter h it (lo + (i : Nat) * st) ((n : Int) - (i : Nat)) st) where
  mem := by simp
  obj := fun i h st b hb => by
    have e : b = it := by simpa using hb
    subst e
    exact ⟨_, st, fun v z => by
      have z' : Data.fields _ = Data.cell v := z
      cases z'⟩
  keep := fun i h h' st k => k it (by simp) _ st
  item := by
    intro X hP hw hK hc i pins s σ H E I hf hst hg
    subst hP hw hK
    obtain ⟨f0, f1, f2, f3, f4, f5⟩ := hf it (by simp)
    have W := Walks.range (prog := X.prog) (w := X.w) (I.ok.hd hc) it lo st n
    refine W.item i s _ _ hg hst fun v h' tk hv st' kk => ?_
    obtain ⟨t, rfl⟩ := hv
    have I1 : Inv X pins σ H { s with heap := h', toks := tk } := I.turned (fun b o hb e => kk b o (by simpa using hb) e) f0 f1 f3 f4 f5
    exact ⟨_, rfl, go_of (s := { s with heap := h', toks := tk }) (n := "range_iterator") st' rfl rfl (by decide) ⟨.int (lo + i * st), H, I1, ⟨t, rfl⟩, ⟨rfl, rfl⟩, st', fun b hb => (hf b hb).1⟩⟩
  done := by
    intro X hP hw hK hc i pins s σ H E I hf st hg
    subst hP hw hK
    obtain ⟨f0, f1, f2, f3, f4, f5⟩ := hf it (by simp)
    exact wpAny_pyNext_range_end (I.ok.hd hc) st (by have : n ≤ i := hg; omega) fun h' eb => ⟨rfl, I.turned (t' := s.toks) (fun b o hb e => eb b o hb e) f0 f1 f3 f4 f5⟩
  self := fun _ _ _ _ _ st h => wpAny_pyIter_rangeiter st h
theorem small_step {a b c : Int} (ha : 0 ≤ a) (ha' : a < 2 ^ 40) (hb0 : 0 ≤ b) (hb : b < 2 ^ 40) (hc : 0 < c) (hc' : c < 2 ^ 40) : Builtin.Range.small a b c = true := by
  unfold Builtin.Range.small Builtin.Range.rangeSize
  have q : a < b → (b - a - 1) / c + 1 ≤ 2 ^ 40 := fun h => by
    have := Int.ediv_le_self c (show 0 ≤ b - a - 1 by omega)
    omega
  have q0 : a < b → 0 ≤ (b - a - 1) / c := fun h => Int.ediv_nonneg (by omega) (by omega)
  simp only [Builtin.Range.rangeFitsLong, if_pos (show c > 0 from hc)]
  by_cases h : a < b
  · have q1 := q h
    have q2 := q0 h
    rw [if_pos h]
    generalize (b - a - 1) / c = z at q1 q2
    simp only [Bool.and_eq_true, Bool.or_eq_true, decide_eq_true_eq, beq_iff_eq]
    omega
  · rw [if_neg h]
    simp only [Bool.and_eq_true, Bool.or_eq_true, decide_eq_true_eq, beq_iff_eq]
    omega
section
variable {X : Cx} {tg : Expr}
noncomputable def iRng3 (ta : TA) : TI := fun σ H R => ta σ H fun vs H1 => ∃ i j c : Int, vs = [.int i, .int j, .int c] ∧ (0 ≤ i ∧ i < 2 ^ 40 ∧ 0 ≤ j ∧ j < 2 ^ 40 ∧ 0 < c ∧ c < 2 ^ 40) ∧ R (Itq i c (Builtin.Range.rangeSize i j c).toNat) H1
theorem pi_range3 {a b c : Expr} {ta : TA} {p pos : Pos} (hg : Gl X "range") (hm : X.mg "range" = none) (ha : PA X [a, b, c] ta) (hs : starEach [a, b, c] X.env = [(false, eval a X.env), (false, eval b X.env), (false, eval c X.env)] := by rfl)
    (hs2 : starEach [b, c] X.env = [(false, eval b X.env), (false, eval c X.env)] := by rfl) : PI X tg (.Call (.Name "range" p) [a, b, c] [] pos) (iRng3 ta) := by
  intro pins s σ H R I h
  refine Call_ (ld_blt I hg hm boot_range (PyProof.Rows.callWith_type1 (thn (ha pos pins s σ H _ I h) fun us s1 ⟨vs, H1, I1, r1, q1⟩ => ?_) (by rw [hs, hs2]) (by rw [hs2]; rfl)))
  obtain ⟨i, j, k, e, ⟨q1, q2, q3, q4, q5, q6⟩, q⟩ := q1
  subst e
  cases r1 with
  | cons r rr =>
    cases rr with
    | cons r' rr =>
      cases rr with
      | cons r'' rr =>
        cases rr
        obtain ⟨t, rfl⟩ := r
        obtain ⟨t', rfl⟩ := r'
        obtain ⟨t'', rfl⟩ := r''
        refine call_range_3 (by omega) ?_ (.inl (PyProof.noPylong_of_log2 (Nat.lt_of_lt_of_le ((Nat.log2_lt (by omega)).mpr (show k.natAbs < 2 ^ 40 by omega)) (by decide))))
        refine wpAny_pyIter_range (IsRange.new ..) (small_step q1 q2 q3 q4 q5 q6) ?_
        have I2 : Inv X pins σ H1 { s1 with heap := s1.heap.push { cls := .type "range", data := .fields #[.int i t, .int j t', .int k t''] }, toks := s1.toks } := I1.kept fun b o e => Heap.get?_push_of_some _ e
        refine ⟨(s1.heap.push { cls := .type "range", data := .fields #[.int i t, .int j t', .int k t''] }).objs.size, [(s1.heap.push { cls := .type "range", data := .fields #[.int i t, .int j t', .int k t''] }).objs.size], _, _, H1, rfl,
          I2.kept (t' := s1.toks) fun b o e => Heap.get?_push_of_some _ e, turn_rangeS _ i k (Builtin.Range.rangeSize i j k).toNat, ?_, fun b hb => ?_, q⟩
        · have nn : 0 ≤ Builtin.Range.rangeSize i j k := by
            unfold Builtin.Range.rangeSize
            rw [if_pos (show k > 0 from q5)]
            split
            · have := Int.ediv_nonneg (show 0 ≤ j - i - 1 by omega) (show 0 ≤ k by omega)
              omega
            · omega
          have e1 : i + ((0 : Nat) : Int) * k = i := by simp
          have e2 : (((Builtin.Range.rangeSize i j k).toNat : Nat) : Int) - ((0 : Nat) : Int) = Builtin.Range.rangeSize i j k := by omega
          show IsRangeIter _ _ (i + ((0 : Nat) : Int) * k) ((((Builtin.Range.rangeSize i j k).toNat : Nat) : Int) - ((0 : Nat) : Int)) k
          rw [e1, e2]
          exact Heap.get?_push_size _ rfl
        · have e : b = (s1.heap.push { cls := .type "range", data := .fields #[.int i t, .int j t', .int k t''] }).objs.size := by simpa using hb
          subst e
          exact I2.fpOk (Nat.le_refl _) (I2.hok.fresh (Nat.le_refl _))
end
section
variable {g : TG} {tb : TS} {σ : St} {H : Hp} {nx : St → Hp → Prop} {rt : VK}
theorem fr_step {lo st : Int} {n : Nat} (Pv : Nat → St → Hp → Prop) (h0 : Pv 0 σ H)
    (hs : ∀ i σ H, i < n → Pv i σ H → g (.int (lo + i * st)) σ H fun σ2 H2 => tb { nx := Pv (i + 1), rt := rt, bk := nx, ct := Pv (i + 1) } σ2 H2) (hd : ∀ σ H, Pv n σ H → nx σ H) : LoopW (Itq lo st n) g tb nx rt σ H := by
  refine ⟨fun i m σ H => m = n - i ∧ i ≤ n ∧ Pv i σ H, ⟨n, by simp, Nat.zero_le _, h0⟩, ?_⟩
  rintro i m σ H ⟨rfl, hi, p⟩
  by_cases hlt : i < n
  · refine .inr ⟨hlt, Pv (i + 1), fun σ' H' p' => ⟨n - (i + 1), by omega, rfl, hlt, p'⟩, fun x H' y => ?_⟩
    obtain ⟨e, y⟩ := y
    subst e y
    exact hs i σ _ hlt p
  · have e : i = n := by omega
    subst e
    exact .inl ⟨Nat.le_refl _, hd σ H p⟩
end
/-- zs are new lists of ints -/
noncomputable def RefRows (a : Addr) (H : Hp) (zs : List V) (M : List (List Int)) : Prop := ∃ ps : List Addr, zs = ps.map V.ref ∧ ps.length = M.length ∧ ∀ (j : Nat) (p : Addr) (r : List Int), ps[j]? = some p → M[j]? = some r → p ≠ a ∧ H p = some (.lst (r.map V.int))
theorem RefRows.nil {a : Addr} {H : Hp} : RefRows a H [] [] := ⟨[], rfl, rfl, fun j p r e => by simp at e⟩
theorem RefRows.len {a : Addr} {H : Hp} {zs : List V} {M : List (List Int)} (h : RefRows a H zs M) : zs.length = M.length := let ⟨ps, e, l, _⟩ := h; by rw [e, List.length_map, l]
theorem RefRows.mono {a : Addr} {H H' : Hp} {zs : List V} {M : List (List Int)} (h : RefRows a H zs M) (s : SameX a H H') : RefRows a H' zs M := let ⟨ps, e, l, q⟩ := h; ⟨ps, e, l, fun j p r e1 e2 => ⟨(q j p r e1 e2).1, s _ _ (q j p r e1 e2).1 (q j p r e1 e2).2⟩⟩
end L2

/-! COPIES OF ROWS. -/
namespace L2
open PySem PySem.Spec PyProof.Rows
section
variable {K : PySem.W.Frag} {H : Hp} {a a1 : Addr} {M : List (List Int)} {σ : St} {Q : VK} {b1 b2 : Bool}
/-- a new list of new tuples of ints -/
noncomputable def MatT (H : Hp) (a : Addr) (rows : List (List Int)) : Prop := ∃ ps : List Addr, H a = some (.lst (ps.map V.ref)) ∧ ps.length = rows.length ∧ ∀ (i : Nat) (p : Addr) (r : List Int), ps[i]? = some p → rows[i]? = some r → H p = some (.tup (r.map V.int))
/-- tuple(..) of it -/
theorem MatT.tuple {l : Addr} (h : MatT H a M) (hl : H l = none) : ∃ zs, H a = some (.lst zs) ∧ MatB true true K (upd H l (.tup zs)) l M := by
  obtain ⟨ps, h1, h2, h3⟩ := h
  exact ⟨_, h1, ps, SqB.tup upd_same, h2, fun i p r e1 e2 => SqB.tup (Same.new hl _ _ (h3 i p r e1 e2))⟩
end
end L2

/-! NAMES OF THE MODULE that stand for an int or a text. -/
namespace L2
open PySem PySem.Spec PyProof.Rows
theorem pe_globE {X : Cx} {x : Str} {v : V} {pos : Pos} (hg : Gl X x) (h : ∃ u, X.mg x = some u ∧ RelV v u) (hd : (x == ("__debug__" : Str)) = false := by decide) : PE X (.Name x pos) (tC v) := by
  obtain ⟨u, e, r⟩ := h
  exact pe_glob hg e r hd
end L2
/-! LITERALS: lists of ints, rows, lists of rows, as they are written. -/
namespace L2
open PySem PySem.Spec PyProof.Rows
noncomputable def MkI (te : TE) (n : Int) : Prop := ∀ σ H Q, Q (.int n) H → te σ H Q
theorem MkI.pos (n : Int) : MkI (tC (.int n)) n := fun _ _ _ q => q
theorem MkI.neg (n : Int) : MkI (tUn (rU fun i => .int (-i)) (tC (.int n))) (-n) := fun _ _ _ q => ⟨n, rfl, q⟩
noncomputable def MkIs (ta : TA) (ns : List Int) : Prop := ∀ σ H Q, Q (ns.map V.int) H → ta σ H Q
theorem MkIs.nil : MkIs tNil [] := fun _ _ _ q => q
theorem MkIs.cons {te : TE} {ta : TA} {n : Int} {ns : List Int} (h : MkI te n) (h2 : MkIs ta ns) : MkIs (tCons te ta) (n :: ns) := fun σ H Q q => h σ H _ (h2 σ H _ q)
noncomputable def MkR (te : TE) (ns : List Int) : Prop := ∀ σ H Q, (∀ p H', Same H H' → H p = none → H' p = some (.lst (ns.map V.int)) → Q (.ref p) H') → te σ H Q
theorem MkR.of {ta : TA} {ns : List Int} (h : MkIs ta ns) (hz : ns.length ≤ 1000) : MkR (tLst ta) ns := fun σ H Q q => h σ H _ ⟨by rw [List.length_map]; exact Nat.le_of_lt (small1000 hz), fun l hl => q l _ (Same.new hl) hl upd_same⟩
/-- rows one after another, all new -/
noncomputable def MkRs (ta : TA) (M : List (List Int)) : Prop := ∀ σ H Q, (∀ ps H', Same H H' → RefRowsN H H' ps M → Q (ps.map V.ref) H') → ta σ H Q
where RefRowsN (H H' : Hp) (ps : List Addr) (M : List (List Int)) : Prop := ps.length = M.length ∧ ∀ (j : Nat) (p : Addr) (r : List Int), ps[j]? = some p → M[j]? = some r → H' p = some (.lst (r.map V.int))
theorem MkRs.nil : MkRs tNil [] := fun _ H Q q => q [] H (Same.refl _) ⟨rfl, fun j p r e => by simp at e⟩
theorem MkRs.cons {te : TE} {ta : TA} {ns : List Int} {M : List (List Int)} (h : MkR te ns) (h2 : MkRs ta M) : MkRs (tCons te ta) (ns :: M) := fun σ H Q q => h σ H _ fun p H1 s1 hp e1 => h2 σ H1 _ fun ps H2 s2 r => q (p :: ps) H2 (s1.trans s2) ⟨by simp [r.1], fun j p' r' e e' => by
  cases j with
  | zero => simp at e e'; subst e e'; exact s2 _ _ e1
  | succ j => exact r.2 j p' r' (by simpa using e) (by simpa using e')⟩
noncomputable def MkM (te : TE) (M : List (List Int)) : Prop := ∀ σ H Q, (∀ p H', Same H H' → H p = none → MatL H' p M → Q (.ref p) H') → te σ H Q
theorem MkM.of {ta : TA} {M : List (List Int)} (h : MkRs ta M) (hz : M.length ≤ 1000) : MkM (tLst ta) M := fun σ H Q q => h σ H _ fun ps H1 s1 r => ⟨by rw [List.length_map, r.1]; exact Nat.le_of_lt (small1000 hz), fun l hl => by
  have hn : H l = none := by cases e : H l with | none => rfl | some o => rw [s1 _ _ e] at hl; cases hl
  exact q l _ (s1.trans (Same.new hl)) hn ⟨ps, upd_same, r.1, fun i p z e1 e2 => ⟨ne_of_none (r.2 i p z e1 e2) hl, Same.new hl _ _ (r.2 i p z e1 e2)⟩⟩⟩
/-- a list of rows' lists -/
noncomputable def Mats (H : Hp) (p : Addr) (Ms : List (List (List Int))) : Prop := ∃ ps : List Addr, H p = some (.lst (ps.map V.ref)) ∧ ps.length = Ms.length ∧ ∀ (i : Nat) (q : Addr) (M : List (List Int)), ps[i]? = some q → Ms[i]? = some M → MatL H q M
theorem Mats.up {H H' : Hp} {p : Addr} {Ms : List (List (List Int))} (h : Mats H p Ms) (s : Same H H') : Mats H' p Ms := let ⟨ps, h1, h2, h3⟩ := h; ⟨ps, s _ _ h1, h2, fun i q M e1 e2 => (h3 i q M e1 e2).up s⟩
noncomputable def MkMs (ta : TA) (Ms : List (List (List Int))) : Prop := ∀ σ H Q, (∀ (ps : List Addr) H', Same H H' → ps.length = Ms.length → (∀ (i : Nat) (q : Addr) (M : List (List Int)), ps[i]? = some q → Ms[i]? = some M → MatL H' q M) → Q (ps.map V.ref) H') → ta σ H Q
theorem MkMs.nil : MkMs tNil [] := fun _ H Q q => q [] H (Same.refl _) rfl fun j p r e => by simp at e
theorem MkMs.cons {te : TE} {ta : TA} {M : List (List Int)} {Ms : List (List (List Int))} (h : MkM te M) (h2 : MkMs ta Ms) : MkMs (tCons te ta) (M :: Ms) := fun σ H Q q => h σ H _ fun p H1 s1 _ e1 => h2 σ H1 _ fun ps H2 s2 l r => q (p :: ps) H2 (s1.trans s2) (by simp [l]) fun j p' r' e e' => by
  cases j with
  | zero => simp at e e'; subst e e'; exact e1.up s2
  | succ j => exact r j p' r' (by simpa using e) (by simpa using e')
theorem MkMs.lst {ta : TA} {Ms : List (List (List Int))} (h : MkMs ta Ms) (hz : Ms.length ≤ 1000) {σ : St} {H : Hp} {Q : VK} (q : ∀ p H', Same H H' → Mats H' p Ms → Q (.ref p) H') : tLst ta σ H Q := h σ H _ fun ps H1 s1 l r => ⟨by rw [List.length_map, l]; exact Nat.le_of_lt (small1000 hz), fun a ha =>
  q a _ (s1.trans (Same.new ha)) ⟨ps, upd_same, l, fun i q M e1 e2 => (r i q M e1 e2).up (Same.new ha)⟩⟩
theorem Mats.at {K : PySem.W.Frag} {H : Hp} {p : Addr} {Ms : List (List (List Int))} {i : Nat} {M : List (List Int)} {I : Int} {Q : VK} (h : Mats H p Ms) (e : Ms[i]? = some M) (hi : I = i) (k : ∀ q, MatL H q M → Q (.ref q) H) : rIxB K (.ref p) (.int I) H Q := by
  obtain ⟨ps, h1, h2, h3⟩ := h
  have hlt : i < ps.length := by have := (List.getElem?_eq_some_iff.mp e).1; omega
  exact ⟨false, p, _, _, _, rfl, rfl, SqB.lst h1, atI_at (show (ps.map V.ref)[i]? = some (.ref ps[i]) by simp [hlt]) hi, k _ (h3 i _ M (by simp [hlt]) e)⟩
/-! ### rows that are changed in place: all of them apart -/
noncomputable def MatD (H0 H : Hp) (a : Addr) (rows : List (List Int)) : Prop := ∃ ps : List Addr, H a = some (.lst (ps.map V.ref)) ∧ ps.length = rows.length ∧ ps.Nodup ∧ ∀ (i : Nat) (p : Addr) (r : List Int), ps[i]? = some p → rows[i]? = some r → p ≠ a ∧ H0 p = none ∧ H p = some (.lst (r.map V.int))
theorem MatD.l {H0 H : Hp} {a : Addr} {rows : List (List Int)} (h : MatD H0 H a rows) : MatL H a rows := let ⟨ps, h1, h2, _, h3⟩ := h; ⟨ps, h1, h2, fun i p r e1 e2 => ⟨(h3 i p r e1 e2).1, (h3 i p r e1 e2).2.2⟩⟩
theorem MatD.up {H0 H H' : Hp} {a : Addr} {rows : List (List Int)} (h : MatD H0 H a rows) (s : Same H H') : MatD H0 H' a rows := let ⟨ps, h1, h2, n, h3⟩ := h; ⟨ps, s _ _ h1, h2, n, fun i p r e1 e2 => ⟨(h3 i p r e1 e2).1, (h3 i p r e1 e2).2.1, s _ _ (h3 i p r e1 e2).2.2⟩⟩
/-- a row's list and its change -/
theorem MatD.row {H0 H : Hp} {a : Addr} {rows : List (List Int)} {i : Nat} {r : List Int} (h : MatD H0 H a rows) (e : rows[i]? = some r) : ∃ zs p, H a = some (.lst zs) ∧ zs[i]? = some (.ref p) ∧ zs.length = rows.length ∧ p ≠ a ∧ H0 p = none ∧ H p = some (.lst (r.map V.int)) ∧ ∀ r', MatD H0 (upd H p (.lst (r'.map V.int))) a (rows.set i r') := by
  obtain ⟨ps, h1, h2, hn, h3⟩ := h
  have hi : i < ps.length := by have := (List.getElem?_eq_some_iff.mp e).1; omega
  have hp := h3 i ps[i] r (by simp [hi]) e
  refine ⟨_, ps[i], h1, by simp [hi], by simp [h2], hp.1, hp.2.1, hp.2.2, fun r' => ⟨ps, by rw [upd_ne (Ne.symm hp.1)]; exact h1, by simp [h2], hn, fun j q z e1 e2 => ?_⟩⟩
  by_cases hj : j = i
  · subst hj
    have eq : q = ps[j] := by simp [hi] at e1; exact e1.symm
    subst eq
    rw [List.getElem?_set_self (by omega)] at e2
    cases e2
    exact ⟨hp.1, hp.2.1, upd_same⟩
  · rw [List.getElem?_set_ne (Ne.symm hj)] at e2
    obtain ⟨n1, n3, n2⟩ := h3 j q z e1 e2
    have : q ≠ ps[i] := fun w => by
      have hjl := (List.getElem?_eq_some_iff.mp e1)
      obtain ⟨hjl, ej⟩ := hjl
      exact hj ((List.getElem_inj hn).mp (ej.trans w))
    exact ⟨n1, n3, by rw [upd_ne this]; exact n2⟩
section
variable {K : PySem.W.Frag} {H : Hp} {a a1 : Addr} {M : List (List Int)} {σ : St} {Q : VK} {b1 b2 : Bool}
end
end L2
/-! LITERALS, all at once: what is written decides it. -/
namespace L2
open PySem PySem.Spec PyProof.Rows
section
variable {X : Cx}
end
end L2
namespace L2
open PySem
theorem swapL {es : List Expr} {pos : Pos} {t : Option Expr} {l : Nat} {env : Env} : swapsWith (.List es pos) t l env = pure false := by cases t <;> rfl
end L2
namespace L2
open PySem PySem.Spec PyProof.Rows
noncomputable def isList : Expr → Bool
  | .List _ _ => true
  | _ => false
end L2

/-! ANY. -/
namespace L2
open PySem PySem.Spec PyProof.Rows
section
variable {X : Cx}
theorem bools_get : ∀ {bs : List Bool} {its : List Value}, Vals (bs.map V.bl) its → ∀ (i : Nat) (v : Value), its[i]? = some v → ∃ b, bs[i]? = some b ∧ v = .bool b
  | [], _, .nil, i, v, e => by simp at e
  | b :: r, _, .cons h q, i, v, e => by
    cases i with
    | zero => simp at e; subst e; exact ⟨b, rfl, h⟩
    | succ i => simpa using bools_get (bs := r) q i v (by simpa using e)
end
end L2

/-! CHAINS of three comparisons; targets (x, y, ..) of a list. -/
namespace L2
open PySem PySem.Spec PyProof.Rows
section
variable {X : Cx} {a b c d : Expr} {ta tb tc td : TE} {pos : Pos}
end
section
variable {prog : Program} {w : World} {A : Around} {E : Value → Shared → Prop} {s : Shared}
end
section
variable {X : Cx} {pos : Pos}
end
end L2

/-! PART R: t * k of a tuple (k from 2 on), xs[:k] = ys. -/
namespace L2
open PySem PySem.Spec PyProof.Rows
section
variable {X : Cx}
end

section
variable {prog : Program} {w : World} {A : Around} {E : Value → Shared → Prop} {s : Shared}
set_option maxRecDepth 100000 in
end
section
variable {X : Cx}
end
section
variable {X : Cx} {tg : Expr}
end
end L2

/-! PART S: try .. except C without a name. -/
namespace L2
open PySem PySem.Spec PyProof.Rows
section
variable {X : Cx} {C0 : Addr} {x : Str} {np hpos pos : Pos} {body suite : List Stmt} {b₀ : Stmt} {tb : XE → TS} {ts : TS}
theorem SP.offsuite {pins : List (Addr × Obj)} {D : Ends} {f : Flow} {s : Shared} {e : Addr} (ok : X.Ok) (h : SP (X.suite e) pins D f s) : SP X pins D f s := by
  cases f with
  | next => obtain ⟨σ', H', J, q⟩ := h; exact ⟨σ', H', J.offsuite ok, q⟩
  | brk => obtain ⟨σ', H', J, q⟩ := h; exact ⟨σ', H', J.offsuite ok, q⟩
  | cont => obtain ⟨σ', H', J, q⟩ := h; exact ⟨σ', H', J.offsuite ok, q⟩
  | ret u => obtain ⟨v, σ', H', J, r, q⟩ := h; exact ⟨v, σ', H', J.offsuite ok, r, q⟩
end
end L2

namespace L2
open PySem PySem.Spec PyProof.Rows
open Builtin Builtin.Str
section
variable {X : Cx}
/-- texts as values -/
theorem vals_strs : ∀ {xs : List Str} {us : List Value}, Vals (xs.map V.str) us → ∃ l : List (Str × Tok), us = strValues l ∧ l.map (·.1) = xs
  | [], us, r => by have e := r.zero; exact ⟨[], e, rfl⟩
  | x :: xs, us, r => by
    cases r with
    | cons a b =>
      obtain ⟨t, rfl⟩ := a
      obtain ⟨l, rfl, e⟩ := vals_strs b
      exact ⟨(x, t) :: l, rfl, by rw [List.map_cons, e]⟩
theorem strs_vals : ∀ l : List (Str × Tok), Vals ((l.map (·.1)).map V.str) (strValues l)
  | [] => .nil
  | p :: l => .cons ⟨p.2, rfl⟩ (strs_vals l)
noncomputable def rSplit : V → List V → Hp → VK → Prop := fun x vs H Q => ∃ u y, x = .str u ∧ vs = [.str y] ∧ (y.length == 0) = false ∧ u.length ≤ sizeLine ∧ (partsBetween u (occurrences u y 0 u.length (u.length + 1)) y.length).length ≤ sizeLine ∧
  ∀ l, H l = none → Q (.ref l) (upd H l (.lst ((Txt.split u y).map V.str)))
theorem mt_split : MtM X "str.split" rSplit := by
  intro pins s σ H x vs v us Q I rx rv h
  obtain ⟨u, y, rfl, rfl, hy, hu, hp, q⟩ := h
  obtain ⟨t, rfl⟩ := rx
  obtain ⟨z, rfl, rz⟩ := rv.one
  obtain ⟨t', rfl⟩ := rz
  have q0 := q _ I.fresh
  have own : ∀ (l : List (Str × Tok)) (tk : Nat), l.map (·.1) = Txt.split u y → l.length ≤ sizeLine → EP X pins σ Q (.ref s.heap.objs.size) { s with heap := s.heap.push { cls := .type "list", data := .seq (strValues l).toArray }, toks := tk } := fun l tk e hz => by
    rw [← e] at q0
    exact ⟨.ref _, _, I.lnew (t' := tk) (strs_vals l) (by simpa using hz), rfl, q0⟩
  cases h1 : (decide (u.length < y.length) || decide (strKind u < strKind y))
  · cases hf : (occurrences u y 0 u.length (u.length + 1)).isEmpty
    · refine call_meets F.slot_str_split (typeIs_str _ _ _) F.entry_str_split (F.args_str_split_2 _ _) (meets_str_split_sep u y t t' h1 hy hf hu hp) ?_
      show EP X pins σ Q _ { s with toks := _, heap := s.heap.push { cls := .type "list", data := .seq (strsFrom s.toks (partsBetween u (occurrences u y 0 u.length (u.length + 1)) y.length)).toArray } }
      rw [strsFrom_eq]
      refine own (numbered s.toks _) _ ((numbered_texts _ _).trans ((if_neg (ne_true_of_eq_false h1)).trans (if_neg (ne_true_of_eq_false hf))).symm) ?_
      have := congrArg List.length (numbered_texts s.toks (partsBetween u (occurrences u y 0 u.length (u.length + 1)) y.length))
      rw [List.length_map] at this
      rw [this]
      exact hp
    · exact call_meets F.slot_str_split (typeIs_str _ _ _) F.entry_str_split (F.args_str_split_2 _ _) (meets_str_split_not_found u y t t' h1 hy hf)
        (own [(u, t)] _ ((if_neg (ne_true_of_eq_false h1)).trans (if_pos hf)).symm (by show 1 ≤ sizeLine; decide))
  · exact call_meets F.slot_str_split (typeIs_str _ _ _) F.entry_str_split (F.args_str_split_2 _ _) (meets_str_split_cannot_occur u y t t' h1)
      (own [(u, t)] _ (if_pos h1).symm (by show 1 ≤ sizeLine; decide))
noncomputable def rJoin (K : PySem.W.Frag) : V → List V → Hp → VK → Prop := fun x vs H Q => ∃ (b : Bool) (u : Str) (p : Addr) (xs : List Str), x = .str u ∧ vs = [.ref p] ∧ SqB b K H p (xs.map V.str) ∧ JoinOk u xs = true ∧ Q (.str (Txt.join u xs)) H
theorem mt_join : MtM X "str.join" (rJoin X.K) := by
  intro pins s σ H x vs v us Q I rx rv h
  obtain ⟨b, u, p, xs, rfl, rfl, hq, hok, q⟩ := h
  obtain ⟨t, rfl⟩ := rx
  obtain ⟨z, rfl, rz⟩ := rv.one
  cases rz
  have hok' := hok
  unfold JoinOk at hok'
  rw [Bool.not_eq_true'] at hok'
  cases b with
  | false =>
    obtain ⟨its, r, pl, hz⟩ := I.list hq
    obtain ⟨l, rfl, e⟩ := vals_strs r
    subst e
    exact call_meets F.slot_str_join (typeIs_str _ _ _) F.entry_str_join (F.args_str_join_2 _ _) (meets_str_join_list u t p l hok') ⟨pl.isList, post_join l ⟨joinFit_length hok', fun t' k => ⟨.str _, H, I.tok _, ⟨_, rfl⟩, q⟩⟩⟩
  | true =>
    obtain ⟨its, r, pl, hz⟩ := I.tuple hq
    obtain ⟨l, rfl, e⟩ := vals_strs r
    subst e
    obtain ⟨o, ho, hc, n, hd⟩ := pl
    exact call_meets F.slot_str_join (typeIs_str _ _ _) F.entry_str_join (F.args_str_join_2 _ _) (meets_str_join_tuple u t p l hok') ⟨⟨o, n, ho, hc, hd⟩, post_join l ⟨joinFit_length hok', fun t' k => ⟨.str _, H, I.tok _, ⟨_, rfl⟩, q⟩⟩⟩
/-- all([..]) of truth values -/
theorem range_allB : ∀ (bs : List Bool), (List.range bs.length).all (fun i => (bs[i]?).getD false) = bs.all id := by
  intro bs
  rw [Bool.eq_iff_iff, List.all_eq_true, List.all_eq_true]
  constructor
  · intro h b hb
    obtain ⟨i, hi, e⟩ := List.getElem_of_mem hb
    have := h i (List.mem_range.mpr hi)
    simpa [hi, e] using this
  · intro h i hi
    have hi' := List.mem_range.mp hi
    have := h _ (List.getElem_mem hi')
    simpa [hi'] using this
theorem call_all (hc : X.calm = true) : CallR X (.builtin "all") (fun xs H Q => ∃ (p : Addr) (bs : List Bool), xs = [.ref p] ∧ SqL X.K H p (bs.map V.bl) ∧ Q (.bl (bs.all id)) H) := by
  intro pins s σ H xs us Q I r h
  obtain ⟨p, bs, rfl, hq, q⟩ := h
  obtain ⟨u, rfl, rx⟩ := vals1 r
  cases rx
  obtain ⟨its, rv, pl, hz⟩ := I.list hq
  have hl : s.heap.IsList p its.toArray := pl.isList
  have hlt : p < s.heap.objs.size := by obtain ⟨_, e, _⟩ := hl; exact Heap.lt_size e
  have hlen : its.toArray.size = bs.length := by
    have := rv.length
    simpa using this.symm
  refine call_all_walk (wpAny_pyIter_list hl ?_)
  refine ⟨s.heap.objs.size, [s.heap.objs.size, p], [s.heap.objs.size], its.toArray.size, _, _, fun i => (bs[i]?).getD false, rfl, Walks.list (A := X.A.in1) (I.ok.hd hc) _ p (Nat.ne_of_lt hlt) its.toArray,
    ⟨⟨_, Heap.get?_push_size _ rfl, rfl, rfl⟩, hl.push _⟩, fun i v s' Q' E' hP hQ => ?_, fun h' tk hk => ?_⟩
  · obtain ⟨b, e, rfl⟩ := bools_get rv i v (by simpa using hP)
    simp only [e, Option.getD_some] at hQ
    exact wpAny_truthy_bool hQ
  · rw [hlen, range_allB bs]
    refine ⟨.bl (bs.all id), H, I.kept (t' := tk) fun b x e => hk b x (fun hm => by rw [List.mem_singleton.mp hm] at e; exact Nat.lt_irrefl _ (Heap.lt_size e)) (Heap.get?_push_of_some _ e), rfl, q⟩
/-- the signs of a text, walked -/
noncomputable def Itx (x : Str) : It := ⟨fun i _ => i < x.cps.size, fun i H y H' => H' = H ∧ ∃ c, x.cps[i]? = some c ∧ y = .str ⟨#[c]⟩, fun i _ => x.cps.size ≤ i⟩
theorem turn_str {P : Program} {w : World} {K : PySem.W.Frag} {tg : Expr} (x : Str) (t : Tok) (it : Addr) (ty : String) (hty : ty = "str_ascii_iterator" ∨ ty = "str_iterator") : Turn P w K tg (Itx x) [it] it (fun i h => h.IsStrIter it ty x t i) where
  mem := by simp
  obj := fun i h st b hb => by
    have e : b = it := by simpa using hb
    subst e
    obtain ⟨o, e, c, d⟩ := st
    exact ⟨o, e, fun v z => by rw [d] at z; cases z⟩
  keep := fun i h h' st k => by
    obtain ⟨o, e, c, d⟩ := st
    exact ⟨o, k it (by simp) o e, c, d⟩
  item := by
    intro X hP hw hK hc i pins s σ H E I hf st hg
    subst hP hw hK
    have hg' : i < x.cps.size := hg
    obtain ⟨c, hx⟩ : ∃ c, x.cps[i]? = some c := ⟨_, Array.getElem?_eq_getElem hg'⟩
    obtain ⟨f0, f1, f2, f3, f4, f5⟩ := hf it (by simp)
    have fin : ∀ h', h'.IsStrIter it ty x t (i + 1) → Heap.SameBut it s.heap h' → ∃ u, some (Value.str ⟨#[c]⟩ s.toks) = some u ∧
      wpAny (model X.prog X.w) X.A (letOwnedTupleGo tg (.ref it) u) (fun _ s2 => ∃ y H', Inv X pins σ H' s2 ∧ RelV y u ∧ (Itx x).yld i H y H' ∧ s2.heap.IsStrIter it ty x t (i + 1) ∧ ∀ b ∈ [it], H' b = none) E { s with heap := h', toks := s.toks + 1 } := fun h' st' sb => by
      have I1 : Inv X pins σ H { s with heap := h', toks := s.toks + 1 } := I.turned (t' := s.toks + 1) (fun b o hb e => (sb.2 b hb).trans e) f0 f1 f3 f4 f5
      obtain ⟨o, e, c', d⟩ := id st'
      refine ⟨_, rfl, go_of (s := { s with heap := h', toks := s.toks + 1 }) e c' d (by rcases hty with rfl | rfl <;> decide) ⟨.str ⟨#[c]⟩, H, I1, ⟨_, rfl⟩, ⟨rfl, c, hx, rfl⟩, st', fun b hb => (hf b hb).1⟩⟩
    rcases hty with rfl | rfl
    · exact wpAny_pyNext_ascii_item st hx fin
    · exact wpAny_pyNext_wide_item st hx fin
  done := by
    intro X hP hw hK hc i pins s σ H E I hf st hg
    subst hP hw hK
    have hg' : x.cps.size ≤ i := hg
    have hx : x.cps[i]? = none := Array.getElem?_eq_none hg'
    obtain ⟨f0, f1, f2, f3, f4, f5⟩ := hf it (by simp)
    rcases hty with rfl | rfl
    · exact wpAny_pyNext_ascii_end (I.ok.hd hc) st hx fun h' eb => ⟨rfl, I.turned (t' := s.toks) (fun b o hb e => eb b o hb e) f0 f1 f3 f4 f5⟩
    · exact wpAny_pyNext_wide_end (I.ok.hd hc) st hx fun h' eb => ⟨rfl, I.turned (t' := s.toks) (fun b o hb e => eb b o hb e) f0 f1 f3 f4 f5⟩
  self := fun _ _ _ _ _ st h => by
    rcases hty with rfl | rfl
    · exact wpAny_pyIter_striter_ascii st h
    · exact wpAny_pyIter_striter_wide st h
noncomputable def iStr (tl : TE) : TI := fun σ H R => tl σ H fun x H1 => ∃ z, x = .str z ∧ R (Itx z) H1
theorem pi_str {tg l : Expr} {tl : TE} (hl : PE X l tl) : PI X tg l (iStr tl) := by
  intro pins s σ H R I h
  refine thn (hl pins s σ H _ I h) fun v s1 ⟨x, H1, I1, r1, q1⟩ => ?_
  obtain ⟨z, rfl, q⟩ := q1
  obtain ⟨t, rfl⟩ := r1
  have fin : ∀ ty, (ty = "str_ascii_iterator" ∨ ty = "str_iterator") → PIE X pins σ tg R (.ref s1.heap.objs.size) { s1 with heap := s1.heap.push { cls := .type ty, data := .fields #[.str z t, .int 0 0] } } := fun ty hty => by
    refine ⟨s1.heap.objs.size, [s1.heap.objs.size], _, _, H1, rfl, I1.kept (t' := s1.toks) fun b o e => Heap.get?_push_of_some _ e, turn_str z t _ ty hty, ⟨_, Heap.get?_push_size _ rfl, rfl, rfl⟩, fun b hb => ?_, q⟩
    have e : b = s1.heap.objs.size := by simpa using hb
    subst e
    exact I1.fpOk (Nat.le_refl _) (I1.hok.fresh (Nat.le_refl _))
  cases ha : z.cps.all (· < 128)
  · exact wpAny_pyIter_wide ha (fin _ (.inr rfl))
  · exact wpAny_pyIter_ascii ha (fin _ (.inl rfl))
/-- a cut of a text is a text, no longer -/
noncomputable def rSlS : V → Option Int → Option Int → Hp → VK → Prop := fun x _ _ H Q => ∃ u, x = .str u ∧ u.length ≤ sizeLine ∧ ∀ z : Str, z.length ≤ u.length → Q (.str z) H
theorem sl_S : SlR X rSlS := by
  intro pins s σ H x v vl vu lo hi sl Q I rx hs pl pu h
  obtain ⟨z, rfl, hz, q⟩ := h
  obtain ⟨t, rfl⟩ := rx
  refine ⟨"str", _, slot_str_getitem.lookup, typeIs_str _ _ _, ?_⟩
  have part : ∀ {v : Value} {o : Option Int}, IsPart v o → ∃ l : Option (Int × Tok), v = partValue l := fun p => by
    cases p with
    | none => exact ⟨none, rfl⟩
    | int i t => exact ⟨some (i, t), rfl⟩
  obtain ⟨l, rfl⟩ := part pl
  obtain ⟨u, rfl⟩ := part pu
  refine wpAny_getItem_str_slice (l := l) (u := u) (st := none) hs rfl ?_
  unfold sliceMade
  split
  · exact ⟨.str z, H, I, ⟨_, rfl⟩, q z (Nat.le_refl _)⟩
  · have hl : (⟨((slicePicked z l u none).filterMap (z.cps[·]?)).toArray⟩ : Str).length ≤ z.length := by
      refine Nat.le_trans ?_ (indices_len_le (l.map (·.1)) (u.map (·.1)) z.length)
      show (List.filterMap _ _).toArray.size ≤ _
      rw [List.size_toArray]
      exact List.length_filterMap_le _ _
    exact ⟨Nat.le_trans hl hz, .str _, H, I.tok _, ⟨_, rfl⟩, q _ hl⟩
end
section
variable {fr : List (Str × Nat)} {σ : St} {a : Addr} {H : Hp} {Q : VK} {te : TE}
theorem cg_str {z : Str} (R : Nat → V → Hp → Prop) (ha : H a = none) (hz : z.cps.size ≤ 1000) (mono : ∀ i y H1 H2, R i y H1 → SameX a H1 H2 → R i y H2)
    (he : ∀ (i : Nat) c H1 zs, z.cps[i]? = some c → Same H H1 → H1 a = some (.lst zs) → ∀ Q' : VK, (∀ y H2, Same H1 H2 → R i y H2 → Q' y H2) → te (some (.str ⟨#[c]⟩) :: frees fr σ) H1 Q')
    (hd : ∀ H1 ys, Same H H1 → H1 a = some (.lst ys) → ys.length = z.cps.size → (∀ j y, ys[j]? = some y → R j y H1) → Q (.ref a) H1) : CompWG (Itx z) (gName 0) (tEl te) 1 fr σ a H Q := by
  refine cg_rel z.cps.size R ha hz mono (fun i H1 hi s => hi) (fun H1 s => Nat.le_refl _) ?_ hd
  intro i H1 zs hi s1 ez ys x H3 hys hy Q' hQ'
  obtain ⟨e1, c, hc, e2⟩ := hy
  subst e1 e2
  match ys, hys with
  | [o], _ => exact ⟨⟨[_], rfl, rfl⟩, he i c H3 zs hc s1 ez Q' hQ'⟩
end
theorem fr_str {z : Str} {g : TG} {tb : TS} {nx : St → Hp → Prop} {rt : VK} {σ : St} {H : Hp} (Pv : Nat → St → Hp → Prop) (h0 : Pv 0 σ H)
    (hs : ∀ i c σ H, z.cps[i]? = some c → Pv i σ H → g (.str ⟨#[c]⟩) σ H fun σ2 H2 => tb { nx := Pv (i + 1), rt := rt, bk := nx, ct := Pv (i + 1) } σ2 H2) (hd : ∀ σ H, Pv z.cps.size σ H → nx σ H) : LoopW (Itx z) g tb nx rt σ H := by
  refine ⟨fun i m σ H => m = z.cps.size - i ∧ i ≤ z.cps.size ∧ Pv i σ H, ⟨z.cps.size, by simp, Nat.zero_le _, h0⟩, ?_⟩
  rintro i m σ H ⟨rfl, hi, p⟩
  by_cases hlt : i < z.cps.size
  · refine .inr ⟨hlt, Pv (i + 1), fun σ' H' p' => ⟨z.cps.size - (i + 1), by omega, rfl, hlt, p'⟩, fun x H' y => ?_⟩
    obtain ⟨e, c, hc, y⟩ := y
    subst e y
    exact hs i c σ _ hc p
  · have e : i = z.cps.size := by omega
    subst e
    exact .inl ⟨Nat.le_refl _, hd σ H p⟩
/-- join of what was split -/
theorem join_split {u y : Str} (hy : (y.length == 0) = false) : Txt.join y (Txt.split u y) = u := by
  unfold Txt.join Txt.split
  have one : glued y [u] = u := by
    rw [StrLaws.glued_eq_join]
    rfl
  split
  · exact one
  · split
    · exact one
    · exact StrLaws.glued_between_self u y _
theorem Dts.strs {K : PySem.W.Frag} {H : Hp} : ∀ (xs : List Str), Dts K H (xs.map V.str) (xs.map PyData.str)
  | [] => .nil
  | x :: r => .cons (.str x) (Dts.strs r)
theorem strs_lay : ∀ xs : List Str, (∀ x ∈ xs, PyData.strOk x = true) → PyData.canLayAll0 (xs.map PyData.str) = true ∧ PyData.depthAll (xs.map PyData.str) ≤ 0
  | [], _ => by simp [PyData.canLayAll0, PyData.depthAll]
  | x :: r, h => by
    have k := strs_lay r fun y hy => h y (List.mem_cons_of_mem _ hy)
    simp only [List.map_cons, PyData.canLayAll0, PyData.depthAll, Bool.and_eq_true]
    exact ⟨⟨by simp [PyData.canLay0, h x List.mem_cons_self], k.1⟩, by have := k.2; simp [PyData.depth]; omega⟩
theorem strs_mix : ∀ xs : List Str, SeqAt.noMixAll (xs.map PyData.str) (xs.map PyData.str) = true
  | [] => by simp [SeqAt.noMixAll]
  | x :: r => by
    simp only [List.map_cons, SeqAt.noMixAll, Bool.and_eq_true]
    exact ⟨by simp [SeqAt.noMix], strs_mix r⟩
theorem strs_same : ∀ xs : List Str, sameAll (xs.map PyData.str) (xs.map PyData.str) = true
  | [] => by simp [sameAll]
  | x :: r => by
    simp only [List.map_cons, sameAll, Bool.and_eq_true]
    exact ⟨by simp [same], strs_same r⟩
theorem strs_ne {K : PySem.W.Frag} {H : Hp} {p q : Addr} {xs : List Str} {Q : VK} (ho : ∀ x ∈ xs, PyData.strOk x = true) (h1 : H p = some (.tup (xs.map V.str))) (h2 : H q = some (.tup (xs.map V.str))) (k : Q (.bl false) H) : rNeD K (.ref p) (.ref q) H Q := by
  have sh : SeqAt.shaped (PyData.tuple (xs.map PyData.str)) = true := by
    unfold SeqAt.shaped
    obtain ⟨k1, k2⟩ := strs_lay xs ho
    rw [Bool.and_eq_true]
    refine ⟨by simp only [PyData.canLay0]; exact k1, decide_eq_true ?_⟩
    simp only [PyData.depth]
    omega
  refine ⟨.tuple (xs.map PyData.str), .tuple (xs.map PyData.str), .tup (SqT.of h1) (Dts.strs xs), .tup (SqT.of h2) (Dts.strs xs), sh, sh, by simp only [SeqAt.noMix]; exact strs_mix xs, ?_⟩
  have e : same (PyData.tuple (xs.map PyData.str)) (PyData.tuple (xs.map PyData.str)) = true := by simp only [same]; exact strs_same xs
  rw [e]
  exact k
/-! a long list of texts, as it is written -/
noncomputable def litS : Expr → Option Str
  | .Constant (.str x) _ _ => some x
  | _ => none
noncomputable def litSs : List Expr → Option (List Str)
  | [] => some []
  | e :: es => match litS e, litSs es with | some n, some ns => some (n :: ns) | _, _ => none
noncomputable def asgStrs (x : Str) (ss : List Str) : Stmt → Bool
  | .Assign [.Name y _] (.List es _) _ => decide (y = x) && decide (litSs es = some ss)
  | _ => false
noncomputable def tStrsA (ss : List Str) : TA := fun _ H Q => Q (ss.map V.str) H
theorem pa_strs {X : Cx} : ∀ {es : List Expr} {ss : List Str}, litSs es = some ss → PA X es (tStrsA ss)
  | [], ss, h => by
    cases h
    intro pos pins s σ H Q I q
    exact pa_nil pos pins s σ H Q I q
  | e :: es, ss, h => by
    unfold litSs at h
    split at h
    · rename_i n ns e1 e2
      cases h
      have ih := pa_strs (X := X) e2
      unfold litS at e1
      split at e1
      · cases e1
        intro pos pins s σ H Q I q
        exact pa_cons pe_str ih rfl pos pins s σ H Q I q
      · cases e1
    · cases h
theorem ps_setStrs {X : Cx} {st : Stmt} {i : Nat} {x : Str} {ss : List Str} (h : asgStrs x ss st = true) (hN : X.N.Nodup) (hi : X.N[i]? = some x) (hx : X.env.scope.names.lookup x = some .local) : PS X st (tAsg (tLst (tStrsA ss)) (gName i)) := by
  unfold asgStrs at h
  split at h
  · rename_i y p es q r
    simp only [Bool.and_eq_true, decide_eq_true_eq] at h
    obtain ⟨rfl, hl⟩ := h
    exact ps_set hN hi (.inl hx) (pe_lst (pa_strs hl)) swapL (.inr hx)
  · cases h
end L2

namespace Cw
open PySem L2
noncomputable def top (i : Nat) : Stmt := PySem.Challenge.pw_crystalwords_k81_drawings_written.main.body.getD i (.Pass ⟨0, 0, 0, 0⟩)
noncomputable abbrev s_are_signs : Stmt := top 21
noncomputable abbrev N_are_signs : List Str := ["text"]
noncomputable abbrev s_is_length : Stmt := top 22
noncomputable abbrev N_is_length : List Str := ["number"]
noncomputable abbrev s_read_drawing : Stmt := top 23
noncomputable abbrev N_read_drawing : List Str := ["text", "rows", "row"]
noncomputable abbrev s_show_drawing : Stmt := top 24
noncomputable abbrev N_show_drawing : List Str := ["drawing"]
noncomputable abbrev s_law_cell_at : Stmt := top 26
noncomputable abbrev N_law_cell_at : List Str := ["_law_script", "_law_k"]
noncomputable abbrev s_law_drawn : Stmt := top 27
noncomputable abbrev N_law_drawn : List Str := ["_law_cells", "_law_n", "_law_m", "_law_signs", "_law_rows", "_law_i", "_law_row", "_law_j", "_law_by"]
noncomputable abbrev s_law_other : Stmt := top 28
noncomputable abbrev N_law_other : List Str := ["_law_rows", "_law_cells", "_law_odd", "_law_text", "_law_at", "_law_sign"]
noncomputable abbrev s_law_due : Stmt := top 29
noncomputable abbrev N_law_due : List Str := ["_law_text", "_law_rows", "_law_row", "_law_sign"]
noncomputable abbrev s_law_others : Stmt := top 30
noncomputable abbrev N_law_others : List Str := ["_law_e"]
noncomputable abbrev s_law_only : Stmt := top 31
noncomputable abbrev N_law_only : List Str := ["_law_e"]
noncomputable abbrev s_law_right : Stmt := top 32
noncomputable abbrev N_law_right : List Str := ["_law_text", "_law_due_here", "_law_refused", "_law_only_here", "_law_made", "_law_e", "_law_told"]
noncomputable abbrev s_law : Stmt := top 33
noncomputable abbrev N_law : List Str := ["_law_script", "_law_at", "_law_cells", "_law_rows"]
theorem sc_are_signs : FnScope N_are_signs ["text"] (defScope s_are_signs) := ⟨rfl, rfl, rfl, by decide +kernel, rfl, by decide +kernel, by decide +kernel⟩
theorem sc_is_length : FnScope N_is_length ["number"] (defScope s_is_length) := ⟨rfl, rfl, rfl, by decide +kernel, rfl, by decide +kernel, by decide +kernel⟩
theorem sc_read_drawing : FnScope N_read_drawing ["text"] (defScope s_read_drawing) := ⟨rfl, rfl, rfl, by decide +kernel, rfl, by decide +kernel, by decide +kernel⟩
theorem sc_show_drawing : FnScope N_show_drawing ["drawing"] (defScope s_show_drawing) := ⟨rfl, rfl, rfl, by decide +kernel, rfl, by decide +kernel, by decide +kernel⟩
theorem sc_law_cell_at : FnScope N_law_cell_at ["_law_script", "_law_k"] (defScope s_law_cell_at) := ⟨rfl, rfl, rfl, by decide +kernel, rfl, by decide +kernel, by decide +kernel⟩
theorem sc_law_drawn : FnScope N_law_drawn ["_law_cells"] (defScope s_law_drawn) := ⟨rfl, rfl, rfl, by decide +kernel, rfl, by decide +kernel, by decide +kernel⟩
theorem sc_law_other : FnScope N_law_other ["_law_rows", "_law_cells"] (defScope s_law_other) := ⟨rfl, rfl, rfl, by decide +kernel, rfl, by decide +kernel, by decide +kernel⟩
theorem sc_law_due : FnScope N_law_due ["_law_text"] (defScope s_law_due) := ⟨rfl, rfl, rfl, by decide +kernel, rfl, by decide +kernel, by decide +kernel⟩
theorem sc_law_others : FnScope N_law_others ["_law_e"] (defScope s_law_others) := ⟨rfl, rfl, rfl, by decide +kernel, rfl, by decide +kernel, by decide +kernel⟩
theorem sc_law_only : FnScope N_law_only ["_law_e"] (defScope s_law_only) := ⟨rfl, rfl, rfl, by decide +kernel, rfl, by decide +kernel, by decide +kernel⟩
theorem sc_law_right : FnScope N_law_right ["_law_text"] (defScope s_law_right) := ⟨rfl, rfl, rfl, by decide +kernel, rfl, by decide +kernel, by decide +kernel⟩
theorem sc_law : FnScope N_law ["_law_script"] (defScope s_law) := ⟨rfl, rfl, rfl, by decide +kernel, rfl, by decide +kernel, by decide +kernel⟩
structure Adr where
  a_are_signs : Addr
  d_are_signs : FuncData
  a_is_length : Addr
  d_is_length : FuncData
  a_read_drawing : Addr
  d_read_drawing : FuncData
  a_show_drawing : Addr
  d_show_drawing : FuncData
  a_law_cell_at : Addr
  d_law_cell_at : FuncData
  a_law_drawn : Addr
  d_law_drawn : FuncData
  a_law_other : Addr
  d_law_other : FuncData
  a_law_due : Addr
  d_law_due : FuncData
  a_law_others : Addr
  d_law_others : FuncData
  a_law_only : Addr
  d_law_only : FuncData
  a_law_right : Addr
  d_law_right : FuncData
  a_law : Addr
  d_law : FuncData
  a_CrystalError : Addr
  a_NoPlace : Addr
  a_NoDeed : Addr
  a_NoNumber : Addr
  a_NoText : Addr
  a_TooMany : Addr
  a_NoChange : Addr
  a_NotKept : Addr
  a_NoForm : Addr
  a_NotWithin : Addr
  a_NotLeast : Addr
  a_NoDrawing : Addr
  a_OffSheet : Addr
  a_NoSheet : Addr
  a_NoRow : Addr
  a_NoName : Addr
structure Txt (K : PySem.W.Frag) (mg : Str → Option Value) (t : Adr) : Prop where
  F_are_signs : Fun K "are_signs" "are_signs" s_are_signs t.a_are_signs t.d_are_signs
  m_are_signs : mg "are_signs" = some (.ref t.a_are_signs)
  b_are_signs : Binds K t.d_are_signs ["text"] []
  F_is_length : Fun K "is_length" "is_length" s_is_length t.a_is_length t.d_is_length
  m_is_length : mg "is_length" = some (.ref t.a_is_length)
  b_is_length : Binds K t.d_is_length ["number"] []
  F_read_drawing : Fun K "read_drawing" "read_drawing" s_read_drawing t.a_read_drawing t.d_read_drawing
  m_read_drawing : mg "read_drawing" = some (.ref t.a_read_drawing)
  b_read_drawing : Binds K t.d_read_drawing ["text"] []
  F_show_drawing : Fun K "show_drawing" "show_drawing" s_show_drawing t.a_show_drawing t.d_show_drawing
  m_show_drawing : mg "show_drawing" = some (.ref t.a_show_drawing)
  b_show_drawing : Binds K t.d_show_drawing ["drawing"] []
  F_law_cell_at : Fun K "_law_cell_at" "_law_cell_at" s_law_cell_at t.a_law_cell_at t.d_law_cell_at
  m_law_cell_at : mg "_law_cell_at" = some (.ref t.a_law_cell_at)
  b_law_cell_at : Binds K t.d_law_cell_at ["_law_script", "_law_k"] []
  F_law_drawn : Fun K "_law_drawn" "_law_drawn" s_law_drawn t.a_law_drawn t.d_law_drawn
  m_law_drawn : mg "_law_drawn" = some (.ref t.a_law_drawn)
  b_law_drawn : Binds K t.d_law_drawn ["_law_cells"] []
  F_law_other : Fun K "_law_other" "_law_other" s_law_other t.a_law_other t.d_law_other
  m_law_other : mg "_law_other" = some (.ref t.a_law_other)
  b_law_other : Binds K t.d_law_other ["_law_rows", "_law_cells"] []
  F_law_due : Fun K "_law_due" "_law_due" s_law_due t.a_law_due t.d_law_due
  m_law_due : mg "_law_due" = some (.ref t.a_law_due)
  b_law_due : Binds K t.d_law_due ["_law_text"] []
  F_law_others : Fun K "_law_others" "_law_others" s_law_others t.a_law_others t.d_law_others
  m_law_others : mg "_law_others" = some (.ref t.a_law_others)
  b_law_others : Binds K t.d_law_others ["_law_e"] []
  F_law_only : Fun K "_law_only" "_law_only" s_law_only t.a_law_only t.d_law_only
  m_law_only : mg "_law_only" = some (.ref t.a_law_only)
  b_law_only : Binds K t.d_law_only ["_law_e"] []
  F_law_right : Fun K "_law_right" "_law_right" s_law_right t.a_law_right t.d_law_right
  m_law_right : mg "_law_right" = some (.ref t.a_law_right)
  b_law_right : Binds K t.d_law_right ["_law_text"] []
  F_law : Fun K "law" "law" s_law t.a_law t.d_law
  m_law : mg "law" = some (.ref t.a_law)
  b_law : Binds K t.d_law ["_law_script"] []
  z_range : mg "range" = none
  z_len : mg "len" = none
  z_isinstance : mg "isinstance" = none
  z_tuple : mg "tuple" = none
  z_max : mg "max" = none
  z_all : mg "all" = none
  z_str : mg "str" = none
  z_ValueError : mg "ValueError" = none
  m_CrystalError : mg "CrystalError" = some (.ref t.a_CrystalError)
  m_NoPlace : mg "NoPlace" = some (.ref t.a_NoPlace)
  m_NoDeed : mg "NoDeed" = some (.ref t.a_NoDeed)
  m_NoNumber : mg "NoNumber" = some (.ref t.a_NoNumber)
  m_NoText : mg "NoText" = some (.ref t.a_NoText)
  m_TooMany : mg "TooMany" = some (.ref t.a_TooMany)
  m_NoChange : mg "NoChange" = some (.ref t.a_NoChange)
  m_NotKept : mg "NotKept" = some (.ref t.a_NotKept)
  m_NoForm : mg "NoForm" = some (.ref t.a_NoForm)
  m_NotWithin : mg "NotWithin" = some (.ref t.a_NotWithin)
  m_NotLeast : mg "NotLeast" = some (.ref t.a_NotLeast)
  m_NoDrawing : mg "NoDrawing" = some (.ref t.a_NoDrawing)
  m_OffSheet : mg "OffSheet" = some (.ref t.a_OffSheet)
  m_NoSheet : mg "NoSheet" = some (.ref t.a_NoSheet)
  m_NoRow : mg "NoRow" = some (.ref t.a_NoRow)
  m_NoName : mg "NoName" = some (.ref t.a_NoName)
  g_SMALL_LETTERS : ∃ u, mg "SMALL_LETTERS" = some u ∧ RelV (.str "abcdefghijklmnopqrstuvwxyz") u
  g_LONGEST : ∃ u, mg "LONGEST" = some u ∧ RelV (.int 6) u
  k_int : PySem.W.kitOne K (.type "int") (.type "int") = some true
  k_ib : PySem.W.kitOne K (.type "int") (.type "bool") = some false
  k_tt : PySem.W.kitOne K (.type "tuple") (.type "tuple") = some true
  xm : PySem.W.exmOne K (.ref t.a_NoDrawing) (.ref t.a_CrystalError) = some true
  e_ga : PySem.W.findIn K (.ref t.a_NoDrawing) "__getattribute__" = some (some (.builtin "BaseException.__getattribute__"))
  e_gt : PySem.W.findIn K (.ref t.a_NoDrawing) "__getattr__" = some none
  e_ca : PySem.W.findIn K (.ref t.a_NoDrawing) "__class__" = some (some (.builtin "object.__class__"))
  e_cg : PySem.W.specialIn K (.builtin "object.__class__") "__get__" = some (some (.builtin "getset_descriptor.__get__"))
  e_tk : PySem.W.takesIn K (.builtin "object.__class__") = some true
  e_ob : PySem.W.mroIn K t.a_NoDrawing (.type "object") = some true
  e_bx : PySem.W.mroIn K t.a_NoDrawing (.type "BaseException") = some true
  i_NoPlace : PySem.W.kitOne K (.ref t.a_NoDrawing) (.ref t.a_NoPlace) = some false
  i_VE : PySem.W.kitOne K (.ref t.a_NoDrawing) (.type "ValueError") = some true
  i_NoDrawing : PySem.W.kitOne K (.ref t.a_NoDrawing) (.ref t.a_NoDrawing) = some true
  i_NoNumber : PySem.W.kitOne K (.ref t.a_NoDrawing) (.ref t.a_NoNumber) = some false
  i_NoText : PySem.W.kitOne K (.ref t.a_NoDrawing) (.ref t.a_NoText) = some false
  i_TooMany : PySem.W.kitOne K (.ref t.a_NoDrawing) (.ref t.a_TooMany) = some false
  i_NoChange : PySem.W.kitOne K (.ref t.a_NoDrawing) (.ref t.a_NoChange) = some false
  i_NotKept : PySem.W.kitOne K (.ref t.a_NoDrawing) (.ref t.a_NotKept) = some false
  i_NoForm : PySem.W.kitOne K (.ref t.a_NoDrawing) (.ref t.a_NoForm) = some false
  i_NotWithin : PySem.W.kitOne K (.ref t.a_NoDrawing) (.ref t.a_NotWithin) = some false
  i_NotLeast : PySem.W.kitOne K (.ref t.a_NoDrawing) (.ref t.a_NotLeast) = some false
  i_NoDeed : PySem.W.kitOne K (.ref t.a_NoDrawing) (.ref t.a_NoDeed) = some false
  i_OffSheet : PySem.W.kitOne K (.ref t.a_NoDrawing) (.ref t.a_OffSheet) = some false
  i_NoSheet : PySem.W.kitOne K (.ref t.a_NoDrawing) (.ref t.a_NoSheet) = some false
  i_NoRow : PySem.W.kitOne K (.ref t.a_NoDrawing) (.ref t.a_NoRow) = some false
  i_NoName : PySem.W.kitOne K (.ref t.a_NoDrawing) (.ref t.a_NoName) = some false
  x_NoDrawing : PySem.W.excIn K t.a_NoDrawing [.type "ValueError", .type "Exception", .type "BaseException", .type "object"] "ValueError.__new__" = true
  k_ss : PySem.W.kitOne K (.type "str") (.type "str") = some true
  bl : ∀ (s : Shared) (u : Value), BindsTo s t.d_law ⟨[u], []⟩ [("_law_script", u)]
local macro_rules | `(tactic| walk_at "rd2") => `(tactic| simp only [tSeq, tAsg, gName, tVar, tC, tOp, rd_rI0, rd_rI, rd_rU, tUn, tTest, tB, tIfS, tIf, tAnd, tOr, tNot, tAndV, tOrV, tNotV, tRet, tRetN, tNext, tDrop, tCall, tCallX, tCons, tNil, tCB, tTup, tLst, tPar, tSetC, tBM, tBM0, tSl, tPart, tNoPart, List.getElem?_cons_zero, List.getElem?_cons_succ, Option.some.injEq, exists_eq_left', exists_eq_left, List.set_cons_zero, List.set_cons_succ, List.cons.injEq, V.int.injEq, V.bl.injEq, V.ref.injEq, and_true, true_and, List.append_nil, ne_eq, exists_and_left, and_assoc, ↓reduceIte, Bool.not_true, Bool.not_false, Bool.false_eq_true])
section
variable {P : Program} {w : World} {K : PySem.W.Frag} {mg : Str → Option Value} {base : Heap} {t : Adr}
theorem atI_ints {ns : List Int} {k : Int} (h0 : 0 ≤ k) (h1 : k < ns.length) : atI (ns.map V.int) k = some (.int (ns.getD k.toNat 0)) := by
  obtain ⟨j, rfl⟩ := Int.eq_ofNat_of_zero_le h0
  exact atI_at (int_at (getD_at (by omega))) rfl
noncomputable def sp_law_cell_at (K : PySem.W.Frag) : Sp := fun vs H Q _ => ∃ (p : Addr) (ns : List Int) (k : Int), vs = [.ref p, .int k] ∧ SqL K H p (ns.map V.int) ∧ 0 ≤ k ∧ Q (.int (ns.getD k.toNat 0)) H
noncomputable def sp_law_whole : Sp := fun vs H Q _ => ∃ i, vs = [.int i] ∧ Q (.bl true) H
theorem ok_law_cell_at (T : Txt K mg t) : FnOk P w K mg base CX0 1 t.a_law_cell_at t.d_law_cell_at ["_law_script", "_law_k"] (sp_law_cell_at K) := by
  refine T.F_law_cell_at.ok sc_law_cell_at (fun vs H Q E h => ?_) (fun cdv A outer s H vs Q E hr h => ?_)
  · obtain ⟨p, ns, k, rfl, _⟩ := h
    rfl
  · obtain ⟨p, ns, k, rfl, hS, h0, q⟩ := h
    refine ⟨_, (pss_cons (ps_if (pt_cmpR op_lt (pv 1) (pe_callB call_lenB rfl T.z_len (by decide +kernel) (pa_cons (pv 0) pa_nil)) (nomark _))
      (pss_one (ps_ret (pe_ix ix_B (pv 0) (pv 1) (fun _ _ => rfl))))
      pss_nil)
      (pss_one (ps_ret pe_int))), ?_⟩
    show tSeq _ _ _ [some (.ref p), some (.int k)] H
    walk_at "rd2"
    refine ints_len (b := false) hS ?_
    walk_at "rd2"
    by_cases z : k < ns.length
    · rw [decide_eq_true z]
      exact iteT ⟨false, p, _, _, _, rfl, rfl, hS, atI_ints h0 z, q⟩
    · rw [decide_eq_false z]
      refine iteF ?_
      have e : ns.getD k.toNat 0 = 0 := by
        rw [List.getD_eq_getElem?_getD, List.getElem?_eq_none (by omega)]
        rfl
      rw [e] at q
      exact q
theorem dvs (x y : Int) (h1 : y ≠ 0) (h2 : y.natAbs < 1073741824) : CDivB x y := ⟨h1, Nat.lt_of_lt_of_le ((Nat.log2_lt (by omega)).mpr (show y.natAbs < 2 ^ 30 from h2)) (by decide)⟩
theorem fms (x y : Int) (h : 0 < y) : 0 ≤ x.fmod y ∧ x.fmod y < y := ⟨Int.fmod_nonneg_of_pos x h, Int.fmod_lt_of_pos x h⟩
theorem sizeBig {n : Nat} (h : n ≤ 1000) : n ≤ sizeLine := Nat.le_of_lt (small1000 h)
noncomputable def let26 : Str := "abcdefghijklmnopqrstuvwxyz"
noncomputable def let27 : Str := "abcdefghijklmnopqrstuvwxyz."
noncomputable def slash : Str := "/"
noncomputable def inT (x : Str) (c : Nat) : Bool := !(Builtin.Str.occurrences x ⟨#[c]⟩ 0 x.length 1).isEmpty
noncomputable def okc (c : Nat) : Bool := decide (V.str (⟨#[c]⟩ : Str) = V.str ".") || inT let26 c
theorem okc_small : ∀ c < 123, inT let27 c = okc c := by decide +kernel
theorem ext26 : ∀ i < 26, let26.cps.extract i (i + 1) = #[let26.cps.getD i 0] ∧ let26.cps.getD i 0 < 123 := by decide +kernel
theorem ext27 : ∀ i < 27, let27.cps.extract i (i + 1) = #[let27.cps.getD i 0] ∧ let27.cps.getD i 0 < 123 := by decide +kernel
theorem big_of {x : Str} {n c : Nat} (hl : x.length = n) (h : ∀ i < n, x.cps.extract i (i + 1) = #[x.cps.getD i 0] ∧ x.cps.getD i 0 < 123) (hc : 123 ≤ c) : inT x c = false := by
  have e : Builtin.Str.occurrences x ⟨#[c]⟩ 0 x.length 1 = [] := PySem.W.occ_nil_of_no x ⟨#[c]⟩ 1 fun i hi => by
    have hi' : i < n := by rw [← hl]; exact hi
    obtain ⟨k1, k2⟩ := h i hi'
    show (x.cps.extract i (i + 1) == #[c]) = false
    rw [k1]
    have : x.cps.getD i 0 ≠ c := by omega
    simp only [beq_eq_false_iff_ne, ne_eq]
    intro z
    apply this
    simpa using z
  unfold inT
  rw [e]
  rfl
theorem okc_is (c : Nat) : inT let27 c = okc c := by
  by_cases h : c < 123
  · exact okc_small c h
  · rw [big_of (n := 27) (by decide +kernel) ext27 (by omega)]
    unfold okc
    rw [big_of (n := 26) (by decide +kernel) ext26 (by omega), Bool.or_false, eq_comm, decide_eq_false_iff_not]
    intro z
    have z2 : (⟨#[c]⟩ : Str) = "." := by injection z
    have z3 : (#[c] : Array Nat) = #[46] := congrArg Str.cps z2
    have : c = 46 := by simpa using z3
    omega
noncomputable def signsOk (z : Str) : Bool := z.cps.toList.all okc
/-- rows that are a drawing -/
noncomputable def Good (xs : List Str) : Prop := xs.length ≤ 6 ∧ 1 ≤ (xs.getD 0 "").length ∧ (xs.getD 0 "").length ≤ 6 ∧ ∀ x ∈ xs, x.length = (xs.getD 0 "").length ∧ signsOk x = true
noncomputable def cutR (u : Str) : List Str := Txt.split u slash
theorem slash_len : (slash.length == 0) = false := by decide +kernel
theorem parts_le (u : Str) (h : u.length ≤ 2000) : (Builtin.Str.partsBetween u (Builtin.Str.occurrences u slash 0 u.length (u.length + 1)) slash.length).length ≤ 2002 := by
  rw [PyProof.Rows.len_partsBetween]
  have := PySem.StrLaws.occ_length_le u slash 0 u.length (u.length + 1)
  omega
theorem cut_ne (u : Str) : 1 ≤ (cutR u).length := by
  unfold cutR Txt.split
  split
  · exact Nat.le_refl 1
  · split
    · exact Nat.le_refl 1
    · rw [PyProof.Rows.len_partsBetween]; omega
theorem joinOk {xs : List Str} (h1 : xs.length ≤ 6) (h2 : ∀ x ∈ xs, x.length ≤ 6) : JoinOk slash xs = true := by
  unfold JoinOk
  rw [Bool.not_eq_true']
  refine PySem.StrLaws.joinFits (B := 6) h2 ?_
  have : slash.length = 1 := by decide +kernel
  rw [this]
  omega
noncomputable def sp_are_signs : Sp := fun vs H Q _ => ∃ z : Str, vs = [.str z] ∧ z.length ≤ 1000 ∧ 1 ≤ z.length ∧ ∀ H', Same H H' → Q (.bl (signsOk z)) H'
noncomputable def sp_is_length : Sp := fun vs H Q _ => ∃ n : Int, vs = [.int n] ∧ Q (.bl (decide (1 ≤ n ∧ n ≤ 6))) H
noncomputable def sp_read_drawing (K : PySem.W.Frag) (C0 : Addr) : Sp := fun vs H Q E => ∃ u : Str, vs = [.str u] ∧ u.length ≤ 900 ∧ (¬ Good (cutR u) → ∀ H', Same H H' → E (.ref C0) none H') ∧ (Good (cutR u) → ∀ p H', Same H H' → H' p = some (.tup ((cutR u).map V.str)) → Q (.ref p) H')
noncomputable def sp_show_drawing (K : PySem.W.Frag) : Sp := fun vs H Q _ => ∃ (b : Bool) (p : Addr) (xs : List Str), vs = [.ref p] ∧ SqB b K H p (xs.map V.str) ∧ JoinOk slash xs = true ∧ Q (.str (Txt.join slash xs)) H
noncomputable def sp_law_drawn (K : PySem.W.Frag) : Sp := fun vs H Q _ => ∃ (a : Addr) (ns : List Int), vs = [.ref a] ∧ SqL K H a (ns.map V.int) ∧ ns.length = 6 ∧ (∀ n ∈ ns, Builtin.Int.intBits n ≤ 1048576) ∧ ∀ (l : Addr) (H' : Hp) (xs : List Str), Same H H' → H' l = some (.lst (xs.map V.str)) → 1 ≤ xs.length → xs.length ≤ 6 → (∀ x ∈ xs, x.length ≤ 6) → Q (.ref l) H'
noncomputable def sp_law_other (K : PySem.W.Frag) : Sp := fun vs H Q _ => ∃ (l a : Addr) (xs : List Str) (ns : List Int), vs = [.ref l, .ref a] ∧ H l = some (.lst (xs.map V.str)) ∧ 1 ≤ xs.length ∧ xs.length ≤ 6 ∧ (∀ x ∈ xs, x.length ≤ 6) ∧ SqL K H a (ns.map V.int) ∧ ns.length = 6 ∧ ∀ (z : Str) H', Same H H' → z.length ≤ 900 → Q (.str z) H'
noncomputable def sp_law_due (K : PySem.W.Frag) : Sp := fun vs H Q _ => ∃ u : Str, vs = [.str u] ∧ u.length ≤ 900 ∧ (¬ Good (cutR u) → ∀ H', Same H H' → Q .non H') ∧ (Good (cutR u) → ∀ p H', Same H H' → H' p = some (.tup ((cutR u).map V.str)) → Q (.ref p) H')
noncomputable def sp_law_others (C : Addr) : Sp := fun vs H Q _ => ∃ e, vs = [.ref e] ∧ H e = some (ExcAt e (.ref C)) ∧ Q (.bl false) H
noncomputable def sp_law_only (C : Addr) : Sp := fun vs H Q _ => ∃ e, vs = [.ref e] ∧ H e = some (ExcAt e (.ref C)) ∧ Q (.bl true) H
noncomputable def sp_law_right : Sp := fun vs H Q _ => ∃ u : Str, vs = [.str u] ∧ u.length ≤ 900 ∧ ∀ H', Same H H' → Q (.bl true) H'
/-- len of a part is no more than of the whole -/
theorem part_le {u x : Str} (h : x ∈ cutR u) : x.length ≤ u.length := by
  unfold cutR Txt.split at h
  split at h
  · rw [List.mem_singleton.mp h]; exact Nat.le_refl _
  · split at h
    · rw [List.mem_singleton.mp h]; exact Nat.le_refl _
    · unfold Builtin.Str.partsBetween at h
      obtain ⟨⟨i, j⟩, _, rfl⟩ := List.mem_map.mp h
      exact strSub_length_le u i j
theorem ecls (T : Txt K mg t) : ExcCls K t.a_NoDrawing := ⟨T.e_ga, T.e_gt, T.e_ca, T.e_cg, T.e_tk, T.e_ob, T.e_bx, by
  have q := T.e_ob
  unfold PySem.W.mroIn at q
  cases e : PySem.W.clsIn K t.a_NoDrawing with
  | none => rw [e] at q; cases q
  | some c => rfl⟩
theorem okc_lt {c : Nat} (h : okc c = true) : c < 123 := by
  by_cases z : c < 123
  · exact z
  · rw [← okc_is, big_of (n := 27) (by decide +kernel) ext27 (by omega)] at h
    cases h
theorem good_ok {xs : List Str} (g : Good xs) : ∀ x ∈ xs, PyData.strOk x = true := fun x hx => by
  have h := (g.2.2.2 x hx).2
  unfold signsOk at h
  unfold PyData.strOk
  rw [← Array.all_toList, List.all_eq_true]
  rw [List.all_eq_true] at h
  intro c hc
  have := okc_lt (h c hc)
  exact decide_eq_true (by omega)
theorem one_len (c : Nat) : (⟨#[c]⟩ : Str).length = 1 := rfl
theorem len_app (x y : Str) : (x ++ y).length = x.length + y.length := by
  show (x.cps ++ y.cps).size = _
  rw [Array.size_append]; rfl
theorem ok_is_length (T : Txt K mg t) : FnOk P w K mg base CX0 1 t.a_is_length t.d_is_length ["number"] sp_is_length := by
  refine T.F_is_length.ok sc_is_length (fun vs H Q E h => ?_) (fun cdv A outer s H vs Q E hr h => ?_)
  · obtain ⟨n, rfl, _⟩ := h
    rfl
  · obtain ⟨n, rfl, q⟩ := h
    refine ⟨_, (pss_one (ps_ret (pe_and (pe_cmpR op_le pe_int (pv 0) (nomark _)) (pe_one (pe_cmpR op_le (pv 0) (pe_globE (v := (.int 6)) rfl T.g_LONGEST) (nomark _)))))), ?_⟩
    show tRet _ _ [some (.int n)] H
    walk_at "rd2"
    by_cases z : 1 ≤ n
    · rw [decide_eq_true z]
      refine iteT ?_
      have e : decide (1 ≤ n ∧ n ≤ 6) = decide (n ≤ 6) := by
        by_cases y : n ≤ 6
        · rw [decide_eq_true y, decide_eq_true ⟨z, y⟩]
        · rw [decide_eq_false y, decide_eq_false fun h => y h.2]
      rw [e] at q
      exact q
    · rw [decide_eq_false z]
      refine iteF ?_
      rw [decide_eq_false fun h => z h.1] at q
      exact q
theorem ok_are_signs (T : Txt K mg t) : FnOk P w K mg base CX0 1 t.a_are_signs t.d_are_signs ["text"] sp_are_signs := by
  refine T.F_are_signs.ok sc_are_signs (fun vs H Q E h => ?_) (fun cdv A outer s H vs Q E hr h => ?_)
  · obtain ⟨z, rfl, _⟩ := h
    rfl
  · obtain ⟨z, rfl, hz, h1, hQ⟩ := h
    refine ⟨_, (pss_one (ps_ret (pe_and (pe_cmpR op_ne (pv 0) pe_str (nomark _)) (pe_one (pe_callB (call_all rfl) rfl T.z_all (by decide +kernel) (pa_cons (pe_compG (xs := ["sign"]) (fr := []) (g := (gName 0)) (tt := (tEl (tOrV (tOp rEq (tVar 0) (tC (.str "."))) (tOp (fun x y H Q => ∃ i j, x = .str i ∧ y = .str j ∧ Q (.bl (!(Builtin.Str.occurrences j i 0 j.length 1).isEmpty)) H) (tVar 0) (tC (.str "abcdefghijklmnopqrstuvwxyz")))))) (compG_ok (sc := defScope s_are_signs) (N := N_are_signs) rfl rfl (by decide +kernel)) rfl (pi_str (pv 0)) (fun _ _ _ hE1 => (pg_own (N := ["sign"]) (i := 0) hE1 rfl (by decide +kernel))) (fun _ _ _ hE1 => (po_el (pe_or (pe_cmpR op_eq (pv 0) pe_str (nomark _)) (pe_one (pe_cmpR op_in_str (pv 0) (pe_globE (v := (.str "abcdefghijklmnopqrstuvwxyz")) rfl T.g_SMALL_LETTERS) rfl)))))) pa_nil)))))), ?_⟩
    show tRet _ _ [some (.str z)] H
    walk_at "rd2"
    have hne : decide (V.str z = V.str (Str.ofString "")) = false := decide_eq_false fun e => by
      have e2 : z = Str.ofString "" := by injection e
      rw [e2] at h1
      exact absurd h1 (by decide +kernel)
    refine ⟨rfl, true, by rw [hne]; rfl, iteT ?_⟩
    refine compE_st fun B eB => ?_
    simp only [iStr]
    walk_at "rd2"
    refine ⟨z, rfl, fun a1 ha1 => cg_str (fun j y _ => ∃ c, z.cps.toList[j]? = some c ∧ y = .bl (okc c)) ha1 hz (fun _ _ _ _ r _ => r) ?_ ?_⟩
    · intro i c H1 zs hc s1 ez Q' hQ'
      have hc' : z.cps.toList[i]? = some c := by simpa using hc
      subst eB
      show tOrV _ _ [some (.str ⟨#[c]⟩)] H1 Q'
      walk_at "rd2"
      by_cases z1 : V.str (⟨#[c]⟩ : Str) = V.str (Str.ofString ".")
      · refine ⟨rfl, true, by rw [decide_eq_true z1], iteT (hQ' _ _ (Same.refl _) ⟨c, hc', ?_⟩)⟩
        unfold okc
        rw [decide_eq_true z1, Bool.true_or]
      · refine ⟨rfl, false, by rw [decide_eq_false z1], iteF ⟨_, rfl, _, rfl, hQ' _ _ (Same.refl _) ⟨c, hc', ?_⟩⟩⟩
        unfold okc
        rw [decide_eq_false z1, Bool.false_or]
        rfl
    · intro H1 ys s1 e1 hly hr1
      have ey : ys = (z.cps.toList.map okc).map V.bl := by
        rw [List.map_map]
        exact list_is (by simpa using hly) hr1
      subst ey
      refine ⟨a1, rfl, _, SqL.of e1, ?_⟩
      have : (z.cps.toList.map okc).all id = signsOk z := by unfold signsOk; rw [List.all_map]; rfl
      rw [this]
      exact hQ H1 s1
theorem ok_show_drawing (T : Txt K mg t) : FnOk P w K mg base CX0 1 t.a_show_drawing t.d_show_drawing ["drawing"] (sp_show_drawing K) := by
  refine T.F_show_drawing.ok sc_show_drawing (fun vs H Q E h => ?_) (fun cdv A outer s H vs Q E hr h => ?_)
  · obtain ⟨b, p, xs, rfl, _⟩ := h
    rfl
  · obtain ⟨b, p, xs, rfl, hS, hok, hQ⟩ := h
    refine ⟨_, (pss_one (ps_ret (pe_bm PySem.F.plainAttrs_str PySem.F.slot_str_join PySem.F.type_str_join mt_join pe_str (pa_cons (pv 0) pa_nil)))), ?_⟩
    show tRet _ _ [some (.ref p)] H
    walk_at "rd2"
    exact ⟨rfl, b, slash, p, xs, rfl, rfl, hS, hok, hQ⟩
theorem ok_law_others (T : Txt K mg t) : FnOkA P w K mg base 1 t.a_law_others t.d_law_others ["_law_e"] (sp_law_others t.a_NoDrawing) := by
  refine T.F_law_others.okA sc_law_others (fun vs H Q E h => ?_) (fun cdv A outer s H vs Q E hr h => ?_)
  · obtain ⟨e, rfl, _⟩ := h
    rfl
  · obtain ⟨e, rfl, he, q⟩ := h
    refine ⟨_, (pss_cons (ps_if (PW.pt (pw_or (pt_val (pe_callB call_isi rfl T.z_isinstance (by decide +kernel) (pa_cons (pv 0) (pa_cons (pe_glob (v := .ref t.a_NoPlace) rfl T.m_NoPlace rfl) pa_nil)))) (pw_or (pt_val (pe_callB call_isi rfl T.z_isinstance (by decide +kernel) (pa_cons (pv 0) (pa_cons (pe_glob (v := .ref t.a_NoNumber) rfl T.m_NoNumber rfl) pa_nil)))) (pw_or1 (pt_val (pe_callB call_isi rfl T.z_isinstance (by decide +kernel) (pa_cons (pv 0) (pa_cons (pe_glob (v := .ref t.a_TooMany) rfl T.m_TooMany rfl) pa_nil))))))))
      (pss_one (ps_ret pe_bl))
      pss_nil)
      (pss_cons (ps_if (PW.pt (pw_or (pt_val (pe_callB call_isi rfl T.z_isinstance (by decide +kernel) (pa_cons (pv 0) (pa_cons (pe_glob (v := .ref t.a_NoChange) rfl T.m_NoChange rfl) pa_nil)))) (pw_or (pt_val (pe_callB call_isi rfl T.z_isinstance (by decide +kernel) (pa_cons (pv 0) (pa_cons (pe_glob (v := .ref t.a_NotKept) rfl T.m_NotKept rfl) pa_nil)))) (pw_or1 (pt_val (pe_callB call_isi rfl T.z_isinstance (by decide +kernel) (pa_cons (pv 0) (pa_cons (pe_glob (v := .ref t.a_NoForm) rfl T.m_NoForm rfl) pa_nil))))))))
      (pss_one (ps_ret pe_bl))
      pss_nil)
      (pss_cons (ps_if (PW.pt (pw_or (pt_val (pe_callB call_isi rfl T.z_isinstance (by decide +kernel) (pa_cons (pv 0) (pa_cons (pe_glob (v := .ref t.a_NotWithin) rfl T.m_NotWithin rfl) pa_nil)))) (pw_or1 (pt_val (pe_callB call_isi rfl T.z_isinstance (by decide +kernel) (pa_cons (pv 0) (pa_cons (pe_glob (v := .ref t.a_NotLeast) rfl T.m_NotLeast rfl) pa_nil)))))))
      (pss_one (ps_ret pe_bl))
      pss_nil)
      (pss_one (ps_ret (pe_or (pe_callB call_isi rfl T.z_isinstance (by decide +kernel) (pa_cons (pv 0) (pa_cons (pe_glob (v := .ref t.a_NoRow) rfl T.m_NoRow rfl) pa_nil))) (pe_one (pe_callB call_isi rfl T.z_isinstance (by decide +kernel) (pa_cons (pv 0) (pa_cons (pe_glob (v := .ref t.a_NoName) rfl T.m_NoName rfl) pa_nil)))))))))), ?_⟩
    show tSeq _ _ _ [some (.ref e)] H
    have isi : ∀ (c : V) (b : Bool) (Q' : VK), isCls c = true → PySem.W.kitOne K (.ref t.a_NoDrawing) (clsV c) = some b → Q' (.bl b) H → rIsi K [.ref e, c] H Q' := fun c b Q' h1 h2 h3 => ⟨_, _, _, _, rfl, .exc he (ecls T), h1, h2, h3⟩
    refine st fun N1 e1 => ?_
    walk_at "rd2"
    refine isi _ _ _ rfl T.i_NoPlace ⟨_, rfl, iteF (isi _ _ _ rfl T.i_NoNumber ⟨_, rfl, iteF (isi _ _ _ rfl T.i_TooMany ⟨_, rfl, iteF ?_⟩)⟩)⟩
    subst e1
    refine st fun N1 e1 => ?_
    walk_at "rd2"
    refine isi _ _ _ rfl T.i_NoChange ⟨_, rfl, iteF (isi _ _ _ rfl T.i_NotKept ⟨_, rfl, iteF (isi _ _ _ rfl T.i_NoForm ⟨_, rfl, iteF ?_⟩)⟩)⟩
    subst e1
    refine st fun N1 e1 => ?_
    walk_at "rd2"
    refine isi _ _ _ rfl T.i_NotWithin ⟨_, rfl, iteF (isi _ _ _ rfl T.i_NotLeast ⟨_, rfl, iteF ?_⟩)⟩
    subst e1
    walk_at "rd2"
    exact isi _ _ _ rfl T.i_NoRow ⟨_, rfl, iteF (isi _ _ _ rfl T.i_NoName q)⟩
theorem ok_law_only (T : Txt K mg t) : FnOkA P w K mg base 2 t.a_law_only t.d_law_only ["_law_e"] (sp_law_only t.a_NoDrawing) := by
  have G_law_others : FnOkA P w K mg base 1 t.a_law_others t.d_law_others ["_law_e"] (sp_law_others t.a_NoDrawing) := ok_law_others T
  refine T.F_law_only.okA sc_law_only (fun vs H Q E h => ?_) (fun cdv A outer s H vs Q E hrA h => ?_)
  · obtain ⟨e, rfl, _⟩ := h
    rfl
  · obtain ⟨e, rfl, he, q⟩ := h
    refine ⟨_, (pss_cons (ps_if (PW.pt (pw_or (pt_val (pe_callB call_isi rfl T.z_isinstance (by decide +kernel) (pa_cons (pv 0) (pa_cons (pe_glob (v := .ref t.a_OffSheet) rfl T.m_OffSheet rfl) pa_nil)))) (pw_or1 (pt_val (pe_callB call_isi rfl T.z_isinstance (by decide +kernel) (pa_cons (pv 0) (pa_cons (pe_glob (v := .ref t.a_NoSheet) rfl T.m_NoSheet rfl) pa_nil)))))))
      (pss_one (ps_ret pe_bl))
      pss_nil)
      (pss_cons (ps_if (PW.pt (pw_or (pt_val (pe_callB call_isi rfl T.z_isinstance (by decide +kernel) (pa_cons (pv 0) (pa_cons (pe_glob (v := .ref t.a_NoText) rfl T.m_NoText rfl) pa_nil)))) (pw_or1 (pt_val (pe_callB call_isi rfl T.z_isinstance (by decide +kernel) (pa_cons (pv 0) (pa_cons (pe_glob (v := .ref t.a_NoDeed) rfl T.m_NoDeed rfl) pa_nil)))))))
      (pss_one (ps_ret pe_bl))
      pss_nil)
      (pss_one (ps_ret (pe_and (pe_callB call_isi rfl T.z_isinstance (by decide +kernel) (pa_cons (pv 0) (pa_cons (pe_glob (v := .ref t.a_NoDrawing) rfl T.m_NoDrawing rfl) pa_nil))) (pe_and (pe_callB call_isi rfl T.z_isinstance (by decide +kernel) (pa_cons (pv 0) (pa_cons (pe_bltn (v := .ty "ValueError") rfl T.z_ValueError (by decide +kernel) rfl) pa_nil))) (pe_one (pe_not (pe_callA G_law_others (hrA.mono (by omega)) rfl T.m_law_others T.F_law_others.kp T.b_law_others .nil (pa_cons (pv 0) pa_nil)))))))))), ?_⟩
    show tSeq _ _ _ [some (.ref e)] H
    have isi : ∀ (c : V) (b : Bool) (Q' : VK), isCls c = true → PySem.W.kitOne K (.ref t.a_NoDrawing) (clsV c) = some b → Q' (.bl b) H → rIsi K [.ref e, c] H Q' := fun c b Q' h1 h2 h3 => ⟨_, _, _, _, rfl, .exc he (ecls T), h1, h2, h3⟩
    refine st fun N1 e1 => ?_
    walk_at "rd2"
    refine isi _ _ _ rfl T.i_OffSheet ⟨_, rfl, iteF (isi _ _ _ rfl T.i_NoSheet ⟨_, rfl, iteF ?_⟩)⟩
    subst e1
    refine st fun N1 e1 => ?_
    walk_at "rd2"
    refine isi _ _ _ rfl T.i_NoText ⟨_, rfl, iteF (isi _ _ _ rfl T.i_NoDeed ⟨_, rfl, iteF ?_⟩)⟩
    subst e1
    walk_at "rd2"
    refine isi _ _ _ rfl T.i_NoDrawing ⟨_, rfl, iteT (isi _ _ _ rfl T.i_VE ⟨_, rfl, iteT ?_⟩)⟩
    exact ⟨e, rfl, he, _, rfl, q⟩
theorem ok_read_drawing (T : Txt K mg t) : FnOk P w K mg base (CX1 P w) 2 t.a_read_drawing t.d_read_drawing ["text"] (sp_read_drawing K t.a_NoDrawing) := by
  have G_is_length : FnOk P w K mg base CX0 1 t.a_is_length t.d_is_length ["number"] sp_is_length := ok_is_length T
  have G_are_signs : FnOk P w K mg base CX0 1 t.a_are_signs t.d_are_signs ["text"] sp_are_signs := ok_are_signs T
  refine T.F_read_drawing.okX sc_read_drawing (fun vs H Q E h => ?_) (fun cdv A outer s H vs Q E hr h => ?_)
  · obtain ⟨u, rfl, _⟩ := h
    rfl
  · obtain ⟨u, rfl, hu, hE, hQ⟩ := h
    refine ⟨_, (pss_cons (ps_set (i := 1) sc_read_drawing.nd rfl (Or.inl rfl) (pe_bm PySem.F.plainAttrs_str PySem.F.slot_str_split PySem.F.type_str_split mt_split (pv 0) (pa_cons pe_str pa_nil)))
      (pss_cons (ps_if (PW.pt (pw_or (pt_not (pt_val (pe_call G_is_length (hr.mono (by omega)) rfl T.m_is_length T.F_is_length.kp T.b_is_length .nil pass0 (pa_cons (pe_callB call_lenB rfl T.z_len (by decide +kernel) (pa_cons (pv 1) pa_nil)) pa_nil)))) (pw_or1 (pt_not (pt_val (pe_call G_is_length (hr.mono (by omega)) rfl T.m_is_length T.F_is_length.kp T.b_is_length .nil pass0 (pa_cons (pe_callB call_len_str rfl T.z_len (by decide +kernel) (pa_cons (pe_ix ix_B (pv 1) pe_int (fun _ _ => rfl)) pa_nil)) pa_nil)))))))
      (pss_one (ps_raise rfl landsN_def rfl T.m_NoDrawing T.x_NoDrawing PySem.F.excBase_ValueError (pa_cons pe_str pa_nil)))
      pss_nil)
      (pss_cons (ps_for PassesOwn.leaving rfl (pi_seq (pv 1)) (pg_name (i := 2) sc_read_drawing.nd rfl (Or.inl rfl))
      (pss_one (ps_if (PW.pt (pw_or (pt_cmpR op_neZ (pe_callB call_len_str rfl T.z_len (by decide +kernel) (pa_cons (pv 2) pa_nil)) (pe_callB call_len_str rfl T.z_len (by decide +kernel) (pa_cons (pe_ix ix_B (pv 1) pe_int (fun _ _ => rfl)) pa_nil)) (nomark _)) (pw_or1 (pt_not (pt_val (pe_call G_are_signs (hr.mono (by omega)) rfl T.m_are_signs T.F_are_signs.kp T.b_are_signs .nil pass0 (pa_cons (pv 2) pa_nil)))))))
      (pss_one (ps_raise rfl landsN_def rfl T.m_NoDrawing T.x_NoDrawing PySem.F.excBase_ValueError (pa_cons pe_str pa_nil)))
      pss_nil)))
      (pss_one (ps_ret (pe_callTy call_tupB rfl T.z_tuple (by decide +kernel) (pa_cons (pv 1) pa_nil))))))), ?_⟩
    show tSeq _ _ _ [some (.str u), none, none] H
    have hne := cut_ne u
    have hpl : ∀ x ∈ cutR u, x.length ≤ 900 := fun x hx => Nat.le_trans (part_le hx) hu
    refine st fun N1 e1 => ?_
    walk_at "rd2"
    refine ⟨rfl, u, slash, rfl, rfl, slash_len, Nat.le_trans hu (by decide), Nat.le_trans (parts_le u (by omega)) (by decide), fun l hl => ?_⟩
    have s1 : Same H (upd H l (.lst ((Txt.split u slash).map V.str))) := Same.new hl
    have el : (upd H l (.lst ((Txt.split u slash).map V.str))) l = some (.lst ((cutR u).map V.str)) := upd_same
    generalize upd H l (.lst ((Txt.split u slash).map V.str)) = H1 at s1 el
    have e0 : (cutR u)[0]? = some ((cutR u).getD 0 "") := by
      rw [List.getD_eq_getElem?_getD, List.getElem?_eq_getElem (by omega)]; rfl
    have m0 : (cutR u).getD 0 "" ∈ cutR u := List.mem_of_getElem? e0
    have l0 := hpl _ m0
    generalize hxs : cutR u = xs at *
    generalize hx0 : xs.getD 0 "" = x0 at *
    have hlen : ∀ Q' : VK, Q' (.int xs.length) H1 → rLenB K [.ref l] H1 Q' := fun Q' q => ⟨false, l, _, rfl, SqB.lst el, by rw [List.length_map]; exact q⟩
    have hix : ∀ Q' : VK, Q' (.str x0) H1 → rIxB K (.ref l) (.int 0) H1 Q' := fun Q' q => ⟨false, l, _, _, _, rfl, rfl, SqB.lst el, atI_at (i := 0) (by rw [List.getElem?_map, e0]; rfl) rfl, q⟩
    subst e1
    refine st fun N1 e1 => ?_
    simp only [tRaise]
    walk_at "rd2"
    refine hlen _ ⟨_, rfl, _, rfl, ?_⟩
    by_cases k1 : xs.length ≤ 6
    case neg =>
      rw [decide_eq_false (by omega)]
      refine iteT ?_
      simp only [tRaise]
      walk_at "rd2"
      exact ⟨by decide, hE (fun g => k1 g.1) _ s1⟩
    rw [decide_eq_true (by omega)]
    refine iteF (hix _ ⟨_, rfl, Nat.le_trans l0 (by decide), _, rfl, _, rfl, ?_⟩)
    by_cases k2 : 1 ≤ x0.length ∧ x0.length ≤ 6
    case neg =>
      rw [decide_eq_false (by omega)]
      refine iteT ?_
      simp only [tRaise]
      walk_at "rd2"
      refine ⟨by decide, hE (fun g => k2 ?_) _ s1⟩
      have := g.2
      rw [hx0] at this
      exact ⟨this.1, this.2.1⟩
    rw [decide_eq_true (by omega)]
    refine iteF ?_
    subst e1
    refine st fun N1 e1 => for_st fun B eB => ?_
    simp only [iSeq]
    walk_at "rd2"
    refine ⟨false, ⟨_, SqB.lst el⟩, ?_⟩
    refine fr_seq (g := gName 2) (tb := B) (fun i σ H2 => ∃ v, σ = [some (.str u), some (.ref l), v] ∧ Same H1 H2 ∧ ∀ x ∈ xs.take i, x.length = x0.length ∧ signsOk x = true) ⟨none, rfl, Same.refl _, fun x hx => by simp at hx⟩ (fun i σ H2 _ ⟨_, _, e, _⟩ => SqB.lst (e _ _ el)) ?_ ?_
    · rintro i y σ H2 hi ⟨v, rfl, s2, hok⟩
      obtain ⟨x, ex, rfl⟩ : ∃ x, xs[i]? = some x ∧ y = .str x := by
        rw [List.getElem?_map] at hi
        cases e : xs[i]? with
        | none => rw [e] at hi; cases hi
        | some x => rw [e] at hi; exact ⟨x, rfl, (Option.some.inj hi).symm⟩
      have hx := hpl x (List.mem_of_getElem? ex)
      have hix2 : ∀ Q' : VK, Q' (.str x0) H2 → rIxB K (.ref l) (.int 0) H2 Q' := fun Q' q => ⟨false, l, _, _, _, rfl, rfl, SqB.lst (s2 _ _ el), atI_at (i := 0) (by rw [List.getElem?_map, e0]; rfl) rfl, q⟩
      have bad : ¬ (x.length = x0.length ∧ signsOk x = true) → ∀ H', Same H H' → E (.ref t.a_NoDrawing) none H' := fun nb => hE fun g => nb (by
        have := g.2.2.2 x (List.mem_of_getElem? ex)
        rw [hx0] at this
        exact this)
      subst eB
      walk_at "rd2"
      refine ⟨x, rfl, Nat.le_trans hx (by decide), hix2 _ ⟨x0, rfl, Nat.le_trans l0 (by decide), ?_⟩⟩
      by_cases k3 : x.length = x0.length
      case neg =>
        rw [decide_eq_false (by omega)]
        refine iteT ?_
        simp only [tRaise]
        walk_at "rd2"
        exact ⟨by decide, bad (fun h => k3 h.1) _ (s1.trans s2)⟩
      rw [decide_eq_true (by omega)]
      refine iteF ⟨x, rfl, by omega, by omega, fun H3 s3 => ⟨_, rfl, ?_⟩⟩
      cases k4 : signsOk x with
      | false =>
        refine iteT ?_
        simp only [tRaise]
        walk_at "rd2"
        exact ⟨by decide, bad (fun h => by rw [k4] at h; cases h.2) _ ((s1.trans s2).trans s3)⟩
      | true =>
        refine iteF ⟨s2.trans s3, fun y hy => ?_⟩
        have e3 : xs.take (i + 1) = xs.take i ++ [x] := by rw [List.take_add_one, ex]; rfl
        rw [e3] at hy
        rcases List.mem_append.mp hy with h | h
        · exact hok y h
        · rw [List.mem_singleton.mp h]; exact ⟨k3, k4⟩
    · rintro σ H2 ⟨v, rfl, s2, hok⟩
      rw [List.length_map, List.take_length] at hok
      subst e1
      walk_at "rd2"
      refine ⟨l, _, rfl, .inl ⟨SqL.of (s2 _ _ el), fun p hp => ?_⟩⟩
      refine hQ ⟨k1, ?_⟩ p _ ((s1.trans s2).trans (Same.new hp)) upd_same
      rw [hx0]
      exact ⟨k2.1, k2.2, hok⟩
theorem ok_law_due (T : Txt K mg t) : FnOk P w K mg base CX0 1 t.a_law_due t.d_law_due ["_law_text"] (sp_law_due K) := by
  refine T.F_law_due.ok sc_law_due (fun vs H Q E h => ?_) (fun cdv A outer s H vs Q E hr h => ?_)
  · obtain ⟨u, rfl, _⟩ := h
    rfl
  · obtain ⟨u, rfl, hu, hE, hQ⟩ := h
    refine ⟨_, (pss_cons (ps_set (i := 1) sc_law_due.nd rfl (Or.inl rfl) (pe_bm PySem.F.plainAttrs_str PySem.F.slot_str_split PySem.F.type_str_split mt_split (pv 0) (pa_cons pe_str pa_nil)))
      (pss_cons (ps_if (PW.pt (pw_or (pt_cmpR op_gt (pe_callB call_lenB rfl T.z_len (by decide +kernel) (pa_cons (pv 1) pa_nil)) pe_int (nomark _)) (pw_or (pt_cmpR op_eq (pe_ix ix_B (pv 1) pe_int (fun _ _ => rfl)) pe_str (nomark _)) (pw_or1 (pt_cmpR op_gt (pe_callB call_len_str rfl T.z_len (by decide +kernel) (pa_cons (pe_ix ix_B (pv 1) pe_int (fun _ _ => rfl)) pa_nil)) pe_int (nomark _))))))
      (pss_one (ps_ret pe_non))
      pss_nil)
      (pss_cons (ps_for PassesOwn.never rfl (pi_seq (pv 1)) (pg_name (i := 2) sc_law_due.nd rfl (Or.inl rfl))
      (pss_cons (ps_if (pt_cmpR op_neZ (pe_callB call_len_str rfl T.z_len (by decide +kernel) (pa_cons (pv 2) pa_nil)) (pe_callB call_len_str rfl T.z_len (by decide +kernel) (pa_cons (pe_ix ix_B (pv 1) pe_int (fun _ _ => rfl)) pa_nil)) (nomark _))
      (pss_one (ps_ret pe_non))
      pss_nil)
      (pss_one (ps_for PassesOwn.never rfl (pi_str (pv 2)) (pg_name (i := 3) sc_law_due.nd rfl (Or.inl rfl))
      (pss_one (ps_if (pt_cmpR op_notin_str (pv 3) pe_str rfl)
      (pss_one (ps_ret pe_non))
      pss_nil))))))
      (pss_one (ps_ret (pe_callTy call_tupB rfl T.z_tuple (by decide +kernel) (pa_cons (pv 1) pa_nil))))))), ?_⟩
    show tSeq _ _ _ [some (.str u), none, none, none] H
    have hne := cut_ne u
    have hpl : ∀ x ∈ cutR u, x.length ≤ 900 := fun x hx => Nat.le_trans (part_le hx) hu
    refine st fun N1 e1 => ?_
    walk_at "rd2"
    refine ⟨rfl, u, slash, rfl, rfl, slash_len, Nat.le_trans hu (by decide), Nat.le_trans (parts_le u (by omega)) (by decide), fun l hl => ?_⟩
    have s1 : Same H (upd H l (.lst ((Txt.split u slash).map V.str))) := Same.new hl
    have el : (upd H l (.lst ((Txt.split u slash).map V.str))) l = some (.lst ((cutR u).map V.str)) := upd_same
    generalize upd H l (.lst ((Txt.split u slash).map V.str)) = H1 at s1 el
    have e0 : (cutR u)[0]? = some ((cutR u).getD 0 "") := by
      rw [List.getD_eq_getElem?_getD, List.getElem?_eq_getElem (by omega)]; rfl
    have m0 : (cutR u).getD 0 "" ∈ cutR u := List.mem_of_getElem? e0
    have l0 := hpl _ m0
    generalize hxs : cutR u = xs at *
    generalize hx0 : xs.getD 0 "" = x0 at *
    have hlen : ∀ Q' : VK, Q' (.int xs.length) H1 → rLenB K [.ref l] H1 Q' := fun Q' q => ⟨false, l, _, rfl, SqB.lst el, by rw [List.length_map]; exact q⟩
    have hix : ∀ Q' : VK, Q' (.str x0) H1 → rIxB K (.ref l) (.int 0) H1 Q' := fun Q' q => ⟨false, l, _, _, _, rfl, rfl, SqB.lst el, atI_at (i := 0) (by rw [List.getElem?_map, e0]; rfl) rfl, q⟩
    subst e1
    refine st fun N1 e1 => ?_
    walk_at "rd2"
    refine hlen _ ?_
    walk_at "rd2"
    by_cases k1 : xs.length ≤ 6
    case neg =>
      rw [decide_eq_true (by omega)]
      exact iteT (hE (fun g => k1 g.1) _ s1)
    rw [decide_eq_false (by omega)]
    refine iteF (hix _ ⟨rfl, _, rfl, ?_⟩)
    by_cases k2 : V.str x0 = V.str (Str.ofString "")
    case pos =>
      rw [decide_eq_true k2]
      refine iteT (hE (fun g => ?_) _ s1)
      have := g.2.1
      rw [hx0] at this
      have e2 : x0 = Str.ofString "" := by injection k2
      rw [e2] at this
      exact absurd this (by decide +kernel)
    have k2' : 1 ≤ x0.length := by
      rcases Nat.eq_zero_or_pos x0.length with z | z
      · refine absurd ?_ k2
        obtain ⟨a⟩ := x0
        have : a = #[] := Array.eq_empty_of_size_eq_zero z
        rw [this]
        rfl
      · exact z
    rw [decide_eq_false k2]
    refine iteF (hix _ ⟨_, rfl, Nat.le_trans l0 (by decide), ?_⟩)
    by_cases k3 : x0.length ≤ 6
    case neg =>
      rw [decide_eq_true (by omega)]
      refine iteT (hE (fun g => k3 ?_) _ s1)
      have := g.2.2.1
      rw [hx0] at this
      exact this
    rw [decide_eq_false (by omega)]
    refine iteF ?_
    subst e1
    refine st fun N1 e1 => for_st fun B eB => ?_
    simp only [iSeq]
    walk_at "rd2"
    refine ⟨false, ⟨_, SqB.lst el⟩, ?_⟩
    refine fr_seq (g := gName 2) (tb := B) (fun i σ H2 => ∃ v v3, σ = [some (.str u), some (.ref l), v, v3] ∧ Same H1 H2 ∧ ∀ x ∈ xs.take i, x.length = x0.length ∧ signsOk x = true) ⟨none, none, rfl, Same.refl _, fun x hx => by simp at hx⟩ (fun i σ H2 _ ⟨_, _, _, e, _⟩ => SqB.lst (e _ _ el)) ?_ ?_
    · rintro i y σ H2 hi ⟨v, v3, rfl, s2, hok⟩
      obtain ⟨x, ex, rfl⟩ : ∃ x, xs[i]? = some x ∧ y = .str x := by
        rw [List.getElem?_map] at hi
        cases e : xs[i]? with
        | none => rw [e] at hi; cases hi
        | some x => rw [e] at hi; exact ⟨x, rfl, (Option.some.inj hi).symm⟩
      have hx := hpl x (List.mem_of_getElem? ex)
      have hix2 : ∀ Q' : VK, Q' (.str x0) H2 → rIxB K (.ref l) (.int 0) H2 Q' := fun Q' q => ⟨false, l, _, _, _, rfl, rfl, SqB.lst (s2 _ _ el), atI_at (i := 0) (by rw [List.getElem?_map, e0]; rfl) rfl, q⟩
      have bad : ¬ (x.length = x0.length ∧ signsOk x = true) → ∀ H', Same H H' → Q .non H' := fun nb => hE fun g => nb (by
        have := g.2.2.2 x (List.mem_of_getElem? ex)
        rw [hx0] at this
        exact this)
      subst eB
      show tSeq _ _ _ [some (.str u), some (.ref l), some (.str x), v3] H2
      refine st fun N2 e2 => ?_
      walk_at "rd2"
      refine ⟨x, rfl, Nat.le_trans hx (by decide), hix2 _ ⟨x0, rfl, Nat.le_trans l0 (by decide), ?_⟩⟩
      by_cases k4 : x.length = x0.length
      case neg =>
        rw [decide_eq_false (by omega)]
        exact iteT (bad (fun h => k4 h.1) _ (s1.trans s2))
      rw [decide_eq_true (by omega)]
      refine iteF ?_
      subst e2
      refine for_st fun B2 eB2 => ?_
      simp only [iStr]
      walk_at "rd2"
      refine ⟨x, rfl, ?_⟩
      refine fr_str (g := gName 3) (tb := B2) (fun j σ H3 => ∃ v3, σ = [some (.str u), some (.ref l), some (.str x), v3] ∧ H3 = H2 ∧ ∀ c ∈ x.cps.toList.take j, okc c = true) ⟨_, rfl, rfl, fun c hc => by simp at hc⟩ ?_ ?_
      · rintro j c σ H3 hc ⟨v3, rfl, rfl, hok3⟩
        have hc' : x.cps.toList[j]? = some c := by simpa using hc
        subst eB2
        walk_at "rd2"
        refine ⟨_, rfl, _, rfl, ?_⟩
        have ek : (!(!(Builtin.Str.occurrences (Str.ofString "abcdefghijklmnopqrstuvwxyz.") ⟨#[c]⟩ 0 (Str.ofString "abcdefghijklmnopqrstuvwxyz.").length 1).isEmpty)) = !okc c := by
          rw [← okc_is c]; rfl
        rw [ek]
        cases k5 : okc c with
        | false =>
          refine iteT (bad (fun h => ?_) _ (s1.trans s2))
          have := h.2
          unfold signsOk at this
          rw [List.all_eq_true] at this
          have := this c (List.mem_of_getElem? hc')
          rw [k5] at this
          cases this
        | true =>
          refine iteF fun d hd => ?_
          rw [List.take_add_one, hc'] at hd
          rcases List.mem_append.mp hd with h | h
          · exact hok3 d h
          · rw [List.mem_singleton.mp h]; exact k5
      · rintro σ H3 ⟨v3, rfl, rfl, hok3⟩
        have hs : signsOk x = true := by
          unfold signsOk
          rw [List.all_eq_true]
          intro c hc
          refine hok3 c ?_
          rw [List.take_of_length_le (by simp)]
          exact hc
        refine ⟨_, _, rfl, s2, fun y hy => ?_⟩
        have e3 : xs.take (i + 1) = xs.take i ++ [x] := by rw [List.take_add_one, ex]; rfl
        rw [e3] at hy
        rcases List.mem_append.mp hy with h | h
        · exact hok y h
        · rw [List.mem_singleton.mp h]; exact ⟨k4, hs⟩
    · rintro σ H2 ⟨v, v3, rfl, s2, hok⟩
      rw [List.length_map, List.take_length] at hok
      subst e1
      walk_at "rd2"
      refine ⟨l, _, rfl, .inl ⟨SqL.of (s2 _ _ el), fun p hp => ?_⟩⟩
      refine hQ ⟨k1, ?_⟩ p _ ((s1.trans s2).trans (Same.new hp)) upd_same
      rw [hx0]
      exact ⟨k2', k3, hok⟩
theorem ok_law_right (T : Txt K mg t) : FnOk P w K mg base CX0 3 t.a_law_right t.d_law_right ["_law_text"] sp_law_right := by
  have G_law_due : FnOk P w K mg base CX0 1 t.a_law_due t.d_law_due ["_law_text"] (sp_law_due K) := ok_law_due T
  have G_read_drawing : FnOk P w K mg base (CX1 P w) 2 t.a_read_drawing t.d_read_drawing ["text"] (sp_read_drawing K t.a_NoDrawing) := ok_read_drawing T
  have G_law_only : FnOkA P w K mg base 2 t.a_law_only t.d_law_only ["_law_e"] (sp_law_only t.a_NoDrawing) := ok_law_only T
  have G_show_drawing : FnOk P w K mg base CX0 1 t.a_show_drawing t.d_show_drawing ["drawing"] (sp_show_drawing K) := ok_show_drawing T
  refine T.F_law_right.ok sc_law_right (fun vs H Q E h => ?_) (fun cdv A outer s H vs Q E hr h => ?_)
  · obtain ⟨u, rfl, _⟩ := h
    rfl
  · obtain ⟨u, rfl, hul, hQ⟩ := h
    have hu := hr.units
    refine ⟨_, (pss_cons (ps_set (i := 1) sc_law_right.nd rfl (Or.inl rfl) (pe_call G_law_due (hr.mono (by omega)) rfl T.m_law_due T.F_law_due.kp T.b_law_due .nil pass0 (pa_cons (pv 0) pa_nil)))
      (pss_cons (ps_set (i := 2) sc_law_right.nd rfl (Or.inl rfl) pe_bl)
      (pss_cons (ps_set (i := 3) sc_law_right.nd rfl (Or.inl rfl) pe_bl)
      (pss_cons (ps_set (i := 4) sc_law_right.nd rfl (Or.inl rfl) pe_non)
      (pss_cons (ps_try (i := 5) rfl rfl rfl sc_law_right.nd rfl rfl rfl T.m_CrystalError (fun _ _ _ hL =>
      (pss_one (ps_set (i := 4) sc_law_right.nd rfl (Or.inl rfl) (pe_callX G_read_drawing (hr.mono (by omega)) rfl T.m_read_drawing T.F_read_drawing.kp T.b_read_drawing .nil hL (pa_cons (pv 0) pa_nil))))) (fun _ =>
      (pss_cons (ps_set (i := 2) sc_law_right.nd rfl (Or.inl rfl) pe_bl)
      (pss_one (ps_set (i := 3) sc_law_right.nd rfl (Or.inl rfl) (pe_callA G_law_only ((hr.a.mark _).mono (by omega)) rfl T.m_law_only T.F_law_only.kp T.b_law_only .nil (pa_cons (pv 5) pa_nil)))))))
      (pss_cons (ps_if (pt_cmpR op_isN (pv 1) pe_non (nomark _))
      (pss_one (ps_ret (pe_and (pv 2) (pe_one (pv 3)))))
      pss_nil)
      (pss_cons (ps_if (PW.pt (pw_or (pt_val (pv 2)) (pw_or (pt_not (pt_val (pe_callB call_isi rfl T.z_isinstance (by decide +kernel) (pa_cons (pv 4) (pa_cons (pe_bltn (v := .ty "tuple") rfl T.z_tuple (by decide +kernel) rfl) pa_nil))))) (pw_or1 (pt_cmpR (op_neD hu) (pv 4) (pv 1) (nomark _))))))
      (pss_one (ps_ret pe_bl))
      pss_nil)
      (pss_cons (ps_set (i := 6) sc_law_right.nd rfl (Or.inl rfl) (pe_call G_show_drawing (hr.mono (by omega)) rfl T.m_show_drawing T.F_show_drawing.kp T.b_show_drawing .nil pass0 (pa_cons (pv 4) pa_nil)))
      (pss_one (ps_ret (pe_and (pe_callB call_isi rfl T.z_isinstance (by decide +kernel) (pa_cons (pv 6) (pa_cons (pe_bltn (v := .ty "str") rfl T.z_str (by decide +kernel) rfl) pa_nil))) (pe_one (pe_cmpR op_eq (pv 6) (pv 0) (nomark _)))))))))))))), ?_⟩
    show tSeq _ _ _ [some (.str u), none, none, none, none, none, none] H
    refine st fun N1 e1 => ?_
    walk_at "rd2"
    refine ⟨u, rfl, hul, fun ng H1 s1 => ?_, fun g p H1 s1 ep => ?_⟩
    · subst e1
      refine st fun N1 e1 => ?_
      walk_at "rd2"
      subst e1
      refine st fun N1 e1 => ?_
      walk_at "rd2"
      subst e1
      refine st fun N1 e1 => ?_
      walk_at "rd2"
      subst e1
      refine st fun N1 e1 => ?_
      have keyR : ∀ (H4 : Hp), Same H H4 → N1 [some (.str u), some .non, some (.bl true), some (.bl true), some .non, none, none] H4 := by
        intro H4 s4
        subst e1
        walk_at "rd2"
        exact iteT (hQ H4 s4)
      simp only [tTry]
      walk_at "rd2"
      exact ⟨u, rfl, hul, fun _ H4 s4 => ⟨T.xm, fun e he => ⟨e, rfl, upd_same, keyR _ (s1.trans (s4.trans (Same.new he)))⟩⟩, fun g => absurd g ng⟩
    · subst e1
      refine st fun N1 e1 => ?_
      walk_at "rd2"
      subst e1
      refine st fun N1 e1 => ?_
      walk_at "rd2"
      subst e1
      refine st fun N1 e1 => ?_
      walk_at "rd2"
      subst e1
      refine st fun N1 e1 => ?_
      have keyO : ∀ (H4 : Hp) (q : Addr), Same H1 H4 → H4 q = some (.tup ((cutR u).map V.str)) → N1 [some (.str u), some (.ref p), some (.bl false), some (.bl false), some (.ref q), none, none] H4 := by
        intro H4 q s4 eq
        subst e1
        refine st fun N1 e1 => ?_
        walk_at "rd2"
        have ep0 : decide (V.ref p = V.non) = false := decide_eq_false (fun h => by cases h)
        rw [ep0]
        refine iteF ?_
        subst e1
        refine st fun N1 e1 => ?_
        walk_at "rd2"
        refine ⟨_, _, _, _, rfl, .tupS (SqB.tup eq), rfl, T.k_tt, _, rfl, iteF (strs_ne (good_ok g) eq (s4 _ _ ep) ⟨_, rfl, iteF ?_⟩)⟩
        subst e1
        refine st fun N1 e1 => ?_
        walk_at "rd2"
        have jo : JoinOk slash (cutR u) = true := joinOk g.1 fun x hx => by rw [(g.2.2.2 x hx).1]; exact g.2.2.1
        refine ⟨true, q, cutR u, rfl, SqB.tup eq, jo, ?_⟩
        have ej : Txt.join slash (cutR u) = u := join_split slash_len
        rw [ej]
        subst e1
        walk_at "rd2"
        refine ⟨_, _, _, _, rfl, .ty (.str u), rfl, T.k_ss, _, rfl, iteT ?_⟩
        refine ⟨rfl, ?_⟩
        rw [decide_eq_true rfl]
        exact hQ H4 (s1.trans s4)
      simp only [tTry]
      walk_at "rd2"
      exact ⟨u, rfl, hul, fun ng => absurd g ng, fun _ q H4 s4 eq => keyO H4 q s4 eq⟩
theorem MatS.app {H : Hp} {l : Addr} {xs : List Str} {x : Str} (h : H l = some (.lst (xs.map V.str))) : (upd H l (.lst (xs.map V.str ++ [.str x]))) l = some (.lst ((xs ++ [x]).map V.str)) := by
  rw [upd_same, List.map_append]; rfl
theorem ok_law_drawn (T : Txt K mg t) : FnOk P w K mg base CX0 1 t.a_law_drawn t.d_law_drawn ["_law_cells"] (sp_law_drawn K) := by
  refine T.F_law_drawn.ok sc_law_drawn (fun vs H Q E h => ?_) (fun cdv A outer s H vs Q E hr h => ?_)
  · obtain ⟨a, ns, rfl, _⟩ := h
    rfl
  · obtain ⟨a, ns, rfl, hS, hn, hb, hQ⟩ := h
    refine ⟨_, (pss_cons (ps_set (i := 1) sc_law_drawn.nd rfl (Or.inl rfl) (pe_op op_add pe_int (pe_op op_modN (pe_ix ix_B (pv 0) pe_int (fun _ _ => rfl)) pe_int)))
      (pss_cons (ps_set (i := 2) sc_law_drawn.nd rfl (Or.inl rfl) (pe_op op_add pe_int (pe_op op_modN (pe_op op_fdivB (pe_ix ix_B (pv 0) pe_int (fun _ _ => rfl)) pe_int) pe_int)))
      (pss_cons (ps_set (i := 3) sc_law_drawn.nd rfl (Or.inl rfl) (pe_ix ix_B (pe_lst (pa_cons pe_str (pa_cons pe_str (pa_cons pe_str (pa_cons pe_str pa_nil))))) (pe_op op_modN (pe_op op_fdivB (pe_ix ix_B (pv 0) pe_int (fun _ _ => rfl)) pe_int) pe_int) (fun _ _ => rfl)))
      (pss_cons (ps_set (i := 4) sc_law_drawn.nd rfl (Or.inl rfl) (pe_lst pa_nil))
      (pss_cons (ps_for PassesOwn.never rfl (pi_range1 rfl T.z_range (pa_cons (pv 1) pa_nil)) (pg_name (i := 5) sc_law_drawn.nd rfl (Or.inl rfl))
      (pss_cons (ps_set (i := 6) sc_law_drawn.nd rfl (Or.inl rfl) pe_str)
      (pss_cons (ps_for PassesOwn.never rfl (pi_range1 rfl T.z_range (pa_cons (pv 2) pa_nil)) (pg_name (i := 7) sc_law_drawn.nd rfl (Or.inl rfl))
      (pss_cons (ps_set (i := 8) sc_law_drawn.nd rfl (Or.inl rfl) (pe_op op_add (pe_op op_fdivB (pe_ix ix_B (pv 0) pe_int (fun _ _ => rfl)) (pe_op op_add pe_int (pe_op op_mulB (pv 5) (pv 7)))) (pe_op op_mulB (pv 7) (pv 7))))
      (pss_one (ps_set (i := 6) sc_law_drawn.nd rfl (Or.inl rfl) (pe_op op_add_str (pv 6) (pe_ix ix_str (pv 3) (pe_op op_modN (pe_op op_add (pv 8) (pe_op op_mulB (pe_ix ix_B (pv 0) pe_int (fun _ _ => rfl)) (pe_op op_add (pv 5) (pe_op op_mulB pe_int (pv 7))))) (pe_callB call_len_str rfl T.z_len (by decide +kernel) (pa_cons (pv 3) pa_nil))) (fun _ _ => rfl)))))))
      (pss_one (ps_expr (pe_bm PySem.F.plainAttrs_list PySem.F.slot_list_append PySem.F.type_list_append mt_append (pv 4) (pa_cons (pv 6) pa_nil)))))))
      (pss_one (ps_ret (pv 4)))))))), ?_⟩
    show tSeq _ _ _ [some (.ref a), none, none, none, none, none, none, none, none] H
    have cix : ∀ (H' : Hp) (k : Nat) (Q' : VK), Same H H' → k < 6 → Q' (.int (ns.getD k 0)) H' → rIxB K (.ref a) (.int k) H' Q' := fun H' k Q' s' hk q => ⟨false, a, _, _, _, rfl, rfl, s'.seq hS, atI_at (int_at (getD_at (k := k) (by omega))) rfl, q⟩
    have f6 := fms (ns.getD 0 0) 6 (by decide)
    have f6' := fms ((ns.getD 0 0).fdiv 6) 6 (by decide)
    have f4 := fms ((ns.getD 0 0).fdiv 36) 4 (by decide)
    obtain ⟨n, hn1⟩ := Int.eq_ofNat_of_zero_le (show 0 ≤ 1 + (ns.getD 0 0).fmod 6 by omega)
    obtain ⟨m, hm1⟩ := Int.eq_ofNat_of_zero_le (show 0 ≤ 1 + ((ns.getD 0 0).fdiv 6).fmod 6 by omega)
    refine st fun N1 e1 => ?_
    walk_at "rd2"
    refine cix H 0 _ (Same.refl _) (by decide) ?_
    try walk_at "rd2"
    rw [hn1]
    refine ⟨by decide, ?_⟩
    subst e1
    refine st fun N1 e1 => ?_
    walk_at "rd2"
    refine cix H 0 _ (Same.refl _) (by decide) ?_
    try walk_at "rd2"
    rw [hm1]
    refine ⟨dvs _ 6 (by decide) (by decide), by decide, ?_⟩
    subst e1
    refine st fun N1 e1 => ?_
    have key : ∀ (H1 : Hp) (sg : Str), Same H H1 → 1 ≤ sg.length → sg.length ≤ 27 → N1 [some (.ref a), some (.int n), some (.int m), some (.str sg), none, none, none, none, none] H1 := by
      intro H1 sg s1 g1 g27
      subst e1
      refine st fun N1 e1 => ?_
      walk_at "rd2"
      refine ⟨by show 0 ≤ sizeLine; decide, fun lf hlf => ?_⟩
      have hlf0 : H lf = none := by cases w : H lf with | none => rfl | some o => rw [s1 _ _ w] at hlf; cases hlf
      have s2 : Same H1 (upd H1 lf (.lst [])) := Same.new hlf
      have ef : (upd H1 lf (.lst [])) lf = some (.lst []) := upd_same
      generalize upd H1 lf (.lst []) = H2 at s2 ef
      subst e1
      refine st fun N1 e1 => for_st fun B eB => ?_
      simp only [iRng1]
      walk_at "rd2"
      refine ⟨by omega, by omega, ?_⟩
      rw [Int.toNat_natCast]
      refine fr_range (g := gName 5) (tb := B) (fun i σ H3 => ∃ (xs : List Str) (v5 v6 v7 v8 : Option V), σ = [some (.ref a), some (.int n), some (.int m), some (.str sg), some (.ref lf), v5, v6, v7, v8] ∧ Same H H3 ∧ H3 lf = some (.lst (xs.map V.str)) ∧ xs.length = i ∧ ∀ x ∈ xs, x.length ≤ 6)
        ⟨[], none, none, none, none, rfl, s1.trans s2, ef, rfl, fun x hx => by simp at hx⟩ ?_ ?_
      · rintro i σ H3 hi ⟨xs, v5, v6, v7, v8, rfl, s3, ef3, hlx, hxs⟩
        subst eB
        show tSeq _ _ _ [some (.ref a), some (.int n), some (.int m), some (.str sg), some (.ref lf), some (.int (0 + (i : Int))), v6, v7, v8] H3
        refine st fun N2 e2 => ?_
        walk_at "rd2"
        subst e2
        refine st fun N2 e2 => for_st fun B2 eB2 => ?_
        simp only [iRng1]
        walk_at "rd2"
        refine ⟨by omega, by omega, ?_⟩
        rw [Int.toNat_natCast]
        refine fr_range (g := gName 7) (tb := B2) (fun j σ H4 => ∃ (row : Str) (v7 v8 : Option V), σ = [some (.ref a), some (.int n), some (.int m), some (.str sg), some (.ref lf), some (.int (0 + (i : Int))), some (.str row), v7, v8] ∧ H4 = H3 ∧ row.length = j)
          ⟨_, _, _, rfl, rfl, by decide +kernel⟩ ?_ ?_
        · rintro j σ H4 hj ⟨row, v7', v8', rfl, rfl, hrow⟩
          subst eB2
          show tSeq _ _ _ [some (.ref a), some (.int n), some (.int m), some (.str sg), some (.ref lf), some (.int (0 + (i : Int))), some (.str row), some (.int (0 + (j : Int))), v8'] H4
          have hi5 : i ≤ 5 := by omega
          have hj5 : j ≤ 5 := by omega
          have hij : i * j ≤ 5 * 5 := Nat.mul_le_mul hi5 hj5
          have eij : (0 + (i : Int)) * (0 + (j : Int)) = ((i * j : Nat) : Int) := by rw [Int.zero_add, Int.zero_add, Int.natCast_mul]
          refine st fun N3 e3 => ?_
          walk_at "rd2"
          refine cix H4 1 _ s3 (by decide) ?_
          try walk_at "rd2"
          rw [eij]
          refine ⟨IntMulOk.of_left (intBits_le_iff.mpr (by omega)), dvs _ _ (by omega) (by omega), IntMulOk.of_left (intBits_le_iff.mpr (by omega)), ?_⟩
          generalize (ns.getD 1 0).fdiv (1 + ((i * j : Nat) : Int)) + (0 + (j : Int)) * (0 + (j : Int)) = by0
          subst e3
          walk_at "rd2"
          refine cix H4 2 _ s3 (by decide) ?_
          try walk_at "rd2"
          have hlen : (0 : Int) < (sg.length : Int) := by omega
          have fr := fms (by0 + ns.getD 2 0 * (0 + (i : Int) + 2 * (0 + (j : Int)))) sg.length hlen
          obtain ⟨r, er⟩ := Int.eq_ofNat_of_zero_le fr.1
          have hr27 : r < sg.length := by omega
          have hb2 := hb _ (L2.getD_mem (ns := ns) (k := 2) (by omega))
          have hb3 : Builtin.Int.intBits (0 + (i : Int) + 2 * (0 + (j : Int))) ≤ 64 := intBits_le_iff.mpr (by omega)
          refine ⟨IntMulOk.of_left (by decide), PyProof.Rows.mulOk_of_bits hb2 hb3 (by decide), sg, rfl, sizeBig (by omega), by omega, ?_⟩
          rw [er]
          have hr2 : r < sg.cps.toList.length := by simpa [Str.length] using hr27
          refine ⟨sg, r, sg.cps.toList[r], rfl, rfl, sizeBig (by omega), atI_at (i := r) (by simp [hr2]) rfl, row, rfl, _, rfl, ?_, _, rfl, rfl, ?_⟩
          · rw [one_len]; exact sizeBig (by omega)
          · rw [len_app, one_len]; omega
        · rintro σ H4 ⟨row, v7', v8', rfl, rfl, hrow⟩
          subst e2
          walk_at "rd2"
          refine ⟨.inl ⟨rfl, _, SqL.of ef3⟩, lf, _, _, rfl, rfl, ef3, by rw [List.length_map]; exact small1000 (by omega), ?_⟩
          refine ⟨Same.over hlf0 s3, xs ++ [row], MatS.app ef3, by simp [hlx], fun x hx => ?_⟩
          rcases List.mem_append.mp hx with h | h
          · exact hxs x h
          · rw [List.mem_singleton.mp h]; omega
      · rintro σ H3 ⟨xs, v5, v6, v7, v8, rfl, s3, ef3, hlx, hxs⟩
        subst e1
        walk_at "rd2"
        exact hQ lf H3 xs s3 ef3 (by omega) (by omega) hxs
    walk_at "rd2"
    refine ⟨by show 4 ≤ sizeLine; decide, fun pl hpl => ?_⟩
    have s1 : Same H (upd H pl (.lst [V.str "abcdefghijklmnopqrstuvwxyz.", V.str ".z", V.str "ab", V.str "y.a"])) := Same.new hpl
    have el : (upd H pl (.lst [V.str "abcdefghijklmnopqrstuvwxyz.", V.str ".z", V.str "ab", V.str "y.a"])) pl = some (.lst [V.str "abcdefghijklmnopqrstuvwxyz.", V.str ".z", V.str "ab", V.str "y.a"]) := upd_same
    generalize upd H pl (.lst [V.str "abcdefghijklmnopqrstuvwxyz.", V.str ".z", V.str "ab", V.str "y.a"]) = H1 at s1 el
    refine cix H1 0 _ s1 (by decide) ?_
    try walk_at "rd2"
    refine ⟨dvs _ 36 (by decide) (by decide), by decide, ?_⟩
    generalize ((ns.getD 0 0).fdiv 36).fmod 4 = f at f4
    rcases (show f = 0 ∨ f = 1 ∨ f = 2 ∨ f = 3 by omega) with rfl | rfl | rfl | rfl
    · exact ⟨false, pl, _, _, _, rfl, rfl, SqB.lst el, rfl, key _ _ s1 (by decide +kernel) (by decide +kernel)⟩
    · exact ⟨false, pl, _, _, _, rfl, rfl, SqB.lst el, rfl, key _ _ s1 (by decide +kernel) (by decide +kernel)⟩
    · exact ⟨false, pl, _, _, _, rfl, rfl, SqB.lst el, rfl, key _ _ s1 (by decide +kernel) (by decide +kernel)⟩
    · exact ⟨false, pl, _, _, _, rfl, rfl, SqB.lst el, rfl, key _ _ s1 (by decide +kernel) (by decide +kernel)⟩
theorem PSs_cast {X : Cx} {b b2 : List Stmt} {u : TS} (h : b = b2) (p : PSs X b2 u) : PSs X b u := by rw [h]; exact p
@[irreducible] noncomputable def S_o (k : Nat) : Stmt := (defBody s_law_other).getD k (.Pass ⟨0, 0, 0, 0⟩)
theorem PS_at {X : Cx} {k : Nat} {u : TS} (h : PS X ((defBody s_law_other).getD k (.Pass ⟨0, 0, 0, 0⟩)) u) : PS X (S_o k) u := by unfold S_o; exact h
theorem B_other : defBody s_law_other = [S_o 0, S_o 1, S_o 2, S_o 3, S_o 4, S_o 5, S_o 6, S_o 7, S_o 8] := by unfold S_o; kernel_rfl
noncomputable def odd11 : List Str := ["", "/", "a/", "/a", "a//a", "ab/a", "A", "a b", "a1", "abcdefg", "a/a/a/a/a/a/a"]
theorem odd11_len : odd11.length = 11 := rfl
theorem odd11_le : ∀ x ∈ odd11, x.length ≤ 13 := by decide +kernel
noncomputable def odd5 : List Str := ["a\n", "..,", "a/ab", "_", "\t"]
theorem odd5_le : ∀ x ∈ odd5, x.length ≤ 13 := by decide +kernel
theorem ok_law_other (T : Txt K mg t) : FnOk P w K mg base CX0 1 t.a_law_other t.d_law_other ["_law_rows", "_law_cells"] (sp_law_other K) := by
  refine T.F_law_other.ok sc_law_other (fun vs H Q E h => ?_) (fun cdv A outer s H vs Q E hr h => ?_)
  · obtain ⟨l, a, xs, ns, rfl, _⟩ := h
    rfl
  · obtain ⟨l, a, xs, ns, rfl, el, h1, h6, hx6, hS, hn, hQ⟩ := h
    have Z0 := (ps_setStrs (X := (cxOf CX0 P w K mg base N_law_other "_law_other" (defScope s_law_other) t.a_law_other cdv A outer s H E).nox) (st := S_o 0) (i := 2) (x := "_law_odd") (ss := odd11) (by decide +kernel) sc_law_other.nd rfl rfl)
    have Z1 := PS_at (X := (cxOf CX0 P w K mg base N_law_other "_law_other" (defScope s_law_other) t.a_law_other cdv A outer s H E).nox) (k := 1) (ps_set (i := 2) sc_law_other.nd rfl (Or.inl rfl) (pe_op op_cat (pv 2) (pe_lst (pa_cons pe_str (pa_cons pe_str (pa_cons pe_str (pa_cons pe_str (pa_cons pe_str pa_nil))))))))
    have Z2 := PS_at (X := (cxOf CX0 P w K mg base N_law_other "_law_other" (defScope s_law_other) t.a_law_other cdv A outer s H E).nox) (k := 2) (ps_set (i := 3) sc_law_other.nd rfl (Or.inl rfl) (pe_bm PySem.F.plainAttrs_str PySem.F.slot_str_join PySem.F.type_str_join mt_join pe_str (pa_cons (pv 0) pa_nil)))
    have Z3 := PS_at (X := (cxOf CX0 P w K mg base N_law_other "_law_other" (defScope s_law_other) t.a_law_other cdv A outer s H E).nox) (k := 3) (ps_if (pt_cmpR op_eqZ (pe_op op_modN (pe_ix ix_B (pv 1) pe_int (fun _ _ => rfl)) pe_int) pe_int (nomark _))
      (pss_one (ps_ret (pe_ix ix_B (pv 2) (pe_op op_modN (pe_op op_fdivB (pe_ix ix_B (pv 1) pe_int (fun _ _ => rfl)) pe_int) pe_int) (fun _ _ => rfl))))
      pss_nil)
    have Z4 := PS_at (X := (cxOf CX0 P w K mg base N_law_other "_law_other" (defScope s_law_other) t.a_law_other cdv A outer s H E).nox) (k := 4) (ps_if (pt_cmpR op_eqZ (pe_op op_modN (pe_ix ix_B (pv 1) pe_int (fun _ _ => rfl)) pe_int) pe_int (nomark _))
      (pss_one (ps_ret (pe_op op_add_str (pe_op op_add_str (pv 3) pe_str) (pe_ix ix_B (pv 0) (pe_op op_modN (pe_ix ix_B (pv 1) pe_int (fun _ _ => rfl)) (pe_callB call_lenB rfl T.z_len (by decide +kernel) (pa_cons (pv 0) pa_nil))) (fun _ _ => rfl)))))
      pss_nil)
    have Z5 := PS_at (X := (cxOf CX0 P w K mg base N_law_other "_law_other" (defScope s_law_other) t.a_law_other cdv A outer s H E).nox) (k := 5) (ps_set (i := 4) sc_law_other.nd rfl (Or.inl rfl) (pe_op op_modN (pe_ix ix_B (pv 1) pe_int (fun _ _ => rfl)) (pe_op op_add (pe_callB call_len_str rfl T.z_len (by decide +kernel) (pa_cons (pv 3) pa_nil)) pe_int)))
    have Z6 := PS_at (X := (cxOf CX0 P w K mg base N_law_other "_law_other" (defScope s_law_other) t.a_law_other cdv A outer s H E).nox) (k := 6) (ps_set (i := 5) sc_law_other.nd rfl (Or.inl rfl) (pe_ix ix_str pe_str (pe_op op_modN (pe_ix ix_B (pv 1) pe_int (fun _ _ => rfl)) pe_int) (fun _ _ => rfl)))
    have Z7 := PS_at (X := (cxOf CX0 P w K mg base N_law_other "_law_other" (defScope s_law_other) t.a_law_other cdv A outer s H E).nox) (k := 7) (ps_if (pt_cmpR op_eqZ (pe_op op_modN (pe_ix ix_B (pv 1) pe_int (fun _ _ => rfl)) pe_int) pe_int (nomark _))
      (pss_one (ps_set (i := 5) sc_law_other.nd rfl (Or.inl rfl) pe_str))
      pss_nil)
    have Z8 := PS_at (X := (cxOf CX0 P w K mg base N_law_other "_law_other" (defScope s_law_other) t.a_law_other cdv A outer s H E).nox) (k := 8) (ps_ret (pe_op op_add_str (pe_op op_add_str (pe_slice sl_S (pv 3) po_none (po_some (pv 4))) (pv 5)) (pe_slice sl_S (pv 3) (po_some (pe_op op_add (pv 4) (pe_ix ix_B (pe_lst (pa_cons pe_int (pa_cons pe_int (pa_cons pe_int (pa_cons pe_int (pa_cons pe_int pa_nil)))))) (pe_op op_modN (pe_ix ix_B (pv 1) pe_int (fun _ _ => rfl)) pe_int) (fun _ _ => rfl)))) po_none)))
    have ZZ := (pss_cons Z0 (pss_cons Z1 (pss_cons Z2 (pss_cons Z3 (pss_cons Z4 (pss_cons Z5 (pss_cons Z6 (pss_cons Z7 (pss_one Z8)))))))))
    rw [B_other]
    refine ⟨_, ZZ, ?_⟩
    clear Z0 Z1 Z2 Z3 Z4 Z5 Z6 Z7 Z8 ZZ
    show tSeq _ _ _ [some (.ref l), some (.ref a), none, none, none, none] H
    have cix : ∀ (H' : Hp) (k : Nat) (Q' : VK), Same H H' → k < 6 → Q' (.int (ns.getD k 0)) H' → rIxB K (.ref a) (.int k) H' Q' := fun H' k Q' s' hk q => ⟨false, a, _, _, _, rfl, rfl, s'.seq hS, atI_at (int_at (getD_at (k := k) (by omega))) rfl, q⟩
    refine st fun N1 e1 => ?_
    simp only [tAsg, tLst, tStrsA]
    refine ⟨by rw [List.length_map, odd11_len]; exact sizeBig (by decide), fun p1 hp1 => ?_⟩
    have s1 : Same H (upd H p1 (.lst (odd11.map V.str))) := Same.new hp1
    have el1 : (upd H p1 (.lst (odd11.map V.str))) p1 = _ := upd_same
    generalize upd H p1 (.lst (odd11.map V.str)) = H1 at s1 el1
    show N1 [some (.ref l), some (.ref a), some (.ref p1), none, none, none] H1
    subst e1
    refine st fun N1 e1 => ?_
    walk_at "rd2"
    refine ⟨by show 5 ≤ sizeLine; decide, fun p2 hp2 => ?_⟩
    have s2 : Same H1 (upd H1 p2 (.lst (odd5.map V.str))) := Same.new hp2
    have el2 : (upd H1 p2 (.lst (odd5.map V.str))) p2 = _ := upd_same
    refine ⟨p1, p2, odd11.map V.str, odd5.map V.str, rfl, rfl, s2 _ _ el1, el2, by rw [List.length_map, List.length_map, odd11_len]; exact sizeBig (by decide), fun p3 hp3 => ?_⟩
    rw [← List.map_append]
    show N1 [some (.ref l), some (.ref a), some (.ref p3), none, none, none] (upd (upd H1 p2 (.lst (odd5.map V.str))) p3 (.lst ((odd11 ++ odd5).map V.str)))
    have s3 : Same H (upd (upd H1 p2 (.lst (odd5.map V.str))) p3 (.lst ((odd11 ++ odd5).map V.str))) := (s1.trans s2).trans (Same.new hp3)
    have el3 : (upd (upd H1 p2 (.lst (odd5.map V.str))) p3 (.lst ((odd11 ++ odd5).map V.str))) p3 = _ := upd_same
    have hodd : ∀ x ∈ odd11 ++ odd5, x.length ≤ 13 := fun x hx => (List.mem_append.mp hx).elim (odd11_le x) (odd5_le x)
    have lodd : (odd11 ++ odd5).length = 16 := rfl
    generalize odd11 ++ odd5 = odd at s3 el3 hodd lodd ⊢
    generalize upd (upd H1 p2 (.lst (odd5.map V.str))) p3 (.lst (odd.map V.str)) = H2 at s3 el3 ⊢
    clear el1 el2 s1 s2 hp1 hp2 hp3
    have el' : H2 l = _ := s3 _ _ el
    subst e1
    refine st fun N1 e1 => ?_
    walk_at "rd2"
    refine ⟨rfl, false, slash, l, xs, rfl, rfl, SqB.lst el', joinOk h6 hx6, ?_⟩
    have hj : (Txt.join slash xs).length ≤ 60 := by
      unfold Txt.join
      rw [PySem.StrLaws.glued_eq_join]
      refine Nat.le_trans (PySem.StrLaws.join_length_le slash xs) ?_
      have e : slash.length = 1 := by decide +kernel
      have := PySem.StrLaws.sumLen_le xs hx6
      rw [e]
      omega
    generalize Txt.join slash xs = txt at hj
    subst e1
    have f5 := fms (ns.getD 3 0) 5 (by decide)
    refine st fun N1 e1 => ?_
    walk_at "rd2"
    refine cix H2 3 _ s3 (by decide) ?_
    try walk_at "rd2"
    refine ⟨by decide, ?_⟩
    split
    · refine cix H2 3 _ s3 (by decide) ?_
      try walk_at "rd2"
      have f16 := fms ((ns.getD 3 0).fdiv 5) 16 (by decide)
      obtain ⟨k, ek⟩ := Int.eq_ofNat_of_zero_le f16.1
      rw [ek]
      refine ⟨dvs _ 5 (by decide) (by decide), by decide, ?_⟩
      have hk : k < odd.length := by omega
      exact ⟨false, p3, _, _, _, rfl, rfl, SqB.lst el3, atI_at (i := k) (by rw [List.getElem?_map, List.getElem?_eq_getElem hk]; rfl) rfl, hQ _ _ s3 (Nat.le_trans (hodd _ (List.getElem_mem hk)) (by decide))⟩
    · subst e1
      refine st fun N1 e1 => ?_
      walk_at "rd2"
      refine cix H2 3 _ s3 (by decide) ?_
      try walk_at "rd2"
      refine ⟨by decide, ?_⟩
      split
      · have fl := fms (ns.getD 4 0) xs.length (by omega)
        obtain ⟨k, ek⟩ := Int.eq_ofNat_of_zero_le fl.1
        have hk : k < xs.length := by omega
        have h60 : ∀ j : Nat, j ≤ 60 → j + 1 ≤ sizeLine := fun j hj => sizeBig (by omega)
        refine ⟨txt, rfl, slash, rfl, h60 _ hj, ?_⟩
        refine cix H2 4 _ s3 (by decide) ?_
        refine ⟨false, l, _, rfl, SqB.lst el', ?_⟩
        try walk_at "rd2"
        rw [List.length_map, ek]
        refine ⟨by omega, ?_⟩
        have hm := hx6 _ (List.getElem_mem hk)
        have hl1 : (txt ++ slash).length ≤ 61 := by rw [len_app]; exact Nat.add_le_add hj (Nat.le_refl 1)
        refine ⟨false, l, _, _, _, rfl, rfl, SqB.lst el', atI_at (i := k) (by rw [List.getElem?_map, List.getElem?_eq_getElem hk]; rfl) rfl, _, rfl, _, rfl, sizeBig (by omega), hQ _ _ s3 (by rw [len_app]; omega)⟩
      · subst e1
        refine st fun N1 e1 => ?_
        walk_at "rd2"
        refine cix H2 4 _ s3 (by decide) ?_
        refine ⟨txt, rfl, sizeBig (by omega), ?_⟩
        try walk_at "rd2"
        refine ⟨by omega, ?_⟩
        generalize (ns.getD 4 0).fmod ((txt.length : Int) + 1) = at4
        subst e1
        refine st fun N1 e1 => ?_
        walk_at "rd2"
        refine cix H2 5 _ s3 (by decide) ?_
        try walk_at "rd2"
        refine ⟨by decide, ?_⟩
        have f12 := fms (ns.getD 5 0) 12 (by decide)
        obtain ⟨k, ek⟩ := Int.eq_ofNat_of_zero_le f12.1
        rw [ek]
        have hk : k < (Str.ofString "abcz./ A1_\n,").cps.toList.length := by
          have : (Str.ofString "abcz./ A1_\n,").cps.toList.length = 12 := by decide +kernel
          omega
        refine ⟨_, k, (Str.ofString "abcz./ A1_\n,").cps.toList[k], rfl, rfl, sizeBig (by decide +kernel), atI_at (i := k) (by rw [List.getElem?_eq_getElem hk]) rfl, ?_⟩
        generalize (Str.ofString "abcz./ A1_\n,").cps.toList[k] = c
        subst e1
        refine st fun N1 e1 => ?_
        have key : ∀ sg : Str, sg.length ≤ 1 → N1 [some (.ref l), some (.ref a), some (.ref p3), some (.str txt), some (.int at4), some (.str sg)] H2 := by
          intro sg hsg
          subst e1
          walk_at "rd2"
          refine ⟨txt, rfl, sizeBig (by omega), fun z hz => ?_⟩
          try walk_at "rd2"
          refine ⟨z, rfl, sg, rfl, sizeBig (by omega), ?_⟩
          have hzs : (z ++ sg).length ≤ 61 := by rw [len_app]; omega
          generalize z ++ sg = zs at hzs ⊢
          refine ⟨by show 5 ≤ sizeLine; decide, fun p4 hp4 => ?_⟩
          have s4 : Same H2 (upd H2 p4 (.lst [V.int 0, V.int 0, V.int 1, V.int 0, V.int 1])) := Same.new hp4
          have el4 : (upd H2 p4 (.lst [V.int 0, V.int 0, V.int 1, V.int 0, V.int 1])) p4 = _ := upd_same
          generalize upd H2 p4 (.lst [V.int 0, V.int 0, V.int 1, V.int 0, V.int 1]) = H3 at s4 el4
          refine cix H3 3 _ (s3.trans s4) (by decide) ?_
          try walk_at "rd2"
          refine ⟨by decide, ?_⟩
          generalize (ns.getD 3 0).fmod 5 = f at f5
          have fin : ∀ o : Int, rI0 (fun i j => V.int (i + j)) (V.int at4) (.int o) H3 fun x H1 => ∃ i, x = V.int i ∧ rSlS (V.str txt) (some i) none H1 fun y H2 => ∃ i, V.str zs = V.str i ∧ ∃ x, y = V.str x ∧ i.length + x.length ≤ sizeLine ∧ Q (V.str (i ++ x)) H2 := by
            intro o
            walk_at "rd2"
            exact ⟨txt, rfl, sizeBig (by omega), fun z2 h2 => ⟨zs, rfl, z2, rfl, sizeBig (by omega), hQ _ _ (s3.trans s4) (by rw [len_app]; omega)⟩⟩
          rcases (show f = 0 ∨ f = 1 ∨ f = 2 ∨ f = 3 ∨ f = 4 by omega) with rfl | rfl | rfl | rfl | rfl
          all_goals exact ⟨false, p4, _, _, _, rfl, rfl, SqB.lst el4, rfl, fin _⟩
        walk_at "rd2"
        refine cix H2 3 _ s3 (by decide) ?_
        try walk_at "rd2"
        refine ⟨by decide, ?_⟩
        split
        · exact key _ (by decide +kernel)
        · exact key _ (Nat.le_refl 1)
theorem ok_law (T : Txt K mg t) : FnOk P w K mg base CX0 4 t.a_law t.d_law ["_law_script"] (spLaw K) := by
  have G_law_cell_at : FnOk P w K mg base CX0 1 t.a_law_cell_at t.d_law_cell_at ["_law_script", "_law_k"] (sp_law_cell_at K) := ok_law_cell_at T
  have G_law_drawn : FnOk P w K mg base CX0 1 t.a_law_drawn t.d_law_drawn ["_law_cells"] (sp_law_drawn K) := ok_law_drawn T
  have G_law_other : FnOk P w K mg base CX0 1 t.a_law_other t.d_law_other ["_law_rows", "_law_cells"] (sp_law_other K) := ok_law_other T
  have G_law_right : FnOk P w K mg base CX0 3 t.a_law_right t.d_law_right ["_law_text"] sp_law_right := ok_law_right T
  refine T.F_law.ok sc_law (fun vs H Q E h => ?_) (fun cdv A outer s H vs Q E hr h => ?_)
  · obtain ⟨a, ns, rfl, _⟩ := h
    rfl
  · obtain ⟨a, ns, rfl, hS, hlen, hbits, hQ⟩ := h
    refine ⟨_, (pss_cons (ps_for PassesOwn.never rfl (pi_range3 rfl T.z_range (pa_cons pe_int (pa_cons (pe_callB (call_max2 rfl) rfl T.z_max (by decide +kernel) (pa_cons pe_int (pa_cons (pe_callB call_lenB rfl T.z_len (by decide +kernel) (pa_cons (pv 0) pa_nil)) pa_nil))) (pa_cons pe_int pa_nil)))) (pg_name (i := 1) sc_law.nd rfl (Or.inr rfl))
      (pss_cons (ps_setCG (i := 2) (xs := ["_law_k"]) (fr := [("_law_script", 0), ("_law_at", 1)]) (g := (gName 0)) (tt := (tEl (tCall (sp_law_cell_at K) [] E0 (tCons (tVar 1) (tCons (tOp (rI0 fun i j => .int (i + j)) (tVar 2) (tVar 0)) tNil))))) (compG_ok (sc := defScope s_law) (N := N_law) rfl rfl (by decide +kernel)) rfl sc_law.nd rfl rfl (pi_range1 rfl T.z_range (pa_cons pe_int pa_nil)) (fun _ _ _ hE1 => (pg_own (N := ["_law_k", "_law_script", "_law_at"]) (i := 0) hE1 rfl (by decide +kernel))) (fun _ _ _ hE1 => (po_el (pe_call G_law_cell_at (hr.mono (by omega)) rfl T.m_law_cell_at T.F_law_cell_at.kp T.b_law_cell_at .nil pass0 (pa_cons (pv 1) (pa_cons (pe_op op_add (pv 2) (pv 0)) pa_nil))))))
      (pss_cons (ps_set (i := 3) sc_law.nd rfl (Or.inl rfl) (pe_call G_law_drawn (hr.mono (by omega)) rfl T.m_law_drawn T.F_law_drawn.kp T.b_law_drawn .nil pass0 (pa_cons (pv 2) pa_nil)))
      (pss_one (ps_if (PW.pt (pw_or (pt_not (pt_val (pe_call G_law_right (hr.mono (by omega)) rfl T.m_law_right T.F_law_right.kp T.b_law_right .nil pass0 (pa_cons (pe_bm PySem.F.plainAttrs_str PySem.F.slot_str_join PySem.F.type_str_join mt_join pe_str (pa_cons (pv 3) pa_nil)) pa_nil)))) (pw_or1 (pt_not (pt_val (pe_call G_law_right (hr.mono (by omega)) rfl T.m_law_right T.F_law_right.kp T.b_law_right .nil pass0 (pa_cons (pe_call G_law_other (hr.mono (by omega)) rfl T.m_law_other T.F_law_other.kp T.b_law_other .nil pass0 (pa_cons (pv 3) (pa_cons (pv 2) pa_nil))) pa_nil)))))))
      (pss_one (ps_ret pe_bl))
      pss_nil)))))
      (pss_one (ps_ret pe_bl))), ?_⟩
    show tSeq _ _ _ [some (.ref a), none, none, none] H
    refine st fun N1 e1 => for_st fun B eB => ?_
    simp only [iRng3]
    walk_at "rd2"
    refine ints_len (b := false) hS ⟨_, rfl, by decide, by decide, by split <;> omega, by split <;> omega, by decide, by decide, ?_⟩
    refine fr_step (g := gName 1) (tb := B) (fun i σ H1 => ∃ (v1 v2 v3 : Option V), σ = [some (.ref a), v1, v2, v3] ∧ Same H H1) ⟨none, none, none, rfl, Same.refl _⟩ ?_ ?_
    · rintro i σ H1 hi ⟨v1, v2, v3, rfl, s1⟩
      subst eB
      show tSeq _ _ _ [some (.ref a), some (.int (0 + (i : Int) * 6)), v2, v3] H1
      refine st fun N2 e2 => ?_
      walk_at "rd2"
      refine compE_st fun C eC => ?_
      simp only [iRng1]
      walk_at "rd2"
      refine ⟨by decide, by decide, fun a1 ha1 => ?_⟩
      refine cg_range (len := 6) (fun k y _ => k < 6 ∧ y = .int (ns.getD (0 + (i : Int) * 6 + (0 + (k : Int))).toNat 0)) ha1 (by decide) (fun _ _ _ _ r _ => r) ?_ ?_
      · intro k H2 zs hk s2 ez Q' hQ'
        subst eC
        show tCall _ _ _ _ [some (.int (0 + (k : Int))), some (.ref a), some (.int (0 + (i : Int) * 6))] H2 Q'
        walk_at "rd2"
        exact ⟨a, ns, _, rfl, (s1.trans s2).seq hS, by omega, hQ' _ _ (Same.refl _) ⟨hk, rfl⟩⟩
      · intro H2 ys s2 e2' hly hr2
        have ey : ys = ((List.range 6).map fun (k : Nat) => ns.getD (0 + (i : Int) * 6 + (0 + (k : Int))).toNat 0).map V.int := by
          refine list_is (by simpa using hly) fun k z e => ?_
          obtain ⟨hk, rfl⟩ := hr2 k z e
          exact ⟨_, by rw [List.getElem?_map, List.getElem?_range hk]; rfl, rfl⟩
        subst ey
        have hcb : ∀ m ∈ (List.range 6).map fun (k : Nat) => ns.getD (0 + (i : Int) * 6 + (0 + ((k : Nat) : Int))).toNat 0, Builtin.Int.intBits m ≤ 1048576 := fun m hm => by
          obtain ⟨k, _, rfl⟩ := List.mem_map.mp hm
          by_cases hk : (0 + (i : Int) * 6 + (0 + (k : Int))).toNat < ns.length
          · exact hbits _ (L2.getD_mem hk)
          · rw [List.getD_eq_getElem?_getD, List.getElem?_eq_none (by omega)]
            exact intBits_le_iff.mpr (Nat.two_pow_pos _)
        have hcl : ((List.range 6).map fun (k : Nat) => ns.getD (0 + (i : Int) * 6 + (0 + ((k : Nat) : Int))).toNat 0).length = 6 := by simp
        generalize ((List.range 6).map fun (k : Nat) => ns.getD (0 + (i : Int) * 6 + (0 + ((k : Nat) : Int))).toNat 0) = cs at *
        have s02 := s1.trans s2
        subst e2
        refine st fun N2 e2 => ?_
        walk_at "rd2"
        refine ⟨a1, cs, rfl, SqL.of e2', hcl, hcb, fun l H3 xs s3 el x1 x6 hx6 => ?_⟩
        subst e2
        walk_at "rd2"
        have jl : (Txt.join slash xs).length ≤ 900 := by
          unfold Txt.join
          rw [PySem.StrLaws.glued_eq_join]
          refine Nat.le_trans (PySem.StrLaws.join_length_le slash xs) ?_
          have e1 : slash.length = 1 := by decide +kernel
          have h2 : ∀ (zs : List Str), (∀ z ∈ zs, z.length ≤ 6) → (zs.map (·.length)).sum ≤ zs.length * 6 := by
            intro zs
            induction zs with
            | nil => intro _; simp
            | cons z r ih =>
              intro h
              have h3 := h z List.mem_cons_self
              have h4 := ih fun y hy => h y (List.mem_cons_of_mem _ hy)
              simp only [List.map_cons, List.sum_cons, List.length_cons]
              omega
          have h5 := h2 xs hx6
          rw [e1]
          omega
        refine ⟨rfl, false, slash, l, xs, rfl, rfl, SqB.lst el, joinOk x6 hx6, ?_⟩
        refine ⟨_, rfl, jl, fun H4 s4 => ⟨_, rfl, iteF ?_⟩⟩
        have s24 := s3.trans s4
        refine ⟨l, a1, xs, cs, rfl, s4 _ _ el, x1, x6, hx6, SqL.of (s24 _ _ e2'), hcl, fun z H5 s5 hz => ?_⟩
        refine ⟨z, rfl, hz, fun H6 s6 => ⟨_, rfl, iteF ?_⟩⟩
        exact ((s02.trans s24).trans s5).trans s6
    · rintro σ H1 ⟨v1, v2, v3, rfl, s1⟩
      subst e1
      walk_at "rd2"
      exact hQ _

end
theorem txt_mk {K : PySem.W.Frag} {h : Heap} {mg : Str → Option Value} (X : K.In h) (G : h.Ns mainGlobals mg)
    {f_are_signs : Addr} {od_are_signs an_are_signs : Option Addr} {sl_are_signs : Array (Option Value)} {oc_are_signs kV_are_signs dc_are_signs pm_are_signs cd_are_signs ct_are_signs : Value}
    {f_is_length : Addr} {od_is_length an_is_length : Option Addr} {sl_is_length : Array (Option Value)} {oc_is_length kV_is_length dc_is_length pm_is_length cd_is_length ct_is_length : Value}
    {f_read_drawing : Addr} {od_read_drawing an_read_drawing : Option Addr} {sl_read_drawing : Array (Option Value)} {oc_read_drawing kV_read_drawing dc_read_drawing pm_read_drawing cd_read_drawing ct_read_drawing : Value}
    {f_show_drawing : Addr} {od_show_drawing an_show_drawing : Option Addr} {sl_show_drawing : Array (Option Value)} {oc_show_drawing kV_show_drawing dc_show_drawing pm_show_drawing cd_show_drawing ct_show_drawing : Value}
    {f_law_cell_at : Addr} {od_law_cell_at an_law_cell_at : Option Addr} {sl_law_cell_at : Array (Option Value)} {oc_law_cell_at kV_law_cell_at dc_law_cell_at pm_law_cell_at cd_law_cell_at ct_law_cell_at : Value}
    {f_law_drawn : Addr} {od_law_drawn an_law_drawn : Option Addr} {sl_law_drawn : Array (Option Value)} {oc_law_drawn kV_law_drawn dc_law_drawn pm_law_drawn cd_law_drawn ct_law_drawn : Value}
    {f_law_other : Addr} {od_law_other an_law_other : Option Addr} {sl_law_other : Array (Option Value)} {oc_law_other kV_law_other dc_law_other pm_law_other cd_law_other ct_law_other : Value}
    {f_law_due : Addr} {od_law_due an_law_due : Option Addr} {sl_law_due : Array (Option Value)} {oc_law_due kV_law_due dc_law_due pm_law_due cd_law_due ct_law_due : Value}
    {f_law_others : Addr} {od_law_others an_law_others : Option Addr} {sl_law_others : Array (Option Value)} {oc_law_others kV_law_others dc_law_others pm_law_others cd_law_others ct_law_others : Value}
    {f_law_only : Addr} {od_law_only an_law_only : Option Addr} {sl_law_only : Array (Option Value)} {oc_law_only kV_law_only dc_law_only pm_law_only cd_law_only ct_law_only : Value}
    {f_law_right : Addr} {od_law_right an_law_right : Option Addr} {sl_law_right : Array (Option Value)} {oc_law_right kV_law_right dc_law_right pm_law_right cd_law_right ct_law_right : Value}
    {f_law : Addr} {od_law an_law : Option Addr} {sl_law : Array (Option Value)} {oc_law kV_law dc_law pm_law cd_law ct_law : Value}
    {C_CrystalError : Addr}
    {C_NoPlace : Addr}
    {C_NoDeed : Addr}
    {C_NoNumber : Addr}
    {C_NoText : Addr}
    {C_TooMany : Addr}
    {C_NoChange : Addr}
    {C_NotKept : Addr}
    {C_NoForm : Addr}
    {C_NotWithin : Addr}
    {C_NotLeast : Addr}
    {C_NoDrawing : Addr}
    {C_OffSheet : Addr}
    {C_NoSheet : Addr}
    {C_NoRow : Addr}
    {C_NoName : Addr}
    {tk_SMALL_LETTERS : Tok}
    {tk_LONGEST : Tok}
    (n_are_signs : PySem.W.nsIn K mainGlobals "are_signs" = some (some (.ref f_are_signs)))
    (l_are_signs : K.lookup f_are_signs = some ⟨oc_are_signs, od_are_signs, .func (PySem.W.fnOf "are_signs" "are_signs" (defArgs s_are_signs) (defBody s_are_signs) (defScope s_are_signs) .none kV_are_signs dc_are_signs pm_are_signs an_are_signs cd_are_signs ct_are_signs), sl_are_signs⟩)
    (c_are_signs : PySem.W.codeIn K cd_are_signs "are_signs" = true)
    (k_are_signs : PySem.W.keepIn K (.ref f_are_signs) = true)
    (n_is_length : PySem.W.nsIn K mainGlobals "is_length" = some (some (.ref f_is_length)))
    (l_is_length : K.lookup f_is_length = some ⟨oc_is_length, od_is_length, .func (PySem.W.fnOf "is_length" "is_length" (defArgs s_is_length) (defBody s_is_length) (defScope s_is_length) .none kV_is_length dc_is_length pm_is_length an_is_length cd_is_length ct_is_length), sl_is_length⟩)
    (c_is_length : PySem.W.codeIn K cd_is_length "is_length" = true)
    (k_is_length : PySem.W.keepIn K (.ref f_is_length) = true)
    (n_read_drawing : PySem.W.nsIn K mainGlobals "read_drawing" = some (some (.ref f_read_drawing)))
    (l_read_drawing : K.lookup f_read_drawing = some ⟨oc_read_drawing, od_read_drawing, .func (PySem.W.fnOf "read_drawing" "read_drawing" (defArgs s_read_drawing) (defBody s_read_drawing) (defScope s_read_drawing) .none kV_read_drawing dc_read_drawing pm_read_drawing an_read_drawing cd_read_drawing ct_read_drawing), sl_read_drawing⟩)
    (c_read_drawing : PySem.W.codeIn K cd_read_drawing "read_drawing" = true)
    (k_read_drawing : PySem.W.keepIn K (.ref f_read_drawing) = true)
    (n_show_drawing : PySem.W.nsIn K mainGlobals "show_drawing" = some (some (.ref f_show_drawing)))
    (l_show_drawing : K.lookup f_show_drawing = some ⟨oc_show_drawing, od_show_drawing, .func (PySem.W.fnOf "show_drawing" "show_drawing" (defArgs s_show_drawing) (defBody s_show_drawing) (defScope s_show_drawing) .none kV_show_drawing dc_show_drawing pm_show_drawing an_show_drawing cd_show_drawing ct_show_drawing), sl_show_drawing⟩)
    (c_show_drawing : PySem.W.codeIn K cd_show_drawing "show_drawing" = true)
    (k_show_drawing : PySem.W.keepIn K (.ref f_show_drawing) = true)
    (n_law_cell_at : PySem.W.nsIn K mainGlobals "_law_cell_at" = some (some (.ref f_law_cell_at)))
    (l_law_cell_at : K.lookup f_law_cell_at = some ⟨oc_law_cell_at, od_law_cell_at, .func (PySem.W.fnOf "_law_cell_at" "_law_cell_at" (defArgs s_law_cell_at) (defBody s_law_cell_at) (defScope s_law_cell_at) .none kV_law_cell_at dc_law_cell_at pm_law_cell_at an_law_cell_at cd_law_cell_at ct_law_cell_at), sl_law_cell_at⟩)
    (c_law_cell_at : PySem.W.codeIn K cd_law_cell_at "_law_cell_at" = true)
    (k_law_cell_at : PySem.W.keepIn K (.ref f_law_cell_at) = true)
    (n_law_drawn : PySem.W.nsIn K mainGlobals "_law_drawn" = some (some (.ref f_law_drawn)))
    (l_law_drawn : K.lookup f_law_drawn = some ⟨oc_law_drawn, od_law_drawn, .func (PySem.W.fnOf "_law_drawn" "_law_drawn" (defArgs s_law_drawn) (defBody s_law_drawn) (defScope s_law_drawn) .none kV_law_drawn dc_law_drawn pm_law_drawn an_law_drawn cd_law_drawn ct_law_drawn), sl_law_drawn⟩)
    (c_law_drawn : PySem.W.codeIn K cd_law_drawn "_law_drawn" = true)
    (k_law_drawn : PySem.W.keepIn K (.ref f_law_drawn) = true)
    (n_law_other : PySem.W.nsIn K mainGlobals "_law_other" = some (some (.ref f_law_other)))
    (l_law_other : K.lookup f_law_other = some ⟨oc_law_other, od_law_other, .func (PySem.W.fnOf "_law_other" "_law_other" (defArgs s_law_other) (defBody s_law_other) (defScope s_law_other) .none kV_law_other dc_law_other pm_law_other an_law_other cd_law_other ct_law_other), sl_law_other⟩)
    (c_law_other : PySem.W.codeIn K cd_law_other "_law_other" = true)
    (k_law_other : PySem.W.keepIn K (.ref f_law_other) = true)
    (n_law_due : PySem.W.nsIn K mainGlobals "_law_due" = some (some (.ref f_law_due)))
    (l_law_due : K.lookup f_law_due = some ⟨oc_law_due, od_law_due, .func (PySem.W.fnOf "_law_due" "_law_due" (defArgs s_law_due) (defBody s_law_due) (defScope s_law_due) .none kV_law_due dc_law_due pm_law_due an_law_due cd_law_due ct_law_due), sl_law_due⟩)
    (c_law_due : PySem.W.codeIn K cd_law_due "_law_due" = true)
    (k_law_due : PySem.W.keepIn K (.ref f_law_due) = true)
    (n_law_others : PySem.W.nsIn K mainGlobals "_law_others" = some (some (.ref f_law_others)))
    (l_law_others : K.lookup f_law_others = some ⟨oc_law_others, od_law_others, .func (PySem.W.fnOf "_law_others" "_law_others" (defArgs s_law_others) (defBody s_law_others) (defScope s_law_others) .none kV_law_others dc_law_others pm_law_others an_law_others cd_law_others ct_law_others), sl_law_others⟩)
    (c_law_others : PySem.W.codeIn K cd_law_others "_law_others" = true)
    (k_law_others : PySem.W.keepIn K (.ref f_law_others) = true)
    (n_law_only : PySem.W.nsIn K mainGlobals "_law_only" = some (some (.ref f_law_only)))
    (l_law_only : K.lookup f_law_only = some ⟨oc_law_only, od_law_only, .func (PySem.W.fnOf "_law_only" "_law_only" (defArgs s_law_only) (defBody s_law_only) (defScope s_law_only) .none kV_law_only dc_law_only pm_law_only an_law_only cd_law_only ct_law_only), sl_law_only⟩)
    (c_law_only : PySem.W.codeIn K cd_law_only "_law_only" = true)
    (k_law_only : PySem.W.keepIn K (.ref f_law_only) = true)
    (n_law_right : PySem.W.nsIn K mainGlobals "_law_right" = some (some (.ref f_law_right)))
    (l_law_right : K.lookup f_law_right = some ⟨oc_law_right, od_law_right, .func (PySem.W.fnOf "_law_right" "_law_right" (defArgs s_law_right) (defBody s_law_right) (defScope s_law_right) .none kV_law_right dc_law_right pm_law_right an_law_right cd_law_right ct_law_right), sl_law_right⟩)
    (c_law_right : PySem.W.codeIn K cd_law_right "_law_right" = true)
    (k_law_right : PySem.W.keepIn K (.ref f_law_right) = true)
    (n_law : PySem.W.nsIn K mainGlobals "law" = some (some (.ref f_law)))
    (l_law : K.lookup f_law = some ⟨oc_law, od_law, .func (PySem.W.fnOf "law" "law" (defArgs s_law) (defBody s_law) (defScope s_law) .none kV_law dc_law pm_law an_law cd_law ct_law), sl_law⟩)
    (c_law : PySem.W.codeIn K cd_law "law" = true)
    (k_law : PySem.W.keepIn K (.ref f_law) = true)
    (n_CrystalError : PySem.W.nsIn K mainGlobals "CrystalError" = some (some (.ref C_CrystalError)))
    (n_NoPlace : PySem.W.nsIn K mainGlobals "NoPlace" = some (some (.ref C_NoPlace)))
    (n_NoDeed : PySem.W.nsIn K mainGlobals "NoDeed" = some (some (.ref C_NoDeed)))
    (n_NoNumber : PySem.W.nsIn K mainGlobals "NoNumber" = some (some (.ref C_NoNumber)))
    (n_NoText : PySem.W.nsIn K mainGlobals "NoText" = some (some (.ref C_NoText)))
    (n_TooMany : PySem.W.nsIn K mainGlobals "TooMany" = some (some (.ref C_TooMany)))
    (n_NoChange : PySem.W.nsIn K mainGlobals "NoChange" = some (some (.ref C_NoChange)))
    (n_NotKept : PySem.W.nsIn K mainGlobals "NotKept" = some (some (.ref C_NotKept)))
    (n_NoForm : PySem.W.nsIn K mainGlobals "NoForm" = some (some (.ref C_NoForm)))
    (n_NotWithin : PySem.W.nsIn K mainGlobals "NotWithin" = some (some (.ref C_NotWithin)))
    (n_NotLeast : PySem.W.nsIn K mainGlobals "NotLeast" = some (some (.ref C_NotLeast)))
    (n_NoDrawing : PySem.W.nsIn K mainGlobals "NoDrawing" = some (some (.ref C_NoDrawing)))
    (n_OffSheet : PySem.W.nsIn K mainGlobals "OffSheet" = some (some (.ref C_OffSheet)))
    (n_NoSheet : PySem.W.nsIn K mainGlobals "NoSheet" = some (some (.ref C_NoSheet)))
    (n_NoRow : PySem.W.nsIn K mainGlobals "NoRow" = some (some (.ref C_NoRow)))
    (n_NoName : PySem.W.nsIn K mainGlobals "NoName" = some (some (.ref C_NoName)))
    (n_SMALL_LETTERS : PySem.W.nsIn K mainGlobals "SMALL_LETTERS" = some (some (.str "abcdefghijklmnopqrstuvwxyz" tk_SMALL_LETTERS)))
    (n_LONGEST : PySem.W.nsIn K mainGlobals "LONGEST" = some (some (.int 6 tk_LONGEST)))
    (y_range : PySem.W.nsIn K mainGlobals "range" = some none)
    (y_len : PySem.W.nsIn K mainGlobals "len" = some none)
    (y_isinstance : PySem.W.nsIn K mainGlobals "isinstance" = some none)
    (y_tuple : PySem.W.nsIn K mainGlobals "tuple" = some none)
    (y_max : PySem.W.nsIn K mainGlobals "max" = some none)
    (y_all : PySem.W.nsIn K mainGlobals "all" = some none)
    (y_str : PySem.W.nsIn K mainGlobals "str" = some none)
    (y_ValueError : PySem.W.nsIn K mainGlobals "ValueError" = some none)
    (q_k_int : PySem.W.kitOne K (.type "int") (.type "int") = some true)
    (q_k_ib : PySem.W.kitOne K (.type "int") (.type "bool") = some false)
    (q_k_tt : PySem.W.kitOne K (.type "tuple") (.type "tuple") = some true)
    (q_xm : PySem.W.exmOne K (.ref C_NoDrawing) (.ref C_CrystalError) = some true)
    (q_e_ga : PySem.W.findIn K (.ref C_NoDrawing) "__getattribute__" = some (some (.builtin "BaseException.__getattribute__")))
    (q_e_gt : PySem.W.findIn K (.ref C_NoDrawing) "__getattr__" = some none)
    (q_e_ca : PySem.W.findIn K (.ref C_NoDrawing) "__class__" = some (some (.builtin "object.__class__")))
    (q_e_cg : PySem.W.specialIn K (.builtin "object.__class__") "__get__" = some (some (.builtin "getset_descriptor.__get__")))
    (q_e_tk : PySem.W.takesIn K (.builtin "object.__class__") = some true)
    (q_e_ob : PySem.W.mroIn K C_NoDrawing (.type "object") = some true)
    (q_e_bx : PySem.W.mroIn K C_NoDrawing (.type "BaseException") = some true)
    (q_i_NoPlace : PySem.W.kitOne K (.ref C_NoDrawing) (.ref C_NoPlace) = some false)
    (q_i_VE : PySem.W.kitOne K (.ref C_NoDrawing) (.type "ValueError") = some true)
    (q_i_NoDrawing : PySem.W.kitOne K (.ref C_NoDrawing) (.ref C_NoDrawing) = some true)
    (q_i_NoNumber : PySem.W.kitOne K (.ref C_NoDrawing) (.ref C_NoNumber) = some false)
    (q_i_NoText : PySem.W.kitOne K (.ref C_NoDrawing) (.ref C_NoText) = some false)
    (q_i_TooMany : PySem.W.kitOne K (.ref C_NoDrawing) (.ref C_TooMany) = some false)
    (q_i_NoChange : PySem.W.kitOne K (.ref C_NoDrawing) (.ref C_NoChange) = some false)
    (q_i_NotKept : PySem.W.kitOne K (.ref C_NoDrawing) (.ref C_NotKept) = some false)
    (q_i_NoForm : PySem.W.kitOne K (.ref C_NoDrawing) (.ref C_NoForm) = some false)
    (q_i_NotWithin : PySem.W.kitOne K (.ref C_NoDrawing) (.ref C_NotWithin) = some false)
    (q_i_NotLeast : PySem.W.kitOne K (.ref C_NoDrawing) (.ref C_NotLeast) = some false)
    (q_i_NoDeed : PySem.W.kitOne K (.ref C_NoDrawing) (.ref C_NoDeed) = some false)
    (q_i_OffSheet : PySem.W.kitOne K (.ref C_NoDrawing) (.ref C_OffSheet) = some false)
    (q_i_NoSheet : PySem.W.kitOne K (.ref C_NoDrawing) (.ref C_NoSheet) = some false)
    (q_i_NoRow : PySem.W.kitOne K (.ref C_NoDrawing) (.ref C_NoRow) = some false)
    (q_i_NoName : PySem.W.kitOne K (.ref C_NoDrawing) (.ref C_NoName) = some false)
    (q_x_NoDrawing : PySem.W.excIn K C_NoDrawing [.type "ValueError", .type "Exception", .type "BaseException", .type "object"] "ValueError.__new__" = true)
    (q_k_ss : PySem.W.kitOne K (.type "str") (.type "str") = some true)
    : ∃ t, Txt K mg t := by
  have F_are_signs := fun_mk (st := s_are_signs) l_are_signs c_are_signs k_are_signs
  have b_are_signs := F_are_signs.binds (ps := ["text"]) fun _ _ _ _ _ _ us hl => match us, hl with | [_], _ => rfl
  have F_is_length := fun_mk (st := s_is_length) l_is_length c_is_length k_is_length
  have b_is_length := F_is_length.binds (ps := ["number"]) fun _ _ _ _ _ _ us hl => match us, hl with | [_], _ => rfl
  have F_read_drawing := fun_mk (st := s_read_drawing) l_read_drawing c_read_drawing k_read_drawing
  have b_read_drawing := F_read_drawing.binds (ps := ["text"]) fun _ _ _ _ _ _ us hl => match us, hl with | [_], _ => rfl
  have F_show_drawing := fun_mk (st := s_show_drawing) l_show_drawing c_show_drawing k_show_drawing
  have b_show_drawing := F_show_drawing.binds (ps := ["drawing"]) fun _ _ _ _ _ _ us hl => match us, hl with | [_], _ => rfl
  have F_law_cell_at := fun_mk (st := s_law_cell_at) l_law_cell_at c_law_cell_at k_law_cell_at
  have b_law_cell_at := F_law_cell_at.binds (ps := ["_law_script", "_law_k"]) fun _ _ _ _ _ _ us hl => match us, hl with | [_, _], _ => rfl
  have F_law_drawn := fun_mk (st := s_law_drawn) l_law_drawn c_law_drawn k_law_drawn
  have b_law_drawn := F_law_drawn.binds (ps := ["_law_cells"]) fun _ _ _ _ _ _ us hl => match us, hl with | [_], _ => rfl
  have F_law_other := fun_mk (st := s_law_other) l_law_other c_law_other k_law_other
  have b_law_other := F_law_other.binds (ps := ["_law_rows", "_law_cells"]) fun _ _ _ _ _ _ us hl => match us, hl with | [_, _], _ => rfl
  have F_law_due := fun_mk (st := s_law_due) l_law_due c_law_due k_law_due
  have b_law_due := F_law_due.binds (ps := ["_law_text"]) fun _ _ _ _ _ _ us hl => match us, hl with | [_], _ => rfl
  have F_law_others := fun_mk (st := s_law_others) l_law_others c_law_others k_law_others
  have b_law_others := F_law_others.binds (ps := ["_law_e"]) fun _ _ _ _ _ _ us hl => match us, hl with | [_], _ => rfl
  have F_law_only := fun_mk (st := s_law_only) l_law_only c_law_only k_law_only
  have b_law_only := F_law_only.binds (ps := ["_law_e"]) fun _ _ _ _ _ _ us hl => match us, hl with | [_], _ => rfl
  have F_law_right := fun_mk (st := s_law_right) l_law_right c_law_right k_law_right
  have b_law_right := F_law_right.binds (ps := ["_law_text"]) fun _ _ _ _ _ _ us hl => match us, hl with | [_], _ => rfl
  have F_law := fun_mk (st := s_law) l_law c_law k_law
  have b_law := F_law.binds (ps := ["_law_script"]) fun _ _ _ _ _ _ us hl => match us, hl with | [_], _ => rfl
  exact ⟨⟨f_are_signs, _, f_is_length, _, f_read_drawing, _, f_show_drawing, _, f_law_cell_at, _, f_law_drawn, _, f_law_other, _, f_law_due, _, f_law_others, _, f_law_only, _, f_law_right, _, f_law, _, C_CrystalError, C_NoPlace, C_NoDeed, C_NoNumber, C_NoText, C_TooMany, C_NoChange, C_NotKept, C_NoForm, C_NotWithin, C_NotLeast, C_NoDrawing, C_OffSheet, C_NoSheet, C_NoRow, C_NoName⟩, ⟨F_are_signs, PySem.W.mg_of X G n_are_signs, b_are_signs, F_is_length, PySem.W.mg_of X G n_is_length, b_is_length, F_read_drawing, PySem.W.mg_of X G n_read_drawing, b_read_drawing, F_show_drawing, PySem.W.mg_of X G n_show_drawing, b_show_drawing, F_law_cell_at, PySem.W.mg_of X G n_law_cell_at, b_law_cell_at, F_law_drawn, PySem.W.mg_of X G n_law_drawn, b_law_drawn, F_law_other, PySem.W.mg_of X G n_law_other, b_law_other, F_law_due, PySem.W.mg_of X G n_law_due, b_law_due, F_law_others, PySem.W.mg_of X G n_law_others, b_law_others, F_law_only, PySem.W.mg_of X G n_law_only, b_law_only, F_law_right, PySem.W.mg_of X G n_law_right, b_law_right, F_law, PySem.W.mg_of X G n_law, b_law, PySem.W.mg_none_of X G y_range, PySem.W.mg_none_of X G y_len, PySem.W.mg_none_of X G y_isinstance, PySem.W.mg_none_of X G y_tuple, PySem.W.mg_none_of X G y_max, PySem.W.mg_none_of X G y_all, PySem.W.mg_none_of X G y_str, PySem.W.mg_none_of X G y_ValueError, PySem.W.mg_of X G n_CrystalError, PySem.W.mg_of X G n_NoPlace, PySem.W.mg_of X G n_NoDeed, PySem.W.mg_of X G n_NoNumber, PySem.W.mg_of X G n_NoText, PySem.W.mg_of X G n_TooMany, PySem.W.mg_of X G n_NoChange, PySem.W.mg_of X G n_NotKept, PySem.W.mg_of X G n_NoForm, PySem.W.mg_of X G n_NotWithin, PySem.W.mg_of X G n_NotLeast, PySem.W.mg_of X G n_NoDrawing, PySem.W.mg_of X G n_OffSheet, PySem.W.mg_of X G n_NoSheet, PySem.W.mg_of X G n_NoRow, PySem.W.mg_of X G n_NoName, ⟨_, PySem.W.mg_of X G n_SMALL_LETTERS, _, rfl⟩, ⟨_, PySem.W.mg_of X G n_LONGEST, _, rfl⟩, q_k_int, q_k_ib, q_k_tt, q_xm, q_e_ga, q_e_gt, q_e_ca, q_e_cg, q_e_tk, q_e_ob, q_e_bx, q_i_NoPlace, q_i_VE, q_i_NoDrawing, q_i_NoNumber, q_i_NoText, q_i_TooMany, q_i_NoChange, q_i_NotKept, q_i_NoForm, q_i_NotWithin, q_i_NotLeast, q_i_NoDeed, q_i_OffSheet, q_i_NoSheet, q_i_NoRow, q_i_NoName, q_x_NoDrawing, q_k_ss, fun s v => .of_eq rfl⟩⟩
end Cw
open PySem PySem.W PyProof.Rows
set_option maxRecDepth 100000 in
set_option maxHeartbeats 0 in
theorem PySem.Challenge.cw_crystalwords_k81_drawings_written_holds : PySem.Challenge.rw_crystalwords_k81_drawings_written.Holds := by
  w_on; o_law; k_head; (case hw => w_witness2)
  k_fill
  refine L2.walkB (l := PySem.Challenge.rw_crystalwords_k81_drawings_written) (k := 4) (x := "_law_script") rfl rfl ⟨rfl, by decide, by decide⟩ (fun w h Y => PySem.W.kIn_of Y) ?F
  case F =>
    intro w mg fa h KX G hmg
    have T : ∃ t, Cw.Txt (L2.KOf KX) mg t := by
      dsimp only [L2.KOf]
      refine' Cw.txt_mk KX G ?n_are_signs ?l_are_signs ?c_are_signs ?k_are_signs ?n_is_length ?l_is_length ?c_is_length ?k_is_length ?n_read_drawing ?l_read_drawing ?c_read_drawing ?k_read_drawing ?n_show_drawing ?l_show_drawing ?c_show_drawing ?k_show_drawing ?n_law_cell_at ?l_law_cell_at ?c_law_cell_at ?k_law_cell_at ?n_law_drawn ?l_law_drawn ?c_law_drawn ?k_law_drawn ?n_law_other ?l_law_other ?c_law_other ?k_law_other ?n_law_due ?l_law_due ?c_law_due ?k_law_due ?n_law_others ?l_law_others ?c_law_others ?k_law_others ?n_law_only ?l_law_only ?c_law_only ?k_law_only ?n_law_right ?l_law_right ?c_law_right ?k_law_right ?n_law ?l_law ?c_law ?k_law ?n_CrystalError ?n_NoPlace ?n_NoDeed ?n_NoNumber ?n_NoText ?n_TooMany ?n_NoChange ?n_NotKept ?n_NoForm ?n_NotWithin ?n_NotLeast ?n_NoDrawing ?n_OffSheet ?n_NoSheet ?n_NoRow ?n_NoName ?n_SMALL_LETTERS ?n_LONGEST ?y_range ?y_len ?y_isinstance ?y_tuple ?y_max ?y_all ?y_str ?y_ValueError ?q_k_int ?q_k_ib ?q_k_tt ?q_xm ?q_e_ga ?q_e_gt ?q_e_ca ?q_e_cg ?q_e_tk ?q_e_ob ?q_e_bx ?q_i_NoPlace ?q_i_VE ?q_i_NoDrawing ?q_i_NoNumber ?q_i_NoText ?q_i_TooMany ?q_i_NoChange ?q_i_NotKept ?q_i_NoForm ?q_i_NotWithin ?q_i_NotLeast ?q_i_NoDeed ?q_i_OffSheet ?q_i_NoSheet ?q_i_NoRow ?q_i_NoName ?q_x_NoDrawing ?q_k_ss
      (case n_are_signs => k_is)
      (case l_are_signs => k_is)
      (case c_are_signs => k_is)
      (case k_are_signs => k_is)
      (case n_is_length => k_is)
      (case l_is_length => k_is)
      (case c_is_length => k_is)
      (case k_is_length => k_is)
      (case n_read_drawing => k_is)
      (case l_read_drawing => k_is)
      (case c_read_drawing => k_is)
      (case k_read_drawing => k_is)
      (case n_show_drawing => k_is)
      (case l_show_drawing => k_is)
      (case c_show_drawing => k_is)
      (case k_show_drawing => k_is)
      (case n_law_cell_at => k_is)
      (case l_law_cell_at => k_is)
      (case c_law_cell_at => k_is)
      (case k_law_cell_at => k_is)
      (case n_law_drawn => k_is)
      (case l_law_drawn => k_is)
      (case c_law_drawn => k_is)
      (case k_law_drawn => k_is)
      (case n_law_other => k_is)
      (case l_law_other => k_is)
      (case c_law_other => k_is)
      (case k_law_other => k_is)
      (case n_law_due => k_is)
      (case l_law_due => k_is)
      (case c_law_due => k_is)
      (case k_law_due => k_is)
      (case n_law_others => k_is)
      (case l_law_others => k_is)
      (case c_law_others => k_is)
      (case k_law_others => k_is)
      (case n_law_only => k_is)
      (case l_law_only => k_is)
      (case c_law_only => k_is)
      (case k_law_only => k_is)
      (case n_law_right => k_is)
      (case l_law_right => k_is)
      (case c_law_right => k_is)
      (case k_law_right => k_is)
      (case n_law => k_is)
      (case l_law => k_is)
      (case c_law => k_is)
      (case k_law => k_is)
      (case n_CrystalError => k_is)
      (case n_NoPlace => k_is)
      (case n_NoDeed => k_is)
      (case n_NoNumber => k_is)
      (case n_NoText => k_is)
      (case n_TooMany => k_is)
      (case n_NoChange => k_is)
      (case n_NotKept => k_is)
      (case n_NoForm => k_is)
      (case n_NotWithin => k_is)
      (case n_NotLeast => k_is)
      (case n_NoDrawing => k_is)
      (case n_OffSheet => k_is)
      (case n_NoSheet => k_is)
      (case n_NoRow => k_is)
      (case n_NoName => k_is)
      (case n_SMALL_LETTERS => k_is)
      (case n_LONGEST => k_is)
      (case y_range => k_is)
      (case y_len => k_is)
      (case y_isinstance => k_is)
      (case y_tuple => k_is)
      (case y_max => k_is)
      (case y_all => k_is)
      (case y_str => k_is)
      (case y_ValueError => k_is)
      (case q_k_int => kit_is)
      (case q_k_ib => kit_is)
      (case q_k_tt => kit_is)
      (case q_xm => kts_exm)
      (case q_e_ga => k_is)
      (case q_e_gt => k_is)
      (case q_e_ca => k_is)
      (case q_e_cg => k_is)
      (case q_e_tk => k_is)
      (case q_e_ob => k_is)
      (case q_e_bx => k_is)
      (case q_i_NoPlace => kit_is)
      (case q_i_VE => kit_is)
      (case q_i_NoDrawing => kit_is)
      (case q_i_NoNumber => kit_is)
      (case q_i_NoText => kit_is)
      (case q_i_TooMany => kit_is)
      (case q_i_NoChange => kit_is)
      (case q_i_NotKept => kit_is)
      (case q_i_NoForm => kit_is)
      (case q_i_NotWithin => kit_is)
      (case q_i_NotLeast => kit_is)
      (case q_i_NoDeed => kit_is)
      (case q_i_OffSheet => kit_is)
      (case q_i_NoSheet => kit_is)
      (case q_i_NoRow => kit_is)
      (case q_i_NoName => kit_is)
      (case q_x_NoDrawing => k_exc)
      (case q_k_ss => kit_is)
    obtain ⟨t, T⟩ := T
    have e0 := hmg.symm.trans T.m_law
    cases e0
    exact ⟨t.d_law, T.bl, fun base kb nb => Cw.ok_law T⟩
#print axioms PySem.Challenge.cw_crystalwords_k81_drawings_written_holds
