import PyProof.Rows.All
import Wide.All
import OpenK.AllK
import Wide.FinOn
import Lean
import PyProof.EqAt
import PyProof.EqKinds
import PyProof.TupleCall
import PySem.Challenge.RW_crystalwords_k82_lays
set_option Elab.async false
set_option linter.all false
set_option maxRecDepth 100000
/-! THE HAND LAYER, for ints, bools, texts, own classes, LISTS and tuples (index, slices, in, append, pop ..), calls, loops. Paste it whole ahead of your own text; what your proof does not reach may be deleted. -/
namespace L2
open PySem PySem.Spec PyProof.Rows

/-- a key: an int or a str -/
noncomputable abbrev Key := Sum Int Str
noncomputable def keyIs : Key → Value → Bool
  | .inl k, v => Value.isInt k v
  | .inr x, v => Value.isStrOf x v
noncomputable def keyH (w : World) : Key → Int
  | .inl k => hashInt k
  | .inr x => hashStr w x
theorem keyIs_shape : ∀ {k : Key} {v : Value}, keyIs k v = true → (∃ i t, k = Sum.inl i ∧ v = Value.int i t) ∨ (∃ x t, k = Sum.inr x ∧ v = Value.str x t)
  | .inl i, v, h => by
    obtain ⟨t, e⟩ := Value.isInt_shape (k := i) (v := v) h
    exact .inl ⟨i, t, rfl, e⟩
  | .inr x, v, h => by
    obtain ⟨t, e⟩ := Value.isStrOf_shape (x := x) (v := v) h
    exact .inr ⟨x, t, rfl, e⟩
theorem key_ll (a b : Int) : decide ((Sum.inl a : Key) = Sum.inl b) = (a == b) := by
  by_cases e : a = b
  · subst e; simp
  · have h : ¬ (Sum.inl a : Key) = Sum.inl b := fun q => e (Sum.inl.inj q)
    rw [decide_eq_false h]
    exact (beq_eq_false_iff_ne.mpr e).symm
theorem key_rr (a b : Str) : decide ((Sum.inr a : Key) = Sum.inr b) = decide (a = b) := by
  by_cases e : a = b
  · subst e; simp
  · have h : ¬ (Sum.inr a : Key) = Sum.inr b := fun q => e (Sum.inr.inj q)
    rw [decide_eq_false h, decide_eq_false e]
theorem key_lr (a : Int) (b : Str) : decide ((Sum.inl a : Key) = Sum.inr b) = false := decide_eq_false (fun q => nomatch q)
theorem key_rl (a : Str) (b : Int) : decide ((Sum.inr a : Key) = Sum.inl b) = false := decide_eq_false (fun q => nomatch q)

noncomputable def mixKind (prog : Program) (w : World) : PySem.KeyKind prog w Key where
  is := keyIs
  hash := keyH w
  inj := fun v a b ha hb => by
    rcases keyIs_shape ha with ⟨i, t, rfl, rfl⟩ | ⟨x, t, rfl, rfl⟩
    · rcases keyIs_shape hb with ⟨j, u, rfl, e⟩ | ⟨y, u, rfl, e⟩
      · injection e with e1 _; rw [e1]
      · exact nomatch e
    · rcases keyIs_shape hb with ⟨j, u, rfl, e⟩ | ⟨y, u, rfl, e⟩
      · exact nomatch e
      · injection e with e1 _; rw [e1]
  byValue := fun k v h => by
    rcases keyIs_shape h with ⟨i, t, rfl, rfl⟩ | ⟨x, t, rfl, rfl⟩ <;> rfl
  pyHash := fun hv h => by
    rcases keyIs_shape hv with ⟨i, t, rfl, rfl⟩ | ⟨x, t, rfl, rfl⟩
    · exact wpAny_pyHash_int h
    · exact wpAny_pyHash_str h
  eqBool := fun hu hv h => by
    rcases keyIs_shape hu with ⟨i, t, rfl, rfl⟩ | ⟨x, t, rfl, rfl⟩
    · rcases keyIs_shape hv with ⟨j, u, rfl, rfl⟩ | ⟨y, u, rfl, rfl⟩
      · rw [key_ll] at h; exact wpAny_eqBool_int h
      · rw [key_lr] at h; exact SeqAt.EqAt.int_str i t y u _ _ _ _ h
    · rcases keyIs_shape hv with ⟨j, u, rfl, rfl⟩ | ⟨y, u, rfl, rfl⟩
      · rw [key_rl] at h; exact SeqAt.EqAt.str_int x t j u _ _ _ _ h
      · rw [key_rr] at h; exact wpAny_eqBool_str h
  «strs» := fun k x t v h => by
    rcases keyIs_shape h with ⟨i, u, rfl, e⟩ | ⟨y, u, rfl, e⟩
    · exact nomatch e
    · injection e with e1 _
      subst e1
      cases v <;> rfl

end L2

namespace L2
open PySem PySem.Spec PyProof.Rows

/-- a value, without the heap -/
inductive V where
  | non | bl (b : Bool) | int (i : Int) | str (x : Str) | byt (b : Array UInt8) | flt (b : UInt64) | ref (a : Addr) | ty (n : String)
  deriving DecidableEq

noncomputable def RelV : V → Value → Prop
  | .non, u => u = Value.none
  | .bl b, u => u = Value.bool b
  | .int i, u => ∃ t, u = Value.int i t
  | .str x, u => ∃ t, u = Value.str x t
  | .byt b, u => ∃ t, u = Value.bytes b t
  | .flt b, u => ∃ t, u = Value.float b t
  | .ref a, u => u = Value.ref a
  | .ty n, u => u = Value.type n

noncomputable abbrev Vals : List V → List Value → Prop := Paired RelV
theorem Vals.length {xs : List V} {us : List Value} (r : Vals xs us) : xs.length = us.length := Paired.length r
theorem Vals.get : ∀ {xs : List V} {us : List Value} {i : Nat} {x : V}, Vals xs us → xs[i]? = some x → ∃ u, us[i]? = some u ∧ RelV x u
  | _, _, _, _, .nil, e => by simp at e
  | _, _, 0, _, .cons r _, e => by simp at e; subst e; exact ⟨_, rfl, r⟩
  | _, _, i + 1, x, .cons _ t, e => by
    obtain ⟨u, h1, h2⟩ := Vals.get (i := i) (x := x) t (by simpa using e)
    exact ⟨u, by simpa using h1, h2⟩
theorem Vals.set {x : V} {u : Value} (r : RelV x u) : ∀ {xs : List V} {us : List Value} (i : Nat), Vals xs us → Vals (xs.set i x) (us.set i u)
  | _, _, _, .nil => .nil
  | _, _, 0, .cons _ t => .cons r t
  | _, _, i + 1, .cons q t => .cons q (Vals.set r i t)
theorem Vals.append : ∀ {xs ys : List V} {us ws : List Value}, Vals xs us → Vals ys ws → Vals (xs ++ ys) (us ++ ws)
  | _, _, _, _, .nil, s => s
  | _, _, _, _, .cons r t, s => .cons r (Vals.append t s)
theorem Vals.take : ∀ {xs : List V} {us : List Value} (n : Nat), Vals xs us → Vals (xs.take n) (us.take n)
  | _, _, 0, _ => .nil
  | _, _, _ + 1, .nil => .nil
  | _, _, n + 1, .cons r t => .cons r (Vals.take n t)
theorem Vals.none_of : ∀ {xs : List V} {us : List Value} {i : Nat}, Vals xs us → xs[i]? = none → us[i]? = none := fun {xs us i} r e => by
  have h1 := r.length
  have h2 : xs.length ≤ i := List.getElem?_eq_none_iff.mp e
  exact List.getElem?_eq_none_iff.mpr (by omega)

noncomputable def RelO : Option V → Option Value → Prop
  | some v, some u => RelV v u
  | none, none => True
  | _, _ => False
noncomputable def KV {κ : Type} : List (κ × V) → List (κ × Value) → Prop := Paired fun (p : κ × V) (q : κ × Value) => p.1 = q.1 ∧ RelV p.2 q.2

/-- a key of a dict (00_mix): an int or a text -/
noncomputable def kV : Key → V
  | .inl i => .int i
  | .inr x => .str x

/-- what stands at a tracked address -/
inductive HO where
  /-- a list -/
  | lst (xs : List V)
  /-- a tuple (never changes) -/
  | tup (xs : List V)
  /-- a dict whose keys are ints and texts; one whose keys are tuples of ints and texts (the empty one is both) -/
  | dK (kvs : List (Key × V)) | dT (kvs : List (List Key × V))
  /-- a set of ints: its members, its size -/
  | set (S : Int → Bool) (n : Nat)
  /-- an instance of the class at C, its dict at dx, its attributes -/
  | ins (C dx : Addr) (fs : List (Str × V))
  /-- the dict of the instance at x -/
  | own (x : Addr)
  /-- the dict of an exception -/
  | xd (fs : List (Str × V))
  /-- a bound method, f of x -/
  | met (f x : Addr)
  /-- a range object lo, lo + 1, .. below hi -/
  | rng (lo hi : Int)
  /-- a thing that is known to the object (the script; a dict while a loop walks it): read, never written while it is so -/
  | frz (o : Obj) (u : HO)
  /-- a code object's table -/
  | tbl (ps : Array Value)
  /-- any other thing, by what is true of its one object (a def of one's own: SetO a S n := HO.ext fun h => ..) -/
  | ext (φ : Heap → Prop)

noncomputable abbrev Hp := Addr → Option HO
noncomputable def upd (H : Hp) (a : Addr) (o : HO) : Hp := fun b => if b = a then some o else H b
theorem upd_same {H : Hp} {a : Addr} {o : HO} : upd H a o a = some o := by unfold upd; rw [if_pos rfl]
theorem upd_ne {H : Hp} {a b : Addr} {o : HO} (h : b ≠ a) : upd H a o b = H b := by unfold upd; rw [if_neg h]
theorem ne_of_none {H : Hp} {a b : Addr} {o : HO} (h : H a = some o) (h' : H b = none) : a ≠ b := by
  intro e; subst e; rw [h] at h'; cases h'

section
variable (P : Program) (w : World)
noncomputable def ObjOk (H : Hp) (h : Heap) (a : Addr) : HO → Prop
  | .lst xs => xs.length ≤ sizeLine ∧ ∃ (its : List Value) (n : Nat), Vals xs its ∧ h.get? a = some { cls := .type "list", data := .seq its.toArray n }
  | .tup xs => xs.length ≤ sizeLine ∧ ∃ its : List Value, Vals xs its ∧ IsTup h a its.toArray
  | .dK kvs => kvs.length ≤ sizeLine ∧ (a == sysModules) = false ∧ ∃ vs, KV kvs vs ∧ h.DictOf (mixKind P w) a vs
  | .dT kvs => kvs.length ≤ sizeLine ∧ (a == sysModules) = false ∧ ∃ xs : List (List Key × Addr × Value),
      Paired (fun (p : List Key × V) (q : List Key × Addr × Value) => p.1 = q.1 ∧ H q.2.1 = some (.tup (p.1.map kV)) ∧ RelV p.2 q.2.2) kvs xs ∧
      ∃ o es ep, h.get? a = some o ∧ o.ExactDict ∧ o.data = .dict es ep ∧ es.toList = xs.map (entryOfKey (tupleKind (mixKind P w))) ∧ (xs.map (·.1)).Nodup
  | .set S n => h.SetOf (intKind P w) a S n
  | .ins C dx fs => H dx = some (.own a) ∧ fs.length ≤ 1000 ∧ dx ≠ a ∧ h.get? a = some (PySem.W.instObj C dx) ∧
      ∃ mA, h.Ns1 dx mA ∧ (∀ f, RelO (fs.lookup f) (mA f)) ∧ PySem.Within mA (fs.map (·.1))
  | .own _ => ∃ o, h.get? a = some o
  | .xd fs => ∃ mA, h.Ns1 a mA ∧ ∀ f, RelO (fs.lookup f) (mA f)
  | .rng lo hi => ∃ t u v, h.get? a = some { cls := .type "range", data := .fields #[.int lo t, .int hi u, .int 1 v] }
  | .frz o u => h.get? a = some o ∧ ObjOk H h a u
  | .tbl ps => h.get? a = some { cls := .none, data := .fields ps }
  | .met f x => h.get? a = some (PySem.W.methodObj (.ref f) (.ref x))
  | .ext φ => φ h ∧ (∃ o, h.get? a = some o) ∧ ∀ h1 h2 : Heap, φ h1 → (∀ o, h1.get? a = some o → h2.get? a = some o) → φ h2
/-- the abstract heap is held -/
noncomputable def HOk (H : Hp) (h : Heap) : Prop := ∀ a o, H a = some o → ObjOk P w H h a o
end

section
variable {P : Program} {w : World} {H H' : Hp} {h h' : Heap} {a : Addr} {o : HO}
theorem ObjOk.lt (x : ObjOk P w H h a o) : a < h.objs.size := by
  cases o with
  | lst xs => obtain ⟨_, _, _, _, e⟩ := x; exact Heap.lt_size e
  | tup xs => obtain ⟨_, _, _, p⟩ := x; exact p.lt
  | dK kvs => obtain ⟨_, _, _, _, o, _, _, e, _⟩ := x; exact Heap.lt_size e
  | dT kvs => obtain ⟨_, _, _, _, o, _, _, e, _⟩ := x; exact Heap.lt_size e
  | set S n => obtain ⟨o, _, _, _, e, _⟩ := x; exact Heap.lt_size e
  | ins C dx fs => obtain ⟨_, _, _, e, _⟩ := x; exact Heap.lt_size e
  | own y => obtain ⟨_, e⟩ := x; exact Heap.lt_size e
  | xd fs => obtain ⟨_, ⟨_, _, _, e, _⟩, _⟩ := x; exact Heap.lt_size e
  | rng lo hi => obtain ⟨_, _, _, e⟩ := x; exact Heap.lt_size e
  | frz ob u => obtain ⟨e, _⟩ := x; exact Heap.lt_size e
  | tbl ps => exact Heap.lt_size (show h.get? a = some _ from x)
  | met f y => exact Heap.lt_size (show h.get? a = some _ from x)
  | ext φ => obtain ⟨_, ⟨_, e⟩, _⟩ := x; exact Heap.lt_size e
theorem Paired.mapP {α β : Type} {F G : α → β → Prop} : ∀ {l₁ : List α} {l₂ : List β}, Paired F l₁ l₂ → (∀ a b, F a b → G a b) → Paired G l₁ l₂
  | _, _, .nil, _ => .nil
  | _, _, .cons r t, f => .cons (f _ _ r) (Paired.mapP t f)
/-- what an object's description leans on: its own object, its own dict, the tuples -/
theorem ObjOk.stay (x : ObjOk P w H h a o) (k : ∀ b u, (b = a ∨ H b = some (.own a)) → h.get? b = some u → h'.get? b = some u)
    (ho : ∀ b, H b = some (.own a) → H' b = some (.own a)) (ht : ∀ b xs, H b = some (.tup xs) → H' b = some (.tup xs)) : ObjOk P w H' h' a o := by
  induction o with
  | lst xs => obtain ⟨z, its, n, r, e⟩ := x; exact ⟨z, its, n, r, k _ _ (.inl rfl) e⟩
  | tup xs => obtain ⟨z, its, r, ob, e, c⟩ := x; exact ⟨z, its, r, ob, k _ _ (.inl rfl) e, c⟩
  | dK kvs => obtain ⟨z, y, vs, r, ob, es, ep, e, c⟩ := x; exact ⟨z, y, vs, r, ob, es, ep, k _ _ (.inl rfl) e, c⟩
  | dT kvs =>
    obtain ⟨z, y, xs, r, ob, es, ep, e, c⟩ := x
    exact ⟨z, y, xs, Paired.mapP r fun p q z => ⟨z.1, ht _ _ z.2.1, z.2.2⟩, ob, es, ep, k _ _ (.inl rfl) e, c⟩
  | set S n => obtain ⟨ob, es, ep, t, e, c⟩ := x; exact ⟨ob, es, ep, t, k _ _ (.inl rfl) e, c⟩
  | ins C dx fs =>
    obtain ⟨d, z, ne, e, mA, ⟨od, es, ep, e2, c⟩, r⟩ := x
    exact ⟨ho _ d, z, ne, k _ _ (.inl rfl) e, mA, ⟨od, es, ep, k _ _ (.inr d) e2, c⟩, r⟩
  | own y => obtain ⟨ob, e⟩ := x; exact ⟨ob, k _ _ (.inl rfl) e⟩
  | xd fs => obtain ⟨mA, ⟨od, es, ep, e, c⟩, r⟩ := x; exact ⟨mA, ⟨od, es, ep, k _ _ (.inl rfl) e, c⟩, r⟩
  | rng lo hi => obtain ⟨t, u, v, e⟩ := x; exact ⟨t, u, v, k _ _ (.inl rfl) e⟩
  | frz ob u ih => obtain ⟨e, q⟩ := x; exact ⟨k _ _ (.inl rfl) e, ih q⟩
  | tbl ps =>
    have e : h.get? a = some { cls := .none, data := .fields ps } := x
    show h'.get? a = some { cls := .none, data := .fields ps }
    exact k a _ (.inl rfl) e
  | met f y =>
    have e : h.get? a = some (PySem.W.methodObj (.ref f) (.ref y)) := x
    show h'.get? a = some (PySem.W.methodObj (.ref f) (.ref y))
    exact k a _ (.inl rfl) e
  | ext φ => obtain ⟨p, ⟨o, e⟩, st⟩ := x; exact ⟨st _ _ p fun o q => k _ _ (.inl rfl) q, ⟨o, k _ _ (.inl rfl) e⟩, st⟩
theorem HOk.lt (x : HOk P w H h) (e : H a = some o) : a < h.objs.size := (x a o e).lt
theorem HOk.fresh (x : HOk P w H h) (e : h.objs.size ≤ a) : H a = none := by
  cases q : H a with
  | none => rfl
  | some u => exact absurd (Nat.lt_of_lt_of_le (x.lt q) e) (Nat.lt_irrefl _)
/-- every object of the heap is kept -/
theorem HOk.kept (x : HOk P w H h) (k : ∀ b u, h.get? b = some u → h'.get? b = some u) : HOk P w H h' := fun a o e =>
  (x a o e).stay (fun b u _ q => k b u q) (fun _ q => q) fun _ _ q => q
/-- a new object is laid and tracked -/
theorem HOk.laid (x : HOk P w H h) (k : ∀ b u, h.get? b = some u → h'.get? b = some u) (hp : h.objs.size ≤ a) (new : ObjOk P w (upd H a o) h' a o) : HOk P w (upd H a o) h' := fun b u e => by
  have hn := x.fresh hp
  by_cases hb : b = a
  · subst hb; rw [upd_same] at e; cases e; exact new
  · rw [upd_ne hb] at e
    exact (x b u e).stay (fun c v _ q => k c v q) (fun c q => by rw [upd_ne (ne_of_none q hn)]; exact q) fun c xs q => by rw [upd_ne (ne_of_none q hn)]; exact q
end

/-- what may be read as u: it is u, or a known u -/
noncomputable def Rd (H : Hp) (a : Addr) (u : HO) : Prop := H a = some u ∨ ∃ o, H a = some (.frz o u)
theorem Rd.of {H : Hp} {a : Addr} {u : HO} (h : H a = some u) : Rd H a u := .inl h
theorem Rd.ok {P : Program} {w : World} {H : Hp} {h : Heap} {a : Addr} {u : HO} (r : Rd H a u) (x : HOk P w H h) : ObjOk P w H h a u := by
  rcases r with r | ⟨o, r⟩
  · exact x a u r
  · obtain ⟨_, q⟩ := x a _ r
    exact q
/-- what may be written -/
noncomputable def Mut : Option HO → Prop
  | some (.lst _) => True
  | some (.dK _) => True
  | some (.dT _) => True
  | some (.set _ _) => True
  | some (.ins _ _ _) => True
  | some (.ext _) => True
  | _ => False
section
variable {P : Program} {w : World} {H : Hp} {h h' : Heap} {x e : Addr} {o' : HO}
/-- the object at e is changed: x itself, or the dict of the instance x -/
theorem HOk.write (ok : HOk P w H h) (mu : Mut (H x)) (he : e = x ∨ H e = some (.own x)) (k : ∀ b u, b ≠ e → h.get? b = some u → h'.get? b = some u) (heo : ∃ u, h'.get? e = some u)
    (new : ObjOk P w (upd H x o') h' x o') : HOk P w (upd H x o') h' := fun b u q => by
  have nown : ∀ c y, H c = some (.own y) → c ≠ x := fun c y r z => by subst z; rw [r] at mu; exact mu
  have ntup : ∀ c xs, H c = some (.tup xs) → c ≠ x := fun c xs r z => by subst z; rw [r] at mu; exact mu
  by_cases hb : b = x
  · subst hb; rw [upd_same] at q; cases q; exact new
  · rw [upd_ne hb] at q
    by_cases hbe : b = e
    · have q' : H b = some (.own x) := by
        rcases he with z | z
        · exact absurd (hbe.trans z) hb
        · rw [hbe]; exact z
      rw [q] at q'; cases q'
      obtain ⟨v, hv⟩ := heo
      exact ⟨v, by rw [hbe]; exact hv⟩
    · refine (ok b u q).stay (fun c v hc r => k c v ?_ r) (fun c r => by rw [upd_ne (nown c b r)]; exact r) fun c xs r => by rw [upd_ne (ntup c xs r)]; exact r
      rcases hc with rfl | hc
      · exact hbe
      · rintro rfl
        rcases he with z | z
        · exact nown c b hc z
        · rw [hc] at z; cases z; exact hb rfl
end

/-! ### kept unless tracked; of the frames at fs (the callers') the slots may change (an exception that passes writes there); of the records at ex (iterators) nothing is said -/
structure Un (fs ex : List Addr) (H H' : Hp) (h h' : Heap) : Prop where
  keep : ∀ b o, h.get? b = some o → H b = none → b ∉ fs → b ∉ ex → h'.get? b = some o
  slot : ∀ b o, h.get? b = some o → H b = none → b ∈ fs → b ∉ ex → ∃ sl, h'.get? b = some { o with slots := sl }
  free : ∀ b o, h.get? b = some o → H b = none → b ∉ ex → H' b = none
  there : ∀ b o, h.get? b = some o → b ∉ ex → ∃ o', h'.get? b = some o'
  tups : ∀ b xs, H b = some (.tup xs) → H' b = some (.tup xs)
  frzs : ∀ b o u, H b = some (.frz o u) → H' b = some (.frz o u)
  tbls : ∀ b ps, H b = some (.tbl ps) → ∃ more, H' b = some (.tbl (ps ++ more))
section
variable {fs fs' ex ex' : List Addr} {H H1 H2 : Hp} {h h1 h2 h' : Heap} {a x e : Addr} {o : HO}
theorem Un.any (u : Un fs ex H H1 h h1) {b : Addr} {ob : Obj} (q : h.get? b = some ob) (n : H b = none) (hx : b ∉ ex) : ∃ sl, h1.get? b = some { ob with slots := sl } := by
  by_cases hb : b ∈ fs
  · exact u.slot b ob q n hb hx
  · exact ⟨ob.slots, u.keep b ob q n hb hx⟩
theorem Un.trans (a : Un fs ex H H1 h h1) (b : Un fs ex H1 H2 h1 h2) : Un fs ex H H2 h h2 where
  keep := fun c ob q n hc hx => b.keep c ob (a.keep c ob q n hc hx) (a.free c ob q n hx) hc hx
  slot := fun c ob q n hc hx => by
    obtain ⟨sl, e1⟩ := a.slot c ob q n hc hx
    obtain ⟨sl', e2⟩ := b.slot c _ e1 (a.free c ob q n hx) hc hx
    exact ⟨sl', e2⟩
  free := fun c ob q n hx => by
    obtain ⟨o', e1⟩ := a.there c ob q hx
    exact b.free c o' e1 (a.free c ob q n hx) hx
  there := fun c ob q hx => by
    obtain ⟨o', e1⟩ := a.there c ob q hx
    exact b.there c o' e1 hx
  tups := fun c xs q => b.tups c xs (a.tups c xs q)
  frzs := fun c ob xs q => b.frzs c ob xs (a.frzs c ob xs q)
  tbls := fun c ps q => by
    obtain ⟨m1, e1⟩ := a.tbls c ps q
    obtain ⟨m2, e2⟩ := b.tbls c _ e1
    exact ⟨m1 ++ m2, by rw [e2, Array.append_assoc]⟩
theorem Un.kept (k : ∀ b u, h.get? b = some u → h'.get? b = some u) : Un fs ex H H h h' :=
  ⟨fun b ob q _ _ _ => k b ob q, fun b ob q _ _ _ => ⟨ob.slots, k b ob q⟩, fun _ _ _ n _ => n, fun b ob q _ => ⟨ob, k b ob q⟩, fun _ _ q => q, fun _ _ _ q => q, fun _ ps q => ⟨#[], by rw [q]; simp⟩⟩
theorem Un.refl : Un fs ex H H h h := Un.kept fun _ _ q => q
theorem Un.laid (k : ∀ b u, h.get? b = some u → h'.get? b = some u) (hp : h.objs.size ≤ a) (hn : H a = none) : Un fs ex H (upd H a o) h h' where
  keep := fun b u q _ _ _ => k b u q
  slot := fun b u q _ _ _ => ⟨u.slots, k b u q⟩
  free := fun b u q n _ => by rw [upd_ne (Nat.ne_of_lt (Nat.lt_of_lt_of_le (Heap.lt_size q) hp))]; exact n
  there := fun b u q _ => ⟨u, k b u q⟩
  tups := fun b xs q => by rw [upd_ne (ne_of_none q hn)]; exact q
  frzs := fun b u xs q => by rw [upd_ne (ne_of_none q hn)]; exact q
  tbls := fun b ps q => ⟨#[], by rw [upd_ne (ne_of_none q hn), q]; simp⟩
theorem Un.write (mu : Mut (H x)) (he : e = x ∨ H e = some (.own x)) (k : ∀ b u, b ≠ e → h.get? b = some u → h'.get? b = some u) (heo : ∃ u, h'.get? e = some u) : Un fs ex H (upd H x o) h h' := by
  have hx : ∀ b, H b = none → b ≠ x := fun b n z => by subst z; rw [n] at mu; exact mu
  have hb : ∀ b, H b = none → b ≠ e := fun b n z => by
    subst z
    rcases he with r | r
    · exact hx b n r
    · rw [n] at r; cases r
  have hm : ∀ b u, H b = some u → ¬ Mut (some u) → b ≠ x := fun b u q nm z => by subst z; rw [q] at mu; exact nm mu
  refine ⟨fun b u q n _ _ => k b u (hb b n) q, fun b u q n _ _ => ⟨u.slots, k b u (hb b n) q⟩, fun b u q n _ => by rw [upd_ne (hx b n)]; exact n, fun b u q _ => ?_,
    fun b xs q => by rw [upd_ne (hm b _ q fun z => z)]; exact q, fun b u xs q => by rw [upd_ne (hm b _ q fun z => z)]; exact q, fun b ps q => ⟨#[], by rw [upd_ne (hm b _ q fun z => z), q]; simp⟩⟩
  by_cases hbe : b = e
  · subst hbe; exact heo
  · exact ⟨u, k b u hbe q⟩
theorem Un.mono (u : Un fs ex H H1 h h1) (hs : ∀ b ∈ fs, b ∈ fs') (hx : ∀ b ∈ ex, b ∈ ex') : Un fs' ex' H H1 h h1 :=
  ⟨fun b ob q n hb he => u.keep b ob q n (fun z => hb (hs b z)) fun z => he (hx b z), fun _ _ q n _ he => u.any q n fun z => he (hx _ z), fun b ob q n he => u.free b ob q n fun z => he (hx b z), fun b ob q he => u.there b ob q fun z => he (hx b z), u.tups, u.frzs, u.tbls⟩
end

/-! ### the heap without what is tracked -/
noncomputable def trk (h : Heap) (H : Hp) : List Addr := (List.range h.objs.size).filter fun a => (H a).isSome
noncomputable def hidT (h : Heap) (H : Hp) : Heap := PySem.W.hideAll h (trk h H)
theorem hidT_size (h : Heap) (H : Hp) : (hidT h H).objs.size = h.objs.size := PySem.W.hideAll_size _ _
theorem hidT_get {h : Heap} {H : Hp} {b : Addr} {o : Obj} (e : h.get? b = some o) (n : H b = none) : (hidT h H).get? b = some o :=
  PySem.W.hideAll_get _ e fun hm => by
    have q : (H b).isSome = true := (List.mem_filter.mp hm).2
    rw [n] at q; simp at q
theorem of_hidT {h : Heap} {H : Hp} {b : Addr} {o : Obj} (e : (hidT h H).get? b = some o) : h.get? b = some o ∧ H b = none := by
  have e' : h.get? b = some o := PySem.W.of_hideAll (trk h H) e
  refine ⟨e', ?_⟩
  cases q : H b with
  | none => rfl
  | some x =>
    have hm : b ∈ trk h H := List.mem_filter.mpr ⟨List.mem_range.mpr (Heap.lt_size e'), by simp [q]⟩
    have z : (hidT h H).get? b = none := PySem.W.hideAll_none (trk h H) hm
    rw [z] at e; cases e

/-! ### OpenK's ledger, filled with every new object but one -/
noncomputable def allNews (g h : Heap) (L : Addr) : List (Addr × Obj) := (List.range h.objs.size).filterMap fun a => if a = L ∨ (g.get? a).isSome = true then none else (h.get? a).map fun o => (a, o)
noncomputable def rest (g h : Heap) (L d : Addr) : List (Addr × Obj) := (allNews g h L).filter fun p => decide (p.1 ≠ d)
end L2

namespace L2
open PySem PySem.Spec PyProof.Rows

/-- the module's facts, over the base: the heap at the law's entry without what is tracked there -/
structure Mod (K : PySem.W.Frag) (mg : Str → Option Value) (base : Heap) : Prop where
  kin : K.In base
  glob : base.Ns mainGlobals mg
  blt : ∃ mb, base.Ns builtinsNs mb ∧ ∀ x : Str, x ≠ "__name__" → mb x = bootBuiltins x
  nolimit : base.NoLimit

/-- the context: a def's body (or a comprehension's block) running. base: fixed through the whole law; s₀, H₀: the entry; outer: the frames whose slots others may change (a def's callers); stack: all frames that run;
   ex: iterators that were made ahead of the entry and are walked here (a comprehension's); fn: the names whose cells were made at the entry (a def: all; a comprehension's block: its own); calm: not within an except suite; pn: pins that every state bears; xe: what is wanted of an exception that leaves the code -/
structure Cx where
  prog : Program
  w : World
  K : PySem.W.Frag
  mg : Str → Option Value
  base : Heap
  A : Around
  N : List Str
  s₀ : Shared
  H₀ : Hp
  env : Env
  outer : List Env
  stack : List Env
  ex : List Addr
  fn : Str → Bool
  calm : Bool
  pn : List (Addr × Obj)
  xe : Value → Shared → Prop
/-- the callers' frames -/
noncomputable def frs (l : List Env) : List Addr := l.filterMap (·.frame)
noncomputable abbrev Cx.fs (X : Cx) : List Addr := frs X.outer

noncomputable def Vis (sc : Scope) (x : Str) : Prop := sc.names.lookup x = some .local ∨ sc.names.lookup x = some .cell ∨ sc.names.lookup x = some .free
noncomputable def Loc (sc : Scope) (x : Str) : Prop := sc.names.lookup x = some .local ∨ sc.names.lookup x = some .cell
noncomputable def Look (env : Env) (h : Heap) (m : Str → Option Value) (x : Str) (u : Value) : Prop :=
  (env.kindOf x = some .local ∧ m x = some u) ∨ ((env.kindOf x = some .cell ∨ env.kindOf x = some .free) ∧ ∃ c, env.cells.lookup x = some c ∧ h.IsCell c (some u))

structure Cx.Ok (X : Cx) : Prop where
  mod : Mod X.K X.mg X.base
  kind : X.env.scope.kind = .function
  glob : X.env.globals = mainGlobals
  blt : X.env.builtins = builtinsNs
  above : X.s₀.heap.objs.size ≤ X.env.locals
  inj : ∀ x y c, X.env.cells.lookup x = some c → X.env.cells.lookup y = some c → x = y
  has : ∀ x, (X.env.kindOf x = some .cell ∨ X.env.kindOf x = some .free) → ∃ c, X.env.cells.lookup x = some c
  cab : ∀ x c, X.fn x = true → X.env.cells.lookup x = some c → X.s₀.heap.objs.size ≤ c
  hd : X.calm = true → X.A.handled = none
  frames : X.A.frames = some X.stack
  stk : X.stack = X.outer ∨ (X.stack = X.env :: X.outer ∧ X.env.frame = some X.env.locals)
  exf : ∀ b ∈ X.ex, b ≠ X.env.locals ∧ ∀ x c, X.env.cells.lookup x = some c → c ≠ b
  bs : ∀ b o, X.base.get? b = some o → X.s₀.heap.get? b = some o ∧ X.H₀ b = none
  bsz : X.base.objs.size ≤ X.s₀.heap.objs.size
  noex : ∀ b o, X.base.get? b = some o → b ∉ X.ex
  exfs : ∀ b ∈ X.ex, b ∉ X.fs
  funs : X.s₀.heap.FunFrames X.base X.outer
  frf : ∀ b ∈ X.fs, X.H₀ b = none

structure Inv (X : Cx) (pins : List (Addr × Obj)) (σ : List (Option V)) (H : Hp) (s : Shared) : Prop where
  ok : X.Ok
  os : s.os = X.s₀.os
  bare : AllBare s.gens
  base : Un X.fs X.ex X.H₀ H X.s₀.heap s.heap
  loc : ∃ m, s.heap.Ns X.env.locals m ∧ ∀ (i : Nat) (x : Str) (v : V), X.N[i]? = some x → σ[i]? = some (some v) → Vis X.env.scope x → ∃ u, RelV v u ∧ Look X.env s.heap m x u
  cell : ∀ x c, X.env.cells.lookup x = some c → ∃ v, s.heap.IsCell c v
  free : H X.env.locals = none
  freeC : ∀ x c, X.env.cells.lookup x = some c → H c = none
  pin : ∀ p ∈ X.pn ++ pins, s.heap.get? p.1 = some p.2 ∧ H p.1 = none ∧ p.1 ≠ X.env.locals ∧ p.1 ∉ X.fs ∧ ∀ v, p.2.data ≠ .cell v
  hok : HOk X.prog X.w H s.heap
  len : σ.length = X.N.length

section
variable {X : Cx} {pins : List (Addr × Obj)} {σ : List (Option V)} {H H' : Hp} {s : Shared} {h' : Heap}

theorem Cx.Ok.nofr (ok : X.Ok) {b : Addr} {o : Obj} (e : X.base.get? b = some o) : b ∉ X.fs := fun hb => by
  have := (ok.funs.mem hb).1
  rw [e] at this; cases this
theorem Inv.bs (I : Inv X pins σ H s) : ∀ b o, X.base.get? b = some o → s.heap.get? b = some o ∧ H b = none := fun b o e =>
  ⟨I.base.keep b o (I.ok.bs b o e).1 (I.ok.bs b o e).2 (I.ok.nofr e) (I.ok.noex b o e), I.base.free b o (I.ok.bs b o e).1 (I.ok.bs b o e).2 (I.ok.noex b o e)⟩
theorem Inv.bk (I : Inv X pins σ H s) : ∀ b o, X.base.get? b = some o → s.heap.get? b = some o := fun b o e => (I.bs b o e).1
theorem Inv.mod (I : Inv X pins σ H s) : Mod X.K X.mg X.base := I.ok.mod
theorem Inv.kIn (I : Inv X pins σ H s) : X.K.In s.heap := I.ok.mod.kin.keeps I.bk
theorem Inv.nolimit (I : Inv X pins σ H s) : s.heap.NoLimit := I.ok.mod.nolimit.keeps I.bk
/-- the frame over the base: for OpenK's rules (K.In X.base is I.mod.kin) -/
theorem Inv.fr (I : Inv X pins σ H s) : ∃ m, Fr X.base X.env.locals s.heap m :=
  let ⟨m, hn, _⟩ := I.loc
  ⟨m, hn, I.bk, Nat.le_trans I.ok.bsz I.ok.above⟩
theorem Inv.lt (I : Inv X pins σ H s) : X.env.locals < s.heap.objs.size := let ⟨_, hn, _⟩ := I.loc; hn.lt
theorem Inv.sz (I : Inv X pins σ H s) : X.s₀.heap.objs.size ≤ s.heap.objs.size := Nat.le_trans I.ok.above (Nat.le_of_lt I.lt)
theorem Inv.nofs (I : Inv X pins σ H s) {a : Addr} (h : s.heap.objs.size ≤ a) : a ∉ X.fs := fun hb => by
  obtain ⟨_, o, ho, _⟩ := I.ok.funs.mem hb
  exact absurd (Nat.lt_of_lt_of_le (Heap.lt_size ho) (Nat.le_trans I.sz h)) (Nat.lt_irrefl _)
theorem Inv.cne (I : Inv X pins σ H s) : ∀ x c, X.env.cells.lookup x = some c → c ≠ X.env.locals := fun x c e z => by
  obtain ⟨v, o, ho, hd⟩ := I.cell x c e
  obtain ⟨m, ⟨o', es, ep, ho', hd', _⟩, _⟩ := I.loc
  rw [z, ho'] at ho; cases ho; rw [hd'] at hd; cases hd
theorem Inv.funs (I : Inv X pins σ H s) : s.heap.FunFrames X.base X.outer := by
  have all : ∀ (l : List Env), (∀ b ∈ frs l, b ∈ X.fs) → X.s₀.heap.FunFrames X.base l → s.heap.FunFrames X.base l := by
    intro l
    induction l with
    | nil => intro _ _; trivial
    | cons env r ih =>
      intro hs hl
      obtain ⟨hk, ⟨L, o, hf, hn, ho, hd⟩, hr⟩ := hl
      have hL : L ∈ X.fs := hs L (by unfold frs; rw [List.filterMap_cons, hf]; exact List.mem_cons_self)
      obtain ⟨sl, e⟩ := I.base.slot L o ho (I.ok.frf L hL) hL fun z => I.ok.exfs L z hL
      exact ⟨hk, ⟨L, _, hf, hn, e, hd⟩, ih (fun b hb => hs b (by unfold frs; rw [List.filterMap_cons, hf]; exact List.mem_cons_of_mem _ hb)) hr⟩
  exact all X.outer (fun _ hb => hb) I.ok.funs

/-- the frames that run, for a call -/
theorem Inv.stack (I : Inv X pins σ H s) : s.heap.FunFrames X.base X.stack := by
  rcases I.ok.stk with e | ⟨e, hf⟩
  · rw [e]; exact I.funs
  · rw [e]
    obtain ⟨m, hn, _⟩ := I.loc
    refine .cons (by rw [I.ok.kind]; decide) hf hn ?_ I.funs
    exact Heap.get?_none_of_le (Nat.le_trans I.ok.bsz I.ok.above)
theorem Inv.stkSub (I : Inv X pins σ H s) : ∀ b ∈ frs X.stack, b ∈ X.env.locals :: X.fs := fun b hb => by
  rcases I.ok.stk with e | ⟨e, hf⟩
  · rw [e] at hb; exact List.mem_cons_of_mem _ hb
  · rw [e] at hb
    unfold frs at hb
    rw [List.filterMap_cons, hf] at hb
    exact hb
theorem Inv.stkFree (I : Inv X pins σ H s) : ∀ b ∈ frs X.stack, H b = none := fun b hb => by
  rcases List.mem_cons.mp (I.stkSub b hb) with e | hb
  · rw [e]; exact I.free
  · obtain ⟨_, o, ho, _⟩ := I.ok.funs.mem hb
    exact I.base.free b o ho (I.ok.frf b hb) fun z => I.ok.exfs b z hb

/-- THE STEP: the untracked objects but the frame and the records at ch are kept (the callers' frames up to slots), the frame's map is kept, the new abstract heap is held -/
theorem Inv.step {g' : Array GenState} {t' : Nat} {d' : Drawn} {ch : List Addr} (I : Inv X pins σ H s)
    (hch : ∀ b ∈ ch, (b ∈ X.ex ∨ X.s₀.heap.objs.size ≤ b) ∧ b ≠ X.env.locals ∧ (∀ x c, X.env.cells.lookup x = some c → c ≠ b) ∧ ∀ p ∈ X.pn ++ pins, p.1 ≠ b)
    (keep : ∀ b o, b ≠ X.env.locals → b ∉ X.fs → b ∉ ch → s.heap.get? b = some o → H b = none → h'.get? b = some o)
    (slot : ∀ b o, b ≠ X.env.locals → b ∈ X.fs → b ∉ ch → s.heap.get? b = some o → H b = none → ∃ sl, h'.get? b = some { o with slots := sl }) (free : ∀ b o, b ∉ ch → s.heap.get? b = some o → H b = none → H' b = none)
    (there : ∀ b o, b ∉ ch → s.heap.get? b = some o → ∃ o', h'.get? b = some o')
    (tups : ∀ b xs, H b = some (.tup xs) → H' b = some (.tup xs)) (frzs : ∀ b o u, H b = some (.frz o u) → H' b = some (.frz o u)) (tbls : ∀ b ps, H b = some (.tbl ps) → ∃ more, H' b = some (.tbl (ps ++ more)))
    (ns : ∀ m, s.heap.Ns X.env.locals m → h'.Ns X.env.locals m) (hok : HOk X.prog X.w H' h') (hg : AllBare g') :
    Inv X pins σ H' { s with heap := h', gens := g', drawn := d', toks := t' } := by
  have neL : ∀ b o, X.s₀.heap.get? b = some o → b ≠ X.env.locals := fun b o e => Nat.ne_of_lt (Nat.lt_of_lt_of_le (Heap.lt_size e) I.ok.above)
  have neC : ∀ b o, X.s₀.heap.get? b = some o → b ∉ X.ex → b ∉ ch := fun b o e hx hb => by
    rcases (hch b hb).1 with z | z
    · exact hx z
    · exact absurd (Nat.lt_of_lt_of_le (Heap.lt_size e) z) (Nat.lt_irrefl _)
  have cellK : ∀ x c, X.env.cells.lookup x = some c → ∀ v, s.heap.IsCell c v → h'.IsCell c v := fun x c e v ⟨o, ho, hd⟩ => by
    have nch : c ∉ ch := fun z => (hch c z).2.2.1 x c e rfl
    by_cases hc : c ∈ X.fs
    · obtain ⟨sl, q⟩ := slot c o (I.cne x c e) hc nch ho (I.freeC x c e)
      exact ⟨_, q, hd⟩
    · exact ⟨o, keep c o (I.cne x c e) hc nch ho (I.freeC x c e), hd⟩
  refine ⟨I.ok, I.os, hg, ⟨fun b o e n hb hx => ?_, fun b o e n hb hx => ?_, fun b o e n hx => ?_, fun b o e hx => ?_, fun b xs e => tups b xs (I.base.tups b xs e), fun b o xs e => frzs b o xs (I.base.frzs b o xs e), fun b ps e => ?_⟩, ?_, fun x c e => ?_, ?_, fun x c e => ?_, fun p hp => ?_, hok, I.len⟩
  · exact keep b o (neL b o e) hb (neC b o e hx) (I.base.keep b o e n hb hx) (I.base.free b o e n hx)
  · obtain ⟨sl, e1⟩ := I.base.slot b o e n hb hx
    obtain ⟨sl', e2⟩ := slot b _ (neL b o e) hb (neC b o e hx) e1 (I.base.free b o e n hx)
    exact ⟨sl', e2⟩
  · obtain ⟨o', e1⟩ := I.base.there b o e hx
    exact free b o' (neC b o e hx) e1 (I.base.free b o e n hx)
  · obtain ⟨o', e1⟩ := I.base.there b o e hx
    exact there b o' (neC b o e hx) e1
  · obtain ⟨m1, e1⟩ := I.base.tbls b ps e
    obtain ⟨m2, e2⟩ := tbls b _ e1
    exact ⟨m1 ++ m2, by rw [e2, Array.append_assoc]⟩
  · obtain ⟨m, hn, hl⟩ := I.loc
    refine ⟨m, ns m hn, fun i x v e1 e2 e3 => ?_⟩
    obtain ⟨u, r, l⟩ := hl i x v e1 e2 e3
    refine ⟨u, r, ?_⟩
    rcases l with l | ⟨k, c, e, z⟩
    · exact .inl l
    · exact .inr ⟨k, c, e, cellK x c e _ z⟩
  · obtain ⟨v, z⟩ := I.cell x c e
    exact ⟨v, cellK x c e v z⟩
  · obtain ⟨m, ⟨o, _, _, ho, _⟩, _⟩ := I.loc
    exact free _ o (fun z => (hch _ z).2.1 rfl) ho I.free
  · obtain ⟨v, o, ho, hd⟩ := I.cell x c e
    exact free c o (fun z => (hch c z).2.2.1 x c e rfl) ho (I.freeC x c e)
  · obtain ⟨e, n, ne, nf, d⟩ := I.pin p hp
    have nch : p.1 ∉ ch := fun z => (hch p.1 z).2.2.2 p hp rfl
    exact ⟨keep p.1 p.2 ne nf nch e n, free p.1 p.2 nch e n, ne, nf, d⟩
/-- .. where the frame's own object is kept too -/
theorem Inv.un {t' : Nat} (I : Inv X pins σ H s) (u : Un X.fs [] H H' s.heap h') (hok : HOk X.prog X.w H' h') : Inv X pins σ H' { s with heap := h', toks := t' } := by
  obtain ⟨m, ⟨o, es, ep, ho, r⟩, _⟩ := id I.loc
  obtain ⟨sl, hL⟩ := u.any ho I.free (by simp)
  exact I.step (g' := s.gens) (d' := s.drawn) (ch := []) (fun _ z => nomatch z) (fun b o _ hb _ e n => u.keep b o e n hb (by simp)) (fun b o _ hb _ e n => u.slot b o e n hb (by simp)) (fun b o _ e n => u.free b o e n (by simp)) (fun b o _ e => u.there b o e (by simp)) u.tups u.frzs u.tbls (fun m' hm => by
    obtain ⟨o', es', ep', ho', r'⟩ := hm
    rw [ho] at ho'; cases ho'
    exact ⟨_, es', ep', hL, r'⟩) hok I.bare
/-- behind a call (or a comprehension's block): the slots of this frame may have changed too, the records at ch may have turned -/
theorem Inv.call {g' : Array GenState} {t' : Nat} {d' : Drawn} {ch : List Addr} (I : Inv X pins σ H s) (u : Un (frs X.stack) ch H H' s.heap h') (hok : HOk X.prog X.w H' h') (hg : AllBare g')
    (hch : ∀ b ∈ ch, (b ∈ X.ex ∨ X.s₀.heap.objs.size ≤ b) ∧ b ≠ X.env.locals ∧ (∀ x c, X.env.cells.lookup x = some c → c ≠ b) ∧ ∀ p ∈ X.pn ++ pins, p.1 ≠ b) :
    Inv X pins σ H' { s with heap := h', gens := g', drawn := d', toks := t' } := by
  obtain ⟨m, ⟨o, es, ep, ho, r⟩, _⟩ := id I.loc
  obtain ⟨sl, hL⟩ := u.any ho I.free fun z => (hch _ z).2.1 rfl
  exact I.step (ch := ch) hch (fun b o hL hb hc e n => u.keep b o e n (fun z => (List.mem_cons.mp (I.stkSub b z)).elim hL hb) hc) (fun b o _ _ hc e n => u.any e n hc) (fun b o hc e n => u.free b o e n hc) (fun b o hc e => u.there b o e hc) u.tups u.frzs u.tbls (fun m' hm => by
    obtain ⟨o', es', ep', ho', r'⟩ := hm
    rw [ho] at ho'; cases ho'
    exact ⟨_, es', ep', hL, r'⟩) hok hg
/-- an untracked record of ours (an iterator) has turned -/
theorem Inv.turned {t' : Nat} {it : Addr} (I : Inv X pins σ H s) (k : ∀ b o, b ≠ it → s.heap.get? b = some o → h'.get? b = some o) (hn : H it = none) (hL : it ≠ X.env.locals)
    (h1 : it ∈ X.ex ∨ X.s₀.heap.objs.size ≤ it) (h2 : ∀ x c, X.env.cells.lookup x = some c → c ≠ it) (h3 : ∀ p ∈ X.pn ++ pins, p.1 ≠ it) : Inv X pins σ H { s with heap := h', toks := t' } := by
  have nit : ∀ b u, H b = some u → b ≠ it := fun b u e z => by rw [z, hn] at e; cases e
  refine I.step (g' := s.gens) (d' := s.drawn) (ch := [it]) (fun b hb => ?_) (fun b o _ _ hc e _ => k b o (fun z => hc (by simp [z])) e) (fun b o _ _ hc e _ => ⟨o.slots, k b o (fun z => hc (by simp [z])) e⟩) (fun _ _ _ _ n => n)
    (fun b o hc e => ⟨o, k b o (fun z => hc (by simp [z])) e⟩) (fun _ _ e => e) (fun _ _ _ e => e) (fun b ps e => ⟨#[], by rw [e]; simp⟩) (fun m hm => ?_) (fun b u e => ?_) I.bare
  · have e : b = it := by simpa using hb
    subst e
    exact ⟨h1, hL, h2, h3⟩
  · obtain ⟨o, es, ep, ho, r⟩ := hm
    exact ⟨o, es, ep, k _ o (Ne.symm hL) ho, r⟩
  · refine (I.hok b u e).stay (fun c v hc q => k c v ?_ q) (fun _ q => q) fun _ _ q => q
    rcases hc with z | z
    · rw [z]; exact nit b u e
    · exact nit c _ z
theorem Inv.tok (I : Inv X pins σ H s) (t : Nat) : Inv X pins σ H { s with toks := t } := I.un (h' := s.heap) (t' := t) Un.refl I.hok
/-- all objects kept -/
theorem Inv.kept {t' : Nat} (I : Inv X pins σ H s) (k : ∀ b u, s.heap.get? b = some u → h'.get? b = some u) : Inv X pins σ H { s with heap := h', toks := t' } := I.un (Un.kept k) (I.hok.kept k)
/-- a new object laid and tracked -/
theorem Inv.laid {a : Addr} {o : HO} {t' : Nat} (I : Inv X pins σ H s) (k : ∀ b u, s.heap.get? b = some u → h'.get? b = some u) (hp : s.heap.objs.size ≤ a) (new : ObjOk X.prog X.w (upd H a o) h' a o) :
    Inv X pins σ (upd H a o) { s with heap := h', toks := t' } := I.un (Un.laid k hp (I.hok.fresh hp)) (I.hok.laid k hp new)
/-- an object written -/
theorem Inv.write {x e : Addr} {o : HO} {t' : Nat} (I : Inv X pins σ H s) (mu : Mut (H x)) (he : e = x ∨ H e = some (.own x)) (k : ∀ b u, b ≠ e → s.heap.get? b = some u → h'.get? b = some u) (heo : ∃ u, h'.get? e = some u)
    (new : ObjOk X.prog X.w (upd H x o) h' x o) : Inv X pins σ (upd H x o) { s with heap := h', toks := t' } := I.un (Un.write mu he k heo) (I.hok.write mu he k heo new)
theorem Inv.pins_of {pins' : List (Addr × Obj)} (I : Inv X pins σ H s) (h : ∀ p ∈ pins', s.heap.get? p.1 = some p.2 ∧ H p.1 = none ∧ p.1 ≠ X.env.locals ∧ p.1 ∉ X.fs ∧ ∀ v, p.2.data ≠ .cell v) : Inv X pins' σ H s :=
  ⟨I.ok, I.os, I.bare, I.base, I.loc, I.cell, I.free, I.freeC, fun p hp => (List.mem_append.mp hp).elim (fun z => I.pin p (List.mem_append_left _ z)) (h p), I.hok, I.len⟩

theorem nodup_ix {N : List Str} (hN : N.Nodup) {i j : Nat} {x : Str} (a : N[i]? = some x) (b : N[j]? = some x) : i = j := by
  obtain ⟨h1, e1⟩ := List.getElem?_eq_some_iff.mp a
  obtain ⟨h2, e2⟩ := List.getElem?_eq_some_iff.mp b
  exact (List.getElem_inj hN).mp (e1.trans e2.symm)

/-- a name is stored; what changed -/
theorem store_ok2 {M : Model} {A : Around} {E : Value → Shared → Prop} {i : Nat} {x : Str} {v : V} {u : Value} {Q : Unit → Shared → Prop} (I : Inv X pins σ H s) (hN : X.N.Nodup) (hi : X.N[i]? = some x) (hx : Loc X.env.scope x) (r : RelV v u)
    (h : ∀ s', Inv X pins (σ.set i (some v)) H s' → (∃ a, Heap.SameBut a s.heap s'.heap ∧ (a = X.env.locals ∨ X.env.cells.lookup x = some a)) → Q () s') (hf : X.fn x = true ∨ X.env.scope.names.lookup x = some .local := by first | exact .inl rfl | exact .inr rfl | assumption) : wpAny M A (storeName X.env x u) Q E s := by
  obtain ⟨m, hn, hl⟩ := id I.loc
  have hcls : (X.env.scope.kind == .class || (X.env.scope.kind == .module && X.env.locals != X.env.globals)) = false := by rw [I.ok.kind]; rfl
  have hiσ : i < σ.length := by rw [I.len]; exact (List.getElem?_eq_some_iff.mp hi).1
  have cne := I.cne
  have tracked : ∀ {a : Addr} {h' : Heap}, (∃ o, s.heap.get? a = some o ∧ H a = none) → Heap.SameBut a s.heap h' → HOk X.prog X.w H h' := fun {a h'} ha hs b ob e => by
    obtain ⟨_, _, hfree⟩ := ha
    refine (I.hok b ob e).stay (fun c w' hc q => (hs.2 c ?_).trans q) (fun _ q => q) fun _ _ q => q
    rintro rfl
    rcases hc with rfl | hc
    · rw [hfree] at e; cases e
    · rw [hfree] at hc; cases hc
  rcases hx with hk | hk
  · refine wpAny_storeName_local hk hn (fun h' hn' hs => ?_) hcls
    obtain ⟨oL, _, _, hoL, _⟩ := id hn
    refine h _ ⟨I.ok, I.os, I.bare, ⟨fun b o e n hb hx => ?_, fun b o e n hb hx => ?_, I.base.free, fun b o e hx => ?_, I.base.tups, I.base.frzs, I.base.tbls⟩, ⟨_, hn', fun j y v' e1 e2 e3 => ?_⟩, fun y c e => ?_, I.free, I.freeC, fun p hp => ?_, tracked ⟨oL, hoL, I.free⟩ hs, by simpa using I.len⟩ ⟨_, hs, .inl rfl⟩
    · exact (hs.2 b (Nat.ne_of_lt (Nat.lt_of_lt_of_le (Heap.lt_size e) I.ok.above))).trans (I.base.keep b o e n hb hx)
    · obtain ⟨sl, e1⟩ := I.base.slot b o e n hb hx
      exact ⟨sl, (hs.2 b (Nat.ne_of_lt (Nat.lt_of_lt_of_le (Heap.lt_size e) I.ok.above))).trans e1⟩
    · obtain ⟨o', e1⟩ := I.base.there b o e hx
      exact ⟨o', (hs.2 b (Nat.ne_of_lt (Nat.lt_of_lt_of_le (Heap.lt_size e) I.ok.above))).trans e1⟩
    · by_cases hj : j = i
      · subst hj
        rw [hi] at e1; cases e1
        rw [List.getElem?_set_self hiσ] at e2
        cases e2
        exact ⟨u, r, .inl ⟨hk, by simp⟩⟩
      · rw [List.getElem?_set_ne (Ne.symm hj)] at e2
        obtain ⟨u', r', q⟩ := hl j y v' e1 e2 e3
        refine ⟨u', r', ?_⟩
        rcases q with ⟨k, e⟩ | ⟨k, c, e, z⟩
        · refine .inl ⟨k, ?_⟩
          have : y ≠ x := fun e => hj (nodup_ix hN e1 (e ▸ hi))
          simp [this, e]
        · exact .inr ⟨k, c, e, z.sameBut hs (cne y c e)⟩
    · obtain ⟨w', z⟩ := I.cell y c e
      exact ⟨w', z.sameBut hs (cne y c e)⟩
    · obtain ⟨e, n, ne, nf, d⟩ := I.pin p hp
      exact ⟨(hs.2 p.1 ne).trans e, n, ne, nf, d⟩
  · have hfn : X.fn x = true := by
      rcases hf with z | z
      · exact z
      · rw [z] at hk; cases hk
    obtain ⟨c, hc⟩ := I.ok.has x (.inl hk)
    obtain ⟨w', z⟩ := I.cell x c hc
    refine wpAny_storeName_cell I.ok.kind hk hc z (fun h' hc' hs => ?_)
    obtain ⟨oc, hoc, hocd⟩ := id z
    refine h { s with heap := h' } ⟨I.ok, I.os, I.bare, ⟨fun b o e n hb hx => ?_, fun b o e n hb hx => ?_, I.base.free, fun b o e hx => ?_, I.base.tups, I.base.frzs, I.base.tbls⟩, ⟨m, hn.sameBut hs (Ne.symm (cne x c hc)), fun j y v' e1 e2 e3 => ?_⟩, fun y c' e => ?_, I.free, I.freeC, fun p hp => ?_, tracked ⟨oc, hoc, I.freeC x c hc⟩ hs, by simpa using I.len⟩ ⟨c, hs, .inr hc⟩
    · exact (hs.2 b (Nat.ne_of_lt (Nat.lt_of_lt_of_le (Heap.lt_size e) (I.ok.cab x c hfn hc)))).trans (I.base.keep b o e n hb hx)
    · obtain ⟨sl, e1⟩ := I.base.slot b o e n hb hx
      exact ⟨sl, (hs.2 b (Nat.ne_of_lt (Nat.lt_of_lt_of_le (Heap.lt_size e) (I.ok.cab x c hfn hc)))).trans e1⟩
    · obtain ⟨o', e1⟩ := I.base.there b o e hx
      exact ⟨o', (hs.2 b (Nat.ne_of_lt (Nat.lt_of_lt_of_le (Heap.lt_size e) (I.ok.cab x c hfn hc)))).trans e1⟩
    · by_cases hj : j = i
      · subst hj
        rw [hi] at e1; cases e1
        rw [List.getElem?_set_self hiσ] at e2
        cases e2
        exact ⟨u, r, .inr ⟨.inl hk, c, hc, hc'⟩⟩
      · rw [List.getElem?_set_ne (Ne.symm hj)] at e2
        obtain ⟨u', r', q⟩ := hl j y v' e1 e2 e3
        refine ⟨u', r', ?_⟩
        rcases q with q | ⟨k, c', e, z'⟩
        · exact .inl q
        · refine .inr ⟨k, c', e, z'.sameBut hs ?_⟩
          rintro rfl
          exact hj (nodup_ix hN e1 (I.ok.inj _ _ _ e hc ▸ hi))
    · by_cases hcc : c' = c
      · subst hcc; exact ⟨_, hc'⟩
      · obtain ⟨w2, z2⟩ := I.cell y c' e
        exact ⟨w2, z2.sameBut hs hcc⟩
    · obtain ⟨e, n, ne, nf, d⟩ := I.pin p hp
      refine ⟨(hs.2 p.1 ?_).trans e, n, ne, nf, d⟩
      intro q
      rw [q, hoc] at e
      have q' : oc = p.2 := Option.some.inj e
      exact d w' (by rw [← q']; exact hocd)
theorem store_ok {M : Model} {A : Around} {E : Value → Shared → Prop} {i : Nat} {x : Str} {v : V} {u : Value} {Q : Unit → Shared → Prop} (I : Inv X pins σ H s) (hN : X.N.Nodup) (hi : X.N[i]? = some x) (hx : Loc X.env.scope x) (r : RelV v u)
    (h : ∀ s', Inv X pins (σ.set i (some v)) H s' → Q () s') (hf : X.fn x = true ∨ X.env.scope.names.lookup x = some .local := by first | exact .inl rfl | exact .inr rfl | assumption) : wpAny M A (storeName X.env x u) Q E s :=
  store_ok2 I hN hi hx r (fun s' I' _ => h s' I') hf
/-- behind a call or a block, the state as it is -/
theorem Inv.call' {s' : Shared} {ch : List Addr} (I : Inv X pins σ H s) (ho : s'.os = s.os) (u : Un (frs X.stack) ch H H' s.heap s'.heap) (hok : HOk X.prog X.w H' s'.heap) (hg : AllBare s'.gens)
    (hch : ∀ b ∈ ch, (b ∈ X.ex ∨ X.s₀.heap.objs.size ≤ b) ∧ b ≠ X.env.locals ∧ (∀ x c, X.env.cells.lookup x = some c → c ≠ b) ∧ ∀ p ∈ X.pn ++ pins, p.1 ≠ b) : Inv X pins σ H' s' := by
  obtain ⟨h', g', d', t', o'⟩ := s'
  have e : o' = s.os := ho
  subst e
  exact I.call (g' := g') (t' := t') (d' := d') u hok hg hch
end

/-! ### the judgements -/
/-- an exception: its class, its own dict's address (where it has one), the abstract heap behind it -/
noncomputable abbrev XK := Value → Option Addr → Hp → Prop
noncomputable abbrev St := List (Option V)
noncomputable abbrev VK := V → Hp → Prop
/-- an expression's reading; a test's; an argument list's -/
noncomputable abbrev TE := St → Hp → VK → Prop
noncomputable abbrev TT := St → Hp → (Bool → Hp → Prop) → Prop
noncomputable abbrev TA := St → Hp → (List V → Hp → Prop) → Prop
/-- what is wanted behind a statement -/
structure Ends where
  nx : St → Hp → Prop
  rt : VK
  bk : St → Hp → Prop := fun _ _ => False
  ct : St → Hp → Prop := fun _ _ => False
noncomputable abbrev TS := Ends → St → Hp → Prop

noncomputable def EP (X : Cx) (pins : List (Addr × Obj)) (σ : St) (Q : VK) (u : Value) (s' : Shared) : Prop := ∃ v H', Inv X pins σ H' s' ∧ RelV v u ∧ Q v H'
noncomputable def TP (X : Cx) (pins : List (Addr × Obj)) (σ : St) (Q : Bool → Hp → Prop) (b : Bool) (s' : Shared) : Prop := ∃ H', Inv X pins σ H' s' ∧ Q b H'
noncomputable def AP (X : Cx) (pins : List (Addr × Obj)) (σ : St) (Q : List V → Hp → Prop) (us : List Value) (s' : Shared) : Prop := ∃ vs H', Inv X pins σ H' s' ∧ Vals vs us ∧ Q vs H'
noncomputable def SP (X : Cx) (pins : List (Addr × Obj)) (D : Ends) (f : Flow) (s' : Shared) : Prop :=
  match f with
  | .next => ∃ σ' H', Inv X pins σ' H' s' ∧ D.nx σ' H'
  | .brk => ∃ σ' H', Inv X pins σ' H' s' ∧ D.bk σ' H'
  | .cont => ∃ σ' H', Inv X pins σ' H' s' ∧ D.ct σ' H'
  | .ret u => ∃ v σ' H', Inv X pins σ' H' s' ∧ RelV v u ∧ D.rt v H'

noncomputable def PE (X : Cx) (e : Expr) (t : TE) : Prop :=
  ∀ (pins : List (Addr × Obj)) (s : Shared) (σ : St) (H : Hp) (Q : VK), Inv X pins σ H s → t σ H Q → wpAny (model X.prog X.w) X.A (eval e X.env) (EP X pins σ Q) X.xe s
noncomputable def PT (X : Cx) (e : Expr) (t : TT) : Prop :=
  ∀ (pins : List (Addr × Obj)) (s : Shared) (σ : St) (H : Hp) (Q : Bool → Hp → Prop), Inv X pins σ H s → t σ H Q → wpAny (model X.prog X.w) X.A (isTrue e X.env (eval e X.env)) (TP X pins σ Q) X.xe s
/-- a test whatever its 'whole' is (and, or) -/
noncomputable def PW (X : Cx) (e : Expr) (t : TT) : Prop :=
  ∀ (whole : Sem Value) (pins : List (Addr × Obj)) (s : Shared) (σ : St) (H : Hp) (Q : Bool → Hp → Prop), Inv X pins σ H s → t σ H Q → wpAny (model X.prog X.w) X.A (isTrue e X.env whole) (TP X pins σ Q) X.xe s
theorem PW.pt {X : Cx} {e : Expr} {t : TT} (h : PW X e t) : PT X e t := h _
/-- an argument list (no star), from the left -/
noncomputable def PA (X : Cx) (es : List Expr) (t : TA) : Prop :=
  ∀ (pos : Pos) (pins : List (Addr × Obj)) (s : Shared) (σ : St) (H : Hp) (Q : List V → Hp → Prop), Inv X pins σ H s → t σ H Q → wpAny (model X.prog X.w) X.A (spliced (backTo pos (starEach es X.env))) (AP X pins σ Q) X.xe s
noncomputable def PS (X : Cx) (st : Stmt) (t : TS) : Prop :=
  ∀ (pins : List (Addr × Obj)) (s : Shared) (σ : St) (H : Hp) (D : Ends), Inv X pins σ H s → t D σ H → wpAny (model X.prog X.w) X.A (exec st X.env) (SP X pins D) X.xe s
noncomputable def PSs (X : Cx) (st : List Stmt) (t : TS) : Prop :=
  ∀ (pins : List (Addr × Obj)) (s : Shared) (σ : St) (H : Hp) (D : Ends), Inv X pins σ H s → t D σ H → wpAny (model X.prog X.w) X.A (execs st X.env) (SP X pins D) X.xe s
/-- weaken the end -/
theorem thn {α : Type} {t : Sem α} {Q Q' : α → Shared → Prop} {M : Model} {A : Around} {E : Value → Shared → Prop} {s : Shared} (h : wpAny M A t Q E s) (hQ : ∀ a s, Q a s → Q' a s) : wpAny M A t Q' E s := wpAny_mono h hQ fun _ _ x => x
end L2

namespace L2
open PySem PySem.Spec PyProof.Rows
section
variable {X : Cx}

/-! ### names and constants -/
noncomputable def tVar (i : Nat) : TE := fun σ H Q => ∃ v, σ[i]? = some (some v) ∧ Q v H
noncomputable def tC (v : V) : TE := fun _ H Q => Q v H
theorem pe_var {i : Nat} {x : Str} {pos : Pos} (hN : X.N[i]? = some x) (hv : Vis X.env.scope x) (hd : (x == ("__debug__" : Str)) = false := by decide) (hcd : (x == ("__classdict__" : Str)) = false := by decide) : PE X (.Name x pos) (tVar i) := by
  intro pins s σ H Q I h
  obtain ⟨v, e, h⟩ := h
  obtain ⟨m, hn, hl⟩ := I.loc
  obtain ⟨u, r, l⟩ := hl i x v hN e hv
  have fin : EP X pins σ Q u s := ⟨v, H, I, r, h⟩
  rcases l with ⟨hk, hm⟩ | ⟨hk, c, hc, hcell⟩
  · exact wpAny_Name (wpAny_loadName_local I.ok.kind hk hn hm fin) hd
  · rcases hk with hk | hk
    · exact wpAny_Name (wpAny_loadName_cell I.ok.kind hk hc hcell fin) hd
    · exact wpAny_Name (wpAny_loadName_free I.ok.kind hk hc hcell fin hcd) hd
theorem pe_int {i j pos} : PE X (.Constant (.int i) j pos) (tC (.int i)) := fun _ _ _ H _ I h => wpAny_Constant_int ⟨.int i, H, I.tok _, ⟨_, rfl⟩, h⟩
theorem pe_bl {b j pos} : PE X (.Constant (.bool b) j pos) (tC (.bl b)) := fun _ _ _ H _ I h => Constant_bool ⟨.bl b, H, I, rfl, h⟩
theorem pe_non {j pos} : PE X (.Constant .none j pos) (tC .non) := fun _ _ _ H _ I h => Constant_none ⟨.non, H, I, rfl, h⟩
theorem pe_str {x j pos} : PE X (.Constant (.str x) j pos) (tC (.str x)) := fun _ _ _ H _ I h => Calls.Constant_str ⟨.str x, H, I.tok _, ⟨_, rfl⟩, h⟩

/-- a global name of the def -/
noncomputable def Gl (X : Cx) (x : Str) : Prop := X.env.kindOf x = some .globalImplicit
theorem ld_glob {E : Value → Shared → Prop} {pins : List (Addr × Obj)} {s : Shared} {σ : St} {H : Hp} {x : Str} {u : Value} {pos : Pos} {Q : Value → Shared → Prop} (I : Inv X pins σ H s) (hg : Gl X x) (hm : X.mg x = some u) (h : Q u s)
    (hd : (x == ("__debug__" : Str)) = false := by decide) : wpAny (model X.prog X.w) X.A (eval (.Name x pos) X.env) Q E s :=
  Calls.Name_function_global I.ok.kind hg (Calls.loadGlobal_global (by rw [I.ok.glob]; exact I.mod.glob.keeps I.bk) hm h) hd
theorem ld_blt {E : Value → Shared → Prop} {pins : List (Addr × Obj)} {s : Shared} {σ : St} {H : Hp} {x : Str} {u : Value} {pos : Pos} {Q : Value → Shared → Prop} (I : Inv X pins σ H s) (hg : Gl X x) (hm : X.mg x = none) (hv : bootBuiltins x = some u) (h : Q u s)
    (hn : x ≠ "__name__" := by decide) (hd : (x == ("__debug__" : Str)) = false := by decide) : wpAny (model X.prog X.w) X.A (eval (.Name x pos) X.env) Q E s := by
  obtain ⟨mb, h1, h2⟩ := I.mod.blt
  exact Calls.Name_function_global I.ok.kind hg (Calls.loadGlobal_builtin (by rw [I.ok.glob]; exact I.mod.glob.keeps I.bk) hm (by rw [I.ok.blt]; exact h1.keeps I.bk) ((h2 x hn).trans hv) h) hd
/-- a module's constant, a class, a function, as a value -/
theorem pe_glob {x : Str} {v : V} {u : Value} {pos : Pos} (hg : Gl X x) (hm : X.mg x = some u) (r : RelV v u) (hd : (x == ("__debug__" : Str)) = false := by decide) : PE X (.Name x pos) (tC v) :=
  fun _ _ _ H _ I h => ld_glob I hg hm ⟨v, H, I, r, h⟩ hd
theorem pe_bltn {x : Str} {v : V} {u : Value} {pos : Pos} (hg : Gl X x) (hm : X.mg x = none) (hv : bootBuiltins x = some u) (r : RelV v u) (hn : x ≠ "__name__" := by decide) (hd : (x == ("__debug__" : Str)) = false := by decide) : PE X (.Name x pos) (tC v) :=
  fun _ _ _ H _ I h => ld_blt I hg hm hv ⟨v, H, I, r, h⟩ hn hd

/-! ### arithmetic -/
variable {a b : Expr} {ta tb : TE} {pos : Pos}
/-! ### comparisons -/
/-- a comparison as a value, as a test -/
noncomputable def tB (t : TE) : TT := fun σ H Q => t σ H fun x H1 => ∃ c, x = .bl c ∧ Q c H1
/-- an expression whose value is a bool, as a test -/
theorem pt_val {e : Expr} {t : TE} (h : PE X e t) (he : ∀ whole, isTrue e X.env whole = (do let v ← whole; standAt e.pos; holding [v] (truthy v)) := by intro _; rfl) : PT X e (tB t) := by
  intro pins s σ H Q I hw
  refine isTrue_plain (thn (h pins s σ H _ I hw) fun v s1 ⟨x, H1, I1, r1, q1⟩ => ?_) (he _)
  obtain ⟨d, rfl, q⟩ := q1
  cases r1
  exact wpAny_truthy_bool ⟨H1, I1, q⟩

/-! ### and, or, not -/
variable {tA tB' : TT} {rest : List Expr}
noncomputable def tAnd (t u : TT) : TT := fun σ H Q => t σ H fun c H1 => if c = true then u σ H1 Q else Q false H1
noncomputable def tOr (t u : TT) : TT := fun σ H Q => t σ H fun c H1 => if c = true then Q true H1 else u σ H1 Q
noncomputable def tNot (t : TT) : TT := fun σ H Q => t σ H fun c H1 => Q (!c) H1
theorem pw_and1 (ha : PT X a tA) : PW X (.BoolOp .And [a] pos) tA := by
  intro wh pins s σ H Q I h
  refine isTrue_and (thn (ha pins s σ H Q I h) fun c s1 e => ?_)
  cases c with
  | true => exact isTrue_and_nil e
  | false => exact e
theorem pw_or1 (ha : PT X a tA) : PW X (.BoolOp .Or [a] pos) tA := by
  intro wh pins s σ H Q I h
  refine isTrue_or (thn (ha pins s σ H Q I h) fun c s1 e => ?_)
  cases c with
  | false => exact isTrue_or_nil e
  | true => exact e
theorem pw_and (ha : PT X a tA) (hb : PW X (.BoolOp .And (b :: rest) pos) tB') : PW X (.BoolOp .And (a :: b :: rest) pos) (tAnd tA tB') := by
  intro wh pins s σ H Q I h
  refine isTrue_and (thn (ha pins s σ H _ I h) fun c s1 ⟨H1, I1, q1⟩ => ?_)
  cases c with
  | true => exact hb wh pins s1 σ H1 Q I1 q1
  | false => exact ⟨H1, I1, q1⟩
theorem pw_or (ha : PT X a tA) (hb : PW X (.BoolOp .Or (b :: rest) pos) tB') : PW X (.BoolOp .Or (a :: b :: rest) pos) (tOr tA tB') := by
  intro wh pins s σ H Q I h
  refine isTrue_or (thn (ha pins s σ H _ I h) fun c s1 ⟨H1, I1, q1⟩ => ?_)
  cases c with
  | true => exact ⟨H1, I1, q1⟩
  | false => exact hb wh pins s1 σ H1 Q I1 q1
theorem pt_not (ha : PT X a tA) : PT X (.UnaryOp .Not a pos) (tNot tA) := by
  intro pins s σ H Q I h
  exact isTrue_not (ha pins s σ H (fun c H1 => Q (!c) H1) I h)
/-- .. as values (bools) -/
noncomputable def tAndV (ta tb : TE) : TE := fun σ H Q => ta σ H fun x H1 => ∃ c, x = .bl c ∧ if c = true then tb σ H1 Q else Q (.bl false) H1
noncomputable def tOrV (ta tb : TE) : TE := fun σ H Q => ta σ H fun x H1 => ∃ c, x = .bl c ∧ if c = true then Q (.bl true) H1 else tb σ H1 Q
noncomputable def tNotV (ta : TE) : TE := fun σ H Q => ta σ H fun x H1 => ∃ c, x = .bl c ∧ Q (.bl (!c)) H1
theorem pe_one {op} {t : TE} (h : PE X a t) : PE X (.BoolOp op [a] pos) t := fun pins s σ H Q I hw => BoolOp_one (h pins s σ H Q I hw)
theorem pe_and (ha : PE X a ta) (hb : PE X (.BoolOp .And (b :: rest) pos) tb) : PE X (.BoolOp .And (a :: b :: rest) pos) (tAndV ta tb) := by
  intro pins s σ H Q I h
  refine BoolOp_and (thn (ha pins s σ H _ I h) fun v s1 ⟨x, H1, I1, r1, q1⟩ => ?_)
  obtain ⟨c, rfl, q1⟩ := q1
  cases r1
  refine wpAny_truthy_bool ?_
  cases c with
  | true => exact hb pins s1 σ H1 Q I1 q1
  | false => exact ⟨.bl false, H1, I1, rfl, q1⟩
theorem pe_or (ha : PE X a ta) (hb : PE X (.BoolOp .Or (b :: rest) pos) tb) : PE X (.BoolOp .Or (a :: b :: rest) pos) (tOrV ta tb) := by
  intro pins s σ H Q I h
  refine BoolOp_or (thn (ha pins s σ H _ I h) fun v s1 ⟨x, H1, I1, r1, q1⟩ => ?_)
  obtain ⟨c, rfl, q1⟩ := q1
  cases r1
  refine wpAny_truthy_bool ?_
  cases c with
  | false => exact hb pins s1 σ H1 Q I1 q1
  | true => exact ⟨.bl true, H1, I1, rfl, q1⟩
theorem pe_not (ha : PE X a ta) : PE X (.UnaryOp .Not a pos) (tNotV ta) := by
  intro pins s σ H Q I h
  refine UnaryOp_ (thn (ha pins s σ H _ I h) fun v s1 ⟨x, H1, I1, r1, q1⟩ => ?_)
  obtain ⟨c, rfl, q1⟩ := q1
  cases r1
  exact not_of (wpAny_truthy_bool ⟨.bl (!c), H1, I1, rfl, q1⟩)
/-- a if t else b -/
noncomputable def tIf (t : TT) (ta tb : TE) : TE := fun σ H Q => t σ H fun c H1 => if c = true then ta σ H1 Q else tb σ H1 Q
end
end L2

namespace L2
open PySem PySem.Spec PyProof.Rows

/-! ### a list, a tuple that is read: tracked, frozen, or an object of the module -/
noncomputable def SqL (K : PySem.W.Frag) (H : Hp) (a : Addr) (xs : List V) : Prop :=
  Rd H a (.lst xs) ∨
    ∃ (o : Obj) (its : Array Value) (n : Nat), K.lookup a = some o ∧ o.cls = .type "list" ∧ o.dict = none ∧ o.data = .seq its n ∧ its.size ≤ sizeLine ∧ Vals xs its.toList
noncomputable def SqT (K : PySem.W.Frag) (H : Hp) (a : Addr) (xs : List V) : Prop :=
  Rd H a (.tup xs) ∨
    ∃ (o : Obj) (its : Array Value) (n : Nat), K.lookup a = some o ∧ o.cls = .type "tuple" ∧ o.data = .seq its n ∧ its.size ≤ sizeLine ∧ Vals xs its.toList
noncomputable def absV : Value → Option V
  | .none => some .non
  | .bool b => some (.bl b)
  | .int i _ => some (.int i)
  | .str x _ => some (.str x)
  | .bytes b _ => some (.byt b)
  | .float b _ => some (.flt b)
  | .ref a => some (.ref a)
  | .type n => some (.ty n)
  | _ => none
theorem RelV.abs {x : V} {u : Value} (r : RelV x u) : absV u = some x := by
  cases x with
  | non => cases r; rfl
  | bl _ => cases r; rfl
  | int _ => obtain ⟨t, rfl⟩ := r; rfl
  | str _ => obtain ⟨t, rfl⟩ := r; rfl
  | byt _ => obtain ⟨t, rfl⟩ := r; rfl
  | flt _ => obtain ⟨t, rfl⟩ := r; rfl
  | ref _ => cases r; rfl
  | ty _ => cases r; rfl
theorem RelV.inj {x y : V} {u : Value} (r : RelV x u) (q : RelV y u) : x = y := Option.some.inj (r.abs.symm.trans q.abs)
theorem Vals.inj : ∀ {xs ys : List V} {us : List Value}, Vals xs us → Vals ys us → xs = ys
  | _, _, _, .nil, .nil => rfl
  | _, _, _, .cons r t, .cons r' t' => by rw [r.inj r', Vals.inj t t']
section
variable {X : Cx} {pins : List (Addr × Obj)} {σ : St} {H : Hp} {s : Shared} {a : Addr} {xs ys : List V}
theorem SqL.of {K : PySem.W.Frag} (h : H a = some (.lst xs)) : SqL K H a xs := .inl (.inl h)
theorem SqT.of {K : PySem.W.Frag} (h : H a = some (.tup xs)) : SqT K H a xs := .inl (.inl h)
theorem Inv.list (I : Inv X pins σ H s) (h : SqL X.K H a xs) : ∃ its : List Value, Vals xs its ∧ PlainL s.heap a its.toArray ∧ xs.length ≤ sizeLine := by
  rcases h with h | ⟨o, its, n, hk, hc, hd, hs, hz, r⟩
  · obtain ⟨z, its, n, r, e⟩ := h.ok I.hok
    exact ⟨its, r, ⟨_, n, e, rfl, rfl, rfl⟩, z⟩
  · refine ⟨its.toList, r, ⟨o, n, I.kIn a o hk, hc, hd, by simpa using hs⟩, ?_⟩
    have e := r.length
    simp only [Array.length_toList] at e
    omega
theorem Inv.tuple (I : Inv X pins σ H s) (h : SqT X.K H a xs) : ∃ its : List Value, Vals xs its ∧ IsTup s.heap a its.toArray ∧ xs.length ≤ sizeLine := by
  rcases h with h | ⟨o, its, n, hk, hc, hs, hz, r⟩
  · obtain ⟨z, its, r, p⟩ := h.ok I.hok
    exact ⟨its, r, p, z⟩
  · refine ⟨its.toList, r, ⟨o, I.kIn a o hk, hc, n, by simpa using hs⟩, ?_⟩
    have e := r.length
    simp only [Array.length_toList] at e
    omega
theorem Inv.list_inj (I : Inv X pins σ H s) (h : SqL X.K H a xs) (h' : SqL X.K H a ys) : xs = ys := by
  obtain ⟨its, r, ⟨o, n, e, _, _, d⟩, _⟩ := I.list h
  obtain ⟨its', r', ⟨o', n', e', _, _, d'⟩, _⟩ := I.list h'
  rw [e] at e'; cases e'
  rw [d] at d'
  injection d' with d1 _
  have : its = its' := by simpa using congrArg Array.toList d1
  subst this
  exact r.inj r'
theorem Inv.tuple_inj (I : Inv X pins σ H s) (h : SqT X.K H a xs) (h' : SqT X.K H a ys) : xs = ys := by
  obtain ⟨its, r, ⟨o, e, _, n, d⟩, _⟩ := I.tuple h
  obtain ⟨its', r', ⟨o', e', _, n', d'⟩, _⟩ := I.tuple h'
  rw [e] at e'; cases e'
  rw [d] at d'
  injection d' with d1 _
  have : its = its' := by simpa using congrArg Array.toList d1
  subst this
  exact r.inj r'
end

/-! ### another wish about exceptions -/
noncomputable abbrev Cx.wish (X : Cx) (E : Value → Shared → Prop) : Cx := { X with xe := E }
/-- no exception leaves -/
noncomputable abbrev Cx.nox (X : Cx) : Cx := X.wish fun _ _ => False
theorem Cx.Ok.wish {X : Cx} (ok : X.Ok) (E : Value → Shared → Prop) : (X.wish E).Ok :=
  ⟨ok.mod, ok.kind, ok.glob, ok.blt, ok.above, ok.inj, ok.has, ok.cab, ok.hd, ok.frames, ok.stk, ok.exf, ok.bs, ok.bsz, ok.noex, ok.exfs, ok.funs, ok.frf⟩
theorem Cx.Ok.unwish {X : Cx} {E : Value → Shared → Prop} (ok : (X.wish E).Ok) : X.Ok :=
  ⟨ok.mod, ok.kind, ok.glob, ok.blt, ok.above, ok.inj, ok.has, ok.cab, ok.hd, ok.frames, ok.stk, ok.exf, ok.bs, ok.bsz, ok.noex, ok.exfs, ok.funs, ok.frf⟩
section
variable {X : Cx} {pins : List (Addr × Obj)} {σ : St} {H : Hp} {s : Shared} {E : Value → Shared → Prop}
theorem Inv.wish (I : Inv X pins σ H s) (E : Value → Shared → Prop) : Inv (X.wish E) pins σ H s := ⟨I.ok.wish E, I.os, I.bare, I.base, I.loc, I.cell, I.free, I.freeC, I.pin, I.hok, I.len⟩
theorem Inv.unwish (I : Inv (X.wish E) pins σ H s) : Inv X pins σ H s := ⟨I.ok.unwish, I.os, I.bare, I.base, I.loc, I.cell, I.free, I.freeC, I.pin, I.hok, I.len⟩
theorem SP.unwish {D : Ends} {f : Flow} {s' : Shared} (h : SP (X.wish E) pins D f s') : SP X pins D f s' := by
  cases f with
  | next => obtain ⟨σ', H', I, q⟩ := h; exact ⟨σ', H', I.unwish, q⟩
  | brk => obtain ⟨σ', H', I, q⟩ := h; exact ⟨σ', H', I.unwish, q⟩
  | cont => obtain ⟨σ', H', I, q⟩ := h; exact ⟨σ', H', I.unwish, q⟩
  | ret u => obtain ⟨v, σ', H', I, r, q⟩ := h; exact ⟨v, σ', H', I.unwish, r, q⟩
theorem PE.nox {e : Expr} {t : TE} (h : PE X.nox e t) : PE X e t := fun pins s σ H Q I hw =>
  wpAny_mono (h pins s σ H Q (I.wish _) hw) (fun _ _ ⟨v, H', I', r, q⟩ => ⟨v, H', I'.unwish, r, q⟩) fun _ _ z => False.elim z
theorem PT.nox {e : Expr} {t : TT} (h : PT X.nox e t) : PT X e t := fun pins s σ H Q I hw =>
  wpAny_mono (h pins s σ H Q (I.wish _) hw) (fun _ _ ⟨H', I', q⟩ => ⟨H', I'.unwish, q⟩) fun _ _ z => False.elim z
theorem PSs.nox {st : List Stmt} {t : TS} (h : PSs X.nox st t) : PSs X st t := fun pins s σ H D I hw =>
  wpAny_mono (h pins s σ H D (I.wish _) hw) (fun _ _ q => q.unwish) fun _ _ z => False.elim z
end

/-! ### blocks and small statements -/
section
variable {X : Cx} {st : Stmt} {rest : List Stmt} {t u : TS} {e : Expr} {te : TE} {pos : Pos}
noncomputable def tNext : TS := fun D σ H => D.nx σ H
noncomputable def tSeq (t u : TS) : TS := fun D σ H => t { D with nx := u D } σ H
theorem pss_nil : PSs X [] tNext := fun _ _ σ H _ I h => wpAny_execs_nil ⟨σ, H, I, h⟩
theorem pss_cons (h1 : PS X st t) (h2 : PSs X rest u) : PSs X (st :: rest) (tSeq t u) := by
  intro pins s σ H D I h
  refine wpAny_execs_cons (thn (h1 pins s σ H { D with nx := u D } I h) fun f s1 q => ?_)
  cases f with
  | next =>
    obtain ⟨σ', H', I', q⟩ := q
    exact h2 pins s1 σ' H' D I' q
  | ret v => exact q
  | brk => exact q
  | cont => exact q
theorem pss_one (h1 : PS X st t) : PSs X [st] t := by
  intro pins s σ H D I h
  refine wpAny_execs_cons (thn (h1 pins s σ H D I h) fun f s1 q => ?_)
  cases f with
  | next => exact wpAny_execs_nil q
  | ret v => exact q
  | brk => exact q
  | cont => exact q
/-- in a def's body nothing is shown -/
theorem Inv.quiet {pins : List (Addr × Obj)} {σ : St} {H : Hp} {s : Shared} (I : Inv X pins σ H s) : interactive X.env = false := by simp [interactive, I.ok.kind]
/-- an expression whose value is dropped -/
noncomputable def tDrop (te : TE) : TS := fun D σ H => te σ H fun _ H1 => D.nx σ H1
theorem ps_expr (he : PE X e te) (hs : swapsWith e none pos.line X.env = pure false := by rfl) : PS X (.Expr e pos) (tDrop te) := by
  intro pins s σ H D I h
  exact wpAny_Expr_any (thn (he pins s σ H _ I h) fun v s1 ⟨x, H1, I1, r1, q1⟩ => ⟨σ, H1, I1, q1⟩) I.quiet hs
noncomputable def tRet (te : TE) : TS := fun D σ H => te σ H D.rt
theorem ps_ret (he : PE X e te) : PS X (.Return (some e) pos) (tRet te) := by
  intro pins s σ H D I h
  exact wpAny_Return_some (thn (he pins s σ H _ I h) fun v s1 ⟨x, H1, I1, r1, q1⟩ => ⟨x, σ, H1, I1, r1, q1⟩)
noncomputable def tRetN : TS := fun D _ H => D.rt .non H
noncomputable def tIfS (c : TT) (t u : TS) : TS := fun D σ H => c σ H fun b H1 => if b = true then t D σ H1 else u D σ H1
theorem ps_if {c : Expr} {a b : List Stmt} {tc : TT} (hc : PT X c tc) (ha : PSs X a t) (hb : PSs X b u) : PS X (.If c a b pos) (tIfS tc t u) := by
  intro pins s σ H D I h
  refine wpAny_If (thn (hc pins s σ H _ I h) fun d s1 ⟨H1, I1, q1⟩ => ?_)
  cases d with
  | true => exact ha pins s1 σ H1 D I1 q1
  | false => exact hb pins s1 σ H1 D I1 q1
end

/-! ### targets -/
noncomputable abbrev TG := V → St → Hp → (St → Hp → Prop) → Prop
noncomputable abbrev TGs := List V → St → Hp → (St → Hp → Prop) → Prop
noncomputable def PG (X : Cx) (target : Expr) (t : TG) : Prop :=
  ∀ (pins : List (Addr × Obj)) (s : Shared) (σ : St) (H : Hp) (v : V) (u : Value) (Q : St → Hp → Prop), Inv X pins σ H s → RelV v u → t v σ H Q →
    wpAny (model X.prog X.w) X.A (assign target X.env u) (fun _ s' => ∃ σ' H', Inv X pins σ' H' s' ∧ Q σ' H') X.xe s
/-- several targets, one after another -/
noncomputable def PGs (X : Cx) (ts : List Expr) (t : TGs) : Prop :=
  ∀ (pins : List (Addr × Obj)) (s : Shared) (σ : St) (H : Hp) (vs : List V) (us : List Value) (Q : St → Hp → Prop), Inv X pins σ H s → Vals vs us → t vs σ H Q →
    wpAny (model X.prog X.w) X.A (assignInOrder ((assignEach ts X.env).map (·.2)) us) (fun _ s' => ∃ σ' H', Inv X pins σ' H' s' ∧ Q σ' H') X.xe s
section
variable {X : Cx} {pos : Pos}
noncomputable def gName (i : Nat) : TG := fun v σ H Q => Q (σ.set i (some v)) H
theorem pg_name {i : Nat} {x : Str} (hN : X.N.Nodup) (hi : X.N[i]? = some x) (hx : Loc X.env.scope x) (hf : X.fn x = true ∨ X.env.scope.names.lookup x = some .local := by first | exact .inl rfl | exact .inr rfl | assumption) : PG X (.Name x pos) (gName i) := by
  intro pins s σ H v u Q I r h
  exact wpAny_assign_Name (store_ok I hN hi hx r (fun s' I' => ⟨_, H, I', h⟩) hf)
noncomputable def gNil : TGs := fun vs σ H Q => vs = [] ∧ Q σ H
noncomputable def gCons (t : TG) (u : TGs) : TGs := fun vs σ H Q => ∃ v r, vs = v :: r ∧ t v σ H fun σ' H' => u r σ' H' Q
theorem pgs_nil : PGs X [] gNil := by
  intro pins s σ H vs us Q I r h
  obtain ⟨e, h⟩ := h
  subst e
  cases r
  exact assignInOrder_nil ⟨σ, H, I, h⟩
theorem pgs_cons {e : Expr} {es : List Expr} {t : TG} {u : TGs} (h1 : PG X e t) (h2 : PGs X es u)
    (hs : (assignEach (e :: es) X.env).map (·.2) = assign e X.env :: (assignEach es X.env).map (·.2) := by rfl) : PGs X (e :: es) (gCons t u) := by
  intro pins s σ H vs us Q I r h
  obtain ⟨v, vr, e1, h⟩ := h
  subst e1
  cases r with
  | cons r rr =>
    rw [hs]
    refine assignInOrder_cons (thn (h1 pins s σ H _ _ _ I r h) fun _ s1 ⟨σ1, H1, I1, q1⟩ => ?_)
    exact h2 pins s1 σ1 H1 _ _ Q I1 rr q1
/-- (a, b, ..) = a tuple of that length -/
noncomputable def gTup (K : PySem.W.Frag) (n : Nat) (t : TGs) : TG := fun v σ H Q => ∃ a xs, v = .ref a ∧ SqT K H a xs ∧ xs.length = n ∧ t xs σ H Q
theorem pg_tup {es : List Expr} {k : Nat} {t : TGs} {n : Nat} (hc : X.calm = true) (h : PGs X es t)
    (hn : (assignEach es X.env).length = n := by rfl) (hst : (assignEach es X.env).findIdx? (·.1) = none := by rfl) : PG X (.Tuple es k pos) (gTup X.K n t) := by
  intro pins s σ H v u Q I r hw
  obtain ⟨a, xs, e1, hq, hl, hw⟩ := hw
  subst e1
  cases r
  obtain ⟨its, rv, ht, hz⟩ := I.tuple hq
  refine assign_Tuple_tuple (I.ok.hd hc) ht (by simp [hn, ← hl, rv.length]) hst fun h' hx => ?_
  have I1 : Inv X pins σ H { s with heap := h' } := I.kept (t' := s.toks) fun b o e => hx b o (Nat.ne_of_lt (Heap.lt_size e)) e
  exact h pins _ σ H xs _ Q I1 (by simpa using rv) hw
/-- target = value -/
noncomputable def tAsg (te : TE) (g : TG) : TS := fun D σ H => te σ H fun x H1 => g x σ H1 D.nx
theorem ps_asg {tg e : Expr} {te : TE} {g : TG} (he : PE X e te) (hg : PG X tg g) (hs : swapsWithSole [tg] e pos.line X.env = pure false := by rfl) (hw : swappedStores [tg] e X.env = pure none := by rfl)
    (h1 : (assignEach [tg] X.env).map (·.2) = [assign tg X.env] := by rfl) : PS X (.Assign [tg] e pos) (tAsg te g) := by
  intro pins s σ H D I h
  refine wpAny_Assign_stores (thn (he pins s σ H _ I h) fun v s1 ⟨x, H1, I1, r1, q1⟩ => ?_) hs hw
  rw [h1]
  exact thn (hg pins s1 σ H1 x v _ I1 r1 q1) fun _ s2 q => q
/-- name = value -/
theorem ps_set {i : Nat} {x : Str} {e : Expr} {te : TE} {pos' : Pos} (hN : X.N.Nodup) (hi : X.N[i]? = some x) (hx : Loc X.env.scope x) (he : PE X e te) (hs : swapsWith e (some (.Name x pos')) pos.line X.env = pure false := by rfl) (hf : X.fn x = true ∨ X.env.scope.names.lookup x = some .local := by first | exact .inl rfl | exact .inr rfl | assumption) :
    PS X (.Assign [.Name x pos'] e pos) (tAsg te (gName i)) := by
  intro pins s σ H D I h
  refine wpAny_Assign_Name (thn (he pins s σ H _ I h) fun v s1 ⟨y, H1, I1, r1, q1⟩ => ?_) hs
  exact store_ok I1 hN hi hx r1 (fun s2 I2 => ⟨_, H1, I2, q1⟩) hf
/-- a, b = x, y with plain local names: stored from the right; the pair itself is not tracked (the opening rows as in PyProof/Rows/TupAssign.lean:23) -/
noncomputable def tPar (i j : Nat) (ta : TA) : TS := fun D σ H => ta σ H fun vs H1 => ∃ v w, vs = [v, w] ∧ D.nx ((σ.set i (some v)).set j (some w)) H1
theorem ps_par {i j : Nat} {x y : Str} {a b : Expr} {ta : TA} {px py pt : Pos} {kt k2 pt2} (hc : X.calm = true) (hN : X.N.Nodup) (hi : X.N[i]? = some x) (hj : X.N[j]? = some y) (hij : i ≠ j)
    (hx : X.env.scope.names.lookup x = some .local) (hy : X.env.scope.names.lookup y = some .local) (ha : PA X [a, b] ta)
    (hw : swappedStores [.Tuple [.Name x px, .Name y py] kt pt] (.Tuple [a, b] k2 pt2) X.env = pure (some [x, y]))
    (hs : swapsWithSole [.Tuple [.Name x px, .Name y py] kt pt] (.Tuple [a, b] k2 pt2) pos.line X.env = pure false := by rfl) :
    PS X (.Assign [.Tuple [.Name x px, .Name y py] kt pt] (.Tuple [a, b] k2 pt2) pos) (tPar i j ta) := by
  intro pins s σ H D I h
  rw [exec_Assign_arm]
  refine wpAny_bind (wpAny_standAt ?_)
  rw [hs]
  refine wpAny_bind (wpAny_pure ?_)
  rw [if_neg (by decide)]
  refine wpAny_bind (Tuple_ (thn (ha _ pins s σ H _ I h) fun us s1 ⟨vs, H1, I1, r1, q1⟩ => ?_))
  obtain ⟨v, w, e1, q1⟩ := q1
  subst e1
  obtain ⟨u1, u2, rfl, rv, rw'⟩ : ∃ u1 u2, us = [u1, u2] ∧ RelV v u1 ∧ RelV w u2 := by
    cases r1 with
    | cons p q =>
      cases q with
      | cons p' q' =>
        cases q'
        exact ⟨_, _, rfl, p, p'⟩
  refine wpAny_newObj_type ?_ (by show 2 ≤ sizeLine; decide)
  have I2 : Inv X pins σ H1 { s1 with heap := s1.heap.push { cls := .type "tuple", data := .seq [u1, u2].toArray } } := I1.kept (t' := s1.toks) fun b o e => Heap.get?_push_of_some _ e
  rw [hw]
  refine wpAny_bind (wpAny_pure ?_)
  show wpAny (model X.prog X.w) X.A (do rule "assign.swapped-stores"; let items ← unpackItems (.ref s1.heap.objs.size) 2 none; assignInOrder [fun v => bindName X.env y v, fun v => bindName X.env x v] items.reverse; pure Flow.next) _ _ _
  refine wpAny_bind (wpAny_rule (wpAny_bind (unpackItems_tuple (items := #[u1, u2]) (I.ok.hd hc) (IsTup.new s1.heap _) fun h' hx' => ?_)))
  have I3 := I2.kept (h' := h') (t' := s1.toks) fun b o e => hx' b o (Nat.ne_of_lt (Heap.lt_size e)) e
  show wpAny _ _ (assignInOrder [fun v => bindName X.env y v, fun v => bindName X.env x v] [u2, u1] >>= fun _ => pure Flow.next) _ _ _
  refine wpAny_bind (assignInOrder_cons (wpAny_bindName (store_ok I3 hN hj (.inl hy) rw' (fun s2 I4 => ?_) (.inr hy))))
  refine assignInOrder_cons (wpAny_bindName (store_ok I4 hN hi (.inl hx) rv (fun s3 I5 => assignInOrder_nil (wpAny_pure ?_)) (.inr hx)))
  rw [List.set_comm _ _ (Ne.symm hij)] at I5
  exact ⟨_, H1, I5, q1⟩
end

/-! ### while -/
section
variable {X : Cx} {pos : Pos}
/-- the invariant W with its measure -/
noncomputable def tWhile (c : TT) (tb : TS) : TS := fun D σ H => ∃ W : Nat → St → Hp → Prop, (∃ m, W m σ H) ∧ ∀ m σ H, W m σ H →
  c σ H fun b H1 => if b = true then ∃ N : St → Hp → Prop, (∀ σ' H', N σ' H' → ∃ m', m' < m ∧ W m' σ' H') ∧ tb { D with nx := N, ct := N, bk := D.nx } σ H1 else D.nx σ H1
theorem ps_while {c : Expr} {body : List Stmt} {tc : TT} {tb : TS} (hp : PassesOwn (model X.prog X.w) X.A X.env X.xe) (hc : PT X c tc) (hb : PSs X body tb) : PS X (.While c body [] pos) (tWhile tc tb) := by
  intro pins s σ H D I h
  obtain ⟨W, ⟨m0, w0⟩, turn⟩ := h
  refine wpAny_While (codeAny_whileLoop (fun n s' => ∃ σ' H', Inv X pins σ' H' s' ∧ W n σ' H') ?_ m0 ⟨σ, H, I, w0⟩)
  rintro n s1 ⟨σ1, H1, I1, w1⟩
  refine wpAny_passesOwn hp (thn (hc pins s1 σ1 H1 _ I1 (turn n σ1 H1 w1)) fun b s2 ⟨H2, I2, q2⟩ => ?_)
  cases b with
  | true =>
    obtain ⟨N, hN, q2⟩ := q2
    rw [if_pos rfl]
    refine wpAny_passesOwn hp (thn (hb pins s2 σ1 H2 _ I2 q2) fun f s3 q3 => ?_)
    cases f with
    | next =>
      obtain ⟨σ3, H3, I3, n3⟩ := q3
      obtain ⟨m', hm, w3⟩ := hN σ3 H3 n3
      exact ⟨m', hm, σ3, H3, I3, w3⟩
    | cont =>
      obtain ⟨σ3, H3, I3, n3⟩ := q3
      obtain ⟨m', hm, w3⟩ := hN σ3 H3 n3
      exact ⟨m', hm, σ3, H3, I3, w3⟩
    | brk => exact q3
    | ret v => exact q3
  | false =>
    rw [if_neg Bool.false_ne_true]
    exact wpAny_execs_nil ⟨σ1, H2, I2, q2⟩
end

/-! ### what a loop or a comprehension walks -/
/-- at turn i: it yields x (the heap may grow), or it stops -/
structure It where
  go : Nat → Hp → Prop
  yld : Nat → Hp → V → Hp → Prop
  stop : Nat → Hp → Prop
/-- the iterator's own objects may turn: they are not the frame's, not pinned, younger than the entry (or a comprehension's own) -/
noncomputable def FpOk (X : Cx) (pins : List (Addr × Obj)) (H : Hp) (b : Addr) : Prop :=
  H b = none ∧ b ≠ X.env.locals ∧ b ∉ X.fs ∧ (b ∈ X.ex ∨ X.s₀.heap.objs.size ≤ b) ∧ (∀ x c, X.env.cells.lookup x = some c → c ≠ b) ∧ ∀ p ∈ X.pn ++ pins, p.1 ≠ b
theorem Inv.fpOk {X : Cx} {pins : List (Addr × Obj)} {σ : St} {H H' : Hp} {s : Shared} {b : Addr} (I : Inv X pins σ H s) (hb : s.heap.objs.size ≤ b) (hn : H' b = none) : FpOk X pins H' b := by
  refine ⟨hn, Nat.ne_of_gt (Nat.lt_of_lt_of_le I.lt hb), I.nofs hb, .inr (Nat.le_trans I.sz hb), fun x c e z => ?_, fun p hp z => ?_⟩
  · obtain ⟨v, q⟩ := I.cell x c e
    exact absurd (Nat.lt_of_lt_of_le q.lt (by rw [z]; exact hb)) (Nat.lt_irrefl _)
  · exact absurd (Nat.lt_of_lt_of_le (Heap.lt_size (I.pin p hp).1) (by rw [z]; exact hb)) (Nat.lt_irrefl _)
structure Turn (P : Program) (w : World) (K : PySem.W.Frag) (tg : Expr) (J : It) (fp : List Addr) (it : Addr) (tn : Nat → Heap → Prop) : Prop where
  mem : it ∈ fp
  obj : ∀ i h, tn i h → ∀ b ∈ fp, ∃ o, h.get? b = some o ∧ ∀ v, o.data ≠ .cell v
  keep : ∀ i h h', tn i h → (∀ b ∈ fp, ∀ o, h.get? b = some o → h'.get? b = some o) → tn i h'
  item : ∀ (X : Cx), X.prog = P → X.w = w → X.K = K → X.calm = true → ∀ (i : Nat) (pins : List (Addr × Obj)) (s : Shared) (σ : St) (H : Hp) (E : Value → Shared → Prop), Inv X pins σ H s → (∀ b ∈ fp, FpOk X pins H b) → tn i s.heap → J.go i H →
    wpAny (model P w) X.A (pyNext (.ref it)) (fun r s1 => ∃ u, r = some u ∧
      wpAny (model P w) X.A (letOwnedTupleGo tg (.ref it) u) (fun _ s2 => ∃ x H', Inv X pins σ H' s2 ∧ RelV x u ∧ J.yld i H x H' ∧ tn (i + 1) s2.heap ∧ ∀ b ∈ fp, H' b = none) E s1) E s
  done : ∀ (X : Cx), X.prog = P → X.w = w → X.K = K → X.calm = true → ∀ (i : Nat) (pins : List (Addr × Obj)) (s : Shared) (σ : St) (H : Hp) (E : Value → Shared → Prop), Inv X pins σ H s → (∀ b ∈ fp, FpOk X pins H b) → tn i s.heap → J.stop i H →
    wpAny (model P w) X.A (pyNext (.ref it)) (fun r s1 => r = none ∧ Inv X pins σ H s1) E s
  self : ∀ (A : Around) (i : Nat) (s : Shared) (Q : Value → Shared → Prop) (E : Value → Shared → Prop), tn i s.heap → Q (.ref it) s → wpAny (model P w) A (pyIter (.ref it)) Q E s
noncomputable abbrev TI := St → Hp → (It → Hp → Prop) → Prop
/-- an iterator has come -/
noncomputable def PIE (X : Cx) (pins : List (Addr × Obj)) (σ : St) (tg : Expr) (R : It → Hp → Prop) (itv : Value) (s2 : Shared) : Prop :=
  ∃ (it : Addr) (fp : List Addr) (tn : Nat → Heap → Prop) (J : It) (H' : Hp), itv = .ref it ∧ Inv X pins σ H' s2 ∧ Turn X.prog X.w X.K tg J fp it tn ∧ tn 0 s2.heap ∧ (∀ b ∈ fp, FpOk X pins H' b) ∧ R J H'
noncomputable def PI (X : Cx) (tg iter : Expr) (wi : TI) : Prop :=
  ∀ (pins : List (Addr × Obj)) (s : Shared) (σ : St) (H : Hp) (R : It → Hp → Prop), Inv X pins σ H s → wi σ H R →
    wpAny (model X.prog X.w) X.A (eval iter X.env) (fun v s1 => wpAny (model X.prog X.w) X.A (pyIter v) (PIE X pins σ tg R) X.xe s1) X.xe s

/-- the step ahead of the store is nothing for an iterator that keeps no tuple -/
theorem go_of {M : Model} {A : Around} {E : Value → Shared → Prop} {s : Shared} {tg : Expr} {it : Addr} {u : Value} {o : Obj} {n : String} {vs : Array Value} {Q : Unit → Shared → Prop} (ho : s.heap.get? it = some o) (hc : o.cls = .type n) (hd : o.data = .fields vs)
    (hn : ["enumerate", "zip", "dict_itemiterator", "dict_reverseitemiterator", "odict_iterator", "itertools.zip_longest", "itertools.pairwise"].contains n = false) (hQ : Q () s) : wpAny M A (letOwnedTupleGo tg (.ref it) u) Q E s := by
  unfold letOwnedTupleGo
  cases tg <;> first
    | exact wpAny_pure hQ
    | (cases u <;> first
        | exact wpAny_pure hQ
        | (refine wpAny_bind (wpAny_load ho ?_)
           rw [hc, hd]
           show wpAny M A (if (["enumerate", "zip", "dict_itemiterator", "dict_reverseitemiterator", "odict_iterator", "itertools.zip_longest", "itertools.pairwise"].contains n && vs[0]? == some (rawInt _)) = true then _ else _) Q E s
           rw [if_neg (by intro h; rw [hn, Bool.false_and] at h; cases h)]
           exact wpAny_pure hQ))

/-- the list at a, as it stands at each turn (a loop may append to it) -/
noncomputable def Itl (K : PySem.W.Frag) (a : Addr) : It :=
  ⟨fun i H => ∃ xs x, SqL K H a xs ∧ xs[i]? = some x, fun i H x H' => H' = H ∧ ∀ xs, SqL K H a xs → xs[i]? = some x, fun i H => ∃ xs, SqL K H a xs ∧ xs.length ≤ i⟩
noncomputable def Itt (K : PySem.W.Frag) (a : Addr) : It :=
  ⟨fun i H => ∃ xs x, SqT K H a xs ∧ xs[i]? = some x, fun i H x H' => H' = H ∧ ∀ xs, SqT K H a xs → xs[i]? = some x, fun i H => ∃ xs, SqT K H a xs ∧ xs.length ≤ i⟩
/-- lo, lo + 1, .. (n of them) -/
noncomputable def Itr (lo : Int) (n : Nat) : It := ⟨fun i _ => i < n, fun i H x H' => H' = H ∧ x = .int (lo + i), fun i _ => n ≤ i⟩
theorem turn_list {P : Program} {w : World} {K : PySem.W.Frag} {tg : Expr} (a it : Addr) : Turn P w K tg (Itl K a) [it] it (fun i h => h.IsListIter it a i) where
  mem := by simp
  obj := fun i h st b hb => by
    have e : b = it := by simpa using hb
    subst e
    obtain ⟨o, e, c, d⟩ := st
    exact ⟨o, e, fun v z => by rw [d] at z; cases z⟩
  keep := fun i h h' st k => st.at fun o e => k it (by simp) o e
  item := by
    intro X hP hw hK hc i pins s σ H E I hf st hg
    subst hP hw hK
    obtain ⟨xs, x, hq, hx⟩ := hg
    obtain ⟨its, rv, p, hz⟩ := I.list hq
    obtain ⟨u, hu, ru⟩ := rv.get hx
    obtain ⟨f0, f1, f2, f3, f4, f5⟩ := hf it (by simp)
    refine wpAny_pyNext_list_item st p.isList (x := u) (by simpa using hu) fun h' st' sb => ?_
    have I1 : Inv X pins σ H { s with heap := h' } := I.turned (t' := s.toks) (fun b o hb e => (sb.2 b hb).trans e) f0 f1 f3 f4 f5
    obtain ⟨o, e, c, d⟩ := id st'
    exact ⟨u, rfl, go_of (s := { s with heap := h' }) e c d (by decide) ⟨x, H, I1, ru, ⟨rfl, fun ys hy => by rw [I.list_inj hy hq]; exact hx⟩, st', fun b hb => (hf b hb).1⟩⟩
  done := by
    intro X hP hw hK hc i pins s σ H E I hf st hg
    subst hP hw hK
    obtain ⟨xs, hq, hx⟩ := hg
    obtain ⟨its, rv, p, hz⟩ := I.list hq
    obtain ⟨f0, f1, f2, f3, f4, f5⟩ := hf it (by simp)
    have hl := rv.length
    exact wpAny_pyNext_list_end (I.ok.hd hc) st p.isList (by simp; omega) fun h' eb => ⟨rfl, I.turned (t' := s.toks) (fun b o hb e => eb b o hb e) f0 f1 f3 f4 f5⟩
  self := fun _ _ _ _ _ st h => wpAny_pyIter_listiter st h
theorem turn_tuple {P : Program} {w : World} {K : PySem.W.Frag} {tg : Expr} (a it : Addr) : Turn P w K tg (Itt K a) [it] it (fun i h => h.IsTupleIter it a i) where
  mem := by simp
  obj := fun i h st b hb => by
    have e : b = it := by simpa using hb
    subst e
    obtain ⟨o, e, c, d⟩ := st
    exact ⟨o, e, fun v z => by rw [d] at z; cases z⟩
  keep := fun i h h' st k => st.at fun o e => k it (by simp) o e
  item := by
    intro X hP hw hK hc i pins s σ H E I hf st hg
    subst hP hw hK
    obtain ⟨xs, x, hq, hx⟩ := hg
    obtain ⟨its, rv, p, hz⟩ := I.tuple hq
    obtain ⟨u, hu, ru⟩ := rv.get hx
    obtain ⟨f0, f1, f2, f3, f4, f5⟩ := hf it (by simp)
    refine wpAny_pyNext_tuple_item st (show s.heap.IsTuple a its.toArray from p) (x := u) (by simpa using hu) fun h' st' sb => ?_
    have I1 : Inv X pins σ H { s with heap := h' } := I.turned (t' := s.toks) (fun b o hb e => (sb.2 b hb).trans e) f0 f1 f3 f4 f5
    obtain ⟨o, e, c, d⟩ := id st'
    exact ⟨u, rfl, go_of (s := { s with heap := h' }) e c d (by decide) ⟨x, H, I1, ru, ⟨rfl, fun ys hy => by rw [I.tuple_inj hy hq]; exact hx⟩, st', fun b hb => (hf b hb).1⟩⟩
  done := by
    intro X hP hw hK hc i pins s σ H E I hf st hg
    subst hP hw hK
    obtain ⟨xs, hq, hx⟩ := hg
    obtain ⟨its, rv, p, hz⟩ := I.tuple hq
    obtain ⟨f0, f1, f2, f3, f4, f5⟩ := hf it (by simp)
    have hl := rv.length
    exact wpAny_pyNext_tuple_end (I.ok.hd hc) st (show s.heap.IsTuple a its.toArray from p) (by simp; omega) fun h' eb => ⟨rfl, I.turned (t' := s.toks) (fun b o hb e => eb b o hb e) f0 f1 f3 f4 f5⟩
  self := fun _ _ _ _ _ st h => wpAny_pyIter_tupleiter st h
theorem turn_range {P : Program} {w : World} {K : PySem.W.Frag} {tg : Expr} (it : Addr) (lo : Int) (n : Nat) : Turn P w K tg (Itr lo n) [it] it (fun i h => IsRangeIter h it (lo + (i : Nat) * 1) ((n : Int) - (i : Nat)) 1) where
  mem := by simp
  obj := fun i h st b hb => by
    have e : b = it := by simpa using hb
    subst e
    exact ⟨_, st, fun v z => by
      have z' : Data.fields _ = Data.cell v := z
      cases z'⟩
  keep := fun i h h' st k => k it (by simp) _ st
  item := by
    intro X hP hw hK hc i pins s σ H E I hf st hg
    subst hP hw hK
    obtain ⟨f0, f1, f2, f3, f4, f5⟩ := hf it (by simp)
    have W := Walks.range (prog := X.prog) (w := X.w) (I.ok.hd hc) it lo 1 n
    refine W.item i s _ _ hg st fun v h' tk hv st' kk => ?_
    obtain ⟨t, rfl⟩ := hv
    have I1 : Inv X pins σ H { s with heap := h', toks := tk } := I.turned (fun b o hb e => kk b o (by simpa using hb) e) f0 f1 f3 f4 f5
    refine ⟨_, rfl, go_of (s := { s with heap := h', toks := tk }) (n := "range_iterator") st' rfl rfl (by decide) ⟨.int (lo + i), H, I1, ⟨t, ?_⟩, ⟨rfl, rfl⟩, st', fun b hb => (hf b hb).1⟩⟩
    rw [Int.mul_one]
  done := by
    intro X hP hw hK hc i pins s σ H E I hf st hg
    subst hP hw hK
    obtain ⟨f0, f1, f2, f3, f4, f5⟩ := hf it (by simp)
    exact wpAny_pyNext_range_end (I.ok.hd hc) st (by have : n ≤ i := hg; omega) fun h' eb => ⟨rfl, I.turned (t' := s.toks) (fun b o hb e => eb b o hb e) f0 f1 f3 f4 f5⟩
  self := fun _ _ _ _ _ st h => wpAny_pyIter_rangeiter st h
end L2

namespace L2
open PySem PySem.Spec PyProof.Rows
section
variable {X : Cx} {tg : Expr}
/-- a range object just made, walked -/
theorem range_it {pins : List (Addr × Obj)} {σ : St} {H : Hp} {s : Shared} {R : It → Hp → Prop} {E : Value → Shared → Prop} {lo hi : Int} {t u v : Tok} {tk : Nat} (I : Inv X pins σ H s) (h1 : -(2 ^ 62) ≤ lo) (h2 : lo < 2 ^ 62) (h3 : -(2 ^ 62) ≤ hi) (h4 : hi < 2 ^ 62)
    (q : R (Itr lo (hi - lo).toNat) H) : wpAny (model X.prog X.w) X.A (pyIter (.ref s.heap.objs.size)) (PIE X pins σ tg R) E { s with heap := s.heap.push { cls := .type "range", data := .fields #[.int lo t, .int hi u, .int 1 v] }, toks := tk } := by
  refine wpAny_pyIter_range (IsRange.new ..) (small_one h1 h2 h3 h4) ?_
  have I1 : Inv X pins σ H { s with heap := s.heap.push { cls := .type "range", data := .fields #[.int lo t, .int hi u, .int 1 v] }, toks := tk } := I.kept fun b o e => Heap.get?_push_of_some _ e
  refine ⟨(s.heap.push { cls := .type "range", data := .fields #[.int lo t, .int hi u, .int 1 v] }).objs.size, [(s.heap.push { cls := .type "range", data := .fields #[.int lo t, .int hi u, .int 1 v] }).objs.size], _, _, H, rfl,
    I1.kept (t' := tk) fun b o e => Heap.get?_push_of_some _ e, turn_range _ lo (hi - lo).toNat, ?_, fun b hb => ?_, q⟩
  · have e1 : lo + ((0 : Nat) : Int) * 1 = lo := by simp
    have e2 : (((hi - lo).toNat : Nat) : Int) - ((0 : Nat) : Int) = Builtin.Range.rangeSize lo hi 1 := by rw [rangeSize_one]; split <;> omega
    show IsRangeIter _ _ (lo + ((0 : Nat) : Int) * 1) ((((hi - lo).toNat : Nat) : Int) - ((0 : Nat) : Int)) 1
    rw [e1, e2]
    exact Heap.get?_push_size _ rfl
  · have e : b = (s.heap.push { cls := .type "range", data := .fields #[.int lo t, .int hi u, .int 1 v] }).objs.size := by simpa using hb
    subst e
    exact I1.fpOk (Nat.le_refl _) (I1.hok.fresh (Nat.le_refl _))
noncomputable def iRng1 (ta : TA) : TI := fun σ H R => ta σ H fun vs H1 => ∃ j : Int, vs = [.int j] ∧ -(2 ^ 62) ≤ j ∧ j < 2 ^ 62 ∧ R (Itr 0 j.toNat) H1
theorem pi_range1 {a : Expr} {ta : TA} {p pos : Pos} (hg : Gl X "range") (hm : X.mg "range" = none) (ha : PA X [a] ta) (hs : starEach [a] X.env = [(false, eval a X.env)] := by rfl) : PI X tg (.Call (.Name "range" p) [a] [] pos) (iRng1 ta) := by
  intro pins s σ H R I h
  refine Call_ (ld_blt I hg hm boot_range (PyProof.Rows.callWith_type1 (thn (ha pos pins s σ H _ I h) fun us s1 ⟨vs, H1, I1, r1, q1⟩ => ?_) hs rfl))
  obtain ⟨j, e, q1, q2, q⟩ := q1
  subst e
  cases r1 with
  | cons r rr =>
    cases rr
    obtain ⟨t, rfl⟩ := r
    exact call_range_1 (range_it I1 (by omega) (by omega) q1 q2 (by simpa using q))
/-! ### for -/
/-- W: the invariant by the turn and a measure; N: what the body is to reach -/
noncomputable def tFor (wi : TI) (g : TG) (tb : TS) : TS := fun D σ H => wi σ H fun J H1 => ∃ W : Nat → Nat → St → Hp → Prop, (∃ m, W 0 m σ H1) ∧ ∀ i m σ H, W i m σ H →
  (J.stop i H ∧ D.nx σ H) ∨ (J.go i H ∧ ∃ N : St → Hp → Prop, (∀ σ' H', N σ' H' → ∃ m', m' < m ∧ W (i + 1) m' σ' H') ∧ ∀ x H', J.yld i H x H' → g x σ H' fun σ2 H2 => tb { D with nx := N, ct := N, bk := D.nx } σ2 H2)
/-- the records at fp as they stand -/
noncomputable def pinsAt (fp : List Addr) (h : Heap) : List (Addr × Obj) := fp.filterMap fun b => (h.get? b).map fun o => (b, o)
theorem mem_pinsAt {fp : List Addr} {h : Heap} {b : Addr} {o : Obj} (hb : b ∈ fp) (e : h.get? b = some o) : (b, o) ∈ pinsAt fp h := List.mem_filterMap.mpr ⟨b, hb, by rw [e]; rfl⟩
theorem of_pinsAt {fp : List Addr} {h : Heap} {p : Addr × Obj} (hp : p ∈ pinsAt fp h) : p.1 ∈ fp ∧ h.get? p.1 = some p.2 := by
  obtain ⟨b, hb, e⟩ := List.mem_filterMap.mp hp
  cases q : h.get? b with
  | none => rw [q] at e; cases e
  | some o =>
    rw [q] at e
    have e' : (b, o) = p := Option.some.inj e
    subst e'
    exact ⟨hb, q⟩
theorem Inv.pinned {pins : List (Addr × Obj)} {σ : St} {H : Hp} {s : Shared} {fp : List Addr} (I : Inv X pins σ H s) (hf : ∀ b ∈ fp, FpOk X pins H b) (ho : ∀ b ∈ fp, ∃ o, s.heap.get? b = some o ∧ ∀ v, o.data ≠ .cell v) : Inv X (pins ++ pinsAt fp s.heap) σ H s :=
  I.pins_of fun p hp => (List.mem_append.mp hp).elim (fun z => I.pin p (List.mem_append_right _ z)) fun z => by
    obtain ⟨hb, e⟩ := of_pinsAt z
    obtain ⟨f0, f1, f2, _⟩ := hf p.1 hb
    obtain ⟨o, e', d⟩ := ho p.1 hb
    rw [e] at e'; cases e'
    exact ⟨e, f0, f1, f2, d⟩
theorem Inv.unpinned {pins pl : List (Addr × Obj)} {σ : St} {H : Hp} {s : Shared} (I : Inv X (pins ++ pl) σ H s) : Inv X pins σ H s := I.pins_of fun p hp => I.pin p (List.mem_append_right _ (List.mem_append_left _ hp))
theorem ps_for {iter : Expr} {body : List Stmt} {wi : TI} {g : TG} {tb : TS} {pos : Pos} (hp : PassesOwn (model X.prog X.w) X.A X.env X.xe) (hc : X.calm = true) (hi : PI X tg iter wi) (hg : PG X tg g) (hb : PSs X body tb)
    (hs : ∀ x, foldedSetIterable iter X.env x = pure x := by intro _; rfl) : PS X (.For tg iter body [] pos) (tFor wi g tb) := by
  intro pins s σ H D I h
  refine wpAny_For (thn (hi pins s σ H _ I h) fun v s1 h1 => thn h1 fun itv s2 h2 => ?_) hs
  obtain ⟨it, fp, tn, J, H2, e, I2, T, st2, f2, W, ⟨m0, w0⟩, turn⟩ := h2
  subst e
  -- what stays true of the iterator's objects through the loop
  have stat : ∀ {H' : Hp}, (∀ b ∈ fp, H' b = none) → ∀ b ∈ fp, FpOk X pins H' b := fun hn b hb => ⟨hn b hb, (f2 b hb).2⟩
  refine codeAny_forLoop_any (fun n s' => ∃ i σ' H', Inv X pins σ' H' s' ∧ tn i s'.heap ∧ (∀ b ∈ fp, H' b = none) ∧ W i n σ' H') ?_ m0 ⟨0, σ, H2, I2, st2, fun b hb => (f2 b hb).1, w0⟩
  rintro n s3 ⟨i, σ3, H3, I3, st3, fr3, w3⟩
  rcases turn i n σ3 H3 w3 with ⟨stop, qn⟩ | ⟨go, N, hN, step⟩
  · refine wpAny_passesOwn hp (thn (T.done X rfl rfl rfl hc i pins s3 σ3 H3 X.xe I3 (stat fr3) st3 stop) fun r s4 ⟨hr, I4⟩ => ?_)
    subst hr
    exact wpAny_execs_nil ⟨σ3, H3, I4, qn⟩
  · refine wpAny_passesOwn hp (thn (T.item X rfl rfl rfl hc i pins s3 σ3 H3 X.xe I3 (stat fr3) st3 go) fun r s4 ⟨u, hr, h4⟩ => ?_)
    subst hr
    refine wpAny_passesOwn hp (thn h4 fun _ s5 ⟨x, H5, I5, r5, y5, st5, fr5⟩ => ?_)
    have I5' := I5.pinned (stat fr5) (T.obj _ _ st5)
    refine wpAny_passesOwn hp (thn (hg _ s5 σ3 H5 x u _ I5' r5 (step x H5 y5)) fun _ s6 ⟨σ6, H6, I6, q6⟩ => ?_)
    refine wpAny_passesOwn hp (thn (hb _ s6 σ6 H6 _ I6 q6) fun f s7 q7 => ?_)
    have again : ∀ {σ7 : St} {H7 : Hp}, Inv X (pins ++ pinsAt fp s5.heap) σ7 H7 s7 → N σ7 H7 → ∃ m, m < n ∧ ∃ i σ' H', Inv X pins σ' H' s7 ∧ tn i s7.heap ∧ (∀ b ∈ fp, H' b = none) ∧ W i m σ' H' := fun {σ7 H7} I7 n7 => by
      obtain ⟨m', hm, w7⟩ := hN σ7 H7 n7
      refine ⟨m', hm, i + 1, σ7, H7, I7.unpinned, T.keep _ _ _ st5 fun b hb o e => (I7.pin (b, o) (List.mem_append_right _ (List.mem_append_right _ (mem_pinsAt hb e)))).1, fun b hb => ?_, w7⟩
      obtain ⟨o, e, d⟩ := T.obj _ _ st5 b hb
      exact (I7.pin (b, o) (List.mem_append_right _ (List.mem_append_right _ (mem_pinsAt hb e)))).2.1
    cases f with
    | next => obtain ⟨σ7, H7, I7, n7⟩ := q7; exact again I7 n7
    | cont => obtain ⟨σ7, H7, I7, n7⟩ := q7; exact again I7 n7
    | brk => obtain ⟨σ7, H7, I7, q7⟩ := q7; exact ⟨σ7, H7, I7.unpinned, q7⟩
    | ret v => obtain ⟨x7, σ7, H7, I7, r7, q7⟩ := q7; exact ⟨x7, σ7, H7, I7.unpinned, r7, q7⟩
end

/-! ### the forms one uses -/
/-- over a list that the body leaves as it is -/
theorem for_list {K : PySem.W.Frag} {a : Addr} {xs : List V} {g : TG} {tb : TS} {D : Ends} {σ : St} {H : Hp} (Pv : Nat → St → Hp → Prop) (h0 : Pv 0 σ H) (hl : ∀ i σ H, i ≤ xs.length → Pv i σ H → SqL K H a xs)
    (hs : ∀ i x σ H, xs[i]? = some x → Pv i σ H → g x σ H fun σ2 H2 => tb { D with nx := Pv (i + 1), ct := Pv (i + 1), bk := D.nx } σ2 H2) (hd : ∀ σ H, Pv xs.length σ H → D.nx σ H) :
    ∃ W : Nat → Nat → St → Hp → Prop, (∃ m, W 0 m σ H) ∧ ∀ i m σ H, W i m σ H →
      ((Itl K a).stop i H ∧ D.nx σ H) ∨ ((Itl K a).go i H ∧ ∃ N : St → Hp → Prop, (∀ σ' H', N σ' H' → ∃ m', m' < m ∧ W (i + 1) m' σ' H') ∧ ∀ x H', (Itl K a).yld i H x H' → g x σ H' fun σ2 H2 => tb { D with nx := N, ct := N, bk := D.nx } σ2 H2) := by
  refine ⟨fun i m σ H => m = xs.length - i ∧ i ≤ xs.length ∧ Pv i σ H, ⟨xs.length, by simp, Nat.zero_le _, h0⟩, ?_⟩
  rintro i m σ H ⟨rfl, hi, p⟩
  have q := hl i σ H hi p
  by_cases hlt : i < xs.length
  · refine .inr ⟨⟨xs, xs[i], q, by simp [hlt]⟩, Pv (i + 1), fun σ' H' p' => ⟨xs.length - (i + 1), by omega, rfl, hlt, p'⟩, fun x H' y => ?_⟩
    obtain ⟨e, y⟩ := y
    subst e
    exact hs i x σ _ (y xs q) p
  · have e : i = xs.length := by omega
    subst e
    exact .inl ⟨⟨xs, q, Nat.le_refl _⟩, hd σ H p⟩
theorem for_tup {K : PySem.W.Frag} {a : Addr} {xs : List V} {g : TG} {tb : TS} {D : Ends} {σ : St} {H : Hp} (Pv : Nat → St → Hp → Prop) (h0 : Pv 0 σ H) (hl : ∀ i σ H, i ≤ xs.length → Pv i σ H → SqT K H a xs)
    (hs : ∀ i x σ H, xs[i]? = some x → Pv i σ H → g x σ H fun σ2 H2 => tb { D with nx := Pv (i + 1), ct := Pv (i + 1), bk := D.nx } σ2 H2) (hd : ∀ σ H, Pv xs.length σ H → D.nx σ H) :
    ∃ W : Nat → Nat → St → Hp → Prop, (∃ m, W 0 m σ H) ∧ ∀ i m σ H, W i m σ H →
      ((Itt K a).stop i H ∧ D.nx σ H) ∨ ((Itt K a).go i H ∧ ∃ N : St → Hp → Prop, (∀ σ' H', N σ' H' → ∃ m', m' < m ∧ W (i + 1) m' σ' H') ∧ ∀ x H', (Itt K a).yld i H x H' → g x σ H' fun σ2 H2 => tb { D with nx := N, ct := N, bk := D.nx } σ2 H2) := by
  refine ⟨fun i m σ H => m = xs.length - i ∧ i ≤ xs.length ∧ Pv i σ H, ⟨xs.length, by simp, Nat.zero_le _, h0⟩, ?_⟩
  rintro i m σ H ⟨rfl, hi, p⟩
  have q := hl i σ H hi p
  by_cases hlt : i < xs.length
  · refine .inr ⟨⟨xs, xs[i], q, by simp [hlt]⟩, Pv (i + 1), fun σ' H' p' => ⟨xs.length - (i + 1), by omega, rfl, hlt, p'⟩, fun x H' y => ?_⟩
    obtain ⟨e, y⟩ := y
    subst e
    exact hs i x σ _ (y xs q) p
  · have e : i = xs.length := by omega
    subst e
    exact .inl ⟨⟨xs, q, Nat.le_refl _⟩, hd σ H p⟩
theorem for_range {lo : Int} {n : Nat} {g : TG} {tb : TS} {D : Ends} {σ : St} {H : Hp} (Pv : Nat → St → Hp → Prop) (h0 : Pv 0 σ H)
    (hs : ∀ i σ H, i < n → Pv i σ H → g (.int (lo + i)) σ H fun σ2 H2 => tb { D with nx := Pv (i + 1), ct := Pv (i + 1), bk := D.nx } σ2 H2) (hd : ∀ σ H, Pv n σ H → D.nx σ H) :
    ∃ W : Nat → Nat → St → Hp → Prop, (∃ m, W 0 m σ H) ∧ ∀ i m σ H, W i m σ H →
      ((Itr lo n).stop i H ∧ D.nx σ H) ∨ ((Itr lo n).go i H ∧ ∃ N : St → Hp → Prop, (∀ σ' H', N σ' H' → ∃ m', m' < m ∧ W (i + 1) m' σ' H') ∧ ∀ x H', (Itr lo n).yld i H x H' → g x σ H' fun σ2 H2 => tb { D with nx := N, ct := N, bk := D.nx } σ2 H2) := by
  refine ⟨fun i m σ H => m = n - i ∧ i ≤ n ∧ Pv i σ H, ⟨n, by simp, Nat.zero_le _, h0⟩, ?_⟩
  rintro i m σ H ⟨rfl, hi, p⟩
  by_cases hlt : i < n
  · refine .inr ⟨hlt, Pv (i + 1), fun σ' H' p' => ⟨n - (i + 1), by omega, rfl, hlt, p'⟩, fun x H' y => ?_⟩
    obtain ⟨e, y⟩ := y
    subst e y
    exact hs i σ _ hlt p
  · have e : i = n := by omega
    subst e
    exact .inl ⟨Nat.le_refl _, hd σ H p⟩
end L2

namespace L2
open PySem PySem.Spec PyProof.Rows

noncomputable abbrev R2 := V → V → Hp → VK → Prop
/-- a two-place operation on values: f is binaryOp op, inplaceOp op or compareOp op -/
noncomputable def OpR (X : Cx) (f : Value → Value → Sem Value) (r : R2) : Prop :=
  ∀ (pins : List (Addr × Obj)) (s : Shared) (σ : St) (H : Hp) (x y : V) (v u : Value) (Q : VK), Inv X pins σ H s → RelV x v → RelV y u → r x y H Q →
    wpAny (model X.prog X.w) X.A (f v u) (EP X pins σ Q) X.xe s
/-- a one-place operation -/
noncomputable def UnR (X : Cx) (f : Value → Sem Value) (r : V → Hp → VK → Prop) : Prop :=
  ∀ (pins : List (Addr × Obj)) (s : Shared) (σ : St) (H : Hp) (x : V) (v : Value) (Q : VK), Inv X pins σ H s → RelV x v → r x H Q →
    wpAny (model X.prog X.w) X.A (f v) (EP X pins σ Q) X.xe s
/-- a call of a value that is known (a builtin, a type) with values -/
noncomputable def CallR (X : Cx) (f : Value) (r : List V → Hp → VK → Prop) : Prop :=
  ∀ (pins : List (Addr × Obj)) (s : Shared) (σ : St) (H : Hp) (xs : List V) (us : List Value) (Q : VK), Inv X pins σ H s → Vals xs us → r xs H Q →
    wpAny (model X.prog X.w) X.A (call f us) (EP X pins σ Q) X.xe s
noncomputable def tOp (r : R2) (ta tb : TE) : TE := fun σ H Q => ta σ H fun x H1 => tb σ H1 fun y H2 => r x y H2 Q
noncomputable def tUn (r : V → Hp → VK → Prop) (ta : TE) : TE := fun σ H Q => ta σ H fun x H1 => r x H1 Q
/-- ints in, under C, and a value out -/
noncomputable def rI (C : Int → Int → Prop) (g : Int → Int → V) : R2 := fun x y H Q => ∃ i j, x = .int i ∧ y = .int j ∧ C i j ∧ Q (g i j) H
noncomputable def rI0 (g : Int → Int → V) : R2 := fun x y H Q => ∃ i j, x = .int i ∧ y = .int j ∧ Q (g i j) H
noncomputable def rU (g : Int → V) : V → Hp → VK → Prop := fun x H Q => ∃ i, x = .int i ∧ Q (g i) H

section
variable {X : Cx} {a b c : Expr} {ta tb tc : TE} {pos : Pos}

theorem binT (ha : PE X a ta) (hb : PE X b tb) {pins : List (Addr × Obj)} {s : Shared} {σ : St} {H : Hp} {R : V → V → Hp → Prop} (I : Inv X pins σ H s)
    (h : ta σ H fun x H1 => tb σ H1 fun y H2 => R x y H2) {Q : Value → Shared → Prop} {f : Value → Value → Sem Value}
    (hf : ∀ v u s2 x y H2, Inv X pins σ H2 s2 → RelV x v → RelV y u → R x y H2 → wpAny (model X.prog X.w) X.A (f v u) Q X.xe s2) :
    wpAny (model X.prog X.w) X.A (eval a X.env) (fun v s₁ => wpAny (model X.prog X.w) X.A (eval b X.env) (fun u s₂ => wpAny (model X.prog X.w) X.A (f v u) Q X.xe s₂) X.xe s₁) X.xe s := by
  refine thn (ha pins s σ H _ I h) fun v s1 ⟨x, H1, I1, r1, q1⟩ => ?_
  refine thn (hb pins s1 σ H1 _ I1 q1) fun u s2 ⟨y, H2, I2, r2, q2⟩ => ?_
  exact hf v u s2 x y H2 I2 r1 r2 q2

theorem pe_op {op : Operator} {r : R2} (ho : OpR X (binaryOp op) r) (ha : PE X a ta) (hb : PE X b tb) : PE X (.BinOp a op b pos) (tOp r ta tb) := by
  intro pins s σ H Q I h
  exact wpAny_BinOp (binT ha hb I h fun v u s2 x y H2 I2 rx ry q => ho pins s2 σ H2 x y v u Q I2 rx ry q)
theorem pe_un {op : UnaryOp} {r : V → Hp → VK → Prop} (ho : UnR X (unaryOp op) r) (ha : PE X a ta) : PE X (.UnaryOp op a pos) (tUn r ta) := by
  intro pins s σ H Q I h
  exact UnaryOp_ (thn (ha pins s σ H _ I h) fun v s1 ⟨x, H1, I1, r1, q1⟩ => ho pins s1 σ H1 x v Q I1 r1 q1)
/-! ### ints -/
theorem opI {f : Value → Value → Sem Value} {C : Int → Int → Prop} {g : Int → Int → Int}
    (rule : ∀ (i j : Int) (t u : Tok) (s : Shared) (Q : Value → Shared → Prop) (E : Value → Shared → Prop), C i j → Q (.int (g i j) s.toks) { s with toks := s.toks + 1 } → wpAny (model X.prog X.w) X.A (f (.int i t) (.int j u)) Q E s) :
    OpR X f (rI C fun i j => .int (g i j)) := by
  intro pins s σ H x y v u Q I rx ry h
  obtain ⟨i, j, rfl, rfl, hc, q⟩ := h
  obtain ⟨t, rfl⟩ := rx
  obtain ⟨t', rfl⟩ := ry
  exact rule i j t t' s _ _ hc ⟨.int (g i j), H, I.tok _, ⟨_, rfl⟩, q⟩
theorem opI0 {f : Value → Value → Sem Value} {g : Int → Int → Int}
    (rule : ∀ (i j : Int) (t u : Tok) (s : Shared) (Q : Value → Shared → Prop) (E : Value → Shared → Prop), Q (.int (g i j) s.toks) { s with toks := s.toks + 1 } → wpAny (model X.prog X.w) X.A (f (.int i t) (.int j u)) Q E s) :
    OpR X f (rI0 fun i j => .int (g i j)) := by
  intro pins s σ H x y v u Q I rx ry h
  obtain ⟨i, j, rfl, rfl, q⟩ := h
  obtain ⟨t, rfl⟩ := rx
  obtain ⟨t', rfl⟩ := ry
  exact rule i j t t' s _ _ ⟨.int (g i j), H, I.tok _, ⟨_, rfl⟩, q⟩
theorem opB0 {f : Value → Value → Sem Value} {g : Int → Int → Bool}
    (rule : ∀ (i j : Int) (t u : Tok) (s : Shared) (Q : Value → Shared → Prop) (E : Value → Shared → Prop), Q (.bool (g i j)) s → wpAny (model X.prog X.w) X.A (f (.int i t) (.int j u)) Q E s) :
    OpR X f (rI0 fun i j => .bl (g i j)) := by
  intro pins s σ H x y v u Q I rx ry h
  obtain ⟨i, j, rfl, rfl, q⟩ := h
  obtain ⟨t, rfl⟩ := rx
  obtain ⟨t', rfl⟩ := ry
  exact rule i j t t' s _ _ ⟨.bl (g i j), H, I, rfl, q⟩

noncomputable def CPow (i j : Int) : Prop := 0 ≤ j ∧ j ≤ 1000000 ∧ i.natAbs < 2 ^ 64
noncomputable def CMul (i j : Int) : Prop := (-(2 ^ 64) < i ∧ i < 2 ^ 64) ∨ (-(2 ^ 64) < j ∧ j < 2 ^ 64)
theorem CMul.ok {i j : Int} (h : CMul i j) : IntMulOk i j := by
  rcases h with ⟨h1, h2⟩ | ⟨h1, h2⟩
  · exact .of_left (intBits_le_64 h1 h2)
  · exact .of_right (intBits_le_64 h1 h2)
theorem op_add : OpR X (binaryOp .Add) (rI0 fun i j => .int (i + j)) := opI0 fun _ _ _ _ _ _ _ q => add_int q
theorem op_sub : OpR X (binaryOp .Sub) (rI0 fun i j => .int (i - j)) := opI0 fun _ _ _ _ _ _ _ q => sub_int q
theorem op_modN : OpR X (binaryOp .Mod) (rI (fun _ j => j ≠ 0) fun i j => .int (i.fmod j)) := opI fun _ _ _ _ _ _ _ hc q => mod_int' hc q
theorem op_pow : OpR X (binaryOp .Pow) (rI CPow fun i j => .int (i ^ j.toNat)) := opI fun _ _ _ _ _ _ _ hc q => pow_int_small hc.1 hc.2.1 hc.2.2 q
theorem unI {f : Value → Sem Value} {g : Int → Int}
    (rule : ∀ (i : Int) (t : Tok) (s : Shared) (Q : Value → Shared → Prop) (E : Value → Shared → Prop), Q (.int (g i) s.toks) { s with toks := s.toks + 1 } → wpAny (model X.prog X.w) X.A (f (.int i t)) Q E s) :
    UnR X f (rU fun i => .int (g i)) := by
  intro pins s σ H x v Q I rx h
  obtain ⟨i, rfl, q⟩ := h
  obtain ⟨t, rfl⟩ := rx
  exact rule i t s _ _ ⟨.int (g i), H, I.tok _, ⟨_, rfl⟩, q⟩
theorem un_neg : UnR X (unaryOp .USub) (rU fun i => .int (-i)) := unI fun _ _ _ _ _ q => neg_int q
/-! ### bools among ints: n += (a < b) -/
end

/-! ### comparisons -/
/-- the scalars that == tells apart as data does -/
noncomputable def scal : V → V → Bool
  | .non, .non => true | .non, .int _ => true | .int _, .non => true | .non, .bl _ => true | .bl _, .non => true | .non, .str _ => true | .str _, .non => true
  | .int _, .int _ => true | .bl _, .bl _ => true | .str _, .str _ => true | .byt _, .byt _ => true
  | .int _, .str _ => true | .str _, .int _ => true | .bl _, .str _ => true | .str _, .bl _ => true
  | _, _ => false
noncomputable def rNe : R2 := fun x y H Q => scal x y = true ∧ Q (.bl (!decide (x = y))) H

theorem dec_int {i j : Int} : decide (V.int i = V.int j) = (i == j) := by
  rw [Bool.eq_iff_iff]
  simp
theorem dec_bl {i j : Bool} : decide (V.bl i = V.bl j) = (i == j) := by
  rw [Bool.eq_iff_iff]
  simp
theorem dec_str {i j : Str} : decide (V.str i = V.str j) = (i == j) := by
  rw [Bool.eq_iff_iff]
  simp
theorem dec_byt {i j : Array UInt8} : decide (V.byt i = V.byt j) = (i.toList == j.toList) := by
  rw [Bool.eq_iff_iff]
  cases i
  cases j
  simp

section
variable {X : Cx} {a b c : Expr} {ta tb tc : TE} {pos : Pos}
theorem fin_bl {pins : List (Addr × Obj)} {σ : St} {H : Hp} {s : Shared} {Q : VK} {k k' : Bool} (I : Inv X pins σ H s) (q : Q (.bl k) H) (e : k = k') : EP X pins σ Q (.bool k') s := by
  subst e
  exact ⟨.bl k, H, I, rfl, q⟩
theorem op_ne : OpR X (compareOp .NotEq) rNe := by
  intro pins s σ H x y v u Q I rx ry h
  obtain ⟨hs, q⟩ := h
  cases x with
  | non =>
    cases rx
    cases y with
    | non => cases ry; exact PySem.EqNone.ne_none_none (fin_bl I q (by simp))
    | bl j => cases ry; exact PySem.EqNone.ne_none_bool (fin_bl I q (by simp))
    | int j => obtain ⟨t', rfl⟩ := ry; exact PySem.EqNone.ne_none_int (fin_bl I q (by simp))
    | str j => obtain ⟨t', rfl⟩ := ry; exact PySem.EqNone.ne_none_str (fin_bl I q (by simp))
    | _ => exact absurd (show false = true from hs) Bool.false_ne_true
  | bl i =>
    cases rx
    cases y with
    | non => cases ry; exact PySem.EqNone.ne_bool_none (fin_bl I q (by simp))
    | bl j => cases ry; exact ne_bool (fin_bl I q (congrArg not dec_bl))
    | str j => obtain ⟨t', rfl⟩ := ry; exact PySem.EqMixed.ne_bool_str (fin_bl I q (by simp))
    | _ => exact absurd (show false = true from hs) Bool.false_ne_true
  | int i =>
    obtain ⟨t, rfl⟩ := rx
    cases y with
    | non => cases ry; exact PySem.EqNone.ne_int_none (fin_bl I q (by simp))
    | int j => obtain ⟨t', rfl⟩ := ry; exact ne_int (fin_bl I q (congrArg not dec_int))
    | str j => obtain ⟨t', rfl⟩ := ry; exact PySem.EqMixed.ne_int_str (fin_bl I q (by simp))
    | _ => exact absurd (show false = true from hs) Bool.false_ne_true
  | str i =>
    obtain ⟨t, rfl⟩ := rx
    cases y with
    | non => cases ry; exact PySem.EqNone.ne_str_none (fin_bl I q (by simp))
    | bl j => cases ry; exact PySem.EqMixed.ne_str_bool (fin_bl I q (by simp))
    | int j => obtain ⟨t', rfl⟩ := ry; exact PySem.EqMixed.ne_str_int (fin_bl I q (by simp))
    | str j => obtain ⟨t', rfl⟩ := ry; exact ne_str (fin_bl I q (congrArg not dec_str))
    | _ => exact absurd (show false = true from hs) Bool.false_ne_true
  | byt i =>
    obtain ⟨t, rfl⟩ := rx
    cases y with
    | byt j => obtain ⟨t', rfl⟩ := ry; exact PySem.W.ne_bytes (fin_bl I q (congrArg not dec_byt))
    | _ => exact absurd (show false = true from hs) Bool.false_ne_true
  | _ => cases y <;> exact absurd (show false = true from hs) Bool.false_ne_true

theorem op_lt : OpR X (compareOp .Lt) (rI0 fun i j => .bl (decide (i < j))) := opB0 fun _ _ _ _ _ _ _ q => lt_int q
theorem op_gt : OpR X (compareOp .Gt) (rI0 fun i j => .bl (decide (j < i))) := opB0 fun _ _ _ _ _ _ _ q => gt_int q
/-- is None, is not None: the right side a value none -/
theorem op_isN : OpR X (compareOp .Is) (fun x y H Q => y = .non ∧ Q (.bl (decide (x = .non))) H) := by
  intro pins s σ H x y v u Q I rx ry h
  obtain ⟨rfl, q⟩ := h
  cases ry
  refine is_none_gen (fin_bl I q ?_)
  cases x <;> first
    | (cases rx; rfl)
    | (obtain ⟨t, rfl⟩ := rx; rfl)
/-- two rules for one operation: by cases -/
theorem OpR.or {f : Value → Value → Sem Value} {r r' : R2} (h : OpR X f r) (h' : OpR X f r') : OpR X f (fun x y H Q => r x y H Q ∨ r' x y H Q) := by
  intro pins s σ H x y v u Q I rx ry q
  rcases q with q | q
  · exact h pins s σ H x y v u Q I rx ry q
  · exact h' pins s σ H x y v u Q I rx ry q

theorem nomark (b : Expr) {op : CmpOp} (h : op ≠ .In := by decide) (h2 : op ≠ .NotIn := by decide) : behindInMarks op b = false := by
  have e1 : (op == CmpOp.In) = false := by cases op <;> first | rfl | exact absurd rfl h
  have e2 : (op == CmpOp.NotIn) = false := by cases op <;> first | rfl | exact absurd rfl h2
  cases b <;> simp [behindInMarks, e1, e2]
/-- a comparison as a value; hm: nomark b, or (for in, not in) by with_unfolding_all rfl -/
theorem pe_cmpR {op : CmpOp} {r : R2} (ho : OpR X (compareOp op) r) (ha : PE X a ta) (hb : PE X b tb) (hm : behindInMarks op b = false) : PE X (.Compare a [op] [b] pos) (tOp r ta tb) := by
  intro pins s σ H Q I h
  exact wpAny_Compare1 (binT ha hb I h fun v u s2 x y H2 I2 rx ry q => ho pins s2 σ H2 x y v u Q I2 rx ry q) hm
/-- a reading of a value as a test -/
noncomputable def tTest (t : TE) : TT := fun σ H Q => t σ H fun x H' => ∃ k, x = .bl k ∧ Q k H'
theorem pt_cmpR {op : CmpOp} {r : R2} (ho : OpR X (compareOp op) r) (ha : PE X a ta) (hb : PE X b tb) (hm : behindInMarks op b = false) : PT X (.Compare a [op] [b] pos) (tTest (tOp r ta tb)) := by
  intro pins s σ H Q I h
  refine wpAny_isTrue_Compare1 (thn (ha pins s σ H _ I h) fun v s1 ⟨x, H1, I1, r1, q1⟩ => thn (hb pins s1 σ H1 _ I1 q1) fun u s2 ⟨y, H2, I2, r2, q2⟩ =>
    thn (ho pins s2 σ H2 x y v u _ I2 r1 r2 q2) fun c s3 ⟨z, H3, I3, r3, k, e, q3⟩ => ?_) hm
  subst e
  cases r3
  exact wpAny_truthy_bool ⟨H3, I3, q3⟩
/-! ### truth -/
theorem line63 : (sizeLine : Nat) < 2 ^ 63 := by rw [sizeLine_eq]; decide
/-! ### strs and bytes -/
theorem op_add_str : OpR X (binaryOp .Add) (fun x y H Q => ∃ i j, x = .str i ∧ y = .str j ∧ i.length + j.length ≤ sizeLine ∧ Q (.str (i ++ j)) H) := by
  intro pins s σ H x y v u Q I rx ry h
  obtain ⟨i, j, rfl, rfl, hz, q⟩ := h
  obtain ⟨t, rfl⟩ := rx
  obtain ⟨t', rfl⟩ := ry
  exact add_str (fun t' tk => ⟨.str (i ++ j), H, I.tok _, ⟨_, rfl⟩, q⟩) hz
/-! ### scalar builtins, by CallR -/
theorem vals1 {x : V} {us : List Value} (r : Vals [x] us) : ∃ u, us = [u] ∧ RelV x u := by
  cases r with
  | cons r1 r2 => cases r2; exact ⟨_, rfl, r1⟩
theorem vals2 {x y : V} {us : List Value} (r : Vals [x, y] us) : ∃ u w', us = [u, w'] ∧ RelV x u ∧ RelV y w' := by
  cases r with
  | cons r1 r2 =>
    cases r2 with
    | cons r3 r4 => cases r4; exact ⟨_, _, rfl, r1, r3⟩
theorem call_abs : CallR X (.builtin "abs") (fun xs H Q => ∃ i, xs = [.int i] ∧ Q (.int (if i < 0 then -i else i)) H) := by
  intro pins s σ H xs us Q I r h
  obtain ⟨i, rfl, q⟩ := h
  obtain ⟨u, rfl, t, rfl⟩ := vals1 r
  exact call_abs_int fun u tk => ⟨.int (if i < 0 then -i else i), H, I.tok _, ⟨_, rfl⟩, q⟩
theorem call_max2 (hc : X.calm = true) : CallR X (.builtin "max") (fun xs H Q => ∃ i j, xs = [.int i, .int j] ∧ Q (.int (if j > i then j else i)) H) := by
  intro pins s σ H xs us Q I r h
  obtain ⟨i, j, rfl, q⟩ := h
  obtain ⟨u, w', rfl, ⟨t, rfl⟩, ⟨t', rfl⟩⟩ := vals2 r
  refine max_two_ints (I.ok.hd hc) fun h' tk k => ⟨_, H, I.kept k, ?_, q⟩
  by_cases hj : j > i
  · rw [if_pos hj, if_pos hj]; exact ⟨_, rfl⟩
  · rw [if_neg hj, if_neg hj]; exact ⟨_, rfl⟩
end
end L2

namespace L2
open PySem PySem.Spec PyProof.Rows

/-! ### an instance, its attributes a map -/
structure ObjM (h : Heap) (x dx C : Addr) (mA : Str → Option Value) : Prop where
  obj : h.get? x = some (PySem.W.instObj C dx)
  ns : h.Ns1 dx mA
  ne : dx ≠ x

theorem lookIn_ns {h : Heap} {dx : Addr} {mA : Str → Option Value} (n : h.Ns1 dx mA) : ∃ od, h.get? dx = some od ∧ ∀ name, PySem.W.lookIn name od = some (mA name) := by
  obtain ⟨o, es, ep, ho, hd, hk, _, hm⟩ := n
  refine ⟨o, ho, fun name => ?_⟩
  have e := hm name
  unfold nsFind findBy at e
  rw [← Array.find?_toList] at e
  unfold PySem.W.lookIn
  rw [hd]
  dsimp only
  split
  · rename_i y q
    rw [q] at e
    exact congrArg some e
  · rename_i q
    rw [q] at e
    have a : es.toList.any (·.refKey) = false := by
      rw [List.any_eq_false]
      intro y hy
      obtain ⟨z, t, hkey⟩ := hk y (Array.mem_toList_iff.mp hy)
      simp [DictEntry.refKey, hkey]
    have a' : ¬ es.toList.any (·.refKey) = true := by rw [a]; exact Bool.false_ne_true
    rw [if_neg a']
    exact congrArg some e

theorem ObjM.look {h : Heap} {x dx C : Addr} {mA : Str → Option Value} (I : ObjM h x dx C mA) : ∃ od, PySem.W.InstAt h x (PySem.W.instObj C dx) C (some od) ∧ ∀ name, PySem.W.lookIn name od = some (mA name) :=
  let ⟨od, ho, hl⟩ := lookIn_ns I.ns
  ⟨od, ⟨I.obj, rfl, rfl, ho⟩, hl⟩

section
variable {prog : Program} {w : World} {A : Around} {E : Value → Shared → Prop} {s : Shared} {K : PySem.W.Frag} {x dx C f : Addr} {mA : Str → Option Value} {name : Str} {v : Value}

end

/-! ### the attributes as a list of pairs -/
theorem RelO.none_of {o : Option Value} (r : RelO none o) : o = none := by
  cases o with
  | none => rfl
  | some u => exact (show False from r).elim
section
variable {P : Program} {w : World} {H H' : Hp} {h h' : Heap} {a C dx : Addr} {fs fs' : List (Str × V)}
theorem ins_get (hok : HOk P w H h) (e : H a = some (.ins C dx fs)) : ∃ mA, ObjM h a dx C mA ∧ (∀ f, RelO (fs.lookup f) (mA f)) ∧ PySem.Within mA (fs.map (·.1)) ∧ fs.length ≤ 1000 ∧ H dx = some (.own a) := by
  obtain ⟨d, z, ne, ob, mA, n, r, q⟩ := (show ObjOk P w H h a (.ins C dx fs) from hok a _ e)
  exact ⟨mA, ⟨ob, n, ne⟩, r, q, z, d⟩
end

/-! ### what of the text a class must have -/
structure Cls (K : PySem.W.Frag) (C : Addr) : Prop where
  pg : PySem.W.plainGet K C Str.empty = true
  hd : PySem.W.hasDictIn K C = true
  po : PySem.W.plainOver K C = true
  sa : PySem.W.findIn K (.ref C) "__setattr__" = some (some (.builtin "object.__setattr__"))
theorem Cls.get {K : PySem.W.Frag} {C : Addr} (c : Cls K C) (f : Str) : PySem.W.plainGet K C f = true := c.pg
section
variable {X : Cx} {pins : List (Addr × Obj)} {σ : St} {H : Hp} {s : Shared} {a C dx : Addr} {fs : List (Str × V)} {f : Str} {v : V} {A : Around} {E : Value → Shared → Prop}

/-- a new instance, tracked, without attributes -/
theorem Inv.made (I : Inv X pins σ H s) : Inv X pins σ (upd (upd H s.heap.objs.size (.own (s.heap.objs.size + 1))) (s.heap.objs.size + 1) (.ins C s.heap.objs.size []))
    { s with heap := (s.heap.push PySem.W.emptyDict).push (PySem.W.instObj C s.heap.objs.size) } := by
  have e1 : (s.heap.push PySem.W.emptyDict).get? s.heap.objs.size = some PySem.W.emptyDict := Heap.get?_push_size s.heap rfl
  have e2 : ((s.heap.push PySem.W.emptyDict).push (PySem.W.instObj C s.heap.objs.size)).get? (s.heap.objs.size + 1) = some (PySem.W.instObj C s.heap.objs.size) := by
    have := Heap.get?_push_size (s.heap.push PySem.W.emptyDict) (o := PySem.W.instObj C s.heap.objs.size) rfl
    rwa [Heap.size_push] at this
  have e3 : (s.heap.push PySem.W.emptyDict).Ns s.heap.objs.size (fun _ => none) := ⟨PySem.W.emptyDict, #[], _, e1, rfl, (fun e he => absurd he (by simp)), fun _ => rfl⟩
  have I1 := I.laid (a := s.heap.objs.size) (o := .own (s.heap.objs.size + 1)) (h' := s.heap.push PySem.W.emptyDict) (t' := s.toks) (fun b u q => Heap.get?_push_of_some _ q) (Nat.le_refl _) ⟨_, e1⟩
  refine I1.laid (a := s.heap.objs.size + 1) (o := .ins C s.heap.objs.size []) (t' := s.toks) (fun b u q => Heap.get?_push_of_some _ q) (Nat.le_of_eq (Heap.size_push _ _)) ?_
  have ne : s.heap.objs.size ≠ s.heap.objs.size + 1 := Nat.ne_of_lt (Nat.lt_succ_self _)
  refine ⟨by rw [upd_ne ne, upd_same], Nat.zero_le _, ne, e2, fun _ => none, (Heap.Ns1.of_empty e3).at fun o q => Heap.get?_push_of_some _ q, fun _ => True.intro, fun y hy => absurd rfl hy⟩

end

/-! ### readings and rules -/
section
variable {X : Cx} {o e value : Expr} {f : Str} {pos pos' tpos : Pos} {ta tv : TE}
end

/-! ### isinstance -/
section
variable {X : Cx} {pins : List (Addr × Obj)} {σ : St} {H : Hp} {s : Shared} {A : Around} {E : Value → Shared → Prop} {Q : Value → Shared → Prop} {c : Value} {b : Bool}
/-- the type of a value, as the fragment's deciders take it; for an instance its class -/
inductive TyOf (K : PySem.W.Frag) (H : Hp) : V → Value → Prop where
  | non : TyOf K H .non (.type "NoneType")
  | bl (x : Bool) : TyOf K H (.bl x) (.type "bool")
  | int (i : Int) : TyOf K H (.int i) (.type "int")
  | str (x : Str) : TyOf K H (.str x) (.type "str")
  | flt (x : UInt64) : TyOf K H (.flt x) (.type "float")
  | lst {a : Addr} {xs : List V} (e : H a = some (.lst xs)) : TyOf K H (.ref a) (.type "list")
  | frz {a : Addr} {o : Obj} {xs : List V} (e : H a = some (.frz o (.lst xs))) : TyOf K H (.ref a) (.type "list")
  | tup {a : Addr} {xs : List V} (e : H a = some (.tup xs)) : TyOf K H (.ref a) (.type "tuple")
  | dK {a : Addr} {kvs : List (Key × V)} (e : H a = some (.dK kvs)) : TyOf K H (.ref a) (.type "dict")
  | dT {a : Addr} {kvs : List (List Key × V)} (e : H a = some (.dT kvs)) : TyOf K H (.ref a) (.type "dict")
  | ins {a C dx : Addr} {fs : List (Str × V)} (e : H a = some (.ins C dx fs)) (cl : Cls K C) (ha : PySem.W.findIn K (.ref C) "__class__" = some (some (.builtin "object.__class__")))
      (hn : PySem.W.specialIn K (.builtin "object.__class__") "__get__" = some (some (.builtin "getset_descriptor.__get__"))) (htk : PySem.W.takesIn K (.builtin "object.__class__") = some true)
      (hm : PySem.W.mroIn K C (.type "object") = some true) : TyOf K H (.ref a) (.ref C)
/-- isinstance(x, c) for one class c, a built-in or an own one: kitOne's answer -/
theorem isinst_ok {x : V} {u t : Value} (I : Inv X pins σ H s) (rx : RelV x u) (ty : TyOf X.K H x t) (e : PySem.W.kitOne X.K t c = some b) (h : ∀ tk, Q (.bool b) { s with toks := tk }) :
    wpAny (model X.prog X.w) A (call (.builtin "isinstance") [u, c]) Q E s := by
  cases ty with
  | non => cases (show u = Value.none from rx); exact PySem.W.kia_one PySem.W.kitx_none I.kIn True.intro e (fun z => nomatch z) h
  | bl y => cases (show u = Value.bool y from rx); exact PySem.W.kia_one PySem.W.kitx_bool I.kIn True.intro e (fun z => nomatch z) h
  | int i => obtain ⟨t, q⟩ := (show ∃ t, u = Value.int i t from rx); cases q; exact PySem.W.kia_one PySem.W.kitx_int I.kIn True.intro e (fun z => nomatch z) h
  | str y => obtain ⟨t, q⟩ := (show ∃ t, u = Value.str y t from rx); cases q; exact PySem.W.kia_one PySem.W.kitx_str I.kIn True.intro e (fun z => nomatch z) h
  | flt y => obtain ⟨t, q⟩ := (show ∃ t, u = Value.float y t from rx); cases q; exact PySem.W.kia_one PySem.W.kitx_float I.kIn True.intro e (fun z => nomatch z) h
  | @lst a xs ea =>
    cases (show u = Value.ref a from rx)
    obtain ⟨_, _, n, _, h1⟩ := (show ObjOk X.prog X.w H s.heap a (.lst xs) from I.hok a _ ea)
    exact PySem.W.kia_one PySem.W.kitx_list I.kIn ⟨_, h1, rfl⟩ e (fun z => nomatch z) h
  | @frz a ob xs ea =>
    cases (show u = Value.ref a from rx)
    obtain ⟨_, _, _, n, _, h1⟩ := (show ObjOk X.prog X.w H s.heap a (.frz ob (.lst xs)) from I.hok a _ ea)
    exact PySem.W.kia_one PySem.W.kitx_list I.kIn ⟨_, h1, rfl⟩ e (fun z => nomatch z) h
  | @tup a xs ea =>
    cases (show u = Value.ref a from rx)
    obtain ⟨_, _, _, p⟩ := (show ObjOk X.prog X.w H s.heap a (.tup xs) from I.hok a _ ea)
    obtain ⟨o, h1, h2, _⟩ := p
    exact PySem.W.kia_one PySem.W.kitx_tuple I.kIn ⟨o, h1, h2⟩ e (fun z => nomatch z) h
  | @dK a kvs ea =>
    cases (show u = Value.ref a from rx)
    obtain ⟨_, _, vs, _, p⟩ := (show ObjOk X.prog X.w H s.heap a (.dK kvs) from I.hok a _ ea)
    obtain ⟨o, es, ep, h1, h2, _⟩ := p
    exact PySem.W.kia_one PySem.W.kitx_dict I.kIn ⟨o, h1, h2.1⟩ e (fun z => nomatch z) h
  | @dT a kvs ea =>
    cases (show u = Value.ref a from rx)
    obtain ⟨_, _, xs, _, o, es, ep, h1, h2, _⟩ := (show ObjOk X.prog X.w H s.heap a (.dT kvs) from I.hok a _ ea)
    exact PySem.W.kia_one PySem.W.kitx_dict I.kIn ⟨o, h1, h2.1⟩ e (fun z => nomatch z) h
  | @ins a C dx fs ea cl ha hn htk hm =>
    cases (show u = Value.ref a from rx)
    obtain ⟨mA, O, _⟩ := ins_get I.hok ea
    obtain ⟨od, J, _⟩ := O.look
    exact PySem.W.kia_one (PySem.W.kitx_own (cl.get _) cl.hd ha hn htk hm) I.kIn J e (fun z => nomatch z) h
end
end L2

namespace L2
open PySem PySem.Spec PyProof.Rows

/-! ### room -/
structure Room (k : Nat) (A : Around) : Prop where
  hd : A.handled = none
  dp : A.depth + 3 * k + 5 < recursionLimit
  un : A.units + 16 * k + 200 < cLine
theorem Room.mono {j k : Nat} {A : Around} (r : Room k A) (h : j ≤ k) : Room j A := ⟨r.hd, by have := r.dp; omega, by have := r.un; omega⟩
theorem Room.deeper {k : Nat} {A : Around} (r : Room (k + 1) A) (env : Env) : Room k (A.deeper env) :=
  ⟨r.hd, by have := r.dp; show A.depth + 1 + 3 * k + 5 < _; omega, by have := r.un; show A.units + 3 + 16 * k + 200 < _; omega⟩
theorem Room.in1 {k : Nat} {A : Around} (r : Room (k + 1) A) : Room k A.in1 :=
  ⟨r.hd, by have := r.dp; show A.depth + 3 * k + 5 < _; omega, by have := r.un; show A.units + 1 + 16 * k + 200 < _; omega⟩
theorem Room.depth {k : Nat} {A : Around} (r : Room k A) : A.depth < recursionLimit := by have := r.dp; omega
theorem Room.units {k : Nat} {A : Around} (r : Room k A) : A.units + 64 < cLine := by have := r.un; omega
/-! ### argument lists and displays -/
noncomputable def tNil : TA := fun _ H Q => Q [] H
noncomputable def tCons (ta : TE) (tr : TA) : TA := fun σ H Q => ta σ H fun x H1 => tr σ H1 fun xs H2 => Q (x :: xs) H2
section
variable {X : Cx} {e : Expr} {es : List Expr} {te : TE} {t : TA} {pos : Pos}
theorem pa_nil : PA X [] tNil := fun _ _ _ _ H Q I h => Calls.spliced_nil ⟨[], H, I, .nil, h⟩
theorem pa_cons (ha : PE X e te) (hr : PA X es t) (hs : starEach (e :: es) X.env = (false, eval e X.env) :: starEach es X.env := by rfl) : PA X (e :: es) (tCons te t) := by
  intro pos pins s σ H Q I h
  rw [hs]
  show wpAny _ _ (spliced ((false, eval e X.env) :: backTo pos (starEach es X.env))) _ _ s
  refine Calls.spliced_cons (thn (ha pins s σ H _ I h) fun u s1 ⟨x, H1, I1, r1, q1⟩ => ?_)
  exact thn (hr pos pins s1 σ H1 _ I1 q1) fun us s2 ⟨xs, H2, I2, r2, q2⟩ => ⟨x :: xs, H2, I2, .cons r1 r2, q2⟩

/-- a tuple, a list of written items -/
noncomputable def tTup (t : TA) : TE := fun σ H Q => t σ H fun xs H1 => xs.length ≤ sizeLine ∧ ∀ p, H1 p = none → Q (.ref p) (upd H1 p (.tup xs))
noncomputable def tLst (t : TA) : TE := fun σ H Q => t σ H fun xs H1 => xs.length ≤ sizeLine ∧ ∀ p, H1 p = none → Q (.ref p) (upd H1 p (.lst xs))
theorem pe_tup {x1} (h : PA X es t) : PE X (.Tuple es x1 pos) (tTup t) := by
  intro pins s σ H Q I hq
  refine wpAny_Tuple_spliced (thn (h pos pins s σ H _ I hq) fun us s1 ⟨xs, H1, I1, r, z, q⟩ => ⟨by rw [← r.length]; exact z, ?_⟩)
  have hf : H1 s1.heap.objs.size = none := I1.hok.fresh (Nat.le_refl _)
  refine ⟨.ref s1.heap.objs.size, upd H1 s1.heap.objs.size (.tup xs), I1.laid (t' := s1.toks) (fun b u e => Heap.get?_push_of_some _ e) (Nat.le_refl _) ?_, rfl, q _ hf⟩
  exact ⟨z, us, r, ⟨_, Heap.get?_push_size _ rfl, rfl, _, rfl⟩⟩
theorem pe_lst (h : PA X es t) : PE X (.List es pos) (tLst t) := by
  intro pins s σ H Q I hq
  refine wpAny_List_spliced (thn (h pos pins s σ H _ I hq) fun us s1 ⟨xs, H1, I1, r, z, q⟩ => ⟨by rw [← r.length]; exact z, ?_⟩)
  have hf : H1 s1.heap.objs.size = none := I1.hok.fresh (Nat.le_refl _)
  refine ⟨.ref s1.heap.objs.size, upd H1 s1.heap.objs.size (.lst xs), I1.laid (t' := s1.toks) (fun b u e => Heap.get?_push_of_some _ e) (Nat.le_refl _) ?_, rfl, q _ hf⟩
  exact ⟨z, us, 0, r, Heap.get?_push_size _ rfl⟩
end

/-! ### what a def promises -/
/-- a def's promise: the bound arguments in the parameters' order, the heap, the wanted end, the wanted exception -/
noncomputable abbrev Sp := List V → Hp → VK → XK → Prop
/-- how an exception lies behind a call (file 08 gives it): the callers' frames, abstract heap and state ahead of the call, the wish, the exception, the state -/
noncomputable abbrev CXT := List Env → Hp → Shared → XK → Value → Shared → Prop

/-- the state at a call -/
structure Env0 (P : Program) (w : World) (K : PySem.W.Frag) (mg : Str → Option Value) (base : Heap) (A : Around) (outer : List Env) (s : Shared) (H : Hp) : Prop where
  frames : A.frames = some outer
  mod : Mod K mg base
  bs : ∀ b o, base.get? b = some o → s.heap.get? b = some o ∧ H b = none
  bsz : base.objs.size ≤ s.heap.objs.size
  funs : s.heap.FunFrames base outer
  frf : ∀ b ∈ frs outer, H b = none
  hok : HOk P w H s.heap
  bare : AllBare s.gens
/-- a call's end -/
noncomputable def CE (outer : List Env) (P : Program) (w : World) (H : Hp) (s : Shared) (Q : VK) (u : Value) (s' : Shared) : Prop :=
  ∃ v H', s'.os = s.os ∧ AllBare s'.gens ∧ Un (frs outer) [] H H' s.heap s'.heap ∧ HOk P w H' s'.heap ∧ RelV v u ∧ Q v H'
noncomputable def CR (CX : CXT) (outer : List Env) (P : Program) (w : World) (H : Hp) (s : Shared) (Q : VK) (E : XK) (r : Result) (s' : Shared) : Prop :=
  match r with
  | .ok (.ret u) => CE outer P w H s Q u s'
  | .ok _ => False
  | .error e => CX outer H s E e s'
structure FnOk (P : Program) (w : World) (K : PySem.W.Frag) (mg : Str → Option Value) (base : Heap) (CX : CXT) (k : Nat) (f : Addr) (fd : FuncData) (ps : List Str) (sp : Sp) : Prop where
  len : ∀ vs H Q E, sp vs H Q E → vs.length = ps.length
  run : ∀ (A : Around) (outer : List Env) (s : Shared) (H : Hp) (args : Args) (us : List Value) (vs : List V) (Q : VK) (E : XK), Room k A → Env0 P w K mg base A outer s H → BindsTo s fd args (ps.zip us) → Vals vs us → sp vs H Q E →
    codeAny (model P w) A (.call (.ref f) args) (CR CX outer P w H s Q E) s
theorem FnOk.mono {P : Program} {w : World} {K : PySem.W.Frag} {mg : Str → Option Value} {base : Heap} {CX : CXT} {j k : Nat} {f : Addr} {fd : FuncData} {ps : List Str} {sp : Sp} (F : FnOk P w K mg base CX j f fd ps sp) (h : j ≤ k) :
    FnOk P w K mg base CX k f fd ps sp := ⟨F.len, fun A outer s H args us vs Q E hr => F.run A outer s H args us vs Q E (hr.mono h)⟩
/-- a weaker promise -/
theorem FnOk.imp {P : Program} {w : World} {K : PySem.W.Frag} {mg : Str → Option Value} {base : Heap} {CX : CXT} {k : Nat} {f : Addr} {fd : FuncData} {ps : List Str} {sp sp' : Sp} (F : FnOk P w K mg base CX k f fd ps sp)
    (h : ∀ vs H Q E, sp' vs H Q E → sp vs H Q E) : FnOk P w K mg base CX k f fd ps sp' :=
  ⟨fun vs H Q E q => F.len vs H Q E (h _ _ _ _ q), fun A outer s H args us vs Q E hr he hb hv hs => F.run A outer s H args us vs Q E hr he hb hv (h _ _ _ _ hs)⟩

theorem Env0.in1 {P : Program} {w : World} {K : PySem.W.Frag} {mg : Str → Option Value} {base : Heap} {A : Around} {outer : List Env} {s : Shared} {H : Hp} (e : Env0 P w K mg base A outer s H) :
    Env0 P w K mg base A.in1 outer s H := ⟨e.frames, e.mod, e.bs, e.bsz, e.funs, e.frf, e.hok, e.bare⟩

section
variable {X : Cx} {pins : List (Addr × Obj)} {σ : St} {H : Hp} {s s' : Shared}
/-- from a body: what a callee wants -/
theorem Inv.env0 (I : Inv X pins σ H s) : Env0 X.prog X.w X.K X.mg X.base X.A X.stack s H :=
  ⟨I.ok.frames, I.ok.mod, I.bs, Nat.le_trans I.ok.bsz I.sz, I.stack, I.stkFree, I.hok, I.bare⟩
/-- behind a call -/
theorem Inv.after {Q : VK} {u : Value} (I : Inv X pins σ H s) (h : CE X.stack X.prog X.w H s Q u s') : EP X pins σ Q u s' := by
  obtain ⟨v, H', os, bare, un, hok, r, q⟩ := h
  obtain ⟨hh, g, d, t, os'⟩ := s'
  obtain rfl : os' = s.os := os
  exact ⟨v, H', I.call (h' := hh) (g' := g) (d' := d) (t' := t) (ch := []) un hok bare (fun b z => absurd z (by simp)), r, q⟩
end

/-! ### calls -/
/-- f(..): the written arguments, then the defaults dvs; E: what is wanted of an exception -/
noncomputable def tCall (sp : Sp) (dvs : List V) (E : XK) (t : TA) : TE := fun σ H Q => t σ H fun vs H1 => sp (vs ++ dvs) H1 Q E
/-- how the parameters are bound: us the positional arguments, kw the keywords' values by name, ds the defaults that fill up -/
noncomputable def Binds (K : PySem.W.Frag) (fd : FuncData) (ps : List Str) (ds : List Value) : Prop :=
  ∀ (s : Shared) (us : List Value), K.In s.heap → (us ++ ds).length = ps.length → BindsTo s fd ⟨us, []⟩ (ps.zip (us ++ ds))
/-- every parameter is given -/
theorem Binds.all {K : PySem.W.Frag} {fd : FuncData} {ps : List Str} (h : ∀ us : List Value, us.length = ps.length → bindArgs fd ⟨us, []⟩ = pure (ps.zip us)) : Binds K fd ps [] := fun s us _ hl => by
  rw [List.append_nil] at hl ⊢
  exact .of_eq (h us hl)

/-- an exception of a callee reaches what this body wants of exceptions -/
noncomputable def Passes (CX : CXT) (X : Cx) (E : XK) : Prop := ∀ (pins : List (Addr × Obj)) (σ : St) (H : Hp) (s : Shared) (e : Value) (s' : Shared), Inv X pins σ H s → CX X.stack H s E e s' → X.xe e s'

section
variable {X : Cx} {CX : CXT} {k : Nat} {f C : Addr} {fd : FuncData} {ps : List Str} {sp : Sp} {dvs : List V} {ds : List Value} {E : XK} {x m : Str} {p pos apos : Pos} {e o : Expr} {es : List Expr} {ta : TE} {t : TA}

/-- the callee runs -/
theorem run_fn {pins : List (Addr × Obj)} {σ : St} {H : Hp} {s : Shared} {Q : VK} {us : List Value} {vs : List V} (F : FnOk X.prog X.w X.K X.mg X.base CX k f fd ps sp) (hr : Room k X.A) (hb : Binds X.K fd ps ds) (hd : Vals dvs ds) (hx : Passes CX X E)
    (I : Inv X pins σ H s) (r : Vals vs us) (h : sp (vs ++ dvs) H Q E) : wpAny (model X.prog X.w) X.A (call (.ref f) us) (EP X pins σ Q) X.xe s := by
  have r2 : Vals (vs ++ dvs) (us ++ ds) := r.append hd
  have hl : (us ++ ds).length = ps.length := by rw [← r2.length]; exact F.len _ _ _ _ h
  refine wpAny_call (codeAny_mono (F.run X.A X.stack s H ⟨us, []⟩ (us ++ ds) (vs ++ dvs) Q E hr I.env0 (hb s us I.kIn hl) r2 h) fun r s' hq => ?_)
  cases r with
  | error e => exact hx pins σ H s e s' I hq
  | ok fl =>
    cases fl with
    | ret u => exact I.after hq
    | next => exact False.elim hq
    | brk => exact False.elim hq
    | cont => exact False.elim hq

theorem pe_call (F : FnOk X.prog X.w X.K X.mg X.base CX k f fd ps sp) (hr : Room k X.A) (hg : Gl X x) (hm : X.mg x = some (.ref f)) (hk : PySem.W.keepIn X.K (.ref f) = true) (hb : Binds X.K fd ps ds) (hd : Vals dvs ds) (hx : Passes CX X E)
    (ha : PA X (e :: es) t) (hdb : (x == ("__debug__" : Str)) = false := by decide) (he : starEach (e :: es) X.env = (false, eval e X.env) :: starEach es X.env := by rfl) (hpl : (backTo pos (starEach es X.env)).any (·.1) = false := by rfl) :
    PE X (.Call (.Name x p) (e :: es) [] pos) (tCall sp dvs E t) := by
  intro pins s σ H Q I h
  refine wpAny_Call_Name_kw (ld_glob I hg hm ?_ hdb)
  refine PySem.W.callWith_K (h₀ := X.base) I.ok.mod.kin hk (thn (ha pos pins s σ H _ I h) fun us s1 ⟨vs, H1, I1, r, q⟩ => ⟨I1.kIn, ?_⟩) he hpl
  exact run_fn F hr hb hd hx I1 r q
end

/-! ### keywords -/
section
variable {X : Cx} {CX : CXT} {k : Nat} {f C : Addr} {fd : FuncData} {ps ks : List Str} {sp : Sp} {E : XK} {x m : Str} {p pos apos kpos : Pos} {e o : Expr} {es : List Expr} {kws : List Keyword} {te ta : TE} {t tk : TA} {nm : Option Str}
variable {g : List Value → List Value → List Value} {gV : List V → List V → List V}
end

/-! ### a def's body keeps its promise -/
/-- names: the parameters first -/
structure FnScope (N P : List Str) (sc : Scope) : Prop where
  kind : sc.kind = .function
  co : sc.isCoroutine = false
  gen : sc.isGenerator = false
  nd : N.Nodup
  pre : N.take P.length = P
  par : ∀ x ∈ P, sc.names.lookup x = some .local ∨ sc.names.lookup x = some .cell
  nofree : ∀ y ∈ sc.names, y.2 ≠ .free

theorem bindL_out {kindOf : Str → Option NameKind} {x : Str} : ∀ {binds : List (Str × Value)} {m : Str → Option Value}, (∀ v, (x, v) ∉ binds) → bindL kindOf binds m x = m x
  | [], _, _ => rfl
  | (n, v) :: r, m, h => by
    unfold bindL
    rw [bindL_out fun w hw => h w (List.mem_cons_of_mem _ hw)]
    split
    · have : x ≠ n := by rintro rfl; exact h v List.mem_cons_self
      simp [this]
    · rfl
theorem bindC_out {kindOf : Str → Option NameKind} {x : Str} : ∀ {binds : List (Str × Value)} {m : Str → Option Value}, (∀ v, (x, v) ∉ binds) → bindC kindOf binds m x = m x
  | [], _, _ => rfl
  | (n, v) :: r, m, h => by
    unfold bindC
    rw [bindC_out fun w hw => h w (List.mem_cons_of_mem _ hw)]
    split
    · rfl
    · have : x ≠ n := by rintro rfl; exact h v List.mem_cons_self
      simp [this]
theorem bindL_get {kindOf : Str → Option NameKind} {x : Str} {v : Value} : ∀ {P : List Str} {vs : List Value} {i : Nat} {m : Str → Option Value}, P.Nodup → P[i]? = some x → vs[i]? = some v → kindOf x = some .local →
    bindL kindOf (P.zip vs) m x = some v
  | [], _, _, _, _, h, _, _ => by simp at h
  | _ :: _, [], _, _, _, _, h, _ => by simp at h
  | p :: P, w :: vs, 0, m, nd, h1, h2, hk => by
    simp at h1 h2; subst h1; subst h2
    show bindL kindOf ((p, w) :: P.zip vs) m p = _
    unfold bindL
    rw [bindL_out fun v hv => (List.nodup_cons.mp nd).1 (List.of_mem_zip hv).1, if_pos hk]
    simp
  | p :: P, w :: vs, i + 1, m, nd, h1, h2, hk => by
    show bindL kindOf ((p, w) :: P.zip vs) m x = _
    unfold bindL
    exact bindL_get (i := i) (List.nodup_cons.mp nd).2 (by simpa using h1) (by simpa using h2) hk
theorem bindC_get {kindOf : Str → Option NameKind} {x : Str} {v : Value} : ∀ {P : List Str} {vs : List Value} {i : Nat} {m : Str → Option Value}, P.Nodup → P[i]? = some x → vs[i]? = some v → kindOf x ≠ some .local →
    bindC kindOf (P.zip vs) m x = some v
  | [], _, _, _, _, h, _, _ => by simp at h
  | _ :: _, [], _, _, _, _, h, _ => by simp at h
  | p :: P, w :: vs, 0, m, nd, h1, h2, hk => by
    simp at h1 h2; subst h1; subst h2
    show bindC kindOf ((p, w) :: P.zip vs) m p = _
    unfold bindC
    rw [bindC_out fun v hv => (List.nodup_cons.mp nd).1 (List.of_mem_zip hv).1, if_neg hk]
    simp
  | p :: P, w :: vs, i + 1, m, nd, h1, h2, hk => by
    show bindC kindOf ((p, w) :: P.zip vs) m x = _
    unfold bindC
    exact bindC_get (i := i) (List.nodup_cons.mp nd).2 (by simpa using h1) (by simpa using h2) hk

/-- the names' values at the entry -/
noncomputable def start (N : List Str) (vs : List V) : St := vs.map some ++ List.replicate (N.length - vs.length) none

/-- the context of a def's body, at its entry; an exception leaves the frame, then lies as CX says -/
noncomputable def cxOf (CX : CXT) (P : Program) (w : World) (K : PySem.W.Frag) (mg : Str → Option Value) (base : Heap) (N : List Str) (qual : Str) (scope : Scope) (f : Addr) (cd : Value) (A : Around) (outer : List Env) (s : Shared) (H : Hp) (E : XK) : Cx where
  prog := P
  w := w
  K := K
  mg := mg
  base := base
  A := A.deeper (envOfC qual scope s.heap.objs.size f cd)
  N := N
  s₀ := s
  H₀ := H
  env := envOfC qual scope s.heap.objs.size f cd
  outer := outer
  stack := envOfC qual scope s.heap.objs.size f cd :: outer
  ex := []
  calm := true
  fn := fun _ => true
  pn := []
  xe := fun e s' => wpAny (model P w) (A.deeper (envOfC qual scope s.heap.objs.size f cd)) (leaving (envOfC qual scope s.heap.objs.size f cd) e) (fun _ s'' => CX outer H s E e s'') (fun e' s'' => CX outer H s E e' s'') s'

theorem cell_has {sc : Scope} {n : Nat} {x : Str} (h : sc.names.lookup x = some .cell) : ∃ c, (cellsFrom n sc.names []).lookup x = some c := by
  have q := PySem.W.cellsFrom_some sc.names n [] (.inl h)
  exact Option.isSome_iff_exists.mp q

theorem inv_start {CX : CXT} {P : Program} {w : World} {K : PySem.W.Frag} {mg : Str → Option Value} {base : Heap} {N ps : List Str} {qual : Str} {scope : Scope} {f : Addr} {cd : Value} {A : Around} {outer : List Env} {s s1 : Shared} {H : Hp} {E : XK} {us : List Value} {vs : List V}
    (S : FnScope N ps scope) (hd : A.handled = none) (e0 : Env0 P w K mg base A outer s H) (hl : vs.length = ps.length) (r : Vals vs us)
    (x : InCallC s s.heap.objs.size (bindL (envOfC qual scope s.heap.objs.size f cd).kindOf (ps.zip us) fun _ => none) (cellsFrom (s.heap.objs.size + 1) scope.names []) (bindC (envOfC qual scope s.heap.objs.size f cd).kindOf (ps.zip us) fun _ => none) s1) :
    Inv (cxOf CX P w K mg base N qual scope f cd A outer s H E) [] (start N vs) H s1 := by
  have hpl : ps.length ≤ N.length := by have := congrArg List.length S.pre; rw [List.length_take] at this; omega
  obtain ⟨h1, tk, rfl, hk⟩ := x.done
  have noA : ∀ b : Addr, b ∉ (cxOf CX P w K mg base N qual scope f cd A outer s H E).ex := fun b z => absurd (show b ∈ ([] : List Addr) from z) (by simp)
  refine ⟨⟨e0.mod, S.kind, rfl, rfl, Nat.le_refl _, fun y z c h1 h2 => ?_, fun y hy => ?_, fun y c _ h => ?_, fun _ => hd, Around.frames_deeper e0.frames, .inr ⟨rfl, rfl⟩, fun b z => absurd z (noA b), e0.bs, e0.bsz, fun b _ _ => noA b, fun b z => absurd z (noA b), e0.funs, e0.frf⟩,
    rfl, e0.bare, Un.kept hk, ⟨_, x.toInCall.ns, fun i y v h1 h2 h3 => ?_⟩, fun y c h => ⟨_, x.cell y c h⟩, e0.hok.fresh (Nat.le_refl _), fun y c h => ?_, fun p hp => absurd (show p ∈ ([] : List (Addr × Obj)) from hp) (by simp), e0.hok.kept hk, ?_⟩
  · exact name_of_addr x.apart (PySem.mem_of_lookup h1) (PySem.mem_of_lookup h2)
  · have hy : scope.names.lookup y = some .cell ∨ scope.names.lookup y = some .free := hy
    rcases hy with hy | hy
    · exact cell_has hy
    · exact absurd rfl (S.nofree _ (PySem.mem_of_lookup hy))
  · exact Nat.le_of_lt (x.above y c (PySem.mem_of_lookup h))
  · have hi : i < vs.length := by
      unfold start at h2
      by_cases hi : i < vs.length
      · exact hi
      · rw [List.getElem?_append_right (by simpa using hi)] at h2
        rw [List.getElem?_replicate] at h2
        split at h2 <;> cases h2
    have ha : vs[i]? = some v := by
      unfold start at h2
      rw [List.getElem?_append_left (by simpa using hi), List.getElem?_map] at h2
      cases e : vs[i]? with
      | none => rw [e] at h2; cases h2
      | some a => rw [e] at h2; cases h2; rfl
    obtain ⟨u, hu, rv⟩ := r.get ha
    have hp : ps[i]? = some y := by
      rw [← S.pre, List.getElem?_take_of_lt (by omega)]; exact h1
    have ndP : ps.Nodup := by rw [← S.pre]; exact S.nd.sublist (List.take_sublist _ _)
    refine ⟨u, rv, ?_⟩
    rcases S.par y (List.mem_of_getElem? hp) with k | k
    · exact .inl ⟨k, bindL_get ndP hp hu k⟩
    · obtain ⟨c, e⟩ := cell_has (n := s.heap.objs.size + 1) k
      refine .inr ⟨.inl k, c, e, ?_⟩
      have q := x.cell y c e
      rw [bindC_get ndP hp hu (by show scope.names.lookup y ≠ _; rw [k]; decide)] at q
      exact q
  · exact e0.hok.fresh (Nat.le_of_lt (x.above y c (PySem.mem_of_lookup h)))
  · unfold start
    show _ = N.length
    rw [List.length_append, List.length_map, List.length_replicate]
    omega

/-- THE RULE: a def (or a method) of the text, by its body. The body's reading t is chosen for each entry; it is run at the parameters' values -/
theorem fn_of {CX : CXT} {P : Program} {w : World} {K : PySem.W.Frag} {mg : Str → Option Value} {base : Heap} {k : Nat} {f : Addr} {name qual : Str} {params : Arguments} {body : List Stmt} {scope : Scope} {dV kV doc pm cdv ct oc : Value} {an od : Option Addr}
    {osl : Array (Option Value)} {N ps : List Str} {sp : Sp} (lk : K.lookup f = some ⟨oc, od, .func (PySem.W.fnOf name qual params body scope dV kV doc pm an cdv ct), osl⟩) (hcd : PySem.W.codeIn K cdv qual = true) (S : FnScope N ps scope)
    (len : ∀ vs H Q E, sp vs H Q E → vs.length = ps.length)
    (hbody : ∀ (A : Around) (outer : List Env) (s : Shared) (H : Hp) (vs : List V) (Q : VK) (E : XK), Room k (A.deeper (envOfC qual scope s.heap.objs.size f cdv)) → sp vs H Q E →
      ∃ t, PSs (cxOf CX P w K mg base N qual scope f cdv A outer s H E) body t ∧ t { nx := fun _ H' => Q .non H', rt := Q } (start N vs) H) :
    FnOk P w K mg base CX (k + 1) f (PySem.W.fnOf name qual params body scope dV kV doc pm an cdv ct) ps sp := by
  refine ⟨len, fun A outer s H args us vs Q E hr e0 hb r hsp => ?_⟩
  have hl := len _ _ _ _ hsp
  have KX : K.In s.heap := e0.mod.kin.keeps fun b o e => (e0.bs b o e).1
  have lim : s.heap.NoLimit := e0.mod.nolimit.keeps fun b o e => (e0.bs b o e).1
  have hkind : ∀ y ∈ ps.zip us, scope.names.lookup y.1 = some .local ∨ (scope.names.lookup y.1 = some .cell ∧ ((cellsFrom (s.heap.objs.size + 1) scope.names []).lookup y.1).isSome = true) := fun ⟨n, v⟩ hy => by
    rcases S.par n (List.of_mem_zip hy).1 with q | q
    · exact .inl q
    · exact .inr ⟨q, PySem.W.cellsFrom_some _ _ _ (.inl q)⟩
  refine codeAny_call_function hr.depth (KX _ _ lk) rfl S.co S.gen rfl (PySem.W.codeRec_of KX hcd) (hb _ _ _ _ ?_)
  refine wpAny_newFunctionEnv_cells S.kind hkind fun env he s1 x => ?_
  subst he
  refine ⟨lim.keeps x.toInCall.keep, codeAny_func ?_⟩
  obtain ⟨t, ht, hq⟩ := hbody A outer s H vs Q E (hr.deeper _) hsp
  have I : Inv (cxOf CX P w K mg base N qual scope f cdv A outer s H E) [] (start N vs) H s1 := inv_start S hr.hd e0 hl r x
  refine wpAny_mono (ht [] s1 (start N vs) H _ I hq) (fun fl s' hs => ?_) fun e s' hs => hs
  have fin : ∀ {σ' : St} {H' : Hp} {v : V} {u : Value}, Inv (cxOf CX P w K mg base N qual scope f cdv A outer s H E) [] σ' H' s' → RelV v u → Q v H' → CE outer P w H s Q u s' :=
    fun {σ' H' v u} J rv q => ⟨v, H', J.os, J.bare, J.base, J.hok, rv, q⟩
  cases fl with
  | ret u =>
    obtain ⟨v, σ', H', J, rv, q⟩ := hs
    exact fin J rv q
  | next =>
    obtain ⟨σ', H', J, q⟩ := hs
    exact fin (v := V.non) (u := Value.none) J rfl q
  | brk =>
    obtain ⟨_, _, _, q⟩ := hs
    exact False.elim q
  | cont =>
    obtain ⟨_, _, _, q⟩ := hs
    exact False.elim q
end L2

namespace L2
open PySem PySem.Spec PyProof.Rows
section
variable {X : Cx} {x : Str} {p pos : Pos} {e : Expr} {es : List Expr} {t : TA} {id T : String} {r : List V → Hp → VK → Prop}

noncomputable def tCB (r : List V → Hp → VK → Prop) (t : TA) : TE := fun σ H Q => t σ H fun vs H1 => r vs H1 Q
/-- f(e, ..), f a built-in function -/
theorem pe_callB (hc : CallR X (.builtin id) r) (hg : Gl X x) (hm : X.mg x = none) (hv : bootBuiltins x = some (.builtin id)) (ha : PA X (e :: es) t) (hn : x ≠ "__name__" := by decide) (hdb : (x == ("__debug__" : Str)) = false := by decide)
    (he : starEach (e :: es) X.env = (false, eval e X.env) :: starEach es X.env := by rfl) (hpl : (backTo pos (starEach es X.env)).any (·.1) = false := by rfl) : PE X (.Call (.Name x p) (e :: es) [] pos) (tCB r t) := by
  intro pins s σ H Q I h
  refine wpAny_Call_Name_kw (ld_blt I hg hm hv ?_ hn hdb)
  exact PyProof.Rows.callWith_builtin1 (thn (ha pos pins s σ H _ I h) fun us s1 ⟨vs, H1, I1, r1, q1⟩ => hc pins s1 σ H1 vs us Q I1 r1 q1) he hpl
/-- T(e, ..), T a built-in type -/
theorem pe_callTy (hc : CallR X (.type T) r) (hg : Gl X x) (hm : X.mg x = none) (hv : bootBuiltins x = some (.type T)) (ha : PA X (e :: es) t) (hn : x ≠ "__name__" := by decide) (hdb : (x == ("__debug__" : Str)) = false := by decide)
    (he : starEach (e :: es) X.env = (false, eval e X.env) :: starEach es X.env := by rfl) (hpl : (backTo pos (starEach es X.env)).any (·.1) = false := by rfl) : PE X (.Call (.Name x p) (e :: es) [] pos) (tCB r t) := by
  intro pins s σ H Q I h
  refine wpAny_Call_Name_kw (ld_blt I hg hm hv ?_ hn hdb)
  exact PyProof.Rows.callWith_type1 (thn (ha pos pins s σ H _ I h) fun us s1 ⟨vs, H1, I1, r1, q1⟩ => hc pins s1 σ H1 vs us Q I1 r1 q1) he hpl
end
end L2

namespace HT
open PySem PyProof.Rows

section
open PySem.SeqAt
open PySem.AutoSeq1 (wpAny_loadPart')
open PySem.MeetsSeq PySem.MeetsSeq2 PySem.MeetsSeq3

end

section
variable {prog : Program} {w : World} {A : Around} {E : Value → Shared → Prop} {s : Shared}

/-! ### t[a:b], not the whole -/
end
end HT

namespace L2
open PySem PySem.Spec PyProof.Rows

/-! ### the parts of a slice -/
noncomputable abbrev TO := St → Hp → (Option Int → Hp → Prop) → Prop
noncomputable def tNoPart : TO := fun _ H Q => Q none H
noncomputable def tPart (t : TE) : TO := fun σ H Q => t σ H fun x H1 => ∃ i, x = .int i ∧ Q (some i) H1

section
variable {X : Cx} {e : Expr} {te : TE} {lo hi : Option Expr} {tl th : TO} {pos p2 : Pos}

/-- what a slice of a value is, by values: the slice object stands at sl -/
noncomputable def SlR (X : Cx) (r : V → Option Int → Option Int → Hp → VK → Prop) : Prop :=
  ∀ (pins : List (Addr × Obj)) (s : Shared) (σ : St) (H : Hp) (x : V) (v vl vu : Value) (lo hi : Option Int) (sl : Addr) (Q : VK), Inv X pins σ H s → RelV x v → s.heap.IsSliceOf sl vl vu .none → IsPart vl lo → IsPart vu hi → r x lo hi H Q →
    ∃ T id, typeLookup (.type T) "__getitem__" = pure (some (.builtin id)) ∧ s.TypeIs v T ∧ wpAny (model X.prog X.w) X.A (getItem v (.ref sl)) (EP X pins σ Q) X.xe s
theorem SlR.or {r r' : V → Option Int → Option Int → Hp → VK → Prop} (h : SlR X r) (h' : SlR X r') : SlR X (fun x lo hi H Q => r x lo hi H Q ∨ r' x lo hi H Q) := by
  intro pins s σ H x v vl vu lo hi sl Q I rx hs pl pu q
  rcases q with q | q
  · exact h pins s σ H x v vl vu lo hi sl Q I rx hs pl pu q
  · exact h' pins s σ H x v vl vu lo hi sl Q I rx hs pl pu q
noncomputable def tSl (r : V → Option Int → Option Int → Hp → VK → Prop) (te : TE) (tl th : TO) : TE := fun σ H Q => te σ H fun x H1 => tl σ H1 fun l H2 => th σ H2 fun u H3 => r x l u H3 Q
/-! ### t < u, t + u -/
end
end L2

namespace L2
open PySem PySem.Spec PyProof.Rows

/-! ### places -/
/-- the place that an index of any sign means -/
noncomputable def ixN (n : Nat) (i : Int) : Option Nat := if 0 ≤ i then (if i < n then some i.toNat else none) else if -(n : Int) ≤ i then some (i + n).toNat else none
noncomputable def atI {α : Type} (xs : List α) (i : Int) : Option α := (ixN xs.length i).bind fun j => xs[j]?
theorem ixN_seq {n : Nat} {i : Int} {j : Nat} (h : ixN n i = some j) : seqIndex? i n = some j ∧ j < n ∧ -(n : Int) ≤ i ∧ i < n := by
  unfold ixN at h
  by_cases h0 : 0 ≤ i
  · rw [if_pos h0] at h
    by_cases h1 : i < n
    · rw [if_pos h1] at h
      have e : i.toNat = j := Option.some.inj h
      exact ⟨by rw [seqIndex_of h0 h1, e], by omega, by omega, h1⟩
    · rw [if_neg h1] at h; cases h
  · rw [if_neg h0] at h
    by_cases h1 : -(n : Int) ≤ i
    · rw [if_pos h1] at h
      have e : (i + n).toNat = j := Option.some.inj h
      exact ⟨by rw [seqIndex_neg (by omega) h1, e], by omega, h1, by omega⟩
    · rw [if_neg h1] at h; cases h
theorem atI_get {α : Type} {xs : List α} {i : Int} {v : α} (h : atI xs i = some v) : ∃ j, seqIndex? i xs.length = some j ∧ xs[j]? = some v ∧ j < xs.length ∧ -(xs.length : Int) ≤ i ∧ i < xs.length := by
  unfold atI at h
  cases e : ixN xs.length i with
  | none => rw [e] at h; cases h
  | some j =>
    rw [e] at h
    obtain ⟨h1, h2, h3, h4⟩ := ixN_seq e
    exact ⟨j, h1, h, h2, h3, h4⟩
theorem atI_nat {α : Type} {xs : List α} {j : Nat} {v : α} (h : xs[j]? = some v) : atI xs (j : Int) = some v := by
  have hj : j < xs.length := (List.getElem?_eq_some_iff.mp h).1
  have e : ixN xs.length (j : Int) = some j := by
    unfold ixN
    rw [if_pos (by omega), if_pos (by omega)]; simp
  unfold atI; rw [e]; exact h
/-! ### what may be subscripted -/
/-- what stands as an index of a plain subscript -/
noncomputable def PlainIx (b : Expr) : Prop := ∀ o i, subscripted b false o i = operate [o, i] (getItem o i)
/-- a subscript by values -/
noncomputable def IxR (X : Cx) (r : R2) : Prop :=
  ∀ (value slice : Expr) (pins : List (Addr × Obj)) (s : Shared) (σ : St) (H : Hp) (x y : V) (v u : Value) (Q : VK), Inv X pins σ H s → RelV x v → RelV y u → r x y H Q →
    subscripted slice false v u = operate [v, u] (getItem v u) → wpAny (model X.prog X.w) X.A (subscriptTail value slice v u) (EP X pins σ Q) X.xe s
/-- a call of a builtin's method by values: the receiver, the arguments -/
noncomputable def MtR (X : Cx) (id : String) (r : V → List V → Hp → VK → Prop) : Prop :=
  ∀ (pins : List (Addr × Obj)) (s : Shared) (σ : St) (H : Hp) (x : V) (xs : List V) (v : Value) (us : List Value) (Q : VK), Inv X pins σ H s → RelV x v → Vals xs us → r x xs H Q →
    wpAny (model X.prog X.w) X.A (call (.builtin id) (v :: us)) (EP X pins σ Q) X.xe s
section
variable {X : Cx} {a b : Expr} {ta tb : TE} {pos : Pos}
theorem IxR.or {r r' : R2} (h : IxR X r) (h' : IxR X r') : IxR X (fun x y H Q => r x y H Q ∨ r' x y H Q) := by
  intro value slice pins s σ H x y v u Q I rx ry q hs
  rcases q with q | q
  · exact h value slice pins s σ H x y v u Q I rx ry q hs
  · exact h' value slice pins s σ H x y v u Q I rx ry q hs
theorem MtR.or {id : String} {r r' : V → List V → Hp → VK → Prop} (h : MtR X id r) (h' : MtR X id r') : MtR X id (fun x xs H Q => r x xs H Q ∨ r' x xs H Q) := by
  intro pins s σ H x xs v us Q I rx rs q
  rcases q with q | q
  · exact h pins s σ H x xs v us Q I rx rs q
  · exact h' pins s σ H x xs v us Q I rx rs q
/-- a[b] -/
theorem pe_ix {r : R2} (hr : IxR X r) (ha : PE X a ta) (hb : PE X b tb) (hs : PlainIx b) : PE X (.Subscript a b pos) (tOp r ta tb) := by
  intro pins s σ H Q I h
  exact Subscript_ (binT ha hb I h fun v u s2 x y H2 I2 rx ry q => hr a b pins s2 σ H2 x y v u Q I2 rx ry q (hs _ _))

noncomputable def rIxL (K : PySem.W.Frag) : R2 := fun x y H Q => ∃ p xs i v, x = .ref p ∧ y = .int i ∧ SqL K H p xs ∧ atI xs i = some v ∧ Q v H
noncomputable def rIxT (K : PySem.W.Frag) : R2 := fun x y H Q => ∃ p xs i v, x = .ref p ∧ y = .int i ∧ SqT K H p xs ∧ atI xs i = some v ∧ Q v H
noncomputable def rIxS : R2 := fun x y H Q => ∃ z i c, x = .str z ∧ y = .int i ∧ z.length ≤ sizeLine ∧ atI z.cps.toList i = some c ∧ Q (.str ⟨#[c]⟩) H
theorem ix_list : IxR X (rIxL X.K) := by
  intro value slice pins s σ H x y v u Q I rx ry h hs
  obtain ⟨p, xs, i, z, rfl, rfl, hq, he, q⟩ := h
  cases rx
  obtain ⟨t, rfl⟩ := ry
  obtain ⟨its, r, pl, hz⟩ := I.list hq
  obtain ⟨j, h1, h2, h3, h4, h5⟩ := atI_get he
  obtain ⟨w, ew, rw'⟩ := r.get h2
  have hl := r.length
  have hn := line63
  have fin : EP X pins σ Q w s := ⟨z, H, I, rw', q⟩
  by_cases h0 : 0 ≤ i
  · have hj : i.toNat = j := by
      rw [seqIndex_of h0 h5] at h1
      exact Option.some.inj h1
    exact item_listR pl.isList h0 (by omega) (by rw [hj]; simpa using ew) fin hs
  · have hj : (i + (its.toArray.size : Int)).toNat = j := by
      rw [seqIndex_neg (by omega) h4] at h1
      rw [List.size_toArray, ← hl]
      exact Option.some.inj h1
    exact subscriptTail_builtinR (x := w) pl.isList.typeIs slot_list_getitem.lookup
      (wpAny_getItem_list_neg (Q := fun r s' => r = w ∧ EP X pins σ Q r s') pl.isList (by omega) (by rw [List.size_toArray] <;> omega) (by omega) (by rw [hj]; simpa using ew) ⟨rfl, fin⟩) hs
theorem ix_tup : IxR X (rIxT X.K) := by
  intro value slice pins s σ H x y v u Q I rx ry h hs
  obtain ⟨p, xs, i, z, rfl, rfl, hq, he, q⟩ := h
  cases rx
  obtain ⟨t, rfl⟩ := ry
  obtain ⟨its, r, pl, hz⟩ := I.tuple hq
  obtain ⟨j, h1, h2, h3, h4, h5⟩ := atI_get he
  obtain ⟨w, ew, rw'⟩ := r.get h2
  have hl := r.length
  have hn := line63
  have fin : EP X pins σ Q w s := ⟨z, H, I, rw', q⟩
  exact subscriptTail_builtinR (x := w) pl.typeIs slot_tuple_getitem.lookup
    (getItem_tuple (j := j) (Q := fun r s' => r = w ∧ EP X pins σ Q r s') pl (by omega) (by omega) (by rw [List.size_toArray, ← hl]; exact h1) (by simpa using ew) ⟨rfl, fin⟩) hs
theorem ix_str : IxR X rIxS := by
  intro value slice pins s σ H x y v u Q I rx ry h hs
  obtain ⟨z, i, c, rfl, rfl, hz, he, q⟩ := h
  obtain ⟨t, rfl⟩ := rx
  obtain ⟨t', rfl⟩ := ry
  obtain ⟨j, h1, h2, h3, h4, h5⟩ := atI_get he
  have hl : z.cps.toList.length = z.length := by simp [Str.length]
  rw [hl] at h1 h4 h5
  have hn := line63
  exact tail_any (typeIs_str s z t) slot_str_getitem.lookup (getItem_str (c := c) (by
    have e1 : decide (i < -(2 ^ 63 : Int)) = false := decide_eq_false (by omega)
    have e2 : decide (i ≥ 2 ^ 63) = false := decide_eq_false (by omega)
    rw [e1, e2, Bool.or_false]) (by rw [h1]; simpa using h2) ⟨.str ⟨#[c]⟩, H, I.tok _, ⟨_, rfl⟩, q⟩) hs
/-! ### xs[i] = v, any sign -/
theorem Inv.lst {pins : List (Addr × Obj)} {σ : St} {H : Hp} {s : Shared} {p : Addr} {xs : List V} (I : Inv X pins σ H s) (h : H p = some (.lst xs)) :
    ∃ (its : List Value) (n : Nat), Vals xs its ∧ s.heap.get? p = some { cls := .type "list", data := .seq its.toArray n } ∧ xs.length ≤ sizeLine := by
  obtain ⟨z, its, n, r, e⟩ := I.hok p _ h
  exact ⟨its, n, r, e, z⟩
/-! ### slices -/
/-! ### in, not in: flat items -/
/-! ### len, list(x), tuple(x) of any list or tuple that is read -/
theorem call_len_seq : CallR X (.builtin "len") (fun xs H Q => ∃ p ys, xs = [.ref p] ∧ (SqL X.K H p ys ∨ SqT X.K H p ys) ∧ Q (.int ys.length) H) := by
  intro pins s σ H xs us Q I r h
  obtain ⟨p, ys, rfl, hq, q⟩ := h
  obtain ⟨u, rfl, rx⟩ := vals1 r
  cases rx
  have hn := line63
  rcases hq with hq | hq
  · obtain ⟨its, r', pl, hz⟩ := I.list hq
    have hlen := r'.length
    exact Calls.call_len_list pl.isList (by simp only [List.size_toArray] <;> omega) ⟨.int ys.length, H, I.tok _, ⟨s.toks + 1, by rw [List.size_toArray, hlen]⟩, q⟩
  · obtain ⟨its, r', pl, hz⟩ := I.tuple hq
    have hlen := r'.length
    exact len_tuple pl (by simp only [List.size_toArray] <;> omega) ⟨.int ys.length, H, I.tok _, ⟨s.toks + 1, by rw [List.size_toArray, hlen]⟩, q⟩
theorem call_len_str : CallR X (.builtin "len") (fun xs H Q => ∃ z, xs = [.str z] ∧ z.length ≤ sizeLine ∧ Q (.int z.length) H) := by
  intro pins s σ H xs us Q I r h
  obtain ⟨z, rfl, hz, q⟩ := h
  obtain ⟨u, rfl, t, rfl⟩ := vals1 r
  have hn := line63
  exact len_str (by omega) ⟨.int z.length, H, I.tok _, ⟨_, rfl⟩, q⟩
theorem CallR.or {f : Value} {r r' : List V → Hp → VK → Prop} (h : CallR X f r) (h' : CallR X f r') : CallR X f (fun xs H Q => r xs H Q ∨ r' xs H Q) := by
  intro pins s σ H xs us Q I rs q
  rcases q with q | q
  · exact h pins s σ H xs us Q I rs q
  · exact h' pins s σ H xs us Q I rs q
theorem call_tuple_of : CallR X (.type "tuple") (fun xs H Q => ∃ p ys, xs = [.ref p] ∧ ((SqL X.K H p ys ∧ ∀ l, H l = none → Q (.ref l) (upd H l (.tup ys))) ∨ (SqT X.K H p ys ∧ Q (.ref p) H))) := by
  intro pins s σ H xs us Q I r h
  obtain ⟨p, ys, rfl, h⟩ := h
  obtain ⟨u, rfl, rx⟩ := vals1 r
  cases rx
  rcases h with ⟨hq, q⟩ | ⟨hq, q⟩
  · obtain ⟨its, r', pl, hz⟩ := I.list hq
    have hlen := r'.length
    refine call_tuple_list pl.isList (fun h' kp => ?_) (by simp only [List.size_toArray] <;> omega)
    have I1 : Inv X pins σ H { s with heap := h' } := I.kept (t' := s.toks) kp
    have I2 : Inv X pins σ (upd H h'.objs.size (.tup ys)) { s with heap := h'.push { cls := .type "tuple", data := .seq its.toArray } } :=
      I1.laid (t' := s.toks) (fun b o e => Heap.get?_push_of_some _ e) (Nat.le_refl _) (show ObjOk X.prog X.w _ _ _ (.tup ys) from ⟨hz, its, r', IsTup.new _ _⟩)
    exact ⟨.ref h'.objs.size, _, I2, rfl, q _ (I1.hok.fresh (Nat.le_refl _))⟩
  · obtain ⟨its, r', pl, hz⟩ := I.tuple hq
    exact call_tuple_same pl ⟨.ref p, H, I, rfl, q⟩

/-! ### the call of a builtin's method: o.m(..) -/
/-- the value is of that builtin type -/
noncomputable def tyV (K : PySem.W.Frag) (T : String) (x : V) (H : Hp) : Prop := match x with
  | .str _ => T = "str"
  | .int _ => T = "int"
  | .ref p => (T = "list" ∧ ∃ xs, SqL K H p xs) ∨ (T = "tuple" ∧ ∃ o, K.lookup p = some o ∧ o.cls = .type "tuple" ∧ o.dict = none) ∨
      (T = "dict" ∧ ((∃ kvs, H p = some (.dK kvs)) ∨ ∃ kvs, H p = some (.dT kvs))) ∨ (T = "set" ∧ ∃ S n, H p = some (.set S n))
  | _ => False
theorem tyV_is {pins : List (Addr × Obj)} {σ : St} {H : Hp} {s : Shared} {T : String} {x : V} {v : Value} (I : Inv X pins σ H s) (r : RelV x v) (ty : tyV X.K T x H) :
    s.TypeIs v T ∧ ∀ a, v = .ref a → ∃ ob, s.heap.get? a = some ob ∧ ob.dict = none := by
  cases x with
  | str z =>
    obtain ⟨t, rfl⟩ := r
    cases (show T = "str" from ty)
    exact ⟨typeIs_str s z t, fun _ e => nomatch e⟩
  | int i =>
    obtain ⟨t, rfl⟩ := r
    cases (show T = "int" from ty)
    exact ⟨typeIs_int s i t, fun _ e => nomatch e⟩
  | ref p =>
    cases r
    rcases ty with ⟨rfl, xs, hq⟩ | ⟨rfl, o, hk, hc, hd⟩ | ⟨rfl, hk⟩ | ⟨rfl, S, n, hk⟩
    · obtain ⟨its, _, pl, _⟩ := I.list hq
      refine ⟨pl.isList.typeIs, fun a e => ?_⟩
      cases e
      obtain ⟨o, n, e, c, hd, _⟩ := pl
      exact ⟨o, e, hd⟩
    · refine ⟨⟨o, I.kIn p o hk, hc⟩, fun a e => ?_⟩
      cases e
      exact ⟨o, I.kIn _ o hk, hd⟩
    · have z : ∃ o, s.heap.get? p = some o ∧ o.ExactDict := by
        rcases hk with ⟨kvs, hk⟩ | ⟨kvs, hk⟩
        · obtain ⟨_, _, _, _, o, _, _, e, ex, _⟩ := I.hok p _ hk
          exact ⟨o, e, ex⟩
        · obtain ⟨_, _, _, _, o, _, _, e, ex, _⟩ := I.hok p _ hk
          exact ⟨o, e, ex⟩
      obtain ⟨o, e, ex⟩ := z
      refine ⟨⟨o, e, ex.1⟩, fun a e2 => ?_⟩
      cases e2
      exact ⟨o, e, ex.2.1⟩
    · obtain ⟨o, _, _, _, e, ex, _⟩ := I.hok p _ hk
      refine ⟨⟨o, e, ex.1⟩, fun a e2 => ?_⟩
      cases e2
      exact ⟨o, e, ex.2.1⟩
  | _ => exact False.elim ty
noncomputable def tBM0 (K : PySem.W.Frag) (T : String) (r : V → List V → Hp → VK → Prop) (to : TE) : TE := fun σ H Q => to σ H fun x H1 => tyV K T x H1 ∧ r x [] H1 Q
noncomputable def tBM (K : PySem.W.Frag) (T : String) (r : V → List V → Hp → VK → Prop) (to : TE) (t : TA) : TE := fun σ H Q => to σ H fun x H1 => tyV K T x H1 ∧ t σ H1 fun xs H2 => r x xs H2 Q
variable {o e : Expr} {es : List Expr} {to : TE} {t : TA} {name : Str} {apos cpos : Pos} {T id : String} {r : V → List V → Hp → VK → Prop}
theorem pe_bm (pa : PlainAttrs T) (slot : Slot T name id) (hty : typeOf (.builtin id) = pure (.type "method_descriptor")) (hm : MtR X id r) (ho : PE X o to) (ha : PA X (e :: es) t)
    (hbase : attributeBase o name X.env (eval o X.env) = eval o X.env := by rfl)
    (hfew : ((backTo cpos (starEach (e :: es) X.env)).all (fun x => !x.1) && (backToKw cpos (keywordEach [] X.env)).all (fun x => x.1.isSome)
      && decide ((e :: es).length + ([] : List Keyword).length + (if ([] : List Keyword).isEmpty then 0 else 1) < 30)) = true := by rfl)
    (hline : (apos.endLine == cpos.line) = true := by rfl) (hs : starEach (e :: es) X.env = (false, eval e X.env) :: starEach es X.env := by rfl) (hplain : (backTo cpos (starEach es X.env)).any (·.1) = false := by rfl) :
    PE X (.Call (.Attribute o name apos) (e :: es) [] cpos) (tBM X.K T r to t) := by
  intro pins s σ H Q I h
  refine wpAny_Call_method_late hbase hfew hline rfl (thn (ho pins s σ H _ I h) fun v s1 ⟨x, H1, I1, r1, ty, q1⟩ => ?_)
  obtain ⟨h1, h2⟩ := tyV_is I1 r1 ty
  refine ⟨T, id, pa, slot, hty, h1, h2, ?_⟩
  have hA := ha cpos pins s1 σ H1 _ I1 q1
  rw [hs] at hA ⊢
  refine Calls.callWith_builtin (by show (false || (backTo cpos (starEach es X.env)).any (·.1)) = false; rw [hplain] <;> rfl) (Calls.evalArgs_plain ?_)
  exact thn hA fun us s2 ⟨vs, H2, I2, r2, q2⟩ => hm pins s2 σ H2 x vs v us Q I2 r1 r2 q2
/- xs.append(e), list.index on a module's tuple .. are MtR facts of 06m -/
end
end L2

namespace L2
open PySem PySem.Spec PyProof.Rows

noncomputable def MtM (X : Cx) (id : String) (r : V → List V → Hp → VK → Prop) : Prop :=
  ∀ (pins : List (Addr × Obj)) (s : Shared) (σ : St) (H : Hp) (x : V) (xs : List V) (v : Value) (us : List Value) (Q : VK), Inv X pins σ H s → RelV x v → Vals xs us → r x xs H Q →
    wpAny (model X.prog X.w) X.A (call (.builtin id) (v :: us)) (EP X pins σ Q) X.xe s

/-! ### lists of values -/
theorem Vals.one : ∀ {x : V} {us : List Value}, Vals [x] us → ∃ u, us = [u] ∧ RelV x u
  | _, _, .cons r .nil => ⟨_, rfl, r⟩
theorem Vals.two : ∀ {x y : V} {us : List Value}, Vals [x, y] us → ∃ u v, us = [u, v] ∧ RelV x u ∧ RelV y v
  | _, _, _, .cons r (.cons q .nil) => ⟨_, _, rfl, r, q⟩
theorem Vals.zero : ∀ {us : List Value}, Vals [] us → us = []
  | _, .nil => rfl
theorem Vals.eraseIdx : ∀ {xs : List V} {us : List Value} (i : Nat), Vals xs us → Vals (xs.eraseIdx i) (us.eraseIdx i)
  | _, _, _, .nil => .nil
  | _, _, 0, .cons _ t => t
  | _, _, i + 1, .cons r t => .cons r (Vals.eraseIdx i t)
theorem Vals.reverse {xs : List V} {us : List Value} (h : Vals xs us) : Vals xs.reverse us.reverse := by
  induction h with
  | nil => exact .nil
  | cons r t ih => rw [List.reverse_cons, List.reverse_cons]; exact Vals.append ih (.cons r .nil)
section
variable {X : Cx} {pins : List (Addr × Obj)} {σ : St} {H : Hp} {s : Shared} {l b : Addr} {xs ys zs : List V}

/-! ### the two steps: a tracked list is rewritten, a new list is laid -/
theorem Inv.lset {its its' : List Value} {n : Nat} {f : Array Value → Array Value} {t' : Nat} (I : Inv X pins σ H s) (hH : H l = some (.lst xs))
    (e : s.heap.get? l = some { cls := .type "list", data := .seq its.toArray n }) (hf : f its.toArray = its'.toArray) (hv : Vals ys its') (hz : ys.length ≤ sizeLine) :
    Inv X pins σ (upd H l (.lst ys)) { s with heap := s.heap.update l (Obj.mapSeq f), toks := t' } := by
  have q := PySem.IsL.update e f
  rw [hf] at q
  refine I.write (x := l) (e := l) (by rw [hH]; exact trivial) (.inl rfl) (fun b' u hb hu => (Heap.get?_update_other s.heap (Obj.mapSeq f) (Ne.symm hb)).trans hu) ⟨_, q⟩ ?_
  exact ⟨hz, its', _, hv, q⟩
theorem Inv.lnew {its : List Value} {t' : Nat} (I : Inv X pins σ H s) (hv : Vals ys its) (hz : ys.length ≤ sizeLine) :
    Inv X pins σ (upd H s.heap.objs.size (.lst ys)) { s with heap := s.heap.push { cls := .type "list", data := .seq its.toArray }, toks := t' } :=
  I.laid (fun _ _ q => Heap.get?_push_of_some _ q) (Nat.le_refl _) ⟨hz, its, 0, hv, Heap.get?_push_size _ rfl⟩
theorem Inv.fresh (I : Inv X pins σ H s) : H s.heap.objs.size = none := I.hok.fresh (Nat.le_refl _)
theorem Inv.lstM (I : Inv X pins σ H s) (hH : H l = some (.lst xs)) : xs.length ≤ sizeLine ∧ ∃ (its : List Value) (n : Nat), Vals xs its ∧ xs.length = its.length ∧ s.heap.get? l = some { cls := .type "list", data := .seq its.toArray n } := by
  obtain ⟨z, its, n, r, e⟩ := I.hok l _ hH
  exact ⟨z, its, n, r, r.length, e⟩

end

section
variable {X : Cx}

/-! ### methods -/
noncomputable def rAppend : V → List V → Hp → VK → Prop := fun x vs H Q => ∃ l xs y, x = .ref l ∧ vs = [y] ∧ H l = some (.lst xs) ∧ xs.length < sizeLine ∧ Q .non (upd H l (.lst (xs ++ [y])))
theorem mt_append : MtM X "list.append" rAppend := by
  intro pins s σ H x vs v us Q I rx rv h
  obtain ⟨l, xs, y, rfl, rfl, hH, hz, q⟩ := h
  cases rx
  obtain ⟨u, rfl, ru⟩ := rv.one
  obtain ⟨z, its, n, r, hl, e⟩ := I.lstM hH
  refine call_meets F.slot_list_append ⟨_, e, rfl⟩ F.entry_list_append (F.args_list_append_2 _ _) (PySem.list_append l its.toArray n u (by rw [List.size_toArray]; omega)) ⟨e, ?_⟩
  refine ⟨.non, _, I.lset (its' := its ++ [u]) hH e (by simp) (r.append (.cons ru .nil)) ?_, rfl, q⟩
  rw [List.length_append, List.length_singleton]
  omega

/-! ### list + list, list += list, list * int -/
/-! ### del xs[i] -/
end

/-! ### xs[a:b] = ys -/
section
variable {prog : Program} {w : World} {A : Around} {E : Value → Shared → Prop} {s : Shared}
set_option maxRecDepth 100000 in
end

section
variable {X : Cx}
end
end L2

namespace Att
open PySem PySem.W PySem.Calls PyProof.Rows

/-! ### the script -/
theorem ints_of_wellAll {P : Params} {h : Heap} : ∀ (ns : List Int) (vs : List Value), WellAll P h vs (ns.map WData.int) → IntsAre vs ns := by
  intro ns
  induction ns with
  | nil =>
    intro vs w
    rw [List.map_nil] at w
    cases w
    exact .nil
  | cons n ns ih =>
    intro vs w
    rw [List.map_cons] at w
    cases w with
    | cons a b =>
      cases a
      exact .cons _ _ (ih _ b)

theorem script_of {l : OpenLaw} {n : Nat} (hn : l.most = some n) {P : Params} {h : Heap} {args : List WData} {vals : List Value}
    (hpre : l.row.toRowW.claim.pre args = true) (hwl : WellAll P h vals args) :
    ∃ a vs ns, vals = [Value.ref a] ∧ args = [WData.list (ns.map WData.int)] ∧ h.get? a = some { cls := .type "list", data := .seq vs.toArray } ∧ IntsAre vs ns ∧ ns.length ≤ n := by
  have hsh : WShape.hasAll [] args [.list .int] = true := (pre_splitW hpre).1
  have hc : l.pre.holds [] { args := args } = true := (pre_splitW hpre).2
  obtain ⟨d, r, rfl, h1, h2⟩ := hasAllW_cons hsh
  obtain rfl := hasAllW_nil h2
  obtain ⟨xs, rfl, h3⟩ := hasW_list h1
  obtain ⟨ns, rfl⟩ := items_int h3
  have hlen : ns.length ≤ n := by
    unfold OpenLaw.pre at hc
    have h4 : (WTm.not (.lt (.lit (.int (n : Int))) (.len (.arg 0)))).holds [] { args := [.list (ns.map .int)] } = true := by
      have h4 := (holds_andW hc).1
      rw [hn] at h4
      exact h4
    have h5 := condW_of h4 (w_not (w_lt w_lit (w_len_list (w_arg rfl))))
    rw [List.length_map] at h5
    refine Nat.le_of_not_lt fun q => ?_
    have q' : (n : Int) < ((ns.length : Nat) : Int) := by omega
    first
      | (rw [decide_eq_true q'] at h5; exact absurd h5 (by decide))
      | (simp at h5; omega)
  cases hwl with
  | cons w1 w2 =>
    cases w2
    cases w1 with
    | list ho hall => exact ⟨_, _, ns, rfl, rfl, ho, ints_of_wellAll ns _ hall, hlen⟩

theorem post_true (l : OpenLaw) (args : List WData) : l.row.toRowW.claim.post args (.bool true) args = true :=
  postW_of (r := l.row.toRowW) (X := (true == true))
    (show WShape.has [] (.bool true) .bool = true by first | rfl | decide | simp [WShape.has, WShape.arms, WShape.armsAll])
    (show (WTm.eq .res (.lit (.bool true))).value [] { args := args, res := some (.bool true), after := args } = some (.bool (true == true)) from w_eq_bool (w_res rfl) w_lit) rfl

/-! ### the attachment: holds_open's last premise (the goal 'hc' behind k_head) from a wpAny of the law's body -/
/-- the same from a codeAny of the CALL (for a layer whose function contracts speak of calls) -/
theorem attach_call {l : OpenLaw} {n : Nat} {q : Program} {loose : List Str} {XP : (Str → Option Value) → Heap → Prop} {YP : World → Heap → Prop} {d : DefRec}
    (hn : l.most = some n) (hdf : d.params.defaults = [])
    (call : ∀ (w : World) (s₀ s₁ : Shared) (mg mb : Str → Option Value) (fa : Addr) (o : Obj) (pm cd doc : Value) (a : Addr) (vs : List Value) (ns : List Int),
      Ground q loose [] XP w s₀ mg mb s₁.heap → YP w s₁.heap →
      s₁.heap.get? fa = some o → o.data = .func (docDef d.name d.params d.body d.scope pm cd doc) → s₁.heap.CodeRec cd d.name → mg d.name = some (.ref fa) →
      s₁.heap.get? a = some { cls := .type "list", data := .seq vs.toArray } → IntsAre vs ns → ns.length ≤ n → s₁.gens = #[] →
      codeAny (model l.prog w) callerA (.call (.ref fa) ⟨[.ref a], []⟩) (fun r s' => r = .ok (.ret (.bool true)) ∧ OldK s₁.heap s'.heap ∧ s'.os = s₁.os ∧ AllBare s'.gens) s₁) :
    WalkO q loose XP YP l.row.toRowW d [] (fun f vs => PySem.call f vs) := by
  intro w s₀ s₁ mg mb G Y fa o pm cd doc dV kV ho hd hcd hD hmg hg args vals as hpre hlay hrd hwl hlo
  obtain rfl : dV = .none := Dflts.none hD hdf
  obtain rfl : kV = .none := Dflts.noKw hD
  obtain ⟨a, vs, ns, rfl, rfl, hobj, hints, hlen⟩ := script_of hn hpre hwl
  refine enter_call (codeAny_mono (call w s₀ s₁ mg mb fa o pm cd doc a vs ns G Y ho (fd_plain hd) hcd hmg hobj hints hlen hg) fun r s' hq => ?_)
  obtain ⟨rfl, h2, h3, h4⟩ := hq
  exact ⟨.inl ⟨.bool true, .bool true, [], rfl, fun _ => rfl, .bool true, post_true l _, fun _ => ⟨List.Pairwise.nil, fun _ hm => (nomatch hm)⟩⟩, h2, h3, h4⟩

/-! ### rules over ANY heap (no ledger) from facts about the written part K: the library's own take a ledger (News) for what they write -/
section
variable {prog : Program} {w : World} {A : Around} {E : Value → Shared → Prop} {s : Shared} {K : Frag}

/-! the whole heap as the ledger: makes every rule that writes through a ledger a rule over any heap -/
noncomputable def ledger (h : Heap) (L d : Addr) : List (Addr × Obj) := (List.range h.objs.size).filterMap fun a => if a = L ∨ a = d then none else (h.get? a).map fun o => (a, o)
end
end Att

namespace L2
open PySem PySem.Spec PyProof.Rows

theorem vals_ints : ∀ {vs : List Value} {ns : List Int}, IntsAre vs ns → Vals (ns.map V.int) vs
  | _, _, .nil => .nil
  | _, _, .cons n t h => .cons ⟨t, rfl⟩ (vals_ints h)

/-- nothing is tracked but the script, known to the object (or it is an object of the module) -/
noncomputable def Only (H : Hp) : Prop := ∀ b, H b = none ∨ ∃ o xs, H b = some (.frz o (.lst xs))

/-- THE HEAD: the law's promise, at the heap behind the top. F, the promise of the law's def, may use that base is part of the heap (so K.In base, base.Ns mainGlobals mg stand in Mod) -/
theorem law_call {P : Program} {w : World} {K : PySem.W.Frag} {mg mb : Str → Option Value} {CX : CXT} {k : Nat} {fa a : Addr} {fd : FuncData} {x : Str} {sp : Sp} {s₁ : Shared} {vs : List Value} {ns : List Int}
    (KX : K.In s₁.heap) (hns : s₁.heap.Ns mainGlobals mg) (hb : s₁.heap.Ns builtinsNs mb) (hbb : ∀ x : Str, x ≠ "__name__" → mb x = bootBuiltins x) (hlim : s₁.heap.NoLimit) (hg : s₁.gens = #[])
    (ha : s₁.heap.get? a = some { cls := .type "list", data := .seq vs.toArray }) (hi : IntsAre vs ns) (hl : ns.length ≤ sizeLine) (hr : Room k callerA)
    (F : ∀ base : Heap, K.In base → base.Ns mainGlobals mg → FnOk P w K mg base CX k fa fd [x] sp) (hbind : ∀ (s : Shared) (u : Value), BindsTo s fd ⟨[u], []⟩ [(x, u)])
    (hsp : ∀ H : Hp, Only H → SqL K H a (ns.map V.int) → sp [.ref a] H (fun v _ => v = .bl true) fun _ _ _ => False)
    (hCX : ∀ H e s', CX [] H s₁ (fun _ _ _ => False) e s' → False) :
    codeAny (model P w) callerA (.call (.ref fa) ⟨[.ref a], []⟩) (fun r s' => r = .ok (.ret (.bool true)) ∧ OldK s₁.heap s'.heap ∧ s'.os = s₁.os ∧ AllBare s'.gens) s₁ := by
  have rv := vals_ints hi
  have lenV := hi.length
  -- from an abstract heap in which nothing but the script may be tracked
  have core : ∀ H : Hp, Only H → SqL K H a (ns.map V.int) → HOk P w H s₁.heap → (∀ b, H b ≠ none → b = a) → (H a ≠ none → K.lookup a = none) →
      codeAny (model P w) callerA (.call (.ref fa) ⟨[.ref a], []⟩) (fun r s' => r = .ok (.ret (.bool true)) ∧ OldK s₁.heap s'.heap ∧ s'.os = s₁.os ∧ AllBare s'.gens) s₁ := by
    intro H hO hS hok hA hK
    have base_of : ∀ {b : Addr} {o : Obj}, s₁.heap.get? b = some o → H b = none → (hidT s₁.heap H).get? b = some o := fun e n => hidT_get e n
    have noA : ∀ {b : Addr} {o : Obj} {es : Array DictEntry} {ep : Nat}, s₁.heap.get? b = some o → o.data = .dict es ep → H b = none := fun {b o es ep} e d => by
      cases q : H b with
      | none => rfl
      | some u =>
        have e' : b = a := hA b (by rw [q]; simp)
        subst e'
        rw [ha] at e; cases e
        have d' : Data.seq vs.toArray _ = Data.dict es ep := d
        cases d'
    have nsK : ∀ {b : Addr} {m : Str → Option Value}, s₁.heap.Ns b m → (hidT s₁.heap H).Ns b m := fun {b m} ⟨o, es, ep, e, d, r⟩ => ⟨o, es, ep, base_of e (noA e d), d, r⟩
    have hKb : K.In (hidT s₁.heap H) := fun b o e => base_of (KX b o e) (by
      cases q : H b with
      | none => rfl
      | some u =>
        have e' : b = a := hA b (by rw [q]; simp)
        subst e'
        rw [hK (by rw [q]; simp)] at e; cases e)
    have hM : Mod K mg (hidT s₁.heap H) := ⟨hKb, nsK hns, ⟨mb, nsK hb, hbb⟩, let ⟨mc, h1, h2⟩ := hlim; ⟨mc, nsK h1, h2⟩⟩
    have e0 : Env0 P w K mg (hidT s₁.heap H) callerA [] s₁ H := ⟨rfl, hM, fun b o e => of_hidT e, Nat.le_of_eq (hidT_size _ _), trivial, fun b hb => absurd (show b ∈ ([] : List Addr) from hb) (by simp), hok, .of_eq hg⟩
    refine codeAny_mono ((F _ hKb (nsK hns)).run callerA [] s₁ H ⟨[.ref a], []⟩ [.ref a] [.ref a] _ _ hr e0 (hbind s₁ (.ref a)) (.cons rfl .nil) (hsp H hO hS)) fun r s' h => ?_
    cases r with
    | error e => exact (hCX H e s' h).elim
    | ok fl =>
      cases fl with
      | next => exact False.elim h
      | brk => exact False.elim h
      | cont => exact False.elim h
      | ret u =>
        obtain ⟨v, H', os, bare, un, hok', r', q⟩ := h
        have q' : v = .bl true := q
        subst q'
        obtain rfl : u = Value.bool true := r'
        refine ⟨rfl, OldK.of_keep fun b o e => ?_, os, bare⟩
        cases q : H b with
        | none => exact un.keep b o e q (by intro z; exact absurd (show b ∈ ([] : List Addr) from z) (by simp)) (by simp)
        | some u =>
          rcases hO b with z | ⟨ob, xs, z⟩
          · rw [q] at z; cases z
          · have z2 := un.frzs b ob _ z
            obtain ⟨e1, _⟩ := hok b _ z
            obtain ⟨e2, _⟩ := hok' b _ z2
            rw [e] at e1; cases e1
            exact e2
  cases hk : K.lookup a with
  | some o =>
    -- the script is one of the module's own objects
    have e := KX a o hk
    rw [ha] at e
    cases e
    refine core (fun _ => none) (fun _ => .inl rfl) (.inr ⟨_, vs.toArray, _, hk, rfl, rfl, rfl, by rw [List.size_toArray, lenV]; exact hl, by simpa using rv⟩) (fun b u z => by have z' : (none : Option HO) = some u := z; cases z') (fun b z => absurd rfl z) fun z => absurd rfl z
  | none =>
    refine core (fun b => if b = a then some (.frz { cls := .type "list", data := .seq vs.toArray } (.lst (ns.map V.int))) else none) (fun b => ?_) (.inl (.inr ⟨{ cls := .type "list", data := .seq vs.toArray }, if_pos rfl⟩)) (fun b u z => ?_) (fun b z => ?_) fun _ => hk
    · by_cases hb : b = a
      · exact .inr ⟨_, _, if_pos hb⟩
      · exact .inl (if_neg hb)
    · by_cases hb : b = a
      · have z' := (if_pos hb).symm.trans z
        cases z'
        subst hb
        exact ⟨ha, by rw [List.length_map]; exact hl, vs, _, rv, ha⟩
      · have z' := (if_neg hb).symm.trans z
        cases z'
    · by_cases hb : b = a
      · exact hb
      · exact absurd (if_neg hb) z
end L2

namespace L2
open PySem PySem.Spec PyProof.Rows

noncomputable abbrev KOf {K : PySem.W.Frag} {h : Heap} (_ : K.In h) : PySem.W.Frag := K

/-- the goal that k_head leaves (case hc), from the law's promise. F gives the function object fd (K's own) once, then the promise over every base -/
theorem walk_of {l : PySem.W.OpenLaw} {n k : Nat} {q : Program} {loose : List Str} {XP : (Str → Option Value) → Heap → Prop} {YP : World → Heap → Prop} {d : DefRec} {K : Params → PySem.W.Frag} {CX : World → CXT} {sp : World → Sp} {x : Str}
    (hn : l.most = some n) (hn2 : n ≤ sizeLine) (hdf : d.params.defaults = []) (hr : Room k callerA)
    (hY : ∀ (w : World) (h : Heap), YP w h → (K w.params).In h)
    (F : ∀ (w : World) (mg : Str → Option Value) (fa : Addr) (h : Heap), (K w.params).In h → h.Ns mainGlobals mg → mg d.name = some (.ref fa) →
      ∃ fd : FuncData, (∀ (s : Shared) (u : Value), BindsTo s fd ⟨[u], []⟩ [(x, u)]) ∧
        ∀ base : Heap, (K w.params).In base → base.Ns mainGlobals mg → FnOk l.prog w (K w.params) mg base (CX w) k fa fd [x] (sp w))
    (hsp : ∀ (w : World) (H : Hp) (a : Addr) (ns : List Int), ns.length ≤ n → Only H → SqL (K w.params) H a (ns.map V.int) → sp w [.ref a] H (fun v _ => v = .bl true) fun _ _ _ => False)
    (hCX : ∀ (w : World) (H : Hp) (s : Shared) (e : Value) (s' : Shared), CX w [] H s (fun _ _ _ => False) e s' → False) :
    PySem.W.WalkO q loose XP YP l.row.toRowW d [] (fun f vs => PySem.call f vs) := by
  refine Att.attach_call hn hdf fun w s₀ s₁ mg mb fa o pm cd doc a vs ns G Y ho hd hcd hmg hobj hints hlen hg => ?_
  have KX := hY w _ Y
  obtain ⟨fd, hb, hF⟩ := F w mg fa _ KX G.T.g hmg
  exact law_call KX G.T.g G.T.b G.T.builtins G.T.nolimit hg hobj hints (Nat.le_trans hlen hn2) hr hF hb (fun H hO hS => hsp w H a ns hlen hO hS) fun H e s' => hCX w H s₁ e s'
end L2

/- THE LAST THEOREM (shape; LID, My.* are yours):
   My.Adr: a structure of the addresses that your layer names (classes, functions); My.Txt K t: a structure (Prop) of the equations over K;
   My.txt_mk : {K} {implicit addresses ..} (e1 : nsIn K mainGlobals "law" = some (some (.ref f))) (e2 : K.lookup f = some ⟨oc, od, .func (fnOf "law" "law" params body scope dV kV doc pm an cdv ct), sl⟩) (e3 : codeIn K cdv "law" = true) .. : ∃ t, My.Txt K t

set_option maxRecDepth 100000 in
set_option maxHeartbeats 0 in
theorem PySem.Challenge.cw_LID_holds : PySem.Challenge.rw_LID.Holds := by
  w_on; o_law; k_head; (case hw => w_witness2)
  k_fill
  refine L2.walk_of (l := PySem.Challenge.rw_LID) (n := 63) (k := 40) (x := "script") (CX := fun w => ..) (sp := fun _ => My.sp_law) rfl (by decide) rfl ⟨rfl, by decide, by decide⟩ (fun w h Y => PySem.W.kIn_of Y) ?F ?S ?C
  case F =>
    intro w mg fa h KX G hmg
    have T : ∃ t, My.Txt (L2.KOf KX) t := by
      dsimp only [L2.KOf]                          -- K must stand as «<heap const> w.params» for k_is
      refine' My.txt_mk ?e1 ?e2 ?e3 ..
      (case e1 => PySem.W.k_is)                    -- in the order: a name -> its address -> its object -> its parts
      (case e2 => PySem.W.k_is)
      ..
    obtain ⟨t, T⟩ := T
    have e0 := hmg.symm.trans (PySem.W.mg_of KX G T.law)
    cases e0                                       -- fa is the law's own address
    exact ⟨_, fun s u => .of_eq rfl, fun base kb nb => My.law_fn T kb nb⟩     -- if «.of_eq rfl» comes too early: refine' ⟨_, ?b, fun base kb nb => My.law_fn T kb nb⟩; exact fun s u => .of_eq rfl
  case S => exact fun w H a ns hl hO hS => ..
  case C => exact ..
(the tactic k_is has no namespace: write k_is) -/

/-! SHORT WORDS over the layer: a def of the text, its body, what a loop and a test want. -/
namespace L2
open PySem PySem.Spec PyProof.Rows

/-! ### the text by places -/
noncomputable def defArgs (s : Stmt) : Arguments := match s with
  | .FunctionDef _ a _ _ _ _ _ _ _ _ => a
  | _ => { posonlyargs := [], args := [], vararg := none, kwonlyargs := [], kw_defaults := [], kwarg := none, defaults := [] }
noncomputable def defBody (s : Stmt) : List Stmt := match s with
  | .FunctionDef _ _ b _ _ _ _ _ _ _ => b
  | _ => []
noncomputable def defScope (s : Stmt) : Scope := match s with
  | .FunctionDef _ _ _ _ _ _ sc _ _ _ => sc
  | _ => { kind := .function, names := [], isGenerator := false, isCoroutine := false }

/-! ### no exception leaves a def -/
noncomputable abbrev CX0 : CXT := fun _ _ _ _ _ _ => False
noncomputable abbrev E0 : XK := fun _ _ _ => False
theorem pass0 {X : Cx} : Passes CX0 X E0 := fun _ _ _ _ _ _ _ h => h.elim

/-! ### a def (or method) of the text as it stands behind the top -/
structure Fun (K : PySem.W.Frag) (x qual : Str) (st : Stmt) (f : Addr) (fd : FuncData) : Prop where
  ex : ∃ (oc : Value) (od : Option Addr) (kV doc pm : Value) (an : Option Addr) (cdv ct : Value) (osl : Array (Option Value)),
    fd = PySem.W.fnOf x qual (defArgs st) (defBody st) (defScope st) .none kV doc pm an cdv ct ∧ K.lookup f = some ⟨oc, od, .func fd, osl⟩ ∧ PySem.W.codeIn K cdv qual = true
  kp : PySem.W.keepIn K (.ref f) = true
section
variable {P : Program} {w : World} {K : PySem.W.Frag} {mg : Str → Option Value} {base : Heap}
/-- THE RULE for a def: its body as a term of rules, and the reading of that term -/
theorem Fun.ok {x qual : Str} {st : Stmt} {f : Addr} {fd : FuncData} {N ps : List Str} {k : Nat} {sp : Sp} (F : Fun K x qual st f fd) (S : FnScope N ps (defScope st)) (len : ∀ vs H Q E, sp vs H Q E → vs.length = ps.length)
    (hbody : ∀ (cdv : Value) (A : Around) (outer : List Env) (s : Shared) (H : Hp) (vs : List V) (Q : VK) (E : XK), Room k (A.deeper (envOfC qual (defScope st) s.heap.objs.size f cdv)) → sp vs H Q E →
      ∃ t, PSs (cxOf CX0 P w K mg base N qual (defScope st) f cdv A outer s H E).nox (defBody st) t ∧ t { nx := fun _ H' => Q .non H', rt := Q } (start N vs) H) : FnOk P w K mg base CX0 (k + 1) f fd ps sp := by
  obtain ⟨oc, od, kV, doc, pm, an, cdv, ct, osl, rfl, lk, hcd⟩ := F.ex
  refine fn_of lk hcd S len fun A outer s H vs Q E hr hsp => ?_
  obtain ⟨t, h, q⟩ := hbody cdv A outer s H vs Q E hr hsp
  exact ⟨t, h.nox, q⟩
/-- how its arguments bind (no defaults): h is «fun _ _ _ _ _ _ us hl => match us, hl with | [_, _], _ => rfl», one _ a parameter -/
theorem Fun.binds {x qual : Str} {st : Stmt} {f : Addr} {fd : FuncData} {ps : List Str} (F : Fun K x qual st f fd)
    (h : ∀ (kV doc pm : Value) (an : Option Addr) (cdv ct : Value) (us : List Value), us.length = ps.length → bindArgs (PySem.W.fnOf x qual (defArgs st) (defBody st) (defScope st) .none kV doc pm an cdv ct) ⟨us, []⟩ = pure (ps.zip us)) : Binds K fd ps [] := by
  obtain ⟨oc, od, kV, doc, pm, an, cdv, ct, osl, rfl, lk, hcd⟩ := F.ex
  exact .all (h kV doc pm an cdv ct)
theorem fun_mk {x qual : Str} {st : Stmt} {f : Addr} {oc : Value} {od an : Option Addr} {osl : Array (Option Value)} {kV doc pm cdv ct : Value} (l : K.lookup f = some ⟨oc, od, .func (PySem.W.fnOf x qual (defArgs st) (defBody st) (defScope st) .none kV doc pm an cdv ct), osl⟩)
    (c : PySem.W.codeIn K cdv qual = true) (k : PySem.W.keepIn K (.ref f) = true) : Fun K x qual st f (PySem.W.fnOf x qual (defArgs st) (defBody st) (defScope st) .none kV doc pm an cdv ct) := ⟨⟨oc, od, kV, doc, pm, an, cdv, ct, osl, rfl, l, c⟩, k⟩
end
theorem small1000 {n : Nat} (h : n ≤ 1000) : n < sizeLine := Nat.lt_of_le_of_lt h (by decide)

/-! ### expressions in short: the name that stands in the i-th slot -/
section
variable {X : Cx}
theorem pv (i : Nat) {x : Str} {pos : Pos} (hN : X.N[i]? = some x := by rfl) (hv : Vis X.env.scope x := by first | exact Or.inl rfl | exact Or.inr (Or.inl rfl) | exact Or.inr (Or.inr rfl)) (hd : (x == ("__debug__" : Str)) = false := by decide)
    (hcd : (x == ("__classdict__" : Str)) = false := by decide) : PE X (.Name x pos) (tVar i) := pe_var hN hv hd hcd
end

/-! ### tests -/
theorem iteF {A B : Prop} (h : B) : if false = true then A else B := by
  rw [if_neg Bool.false_ne_true]
  exact h
theorem iteT {A B : Prop} (h : A) : if true = true then A else B := by
  rw [if_pos rfl]
  exact h
theorem ite2 {c A B : Prop} [Decidable c] (h1 : c → A) (h2 : ¬ c → B) : if c then A else B := by
  by_cases h : c
  · rw [if_pos h]
    exact h1 h
  · rw [if_neg h]
    exact h2 h
/-! ### heaps -/
/-- all that was tracked is as it was -/
noncomputable def Same (H H' : Hp) : Prop := ∀ b o, H b = some o → H' b = some o
theorem Same.refl (H : Hp) : Same H H := fun _ _ h => h
theorem Same.trans {H H1 H2 : Hp} (a : Same H H1) (b : Same H1 H2) : Same H H2 := fun c o h => b c o (a c o h)
theorem Same.free {H H' : Hp} (e : Same H H') {l : Addr} (h : H' l = Option.none) : H l = Option.none := by
  cases q : H l with
  | none => rfl
  | some o =>
    rw [e l o q] at h
    cases h
theorem Same.seq {K : PySem.W.Frag} {H H' : Hp} {a : Addr} {xs : List V} (e : Same H H') (h : SqL K H a xs) : SqL K H' a xs := by
  rcases h with (h | ⟨o, h⟩) | h
  · exact .inl (.inl (e _ _ h))
  · exact .inl (.inr ⟨o, e _ _ h⟩)
  · exact .inr h

end L2

set_option maxHeartbeats 4000000
/-! COMPREHENSIONS: [elt for x in iter], as a value and as what a name is set to. -/
namespace L2
open PySem PySem.Spec PyProof.Rows

/-- the cells that a comprehension's block takes along from the frame around it -/
noncomputable def clOf (env : Env) : List (Str × NameKind) → List (Str × Addr) → List (Str × Addr)
  | [], cs => cs
  | (n, k) :: r, cs => clOf env r (if k == .free then (n, (env.cells.lookup n).getD 0) :: cs else cs)
theorem clOf_lookup {env : Env} {n : Str} {c : Addr} : ∀ {l : List (Str × NameKind)} {cs : List (Str × Addr)}, (∀ y ∈ l, y.2 = .free → ∃ c, env.cells.lookup y.1 = some c) →
    (clOf env l cs).lookup n = some c → cs.lookup n = some c ∨ env.cells.lookup n = some c
  | [], _, _, h => .inl h
  | (m, k) :: r, cs, hl, h => by
    have hr : ∀ y ∈ r, y.2 = .free → ∃ c, env.cells.lookup y.1 = some c := fun y hy => hl y (List.mem_cons_of_mem _ hy)
    rcases clOf_lookup hr h with q | q
    · by_cases hk : (k == NameKind.free) = true
      · rw [if_pos hk] at q
        obtain ⟨c', e⟩ := hl (m, k) List.mem_cons_self (by simpa using hk)
        rw [List.lookup_cons] at q
        cases hm : n == m with
        | true =>
          rw [hm] at q
          have q' : (env.cells.lookup m).getD 0 = c := Option.some.inj q
          have em : n = m := by simpa using hm
          rw [e] at q'
          have q2 : c' = c := q'
          rw [em, e, q2]
          exact .inr rfl
        | false =>
          rw [hm] at q
          exact .inl q
      · rw [if_neg hk] at q
        exact .inl q
    · exact .inr q
theorem clOf_has {env : Env} {n : Str} : ∀ {l : List (Str × NameKind)} {cs : List (Str × Addr)}, ((n, NameKind.free) ∈ l ∨ ∃ c, cs.lookup n = some c) → ∃ c, (clOf env l cs).lookup n = some c
  | [], _, h => by
    rcases h with h | h
    · simp at h
    · exact h
  | (m, k) :: r, cs, h => by
    refine clOf_has (l := r) ?_
    by_cases hn : (n, NameKind.free) ∈ r
    · exact .inl hn
    · refine .inr ?_
      rcases h with h | ⟨c, h⟩
      · rcases List.mem_cons.mp h with e | e
        · cases e
          rw [if_pos (by decide)]
          exact ⟨(env.cells.lookup n).getD 0, by rw [List.lookup_cons]; simp⟩
        · exact absurd e hn
      · by_cases hk : (k == NameKind.free) = true
        · rw [if_pos hk, List.lookup_cons]
          cases hm : n == m with
          | true => exact ⟨_, rfl⟩
          | false => exact ⟨c, h⟩
        · rw [if_neg hk]
          exact ⟨c, h⟩
theorem closure_is {scope : Scope} {env : Env} (h : ∀ y ∈ scope.names, y.2 = .free → ∃ c, env.cells.lookup y.1 = some c) : closureFor scope env = pure (clOf env scope.names []) := by
  have go : ∀ (l : List (Str × NameKind)) (cs : List (Str × Addr)), (∀ y ∈ l, y.2 = .free → ∃ c, env.cells.lookup y.1 = some c) →
      (forIn l cs (fun (x : Str × NameKind) (r : List (Str × Addr)) => if x.2 == NameKind.free then (do let a ← cellOf env x.1; pure (ForInStep.yield ((x.1, a) :: r))) else (pure (ForInStep.yield r) : Sem _)) : Sem _) = pure (clOf env l cs) := by
    intro l
    induction l with
    | nil => intro cs _; rfl
    | cons y r ih =>
      intro cs hl
      obtain ⟨n, k⟩ := y
      have hr : ∀ y ∈ r, y.2 = .free → ∃ c, env.cells.lookup y.1 = some c := fun y hy => hl y (List.mem_cons_of_mem _ hy)
      rw [List.forIn_cons]
      by_cases hk : (k == NameKind.free) = true
      · obtain ⟨c, e⟩ := hl (n, k) List.mem_cons_self (by simpa using hk)
        have e1 : cellOf env n = pure c := by unfold cellOf; rw [show env.cells.lookup n = some c from e]
        dsimp only
        rw [if_pos hk, e1]
        simp only [pure_bind]
        rw [ih _ hr]
        show _ = pure (clOf env r _)
        rw [if_pos hk, show env.cells.lookup n = some c from e]
        all_goals rfl
      · dsimp only
        rw [if_neg hk]
        simp only [pure_bind]
        rw [ih _ hr]
        show _ = pure (clOf env r _)
        rw [if_neg hk]
  have e : closureFor scope env = (forIn scope.names ([] : List (Str × Addr)) (fun (x : Str × NameKind) (r : List (Str × Addr)) => if x.2 == NameKind.free then (do let a ← cellOf env x.1; pure (ForInStep.yield ((x.1, a) :: r))) else (pure (ForInStep.yield r) : Sem _)) : Sem _) := by
    unfold closureFor
    first
      | rfl
      | (simp only [bind_pure]; rfl)
      | (simp; done)
  rw [e]
  exact go _ _ h

theorem relabel_free {env : Env} : ∀ {names : List (Str × NameKind)} {x : Str}, names.lookup x = some .free →
    (names.map fun (n, k) => if (k == NameKind.free && env.scope.kind == .function && env.kindOf n == some .cell) then (n, NameKind.cell) else (n, k)).lookup x = some .cell ∨
    (names.map fun (n, k) => if (k == NameKind.free && env.scope.kind == .function && env.kindOf n == some .cell) then (n, NameKind.cell) else (n, k)).lookup x = some .free
  | [], _, h => by simp at h
  | (n, k) :: r, x, h => by
    have ih := @relabel_free env r x
    cases hx : x == n with
    | true =>
      simp only [List.lookup_cons, hx] at h
      cases h
      by_cases hc : (NameKind.free == NameKind.free && env.scope.kind == .function && env.kindOf n == some .cell) = true
      · refine .inl ?_
        rw [List.map_cons]
        dsimp only
        rw [if_pos hc, List.lookup_cons, hx]
      · refine .inr ?_
        rw [List.map_cons]
        dsimp only
        rw [if_neg hc, List.lookup_cons, hx]
    | false =>
      simp only [List.lookup_cons, hx] at h
      rw [List.map_cons]
      dsimp only
      by_cases hc : (k == NameKind.free && env.scope.kind == .function && env.kindOf n == some .cell) = true
      · rw [if_pos hc, List.lookup_cons, hx]; exact ih h
      · rw [if_neg hc, List.lookup_cons, hx]; exact ih h
/-- what the text of a comprehension must be; fr: the names it takes from around, with their slots there -/
structure CompOk (X : Cx) (scope : Scope) (x : Str) (fr : List (Str × Nat)) : Prop where
  kind : scope.kind = .function
  cell : ∀ y ∈ scope.names, y.2 ≠ .cell
  free : ∀ y ∈ scope.names, y.2 = .free → X.env.kindOf y.1 = some .cell ∨ X.env.kindOf y.1 = some .free
  loc : ∀ y ∈ scope.names, y.2 = .local → scope.names.lookup y.1 = some .local
  name : scope.names.lookup x = some .local
  nd : (x :: fr.map (·.1)).Nodup
  fr : ∀ p ∈ fr, X.N[p.2]? = some p.1 ∧ scope.names.lookup p.1 = some .free

noncomputable def frees (fr : List (Str × Nat)) (σ : St) : St := fr.map fun p => σ.getD p.2 none
section
variable {X : Cx} {scope : Scope} {x : Str} {fr : List (Str × Nat)}
theorem CompOk.cells {pins : List (Addr × Obj)} {σ : St} {H : Hp} {s : Shared} (c : CompOk X scope x fr) (I : Inv X pins σ H s) : ∀ y ∈ scope.names, y.2 = .free → ∃ c, X.env.cells.lookup y.1 = some c :=
  fun y hy hf => I.ok.has y.1 (c.free y hy hf)
theorem CompOk.was {pins : List (Addr × Obj)} {σ : St} {H : Hp} {s : Shared} (c : CompOk X scope x fr) (I : Inv X pins σ H s) {y : Str} {b : Addr} (h : (clOf X.env scope.names []).lookup y = some b) : X.env.cells.lookup y = some b := by
  rcases clOf_lookup (c.cells I) h with q | q
  · simp at q
  · exact q

/-- y = [elt for x in iter], y a plain local: the store goes ahead of the block's own end -/
noncomputable def tSetC (i : Nat) (te : TE) : TS := fun D σ H => te σ H fun v H1 => D.nx (σ.set i (some v)) H1
end

/-! ### the forms one uses: Pv i H: behind i turns -/
section
variable {K : PySem.W.Frag} {b a : Addr} {xs : List V} {te : TE} {fr : List (Str × Nat)} {σ : St} {H : Hp} {Q : VK}
end
end L2

/-! REFUSALS: raise, a call that may raise, try with one except clause. -/
namespace L2
open PySem PySem.Spec PyProof.Rows

theorem ObjOk.there {P : Program} {w : World} {H : Hp} {h : Heap} {a : Addr} {o : HO} (x : ObjOk P w H h a o) : ∃ ob, h.get? a = some ob := by
  cases o with
  | lst xs => obtain ⟨_, _, _, _, e⟩ := x; exact ⟨_, e⟩
  | tup xs => obtain ⟨_, _, _, ob, e, _⟩ := x; exact ⟨ob, e⟩
  | dK kvs => obtain ⟨_, _, _, _, o, _, _, e, _⟩ := x; exact ⟨_, e⟩
  | dT kvs => obtain ⟨_, _, _, _, o, _, _, e, _⟩ := x; exact ⟨_, e⟩
  | set S n => obtain ⟨o, _, _, _, e, _⟩ := x; exact ⟨_, e⟩
  | ins C dx fs => obtain ⟨_, _, _, e, _⟩ := x; exact ⟨_, e⟩
  | own y => exact x
  | xd fs => obtain ⟨_, ⟨_, _, _, e, _⟩, _⟩ := x; exact ⟨_, e⟩
  | rng lo hi => obtain ⟨_, _, _, e⟩ := x; exact ⟨_, e⟩
  | frz ob u => exact ⟨_, x.1⟩
  | tbl ps => exact ⟨_, x⟩
  | met f y => exact ⟨_, x⟩
  | ext φ => exact x.2.1

/-- what must not be touched by an exception on its way: what was there at the entry, what is tracked; all but the frames -/
noncomputable abbrev Cov (fs : List Addr) (h₀ : Heap) (H : Hp) (h B : Heap) : Prop := ∀ b o, h.get? b = some o → b ∉ fs → ((∃ o', h₀.get? b = some o') ∨ ∃ u, H b = some u) → B.get? b = some o
/-- an exception e of the class C is on its way through the body -/
noncomputable def FlyX (X : Cx) (pins : List (Addr × Obj)) (H : Hp) (e : Addr) (C : Value) (h : Heap) : Prop := ∃ B a0, Heap.FlyingW B X.stack e C a0 h ∧ Cov (frs X.stack) X.s₀.heap H h B ∧ ∀ p ∈ X.pn ++ pins, B.get? p.1 = some p.2
/-- how it lies behind a call -/
noncomputable def CX1 (P : Program) (w : World) : CXT := fun outer H s E ev s' => ∃ e C H' B a0, ev = .ref e ∧ s'.os = s.os ∧ AllBare s'.gens ∧ Un (frs outer) [] H H' s.heap s'.heap ∧ HOk P w H' s'.heap ∧
  Heap.FlyingW B outer e C a0 s'.heap ∧ Cov (frs outer) s.heap H' s'.heap B ∧ E C none H'
/-- what this body wants of an exception is right for every one that EX lets pass; for one that is raised here -/
noncomputable abbrev XE := St → Value → Hp → Prop
noncomputable def Lands (X : Cx) (EX : XE) : Prop := ∀ (pins : List (Addr × Obj)) (σ : St) (H : Hp) (s : Shared) (e : Addr) (C : Value), Inv X pins σ H s → FlyX X pins H e C s.heap → EX σ C H → X.xe (.ref e) s
noncomputable def LandsN (X : Cx) (EX : XE) : Prop := ∀ (pins : List (Addr × Obj)) (σ : St) (H : Hp) (s : Shared) (h' : Heap) (e : Addr) (C : Value) (vs : List Value), Inv X pins σ H s → Heap.MadeExcOf s.heap h' e C vs → EX σ C H → X.xe (.ref e) { s with heap := h' }

/-- out of a frame: what stays -/
theorem fly_out {X : Cx} {pins : List (Addr × Obj)} {σ : St} {H : Hp} {s : Shared} {h'' B : Heap} (I : Inv X pins σ H s) (hst : X.stack = X.env :: X.outer) (hfr : X.env.frame = some X.env.locals) (hex : X.ex = [])
    (stay : B.StaysIn h'') (sm : s.heap.UpToSlots h'') (cov : Cov (frs X.stack) X.s₀.heap H s.heap B) :
    Un X.fs [] X.H₀ H X.s₀.heap h'' ∧ HOk X.prog X.w H h'' ∧ Cov X.fs X.s₀.heap H h'' B := by
  have u := I.base
  rw [hex] at u
  have hfs : frs X.stack = X.env.locals :: X.fs := by
    rw [hst]
    unfold frs
    rw [List.filterMap_cons, hfr]
    rfl
  have old : ∀ b o, X.s₀.heap.get? b = some o → b ∉ X.fs → b ∉ frs X.stack := fun b o e hb hm => by
    rw [hfs] at hm
    rcases List.mem_cons.mp hm with z | z
    · exact absurd (Nat.lt_of_lt_of_le (Heap.lt_size e) I.ok.above) (by rw [z]; exact Nat.lt_irrefl _)
    · exact hb z
  have trk : ∀ b v, H b = some v → b ∉ frs X.stack := fun b v e hm => by
    have := I.stkFree b hm
    rw [e] at this
    cases this
  have keepO : ∀ b o, s.heap.get? b = some o → b ∉ frs X.stack → ((∃ o', X.s₀.heap.get? b = some o') ∨ ∃ v, H b = some v) → h''.get? b = some o := fun b o e hb hc => stay b o (cov b o e hb hc)
  have frm : ∀ b, b ∈ X.fs → ∀ o, s.heap.get? b = some o → ∃ sl, h''.get? b = some { o with slots := sl } := fun b hb o e => by
    obtain ⟨_, o', e', nf⟩ := I.funs.mem hb
    rw [e] at e'
    cases e'
    exact sm b o e nf
  refine ⟨⟨fun b o e n hb hx => ?_, fun b o e n hb hx => ?_, u.free, fun b o e hx => ?_, u.tups, u.frzs, u.tbls⟩, fun a o ha => ?_, fun b o e hb hc => ?_⟩
  · exact keepO b o (u.keep b o e n hb hx) (old b o e hb) (.inl ⟨o, e⟩)
  · obtain ⟨sl, e1⟩ := u.slot b o e n hb hx
    obtain ⟨sl', e2⟩ := frm b hb _ e1
    exact ⟨sl', e2⟩
  · obtain ⟨o1, e1⟩ := u.there b o e hx
    by_cases hb : b ∈ X.fs
    · obtain ⟨sl, e2⟩ := frm b hb _ e1
      exact ⟨_, e2⟩
    · exact ⟨o1, keepO b o1 e1 (old b o e hb) (.inl ⟨o, e⟩)⟩
  · refine (I.hok a o ha).stay (fun b v hb q => ?_) (fun _ q => q) fun _ _ q => q
    rcases hb with hb | hb
    · subst hb
      exact keepO b v q (trk b o ha) (.inr ⟨o, ha⟩)
    · exact keepO b v q (trk b _ hb) (.inr ⟨_, hb⟩)
  · rcases hc with ⟨o', e'⟩ | ⟨v, e'⟩
    · obtain ⟨o1, e1⟩ := u.there b o' e' (by simp)
      have q := keepO b o1 e1 (old b o' e' hb) (.inl ⟨o', e'⟩)
      rw [e] at q
      cases q
      exact cov b o e1 (old b o' e' hb) (.inl ⟨o', e'⟩)
    · obtain ⟨o1, e1⟩ := (I.hok b v e').there
      have q := keepO b o1 e1 (trk b v e') (.inr ⟨v, e'⟩)
      rw [e] at q
      cases q
      exact cov b o e1 (trk b v e') (.inr ⟨v, e'⟩)

section
variable {P : Program} {w : World} {K : PySem.W.Frag} {mg : Str → Option Value} {base : Heap} {N : List Str} {qual : Str} {scope : Scope} {f : Addr} {cd : Value} {A : Around} {outer : List Env} {s₀ : Shared} {H₀ : Hp} {E : XK}
/-- in a def's body: an exception leaves it as the def's promise says -/
theorem lands_def : Lands (cxOf (CX1 P w) P w K mg base N qual scope f cd A outer s₀ H₀ E) (fun _ C H => E C none H) := by
  intro pins σ H s e C I F hE
  obtain ⟨B, a0, fl, cov, _⟩ := F
  refine wpAny_leaves_onW I.ok.frames rfl fl fun h'' fl'' sm => ?_
  obtain ⟨un, ok, cv⟩ := fly_out I rfl rfl rfl fl''.1 sm cov
  exact ⟨e, C, H, B, a0, rfl, I.os, I.bare, un, ok, fl'', cv, hE⟩
theorem landsN_def : LandsN (cxOf (CX1 P w) P w K mg base N qual scope f cd A outer s₀ H₀ E) (fun _ C H => E C none H) := by
  intro pins σ H s h' e C vs I M hE
  have hfu := I.stack
  have hid := PySem.W.funFrames_hide (as := frs (cxOf (CX1 P w) P w K mg base N qual scope f cd A outer s₀ H₀ E).stack) hfu (fun env he a ha => List.mem_filterMap.mpr ⟨env, he, ha⟩)
  refine wpAny_leaves_madeW (s := { s with heap := h' }) (h := s.heap) I.ok.frames rfl (fun b o q => PySem.W.of_hideAll _ q) hid M fun h'' t fl'' _ _ sm => ?_
  obtain ⟨un, ok, cv⟩ := fly_out I rfl rfl rfl fl''.1 ((Heap.UpToSlots.of_keeps M.keeps).trans sm) fun b o q hb _ => PySem.W.hideAll_get _ q hb
  exact ⟨e, C, H, _, _, rfl, I.os, I.bare, un, ok, fl'', cv, hE⟩
end

section
variable {X : Cx} {EX : XE} {k : Nat} {f : Addr} {fd : FuncData} {ps : List Str} {sp : Sp} {dvs : List V} {ds : List Value} {x : Str} {p pos : Pos} {e : Expr} {es : List Expr} {t : TA}
/-- a call that may raise: the wish may hang on the names' values here -/
noncomputable def tCallX (sp : Sp) (dvs : List V) (EX : XE) (t : TA) : TE := fun σ H Q => t σ H fun vs H1 => sp (vs ++ dvs) H1 Q fun C _ H' => EX σ C H'
theorem run_fnX {pins : List (Addr × Obj)} {σ : St} {H : Hp} {s : Shared} {Q : VK} {us : List Value} {vs : List V} (F : FnOk X.prog X.w X.K X.mg X.base (CX1 X.prog X.w) k f fd ps sp) (hr : Room k X.A) (hb : Binds X.K fd ps ds) (hd : Vals dvs ds) (hx : Lands X EX)
    (hex : X.ex = []) (I : Inv X pins σ H s) (r : Vals vs us) (h : sp (vs ++ dvs) H Q fun C _ H' => EX σ C H') : wpAny (model X.prog X.w) X.A (call (.ref f) us) (EP X pins σ Q) X.xe s := by
  have r2 : Vals (vs ++ dvs) (us ++ ds) := r.append hd
  have hl : (us ++ ds).length = ps.length := by rw [← r2.length]; exact F.len _ _ _ _ h
  refine wpAny_call (codeAny_mono (F.run X.A X.stack s H ⟨us, []⟩ (us ++ ds) (vs ++ dvs) Q _ hr I.env0 (hb s us I.kIn hl) r2 h) fun r s' hq => ?_)
  cases r with
  | error ev =>
    obtain ⟨e, C, H', B, a0, rfl, os, bare, un, ok, fl, cov, q⟩ := hq
    have J : Inv X pins σ H' s' := I.call' os un ok bare fun b z => absurd z (by simp)
    refine hx pins σ H' s' e C J ⟨B, a0, fl, fun b o e1 hb hc => cov b o e1 hb ?_, fun p hp => ?_⟩ q
    · rcases hc with ⟨o', e'⟩ | hc
      · obtain ⟨o2, e2⟩ := I.base.there b o' e' (by rw [hex]; simp)
        exact .inl ⟨o2, e2⟩
      · exact .inr hc
    · obtain ⟨e1, n1, ne, nf, _⟩ := J.pin p hp
      refine cov p.1 p.2 e1 (fun hm => ?_) (.inl ⟨_, (I.pin p hp).1⟩)
      rcases List.mem_cons.mp (I.stkSub p.1 hm) with z | z
      · exact ne z
      · exact nf z
  | ok fl =>
    cases fl with
    | ret u => exact I.after hq
    | next => exact False.elim hq
    | brk => exact False.elim hq
    | cont => exact False.elim hq
theorem pe_callX (F : FnOk X.prog X.w X.K X.mg X.base (CX1 X.prog X.w) k f fd ps sp) (hr : Room k X.A) (hg : Gl X x) (hm : X.mg x = some (.ref f)) (hk : PySem.W.keepIn X.K (.ref f) = true) (hb : Binds X.K fd ps ds) (hd : Vals dvs ds) (hx : Lands X EX)
    (ha : PA X (e :: es) t) (hex : X.ex = [] := by rfl) (hdb : (x == ("__debug__" : Str)) = false := by decide) (he : starEach (e :: es) X.env = (false, eval e X.env) :: starEach es X.env := by rfl) (hpl : (backTo pos (starEach es X.env)).any (·.1) = false := by rfl) :
    PE X (.Call (.Name x p) (e :: es) [] pos) (tCallX sp dvs EX t) := by
  intro pins s σ H Q I h
  refine wpAny_Call_Name_kw (ld_glob I hg hm ?_ hdb)
  refine PySem.W.callWith_K (h₀ := X.base) I.ok.mod.kin hk (thn (ha pos pins s σ H _ I h) fun us s1 ⟨vs, H1, I1, r, q⟩ => ⟨I1.kIn, ?_⟩) he hpl
  exact run_fnX F hr hb hd hx hex I1 r q
/-- where no exception is wished, none is: a call of a def that may raise, anywhere -/
theorem passes1 {P : Program} {w : World} {Y : Cx} : Passes (CX1 P w) Y E0 := fun _ _ _ _ _ _ _ h => by
  obtain ⟨_, _, _, _, _, _, _, _, _, _, _, _, q⟩ := h
  exact q.elim
end

/-! ### raise C(..) -/
/-- the class object of an own exception, as it stands in the heap -/
theorem excObj {K : PySem.W.Frag} {h : Heap} {C : Addr} {bmB : List Value} {newId : String} (KX : K.In h) (hq : PySem.W.excIn K C bmB newId = true) :
    ∃ bm N nm qn bs hd sn sub ab col dd k0 k1 k2 k3 k5 mN, h.get? C = some (excClassObj nm qn C N bs bm hd sn sub ab col dd k0 k1 k2 k3 k5 newId) ∧ h.Ns N mN ∧ mN "__init__" = none ∧ OwnTail h bmB bm := by
  revert hq
  unfold PySem.W.excIn
  split
  · next dd cd sl lk =>
    split
    · next C1 bm k0 k1 k2 k3 nw k5 em es =>
      intro hq
      simp only [Bool.and_eq_true, beq_iff_eq, Bool.not_eq_true'] at hq
      obtain ⟨⟨⟨⟨⟨e1, e2⟩, e3⟩, e4⟩, e5⟩, e6⟩ := hq
      subst e1 e2
      cases cd with
      | mk nm bs mro ns qn hd sn sub ab col del =>
        have em' : mro = Value.ref C1 :: bm := em
        have e3' : del = false := e3
        subst em' e3'
        have esl : sl = #[k0, k1, k2, k3, some (Value.builtin nw), k5] := by
          cases sl with
          | mk l => exact congrArg Array.mk es
        subst esl
        exact ⟨bm, ns, nm, qn, bs, hd, sn, sub, ab, col, dd, k0, k1, k2, k3, k5, _, KX _ _ lk, Heap.Ns.of_isNs (PySem.W.isNs_of_in KX e5), PySem.W.nsMap_none_of_in KX e5 e6, PySem.W.tail_of_in KX e4⟩
    · intro z; cases z
  · intro z; cases z
theorem OwnTail.up {h h' : Heap} {bmB bm : List Value} (T : OwnTail h bmB bm) (k : ∀ b o, h.get? b = some o → h'.get? b = some o) : OwnTail h' bmB bm := T.keeps k

section
variable {X : Cx} {EX : XE} {C : Addr} {x : Str} {np cpos pos : Pos} {e₀ : Expr} {rest : List Expr} {t : TA} {bmB : List Value} {B newId initId : String}
noncomputable def tRaise (C : Addr) (EX : XE) (t : TA) : TS := fun _ σ H => t σ H fun vs H1 => vs.length ≤ sizeLine ∧ EX σ (.ref C) H1
theorem ps_raise (hc : X.calm = true) (hx : LandsN X EX) (hg : Gl X x) (hm : X.mg x = some (.ref C)) (hC : PySem.W.excIn X.K C bmB newId = true) (FB : ExcBaseFacts B newId initId bmB) (ha : PA X (e₀ :: rest) t)
    (hdb : (x == ("__debug__" : Str)) = false := by decide) (he : starEach (e₀ :: rest) X.env = (false, eval e₀ X.env) :: starEach rest X.env := by rfl) (hpl : (backTo cpos (starEach rest X.env)).any (·.1) = false := by rfl) :
    PS X (.Raise (some (.Call (.Name x np) (e₀ :: rest) [] cpos)) none pos) (tRaise C EX t) := by
  intro pins s σ H D I h
  obtain ⟨bm, N, nm, q, bs, hd, sn, sub, ab, col, dd, k0, k1, k2, k3, k5, mN, hcls, hns, hni, T⟩ := excObj I.mod.kin hC
  have hpl' : (backTo cpos (starEach (e₀ :: rest) X.env)).any (·.1) = false := by
    rw [he]
    show (false || (backTo cpos (starEach rest X.env)).any (·.1)) = false
    rw [hpl]
    rfl
  refine wpAny_Raise_call_subT (C := C) (nm := nm) (q := q) (N := N) (bs := bs) (bm := bm) (hdct := hd) (sn := sn) (sub := sub) (ab := ab) (col := col) (dd := dd) (k0 := k0) (k1 := k1) (k2 := k2) (k3 := k3) (k5 := k5) FB (mN := mN) (T.hasType FB.hasBase) (I.ok.hd hc) hpl' hni
    (ld_glob I hg hm ⟨rfl, ?_⟩ hdb)
  have hw := ha cpos pins s σ H _ I h
  rw [he] at hw ⊢
  refine Calls.evalArgs_plain (thn hw fun us s2 ⟨vs, H2, I2, r, z, q2⟩ => ⟨rfl, ?_, I2.bk _ _ hcls, hns.keeps I2.bk, T.keeps I2.bk, fun h' e M => hx pins σ H2 s2 h' e _ us I2 M q2⟩)
  show us.length ≤ sizeLine
  rw [← r.length]
  exact z
end

/-! ### try .. except C as n -/
section
variable {X : Cx} {pins : List (Addr × Obj)} {σ : St} {H : Hp} {s : Shared}
/-- an exception has passed over the heap -/
theorem Inv.flown {h' B : Heap} (I : Inv X pins σ H s) (hst : X.stack = X.env :: X.outer) (hfr : X.env.frame = some X.env.locals) (hex : X.ex = []) (stay : B.StaysIn h') (sm : s.heap.UpToSlots h') (cov : Cov (frs X.stack) X.s₀.heap H s.heap B)
    (hp : ∀ p ∈ X.pn ++ pins, B.get? p.1 = some p.2) : Inv X pins σ H { s with heap := h' } := by
  obtain ⟨un, ok, _⟩ := fly_out I hst hfr hex stay sm cov
  have cl : ∀ c v, s.heap.IsCell c v → h'.IsCell c v := fun c v ⟨o, e, d⟩ => by
    obtain ⟨sl, e'⟩ := sm c o e fun vs z => by rw [d] at z; cases z
    exact ⟨_, e', d⟩
  refine ⟨I.ok, I.os, I.bare, by rw [hex]; exact un, ?_, fun x c e => ?_, I.free, I.freeC, fun p hm => ?_, ok, I.len⟩
  · obtain ⟨m, hn, hl⟩ := I.loc
    refine ⟨m, sm.ns hn, fun i x v e1 e2 e3 => ?_⟩
    obtain ⟨u, r, l⟩ := hl i x v e1 e2 e3
    refine ⟨u, r, ?_⟩
    rcases l with l | ⟨k, c, e, z⟩
    · exact .inl l
    · exact .inr ⟨k, c, e, cl c _ z⟩
  · obtain ⟨v, z⟩ := I.cell x c e
    exact ⟨v, cl c v z⟩
  · obtain ⟨_, r⟩ := I.pin p hm
    exact ⟨stay _ _ (hp p hm), r⟩
/-- a caught exception: an object of that class -/
noncomputable def ExcAt (e : Addr) (C : Value) : HO := .ext fun h => ∃ o, h.get? e = some o ∧ o.cls = C
theorem Inv.trackE {e : Addr} {C : Value} {oe : Obj} {vs : Array Value} (I : Inv X pins σ H s) (he : s.heap.get? e = some oe) (hc : oe.cls = C) (hd : oe.data = .fields vs) (hn : H e = none) (hnew : X.s₀.heap.get? e = none) (hpn : ∀ p ∈ X.pn ++ pins, p.1 ≠ e) :
    Inv X pins σ (upd H e (ExcAt e C)) s := by
  have ne : ∀ b u, H b = some u → b ≠ e := fun b u q z => by rw [z, hn] at q; cases q
  have nL : X.env.locals ≠ e := fun z => by
    obtain ⟨m, ⟨o, es, ep, ho, hdd, _⟩, _⟩ := I.loc
    rw [z, he] at ho
    cases ho
    rw [hd] at hdd
    cases hdd
  have nC : ∀ x c, X.env.cells.lookup x = some c → c ≠ e := fun x c q z => by
    obtain ⟨v, o, ho, hdd⟩ := I.cell x c q
    rw [z, he] at ho
    cases ho
    rw [hd] at hdd
    cases hdd
  have u := I.base
  refine ⟨I.ok, I.os, I.bare, ⟨u.keep, u.slot, fun b o q n hx => ?_, u.there, fun b xs q => ?_, fun b o v q => ?_, fun b ps q => ?_⟩, I.loc, I.cell, ?_, fun x c q => ?_, fun p hp => ?_, fun a o q => ?_, I.len⟩
  · rw [upd_ne (fun z => by rw [z, hnew] at q; cases q)]
    exact u.free b o q n hx
  · have := u.tups b xs q
    rw [upd_ne (ne _ _ this)]
    exact this
  · have := u.frzs b o v q
    rw [upd_ne (ne _ _ this)]
    exact this
  · obtain ⟨m, e1⟩ := u.tbls b ps q
    exact ⟨m, by rw [upd_ne (ne _ _ e1)]; exact e1⟩
  · rw [upd_ne nL]; exact I.free
  · rw [upd_ne (nC x c q)]; exact I.freeC x c q
  · obtain ⟨e1, n1, r⟩ := I.pin p hp
    exact ⟨e1, by rw [upd_ne (hpn p hp)]; exact n1, r⟩
  · by_cases ha : a = e
    · subst ha
      rw [upd_same] at q
      cases q
      exact ⟨⟨oe, he, hc⟩, ⟨oe, he⟩, fun h1 h2 ⟨o, e1, r⟩ k => ⟨o, k o e1, r⟩⟩
    · rw [upd_ne ha] at q
      exact (I.hok a o q).stay (fun _ _ _ z => z) (fun b z => by rw [upd_ne (ne _ _ z)]; exact z) fun b xs z => by rw [upd_ne (ne _ _ z)]; exact z
/-- the name that an except clause has bound goes -/
theorem Inv.unbind {h' : Heap} {m : Str → Option Value} {u : Option Value} {i : Nat} {n : Str} (I : Inv X pins σ H s) (hN : X.N.Nodup) (hi : X.N[i]? = some n) (hl : X.env.scope.names.lookup n = some .local)
    (hn : s.heap.Ns X.env.locals m) (hn' : h'.Ns X.env.locals (fun x => if x = n then u else m x)) (hs : Heap.SameBut X.env.locals s.heap h') (hm : ∀ (j : Nat) x v, X.N[j]? = some x → σ[j]? = some (some v) → Vis X.env.scope x → ∃ u, RelV v u ∧ Look X.env s.heap m x u) :
    Inv X pins (σ.set i none) H { s with heap := h' } := by
  obtain ⟨oL, esL, epL, hoL, _⟩ := id hn
  have nL : ∀ b o, X.s₀.heap.get? b = some o → b ≠ X.env.locals := fun b o e => Nat.ne_of_lt (Nat.lt_of_lt_of_le (Heap.lt_size e) I.ok.above)
  have kp : ∀ b o, b ≠ X.env.locals → s.heap.get? b = some o → h'.get? b = some o := fun b o hb e => (hs.2 b hb).trans e
  have nT : ∀ b v, H b = some v → b ≠ X.env.locals := fun b v e z => by rw [z, I.free] at e; cases e
  have u0 := I.base
  refine ⟨I.ok, I.os, I.bare, ⟨fun b o e n hb hx => kp b o (nL b o e) (u0.keep b o e n hb hx), fun b o e n hb hx => ?_, u0.free, fun b o e hx => ?_, u0.tups, u0.frzs, u0.tbls⟩, ⟨_, hn', fun j x v e1 e2 e3 => ?_⟩, fun x c e => ?_, I.free, I.freeC, fun p hp => ?_, fun a o e => ?_, by simpa using I.len⟩
  · obtain ⟨sl, e1⟩ := u0.slot b o e n hb hx
    exact ⟨sl, kp b _ (nL b o e) e1⟩
  · obtain ⟨o1, e1⟩ := u0.there b o e hx
    exact ⟨o1, kp b o1 (nL b o e) e1⟩
  · have hj : j ≠ i := fun z => by
      subst z
      have hlt : j < σ.length := by rw [I.len]; exact (List.getElem?_eq_some_iff.mp hi).1
      rw [List.getElem?_set_self hlt] at e2
      cases e2
    rw [List.getElem?_set_ne (Ne.symm hj)] at e2
    have hx : x ≠ n := fun z => hj (nodup_ix hN e1 (z ▸ hi))
    obtain ⟨w, r, l⟩ := hm j x v e1 e2 e3
    refine ⟨w, r, ?_⟩
    rcases l with ⟨k, e⟩ | ⟨k, c, e, z⟩
    · exact .inl ⟨k, by simp [hx, e]⟩
    · exact .inr ⟨k, c, e, z.sameBut hs (I.cne x c e)⟩
  · obtain ⟨v, z⟩ := I.cell x c e
    exact ⟨v, z.sameBut hs (I.cne x c e)⟩
  · obtain ⟨e1, n1, ne, r⟩ := I.pin p hp
    exact ⟨kp _ _ ne e1, n1, ne, r⟩
  · refine (I.hok a o e).stay (fun b v hb q => kp b v ?_ q) (fun _ q => q) fun _ _ q => q
    rcases hb with hb | hb
    · rw [hb]; exact nT a o e
    · exact nT b _ hb
end

/-- the try's own body; the except suite (an exception is being handled: not calm; none leaves it) -/
noncomputable abbrev Cx.body (X : Cx) (pn : List (Addr × Obj)) (E : Value → Shared → Prop) : Cx := { X with pn := pn, xe := E }
noncomputable abbrev Cx.suite (X : Cx) (e : Addr) : Cx := { X with A := X.A.mark (some (.ref e)), calm := false, xe := fun _ _ => False }
section
variable {X : Cx} {pins pins' : List (Addr × Obj)} {σ : St} {H : Hp} {s : Shared} {E : Value → Shared → Prop} {e : Addr}
theorem Inv.intry (I : Inv X pins σ H s) : Inv (X.body (X.pn ++ pins) E) [] σ H s :=
  ⟨⟨I.ok.mod, I.ok.kind, I.ok.glob, I.ok.blt, I.ok.above, I.ok.inj, I.ok.has, I.ok.cab, I.ok.hd, I.ok.frames, I.ok.stk, I.ok.exf, I.ok.bs, I.ok.bsz, I.ok.noex, I.ok.exfs, I.ok.funs, I.ok.frf⟩,
    I.os, I.bare, I.base, I.loc, I.cell, I.free, I.freeC, fun p hp => I.pin p (by simpa using hp), I.hok, I.len⟩
theorem Inv.offtry (I : Inv (X.body (X.pn ++ pins) E) pins' σ H s) : Inv X pins σ H s :=
  ⟨⟨I.ok.mod, I.ok.kind, I.ok.glob, I.ok.blt, I.ok.above, I.ok.inj, I.ok.has, I.ok.cab, I.ok.hd, I.ok.frames, I.ok.stk, I.ok.exf, I.ok.bs, I.ok.bsz, I.ok.noex, I.ok.exfs, I.ok.funs, I.ok.frf⟩,
    I.os, I.bare, I.base, I.loc, I.cell, I.free, I.freeC, fun p hp => I.pin p (List.mem_append_left _ hp), I.hok, I.len⟩
theorem Inv.insuite (I : Inv X pins σ H s) : Inv (X.suite e) pins σ H s :=
  ⟨⟨I.ok.mod, I.ok.kind, I.ok.glob, I.ok.blt, I.ok.above, I.ok.inj, I.ok.has, I.ok.cab, (fun z => by cases z), I.ok.frames, I.ok.stk, I.ok.exf, I.ok.bs, I.ok.bsz, I.ok.noex, I.ok.exfs, I.ok.funs, I.ok.frf⟩,
    I.os, I.bare, I.base, I.loc, I.cell, I.free, I.freeC, I.pin, I.hok, I.len⟩
theorem Inv.offsuite (I : Inv (X.suite e) pins σ H s) (ok : X.Ok) : Inv X pins σ H s :=
  ⟨ok, I.os, I.bare, I.base, I.loc, I.cell, I.free, I.freeC, I.pin, I.hok, I.len⟩
theorem SP.offtry {D : Ends} {f : Flow} (h : SP (X.body (X.pn ++ pins) E) [] D f s) : SP X pins D f s := by
  cases f with
  | next => obtain ⟨σ', H', J, q⟩ := h; exact ⟨σ', H', J.offtry, q⟩
  | brk => obtain ⟨σ', H', J, q⟩ := h; exact ⟨σ', H', J.offtry, q⟩
  | cont => obtain ⟨σ', H', J, q⟩ := h; exact ⟨σ', H', J.offtry, q⟩
  | ret u => obtain ⟨v, σ', H', J, r, q⟩ := h; exact ⟨v, σ', H', J.offtry, r, q⟩
end
/-- the ends of an except suite whose name stands in slot i -/
noncomputable def Ends.gone (D : Ends) (i : Nat) : Ends := { nx := fun σ H => D.nx (σ.set i none) H, rt := D.rt, bk := fun σ H => D.bk (σ.set i none) H, ct := fun σ H => D.ct (σ.set i none) H }
/-- try: body; except C0 as n: suite. tb EX: the body's reading, EX what is wanted of an exception out of it -/
noncomputable def tTry (K : PySem.W.Frag) (C0 : Addr) (i : Nat) (tb : XE → TS) (ts : TS) : TS := fun D σ H =>
  tb (fun σ' C H' => PySem.W.exmOne K C (.ref C0) = some true ∧ ∀ e, H' e = none → ts (D.gone i) (σ'.set i (some (.ref e))) (upd H' e (ExcAt e C))) D σ H
section
variable {X : Cx} {C0 : Addr} {x n : Str} {np hpos pos : Pos} {i : Nat} {body suite : List Stmt} {b₀ : Stmt} {tb : XE → TS} {ts : TS}
theorem gone_ok {pins : List (Addr × Obj)} {D : Ends} {f : Flow} {s : Shared} {e : Addr} (ok : X.Ok) (hN : X.N.Nodup) (hi : X.N[i]? = some n) (hl : X.env.scope.names.lookup n = some .local) (h : SP (X.suite e) pins (D.gone i) f s) :
    wpAny (model X.prog X.w) X.A (do bindName X.env n .none; unbindBehindTheSuite X.env n hpos) (fun _ s' => SP X pins D f s') X.xe s := by
  have hcls : (X.env.scope.kind == .class || (X.env.scope.kind == .module && X.env.locals != X.env.globals)) = false := by rw [ok.kind]; rfl
  have main : ∀ (σ' : St) (H' : Hp), Inv (X.suite e) pins σ' H' s → ∀ (R : Shared → Prop), (∀ s', Inv X pins (σ'.set i none) H' s' → R s') →
      wpAny (model X.prog X.w) X.A (do bindName X.env n .none; unbindBehindTheSuite X.env n hpos) (fun _ s' => R s') X.xe s := by
    intro σ' H' J R hR
    have J1 := J.offsuite ok
    refine wpAny_bind (wpAny_bindName (store_ok (v := .non) J1 hN hi (.inl hl) rfl (fun s1 J2 => ?_) (.inr hl)))
    obtain ⟨m, hn, hm⟩ := J2.loc
    have hlt : i < σ'.length := by rw [J1.len]; exact (List.getElem?_eq_some_iff.mp hi).1
    obtain ⟨u, ru, lk⟩ := hm i n .non hi (List.getElem?_set_self hlt) (.inl hl)
    have hmn : m n = some u := by
      rcases lk with ⟨_, z⟩ | ⟨z, _⟩
      · exact z
      · rcases z with z | z <;> (have z' : X.env.scope.names.lookup n = _ := z; rw [hl] at z'; cases z')
    unfold unbindBehindTheSuite
    refine wpAny_onRaise (wpAny_mono (wpAny_unbindName_local hl hn hmn hcls fun h' v hn' hs => ?_) (fun _ _ q => q) fun _ _ q => wpAny_standAt q)
    refine hR _ ?_
    have J3 := J2.unbind hN hi hl hn hn' hs hm
    rw [List.set_set] at J3
    exact J3
  cases f with
  | next => obtain ⟨σ', H', J, q⟩ := h; exact main σ' H' J _ fun s' J' => ⟨_, H', J', q⟩
  | brk => obtain ⟨σ', H', J, q⟩ := h; exact main σ' H' J _ fun s' J' => ⟨_, H', J', q⟩
  | cont => obtain ⟨σ', H', J, q⟩ := h; exact main σ' H' J _ fun s' J' => ⟨_, H', J', q⟩
  | ret u => obtain ⟨v, σ', H', J, r, q⟩ := h; exact main σ' H' J _ fun s' J' => ⟨v, _, H', J', r, q⟩
theorem ps_try (hst : X.stack = X.env :: X.outer) (hfr : X.env.frame = some X.env.locals) (hex : X.ex = []) (hN : X.N.Nodup) (hi : X.N[i]? = some n) (hl : X.env.scope.names.lookup n = some .local)
    (hg : Gl X x) (hm : X.mg x = some (.ref C0)) (hb : ∀ pn E EX, Lands (X.body pn E) EX → PSs (X.body pn E) body (tb EX)) (hs : ∀ e, PSs (X.suite e) (b₀ :: suite) ts)
    (hdb : (x == ("__debug__" : Str)) = false := by decide) : PS X (.Try body [.ExceptHandler (some (.Name x np)) (some n) (b₀ :: suite) hpos] [] [] pos) (tTry X.K C0 i tb ts) := by
  intro pins s σ H D I h
  refine wpAny_Try_except (wpAny_mono (hb (X.pn ++ pins) (fun ev s₁ => wpAny (model X.prog X.w) X.A (noteFrame ev X.env) (fun _ s₂ => wpAny (model X.prog X.w) X.A (setFlight ev none) (fun _ s₃ =>
    wpAny (model X.prog X.w) X.A (handleBy ev X.env [.ExceptHandler (some (.Name x np)) (some n) (b₀ :: suite) hpos]) (SP X pins D) X.xe s₃) X.xe s₂) X.xe s₁) _ ?_ [] s σ H D I.intry h) (fun f s1 q => ?_) fun _ _ q => q)
  · -- an exception arrives
    intro pins' σ' H' s1 e C J F hE
    obtain ⟨hmt, hsuite⟩ := hE
    have J1 : Inv X pins σ' H' s1 := J.offtry
    obtain ⟨B, a0, fl, cov, cvp⟩ := F
    have fl' : Heap.FlyingW B (X.env :: X.outer) e C a0 s1.heap := hst ▸ fl
    have hfrm : X.A.frames = some (X.env :: X.outer) := I.ok.frames.trans (by rw [hst])
    have pn1 : ∀ p ∈ X.pn ++ pins, B.get? p.1 = some p.2 := fun p hp => cvp p (List.mem_append_left _ hp)
    -- where e lies
    have notB : ∀ b o, B.get? b = some o → b ≠ e := fun b o q z => by have := fl'.2.1; rw [← z, q] at this; cases this
    obtain ⟨oe1, vs1, he1, hc1, hd1, _⟩ := fl'.first
    have nfr : e ∉ frs X.stack := fun hm => by
      obtain ⟨_, o, ho, nf⟩ := J1.stack.mem hm
      rw [he1] at ho
      cases ho
      exact nf vs1 hd1
    have hEn : H' e = none := by
      cases q : H' e with
      | none => rfl
      | some v => exact absurd rfl (notB e _ (cov e _ he1 nfr (.inr ⟨v, q⟩)))
    have hE0 : X.s₀.heap.get? e = none := by
      cases q : X.s₀.heap.get? e with
      | none => rfl
      | some o => exact absurd rfl (notB e _ (cov e _ he1 nfr (.inl ⟨o, q⟩)))
    refine wpAny_looks_onW hfrm hfr fl' fun h4 held4 sm4 => ?_
    refine wpAny_landsW held4 fun h5 fl5 sm5 => ?_
    have J5 : Inv X pins σ' H' { s1 with heap := h5 } := J1.flown hst hfr hex fl5.1 (sm4.trans sm5) cov pn1
    have J5' : Inv (X.suite e) pins σ' H' { s1 with heap := h5 } := J5.insuite
    obtain ⟨ob, hob, hobc⟩ := fl5.there
    refine wpAny_handleBy_cons (codeAny_handlers_test (ld_glob (X := X.suite e) J5' hg hm ?_ hdb)) (by intro q; cases q)
    have LT : PySem.W.Looks (model X.prog X.w) h5 (typeOf (.ref e)) C := by
      rw [← hobc]
      exact (PySem.W.Looks.ld hob).andThen .now
    refine (PySem.W.exm_one J5.kIn LT hmt).here ?_
    show codeAny _ _ _ _ _
    refine codeAny_handlers_suite_as ?_
    refine lands_againW fl5 fun h6 fl6 sm6 => ?_
    have J6 : Inv X pins σ' H' { s1 with heap := h6 } := J1.flown hst hfr hex fl6.1 ((sm4.trans sm5).trans sm6) cov pn1
    obtain ⟨oe, vs, he, hc, hd, _⟩ := fl6.first
    have J7 := J6.trackE he hc hd hEn hE0 fun p hp => notB _ _ (pn1 p hp)
    refine store_ok (X := X.suite e) J7.insuite hN hi (.inl hl) (show RelV (.ref e) (.ref e) from rfl) (fun s8 J8 => ?_) (.inr hl)
    refine wpAny_mono (hs e pins s8 _ _ _ J8 (hsuite e hEn)) (fun f s9 q => ?_) fun _ _ q => q.elim
    exact gone_ok I.ok hN hi hl q
  · cases f with
    | next => exact wpAny_execs_nil (SP.offtry q)
    | brk => exact SP.offtry q
    | cont => exact SP.offtry q
    | ret u => exact SP.offtry q
end
end L2

/-! MORE OPERATIONS: products and quotients of great ints; == and != of data; isinstance; calls while an exception is handled. -/
namespace L2
open PySem PySem.Spec PyProof.Rows
section
variable {X : Cx}
theorem op_mulB : OpR X (binaryOp .Mult) (rI (fun i j => IntMulOk i j) fun i j => .int (i * j)) := opI fun _ _ _ _ _ _ _ hc q => mul_int q hc
noncomputable def CDivB (_ j : Int) : Prop := j ≠ 0 ∧ j.natAbs.log2 < 9000
theorem op_fdivB : OpR X (binaryOp .FloorDiv) (rI CDivB fun i j => .int (i.fdiv j)) := opI fun _ _ _ _ _ _ _ hc q => floordiv_int hc.1 q (.inl (PyProof.noPylong_of_log2 hc.2))
end

mutual
/-- a value is this data, by the abstract heap -/
inductive Dt (K : PySem.W.Frag) (H : Hp) : V → PyData → Prop
  | non : Dt K H .non .none
  | bl (b) : Dt K H (.bl b) (.bool b)
  | int (i) : Dt K H (.int i) (.int i)
  | str (x) : Dt K H (.str x) (.str x)
  | lst {a xs ds} : SqL K H a xs → Dts K H xs ds → Dt K H (.ref a) (.list ds)
  | tup {a xs ds} : SqT K H a xs → Dts K H xs ds → Dt K H (.ref a) (.tuple ds)
inductive Dts (K : PySem.W.Frag) (H : Hp) : List V → List PyData → Prop
  | nil : Dts K H [] []
  | cons {x xs d ds} : Dt K H x d → Dts K H xs ds → Dts K H (x :: xs) (d :: ds)
end
theorem Dts.ints {K : PySem.W.Frag} {H : Hp} : ∀ (ns : List Int), Dts K H (ns.map V.int) (ns.map PyData.int)
  | [] => .nil
  | n :: r => .cons (.int n) (Dts.ints r)
section
variable {X : Cx} {pins : List (Addr × Obj)} {σ : St} {H : Hp} {s : Shared}
mutual
theorem Dt.reads (I : Inv X pins σ H s) : ∀ {x : V} {d : PyData} {u : Value}, Dt X.K H x d → RelV x u → ∃ as, Reads s.heap u d as
  | _, _, _, .non, r => by cases (show _ = Value.none from r); exact ⟨_, .none⟩
  | _, _, _, .bl b, r => by cases (show _ = Value.bool b from r); exact ⟨_, .bool b⟩
  | _, _, _, .int i, r => by obtain ⟨t, e⟩ := (show ∃ t, _ = Value.int i t from r); cases e; exact ⟨_, .int i t⟩
  | _, _, _, .str x, r => by obtain ⟨t, e⟩ := (show ∃ t, _ = Value.str x t from r); cases e; exact ⟨_, .str x t⟩
  | _, _, _, .lst (a := a) h hd, r => by
    cases (show _ = Value.ref a from r)
    obtain ⟨its, rv, ⟨o, n, e, c, _, dd⟩, _⟩ := I.list h
    obtain ⟨as, q⟩ := Dts.reads I hd rv
    exact ⟨_, .list e c dd (by simpa using q)⟩
  | _, _, _, .tup (a := a) h hd, r => by
    cases (show _ = Value.ref a from r)
    obtain ⟨its, rv, ⟨o, e, c, n, dd⟩, _⟩ := I.tuple h
    obtain ⟨as, q⟩ := Dts.reads I hd rv
    exact ⟨_, .tuple e c dd (by simpa using q)⟩
theorem Dts.reads (I : Inv X pins σ H s) : ∀ {xs : List V} {ds : List PyData} {us : List Value}, Dts X.K H xs ds → Vals xs us → ∃ as, ReadsAll s.heap us ds as
  | _, _, _, .nil, r => by cases r; exact ⟨_, .nil⟩
  | _, _, _, .cons h t, r => by
    cases r with
    | cons r1 r2 =>
      obtain ⟨as, q1⟩ := Dt.reads I h r1
      obtain ⟨bs, q2⟩ := Dts.reads I t r2
      exact ⟨_, .cons q1 q2⟩
end
end
/-! ### == and != of data -/
section
variable {X : Cx}
noncomputable def rEqD (K : PySem.W.Frag) : R2 := fun x y H Q => ∃ d d', Dt K H x d ∧ Dt K H y d' ∧ SeqAt.shaped d = true ∧ SeqAt.shaped d' = true ∧ SeqAt.noMix d d' = true ∧ Q (.bl (same d d')) H
theorem op_eqD (hu : X.A.units + 64 < cLine) : OpR X (compareOp .Eq) (rEqD X.K) := by
  intro pins s σ H x y v u Q I rx ry h
  obtain ⟨d, d', h1, h2, s1, s2, mx, q⟩ := h
  obtain ⟨as, r1⟩ := h1.reads I rx
  obtain ⟨bs, r2⟩ := h2.reads I ry
  exact eq_dataH_same r1 r2 s1 s2 hu mx ⟨.bl (same d d'), H, I, rfl, q⟩
end

/-! ### a list or a tuple walked -/
theorem PI.or {X : Cx} {tg l : Expr} {wi wi' : TI} (h : PI X tg l wi) (h' : PI X tg l wi') : PI X tg l (fun σ H R => wi σ H R ∨ wi' σ H R) := by
  intro pins s σ H R I q
  rcases q with q | q
  · exact h pins s σ H R I q
  · exact h' pins s σ H R I q

/-! ### isinstance -/
/-- the facts of an exception class of one's own, for isinstance -/
structure ExcCls (K : PySem.W.Frag) (C : Addr) : Prop where
  ga : PySem.W.findIn K (.ref C) "__getattribute__" = some (some (.builtin "BaseException.__getattribute__"))
  gt : PySem.W.findIn K (.ref C) "__getattr__" = some none
  ca : PySem.W.findIn K (.ref C) "__class__" = some (some (.builtin "object.__class__"))
  cg : PySem.W.specialIn K (.builtin "object.__class__") "__get__" = some (some (.builtin "getset_descriptor.__get__"))
  tk : PySem.W.takesIn K (.builtin "object.__class__") = some true
  ob : PySem.W.mroIn K C (.type "object") = some true
  bx : PySem.W.mroIn K C (.type "BaseException") = some true
  cl : (PySem.W.clsIn K C).isSome = true
theorem exc_class {prog : Program} {w : World} {A : Around} {E : Value → Shared → Prop} {s : Shared} {K : PySem.W.Frag} {x C : Addr} {Q : Option Value → Shared → Prop} (F : ExcCls K C) (KX : K.In s.heap) (ho : ∃ o, s.heap.get? x = some o ∧ o.cls = .ref C)
    (h : Q (some (.ref C)) { s with toks := s.toks + 1 }) : wpAny (model prog w) A (getAttr? (.ref x) "__class__") Q E s := by
  obtain ⟨hh, g, d, t, os⟩ := s
  obtain ⟨o, ho, hc⟩ := ho
  have L0 : PySem.W.Looks (model prog w) hh (typeOf (.ref x)) (.ref C) := hc ▸ (PySem.W.Looks.ld ho).andThen .now
  have L1 := PySem.W.looks_findIn (M := model prog w) KX F.ga
  have L2 := PySem.W.looks_findIn (M := model prog w) KX F.gt
  have L3 := PySem.W.looks_findIn (M := model prog w) KX F.ca
  have L4 := PySem.W.looks_specialIn (M := model prog w) KX F.cg
  have L5 := PySem.W.looks_takesIn (M := model prog w) KX F.tk
  have L6 := PySem.W.looks_mroIn (M := model prog w) KX F.ob
  have L7 := PySem.W.looks_mroIn (M := model prog w) KX F.bx
  unfold getAttr? getAttrBy? getAttrBy
  refine wpAny_bind (wpAny_mkText (wpAny_bind (wpAny_attempt (wpAny_holding (wpAny_bind (L0.at (wpAny_bind (L1.at ?_))))))))
  show wpAny _ _ (getAttrByItsOwn _ _ _ _ _ _) _ _ _
  unfold getAttrByItsOwn
  refine wpAny_bind (show wpAny _ _ (hookBefore (.ref C)) _ _ _ from L2.at ?_)
  refine wpAny_bind (wpAny_attempt (wpAny_holding ?_))
  show wpAny _ _ (boundAndCalled _ _ _) _ _ _
  unfold boundAndCalled
  rw [PySem.F.attr_ValueError.ga.bind (.ref x)]
  refine wpAny_bind (wpAny_pure (wpAny_call ?_))
  refine codeAny_call_builtin PySem.F.attr_ValueError.ga.plain PySem.F.entry_bexc_ga ?_
  have hk : builtinKind "BaseException.__getattribute__" = some .slot := by decide +kernel
  have hsplit : splitId "BaseException.__getattribute__" = some ("BaseException", "__getattribute__") := by decide +kernel
  have hargs := PySem.F.args_bexc_ga (.ref x) (.str "__class__" t)
  have LI : PySem.W.Looks (model prog w) hh (isInstance (.ref x) (.type "BaseException")) true := L0.andThen L7
  show wpAny _ _ (checkBuiltinCall "BaseException.__getattribute__" ⟨[.ref x, .str "__class__" t], []⟩) _ _ _
  simp only [checkBuiltinCall, hk, hsplit]
  refine wpAny_bind (LI.at ?_)
  repeat wp_step
  rw [hc]
  refine L3.at ?_
  refine wpAny_bind (show wpAny _ _ (Builtin.ObjectAttr.getOf (some (.builtin "object.__class__"))) _ _ _ from L4.at ?_)
  have LD : PySem.W.Looks (model prog w) hh (Builtin.ObjectAttr.dataDescriptor? (some (.builtin "object.__class__")) (some (.builtin "getset_descriptor.__get__"))) (some (.builtin "getset_descriptor.__get__", .builtin "object.__class__")) := L5.andThen .now
  refine wpAny_bind (LD.at ?_)
  repeat wp_step
  have LO : PySem.W.Looks (model prog w) hh (isInstance (.ref x) (.type "object")) true := L0.andThen L6
  refine codeAny_call_builtin PySem.W.KF.slot_gs.plain PySem.W.KF.entry_gs (PySem.W.KF.slot_gs.check _ _ _ _ _ _ _ _ PySem.W.KF.type_class (PySem.W.KF.args_gs _ _ _) ?_)
  (unfold Builtin.«getset_descriptor.__get__» Builtin.Getset_descriptor.descrGet; rw [PySem.W.dga_obj]; refine wpAny_bind (wpAny_pure ?_))
  (unfold Builtin.Getset_descriptor.descrGetter Builtin.Getset_descriptor.descrCheckInstance Builtin.Getset_descriptor.descrNameAndClass; simp only [PySem.W.KF.owner_class])
  refine wpAny_bind (wpAny_bind (wpAny_pure (wpAny_bind (LO.at (wpAny_pure ?_)))))
  repeat wp_step
  refine ⟨Code.quiet_builtin _ (by decide +kernel), codeAny_builtin PySem.W.KF.entry_class ?_⟩
  (unfold Builtin.«object.__class__» shownTypeOf; repeat wp_step)
  rw [hc]
  exact wpAny_pure (wpAny_pure h)
theorem kitx_exc {K : PySem.W.Frag} {x C : Addr} (F : ExcCls K C) : PySem.W.KitX K (.ref x) (.ref C) (fun h => ∃ o, h.get? x = some o ∧ o.cls = .ref C) where
  ty := fun M h _ ⟨o, ho, hc⟩ => hc ▸ (PySem.W.Looks.ld ho).andThen .now
  it := fun M h KX _ => by
    have q := F.cl
    unfold PySem.W.clsIn at q
    split at q
    · next lk =>
      intro A' Q' E' s' k z
      (unfold isType loadHead; exact wpAny_bind (wpAny_loadPart (k _ _ (KX _ _ lk)) (wpAny_pure z)))
    · cases q
  ne := fun h tp dd its n sl KX htp => by
    have q := F.cl
    refine Bool.eq_false_iff.mpr fun z => ?_
    have e : C = tp := Value.ref.inj (beq_iff_eq.mp z)
    subst e
    unfold PySem.W.clsIn at q
    split at q
    · next lk => exact absurd ((KX _ _ lk).symm.trans htp) (by intro z2; cases z2)
    · cases q
  ca := fun KX p k => exc_class F KX p k
/-- the type of a value: as TyOf has it, or a caught exception's class -/
inductive TyX (K : PySem.W.Frag) (H : Hp) : V → Value → Prop where
  | ty {x : V} {t : Value} (h : TyOf K H x t) : TyX K H x t
  | exc {e C : Addr} (h : H e = some (ExcAt e (.ref C))) (F : ExcCls K C) : TyX K H (.ref e) (.ref C)
  | tupS {a : Addr} {xs : List V} (h : SqT K H a xs) : TyX K H (.ref a) (.type "tuple")
noncomputable def clsV : V → Value
  | .ty n => .type n
  | .ref a => .ref a
  | _ => .none
noncomputable def isCls : V → Bool
  | .ty _ => true
  | .ref _ => true
  | _ => false
noncomputable def rIsi (K : PySem.W.Frag) : List V → Hp → VK → Prop := fun vs H Q => ∃ x c t b, vs = [x, c] ∧ TyX K H x t ∧ isCls c = true ∧ PySem.W.kitOne K t (clsV c) = some b ∧ Q (.bl b) H
theorem call_isi {X : Cx} : CallR X (.builtin "isinstance") (rIsi X.K) := by
  intro pins s σ H xs us Q I rv h
  obtain ⟨x, c, t, b, rfl, ty, ic, e, q⟩ := h
  obtain ⟨u, w, rfl, r1, r2⟩ := rv.two
  have ew : w = clsV c := by
    cases c <;> first | exact r2 | cases ic
  subst ew
  have fin : ∀ tk, EP X pins σ Q (.bool b) { s with toks := tk } := fun tk => ⟨.bl b, H, I.tok tk, rfl, q⟩
  cases ty with
  | ty h => exact isinst_ok I r1 h e fin
  | exc h F =>
    obtain rfl : u = _ := r1
    obtain ⟨φ, _, _⟩ := (show ObjOk X.prog X.w H s.heap _ (ExcAt _ _) from I.hok _ _ h)
    exact PySem.W.kia_one (kitx_exc F) I.kIn φ e (fun z => nomatch z) fin
  | tupS h =>
    obtain rfl : u = _ := r1
    obtain ⟨its, _, ⟨o, h1, h2, _⟩, _⟩ := I.tuple h
    exact PySem.W.kia_one PySem.W.kitx_tuple I.kIn ⟨o, h1, h2⟩ e (fun z => nomatch z) fin

/-! ### defs that are called while an exception is handled -/
/-- room, without a word on what is handled -/
structure RoomA (k : Nat) (A : Around) : Prop where
  dp : A.depth + 3 * k + 5 < recursionLimit
  un : A.units + 16 * k + 200 < cLine
theorem Room.a {k : Nat} {A : Around} (r : Room k A) : RoomA k A := ⟨r.dp, r.un⟩
theorem RoomA.mono {j k : Nat} {A : Around} (r : RoomA k A) (h : j ≤ k) : RoomA j A := ⟨by have := r.dp; omega, by have := r.un; omega⟩
theorem RoomA.deeper {k : Nat} {A : Around} (r : RoomA (k + 1) A) (env : Env) : RoomA k (A.deeper env) :=
  ⟨by have := r.dp; show A.depth + 1 + 3 * k + 5 < _; omega, by have := r.un; show A.units + 3 + 16 * k + 200 < _; omega⟩
theorem RoomA.mark {k : Nat} {A : Around} (r : RoomA k A) (v : Option Value) : RoomA k (A.mark v) := ⟨r.dp, r.un⟩
theorem RoomA.calm {k : Nat} {A : Around} (r : RoomA k A) : Room k { A with handled := none } := ⟨rfl, r.dp, r.un⟩
/-- a def's promise, whatever is handled; no exception leaves it -/
structure FnOkA (P : Program) (w : World) (K : PySem.W.Frag) (mg : Str → Option Value) (base : Heap) (k : Nat) (f : Addr) (fd : FuncData) (ps : List Str) (sp : Sp) : Prop where
  len : ∀ vs H Q E, sp vs H Q E → vs.length = ps.length
  run : ∀ (A : Around) (outer : List Env) (s : Shared) (H : Hp) (args : Args) (us : List Value) (vs : List V) (Q : VK) (E : XK), RoomA k A → Env0 P w K mg base A outer s H → BindsTo s fd args (ps.zip us) → Vals vs us → sp vs H Q E →
    codeAny (model P w) A (.call (.ref f) args) (CR CX0 outer P w H s Q E) s
theorem FnOkA.ok {P : Program} {w : World} {K : PySem.W.Frag} {mg : Str → Option Value} {base : Heap} {k : Nat} {f : Addr} {fd : FuncData} {ps : List Str} {sp : Sp} (F : FnOkA P w K mg base k f fd ps sp) : FnOk P w K mg base CX0 k f fd ps sp :=
  ⟨F.len, fun A outer s H args us vs Q E hr => F.run A outer s H args us vs Q E hr.a⟩
/-- the body's context: as cxOf, but not calm -/
noncomputable abbrev cxA (P : Program) (w : World) (K : PySem.W.Frag) (mg : Str → Option Value) (base : Heap) (N : List Str) (qual : Str) (scope : Scope) (f : Addr) (cd : Value) (A : Around) (outer : List Env) (s : Shared) (H : Hp) (E : XK) : Cx :=
  { cxOf CX0 P w K mg base N qual scope f cd A outer s H E with calm := false, xe := fun _ _ => False }
section
variable {P : Program} {w : World} {K : PySem.W.Frag} {mg : Str → Option Value} {base : Heap}
theorem Fun.okA {x qual : Str} {st : Stmt} {f : Addr} {fd : FuncData} {N ps : List Str} {k : Nat} {sp : Sp} (F : Fun K x qual st f fd) (S : FnScope N ps (defScope st)) (len : ∀ vs H Q E, sp vs H Q E → vs.length = ps.length)
    (hbody : ∀ (cdv : Value) (A : Around) (outer : List Env) (s : Shared) (H : Hp) (vs : List V) (Q : VK) (E : XK), RoomA k (A.deeper (envOfC qual (defScope st) s.heap.objs.size f cdv)) → sp vs H Q E →
      ∃ t, PSs (cxA P w K mg base N qual (defScope st) f cdv A outer s H E) (defBody st) t ∧ t { nx := fun _ H' => Q .non H', rt := Q } (start N vs) H) : FnOkA P w K mg base (k + 1) f fd ps sp := by
  obtain ⟨oc, od, kV, doc, pm, an, cdv, ct, osl, rfl, lk, hcd⟩ := F.ex
  refine ⟨len, fun A outer s H args us vs Q E hr e0 hb r hsp => ?_⟩
  have hl := len _ _ _ _ hsp
  have kp : ∀ b o, base.get? b = some o → s.heap.get? b = some o := fun b o e => (e0.bs b o e).1
  have hkind : ∀ y ∈ ps.zip us, (defScope st).names.lookup y.1 = some .local ∨ ((defScope st).names.lookup y.1 = some .cell ∧ ((cellsFrom (s.heap.objs.size + 1) (defScope st).names []).lookup y.1).isSome = true) := fun ⟨n, v⟩ hy => by
    rcases S.par n (List.of_mem_zip hy).1 with q | q
    · exact .inl q
    · exact .inr ⟨q, PySem.W.cellsFrom_some _ _ _ (.inl q)⟩
  refine codeAny_call_function (by have := hr.dp; omega) (e0.mod.kin.keeps kp _ _ lk) rfl S.co S.gen rfl (PySem.W.codeRec_of (e0.mod.kin.keeps kp) hcd) (hb _ _ _ _ ?_)
  refine wpAny_newFunctionEnv_cells S.kind hkind fun env he s1 x => ?_
  subst he
  refine ⟨(e0.mod.nolimit.keeps kp).keeps x.toInCall.keep, codeAny_func ?_⟩
  obtain ⟨t, ht, hq⟩ := hbody cdv A outer s H vs Q E (hr.deeper _) hsp
  have I0 : Inv (cxOf CX0 P w K mg base N qual (defScope st) f cdv { A with handled := none } outer s H E) [] (start N vs) H s1 :=
    inv_start S rfl (⟨e0.frames, e0.mod, e0.bs, e0.bsz, e0.funs, e0.frf, e0.hok, e0.bare⟩ : Env0 P w K mg base { A with handled := none } outer s H) hl r x
  have I : Inv (cxA P w K mg base N qual (defScope st) f cdv A outer s H E) [] (start N vs) H s1 :=
    ⟨⟨I0.ok.mod, I0.ok.kind, I0.ok.glob, I0.ok.blt, I0.ok.above, I0.ok.inj, I0.ok.has, I0.ok.cab, (fun z => by cases z), Around.frames_deeper e0.frames, I0.ok.stk, I0.ok.exf, I0.ok.bs, I0.ok.bsz, I0.ok.noex, I0.ok.exfs, I0.ok.funs, I0.ok.frf⟩,
      I0.os, I0.bare, I0.base, I0.loc, I0.cell, I0.free, I0.freeC, I0.pin, I0.hok, I0.len⟩
  refine wpAny_mono (ht [] s1 (start N vs) H _ I hq) (fun fl s' hs => ?_) fun _ _ z => z.elim
  cases fl with
  | ret u => obtain ⟨v, σ', H', J, rv, q⟩ := hs; exact ⟨v, H', J.os, J.bare, J.base, J.hok, rv, q⟩
  | next => obtain ⟨σ', H', J, q⟩ := hs; exact ⟨.non, H', J.os, J.bare, J.base, J.hok, rfl, q⟩
  | brk => obtain ⟨_, _, _, q⟩ := hs; exact q.elim
  | cont => obtain ⟨_, _, _, q⟩ := hs; exact q.elim
end
section
variable {X : Cx} {k : Nat} {f : Addr} {fd : FuncData} {ps : List Str} {sp : Sp} {dvs : List V} {ds : List Value} {x : Str} {p pos : Pos} {e : Expr} {es : List Expr} {t : TA}
theorem pe_callA (F : FnOkA X.prog X.w X.K X.mg X.base k f fd ps sp) (hr : RoomA k X.A) (hg : Gl X x) (hm : X.mg x = some (.ref f)) (hk : PySem.W.keepIn X.K (.ref f) = true) (hb : Binds X.K fd ps ds) (hd : Vals dvs ds)
    (ha : PA X (e :: es) t) (hdb : (x == ("__debug__" : Str)) = false := by decide) (he : starEach (e :: es) X.env = (false, eval e X.env) :: starEach es X.env := by rfl) (hpl : (backTo pos (starEach es X.env)).any (·.1) = false := by rfl) :
    PE X (.Call (.Name x p) (e :: es) [] pos) (tCall sp dvs E0 t) := by
  intro pins s σ H Q I h
  refine wpAny_Call_Name_kw (ld_glob I hg hm ?_ hdb)
  refine PySem.W.callWith_K (h₀ := X.base) I.ok.mod.kin hk (thn (ha pos pins s σ H _ I h) fun us s1 ⟨vs, H1, I1, r, q⟩ => ⟨I1.kIn, ?_⟩) he hpl
  have r2 : Vals (vs ++ dvs) (us ++ ds) := r.append hd
  have hl : (us ++ ds).length = ps.length := by rw [← r2.length]; exact F.len _ _ _ _ q
  refine wpAny_call (codeAny_mono (F.run X.A X.stack s1 H1 ⟨us, []⟩ (us ++ ds) (vs ++ dvs) Q E0 hr I1.env0 (hb s1 us I1.kIn hl) r2 q) fun r s' hq => ?_)
  cases r with
  | error e => exact False.elim hq
  | ok fl =>
    cases fl with
    | ret u => exact I1.after hq
    | next => exact False.elim hq
    | brk => exact False.elim hq
    | cont => exact False.elim hq
end
end L2

/-! SMALL WORDS for the terms that a program prints. -/
namespace L2
open PySem PySem.Spec PyProof.Rows
section
variable {X : Cx}
theorem op_eqZ : OpR X (compareOp .Eq) (rI0 fun i j => .bl (decide (i = j))) := opB0 fun i j _ _ _ _ _ q => eq_int (by rw [Bool.beq_eq_decide_eq]; exact q)
theorem op_neZ : OpR X (compareOp .NotEq) (rI0 fun i j => .bl (!decide (i = j))) := opB0 fun i j _ _ _ _ _ q => ne_int (by rw [bne, Bool.beq_eq_decide_eq]; exact q)
theorem PS.nox {st : Stmt} {t : TS} (h : PS X.nox st t) : PS X st t := fun pins s σ H D I hw =>
  wpAny_mono (h pins s σ H D (I.wish _) hw) (fun _ _ q => q.unwish) fun _ _ z => z.elim
end
section
variable {P : Program} {w : World} {K : PySem.W.Frag} {mg : Str → Option Value} {base : Heap}
/-- a def that may raise -/
theorem Fun.okX {x qual : Str} {st : Stmt} {f : Addr} {fd : FuncData} {N ps : List Str} {k : Nat} {sp : Sp} (F : Fun K x qual st f fd) (S : FnScope N ps (defScope st)) (len : ∀ vs H Q E, sp vs H Q E → vs.length = ps.length)
    (hbody : ∀ (cdv : Value) (A : Around) (outer : List Env) (s : Shared) (H : Hp) (vs : List V) (Q : VK) (E : XK), Room k (A.deeper (envOfC qual (defScope st) s.heap.objs.size f cdv)) → sp vs H Q E →
      ∃ t, PSs (cxOf (CX1 P w) P w K mg base N qual (defScope st) f cdv A outer s H E) (defBody st) t ∧ t { nx := fun _ H' => Q .non H', rt := Q } (start N vs) H) : FnOk P w K mg base (CX1 P w) (k + 1) f fd ps sp := by
  obtain ⟨oc, od, kV, doc, pm, an, cdv, ct, osl, rfl, lk, hcd⟩ := F.ex
  exact fn_of lk hcd S len fun A outer s H vs Q E hr hsp => hbody cdv A outer s H vs Q E hr hsp
end
end L2
namespace Att
open PySem PySem.W PySem.Calls PyProof.Rows
theorem ofPy_ints : ∀ ns : List Int, ofPys (ns.map PyData.int) = ns.map WData.int
  | [] => rfl
  | n :: r => by
    show ofPy (.int n) :: ofPys (r.map PyData.int) = _
    rw [ofPy_ints r]
    rfl
theorem lay_bits {ns : List Int} (h : (WData.list (ns.map WData.int)).layable = true) : ∀ n ∈ ns, Builtin.Int.intBits n ≤ 1048576 := fun n hn => by
  have e : ofPy (.list (ns.map PyData.int)) = WData.list (ns.map WData.int) := by
    show WData.list (ofPys (ns.map PyData.int)) = _
    rw [ofPy_ints]
  have sh : PySem.Spec.Shape.has (.list .int) (.list (ns.map PyData.int)) = true := by
    simp [PySem.Spec.Shape.has]
  exact intBits_le_of_item hn (layable0_of_all (lay0_ofPy (s := .list .int) rfl sh (by rw [e]; exact h)))
/-- as attach_call, with the size of the script's ints -/
theorem attach_callB {l : OpenLaw} {n : Nat} {q : Program} {loose : List Str} {XP : (Str → Option Value) → Heap → Prop} {YP : World → Heap → Prop} {d : DefRec} (hn : l.most = some n) (hdf : d.params.defaults = [])
    (call : ∀ (w : World) (s₀ s₁ : Shared) (mg mb : Str → Option Value) (fa : Addr) (a : Addr) (vs : List Value) (ns : List Int), Ground q loose [] XP w s₀ mg mb s₁.heap → YP w s₁.heap → mg d.name = some (.ref fa) →
      s₁.heap.get? a = some { cls := .type "list", data := .seq vs.toArray } → IntsAre vs ns → ns.length ≤ n → (∀ m ∈ ns, Builtin.Int.intBits m ≤ 1048576) → s₁.gens = #[] →
      codeAny (model l.prog w) callerA (.call (.ref fa) ⟨[.ref a], []⟩) (fun r s' => r = .ok (.ret (.bool true)) ∧ OldK s₁.heap s'.heap ∧ s'.os = s₁.os ∧ AllBare s'.gens) s₁) :
    WalkO q loose XP YP l.row.toRowW d [] (fun f vs => PySem.call f vs) := by
  intro w s₀ s₁ mg mb G Y fa o pm cd doc dV kV ho hd hcd hD hmg hg args vals as hpre hlay hrd hwl hlo
  obtain rfl : dV = .none := Dflts.none hD hdf
  obtain rfl : kV = .none := Dflts.noKw hD
  obtain ⟨a, vs, ns, rfl, rfl, hobj, hints, hlen⟩ := script_of hn hpre hwl
  have hb := lay_bits (layableW_arg hlay _ List.mem_cons_self)
  refine enter_call (codeAny_mono (call w s₀ s₁ mg mb fa a vs ns G Y hmg hobj hints hlen hb hg) fun r s' hq => ?_)
  obtain ⟨rfl, h2, h3, h4⟩ := hq
  exact ⟨.inl ⟨.bool true, .bool true, [], rfl, fun _ => rfl, .bool true, post_true l _, fun _ => ⟨List.Pairwise.nil, fun _ hm => (nomatch hm)⟩⟩, h2, h3, h4⟩
end Att
namespace L2
open PySem PySem.Spec PyProof.Rows
/-- the law's promise: handed a script of at most 63 ints of at most 2^20 bits, True comes out -/
noncomputable def spLaw (K : PySem.W.Frag) : Sp := fun vs H Q _ => ∃ (a : Addr) (ns : List Int), vs = [.ref a] ∧ SqL K H a (ns.map V.int) ∧ ns.length ≤ 63 ∧ (∀ m ∈ ns, Builtin.Int.intBits m ≤ 1048576) ∧ ∀ H', Q (.bl true) H'
theorem walkB {l : PySem.W.OpenLaw} {k : Nat} {q : Program} {loose : List Str} {XP : (Str → Option Value) → Heap → Prop} {YP : World → Heap → Prop} {d : DefRec} {K : Params → PySem.W.Frag} {x : Str}
    (hn : l.most = some 63) (hdf : d.params.defaults = []) (hr : Room k callerA) (hY : ∀ (w : World) (h : Heap), YP w h → (K w.params).In h)
    (F : ∀ (w : World) (mg : Str → Option Value) (fa : Addr) (h : Heap), (K w.params).In h → h.Ns mainGlobals mg → mg d.name = some (.ref fa) →
      ∃ fd : FuncData, (∀ (s : Shared) (u : Value), BindsTo s fd ⟨[u], []⟩ [(x, u)]) ∧ ∀ base : Heap, (K w.params).In base → base.Ns mainGlobals mg → FnOk l.prog w (K w.params) mg base CX0 k fa fd [x] (spLaw (K w.params))) :
    PySem.W.WalkO q loose XP YP l.row.toRowW d [] (fun f vs => PySem.call f vs) := by
  refine Att.attach_callB hn hdf fun w s₀ s₁ mg mb fa a vs ns G Y hmg hobj hints hlen hb hg => ?_
  have KX := hY w _ Y
  obtain ⟨fd, hbn, hF⟩ := F w mg fa _ KX G.T.g hmg
  exact law_call KX G.T.g G.T.b G.T.builtins G.T.nolimit hg hobj hints (Nat.le_trans hlen (by decide)) hr hF hbn (fun H _ hS => ⟨a, ns, rfl, hS, hlen, hb, fun _ => rfl⟩) fun H e s' z => z
/-! ### readings, turned to plain words -/
/-- a loop alone: its body is a name B -/
theorem for_st {wi : TI} {g : TG} {tb : TS} {D : Ends} {σ : St} {H : Hp} (h : ∀ B : TS, B = tb → wi σ H fun J H1 => ∃ W : Nat → Nat → St → Hp → Prop, (∃ m, W 0 m σ H1) ∧ ∀ i m σ H, W i m σ H →
    (J.stop i H ∧ D.nx σ H) ∨ (J.go i H ∧ ∃ N : St → Hp → Prop, (∀ σ' H', N σ' H' → ∃ m', m' < m ∧ W (i + 1) m' σ' H') ∧ ∀ x H', J.yld i H x H' → g x σ H' fun σ2 H2 => B { D with nx := N, ct := N, bk := D.nx } σ2 H2)) : tFor wi g tb D σ H := h _ rfl
/-- a statement alone: what stands behind it is a name NX -/
theorem st {t u : TS} {D : Ends} {σ : St} {H : Hp} (h : ∀ NX : St → Hp → Prop, NX = u D → t { D with nx := NX } σ H) : tSeq t u D σ H := h _ rfl
section
variable {g : Int → Int → V} {C : Int → Int → Prop} {f : Int → V} {i j : Int} {H : Hp} {Q : VK}
theorem rd_rI0 : rI0 g (.int i) (.int j) H Q = Q (g i j) H := propext ⟨fun ⟨_, _, e1, e2, q⟩ => by cases e1; cases e2; exact q, fun q => ⟨_, _, rfl, rfl, q⟩⟩
theorem rd_rI : rI C g (.int i) (.int j) H Q = (C i j ∧ Q (g i j) H) := propext ⟨fun ⟨_, _, e1, e2, q⟩ => by cases e1; cases e2; exact q, fun q => ⟨_, _, rfl, rfl, q⟩⟩
theorem rd_rU : rU f (.int i) H Q = Q (f i) H := propext ⟨fun ⟨_, e1, q⟩ => by cases e1; exact q, fun q => ⟨_, rfl, q⟩⟩
end
/-! ### comprehensions whose elements leave what is tracked as it is: R i x y: the element at place i, of x, is y -/
theorem Same.new {H : Hp} {a : Addr} {o : HO} (h : H a = none) : Same H (upd H a o) := fun b u e => by rw [upd_ne (ne_of_none e h)]; exact e
theorem Same.over {H H1 : Hp} {a : Addr} {o : HO} (h : H a = none) (s : Same H H1) : Same H (upd H1 a o) := fun b u e => by rw [upd_ne (ne_of_none e h)]; exact s b u e
theorem Same.tup {K : PySem.W.Frag} {H H' : Hp} {a : Addr} {xs : List V} (e : Same H H') (h : SqT K H a xs) : SqT K H' a xs := by
  rcases h with (h | ⟨o, h⟩) | h
  · exact .inl (.inl (e _ _ h))
  · exact .inl (.inr ⟨o, e _ _ h⟩)
  · exact .inr h
section
variable {K : PySem.W.Frag} {a b : Addr} {xs : List V} {te : TE} {fr : List (Str × Nat)} {σ : St} {H : Hp} {Q : VK}
/-- what holds behind i turns -/
noncomputable def CompP (H : Hp) (a : Addr) (R : Nat → V → Prop) (i : Nat) (H1 : Hp) : Prop := Same H H1 ∧ ∃ ys : List V, H1 a = some (.lst ys) ∧ ys.length = i ∧ ∀ j y, ys[j]? = some y → R j y
theorem CompP.start (ha : H a = none) (R : Nat → V → Prop) : CompP H a R 0 (upd H a (.lst [])) := ⟨Same.new ha, [], upd_same, rfl, fun j y e => by simp at e⟩
theorem CompP.next {R : Nat → V → Prop} {i : Nat} {H1 H2 : Hp} {y : V} (ha : H a = none) (h : CompP H a R i H1) (s : Same H1 H2) (r : R i y) (hz : i < sizeLine) :
    ∃ zs, H2 a = some (.lst zs) ∧ zs.length < sizeLine ∧ CompP H a R (i + 1) (upd H2 a (.lst (zs ++ [y]))) := by
  obtain ⟨s1, ys, e, hl, hr⟩ := h
  refine ⟨ys, s _ _ e, by omega, Same.over ha (s1.trans s), _, upd_same, by simp [hl], fun j z q => ?_⟩
  by_cases hj : j < ys.length
  · rw [List.getElem?_append_left hj] at q
    exact hr j z q
  · rw [List.getElem?_append_right (by omega)] at q
    have : j = i := by
      by_cases h0 : j - ys.length = 0
      · omega
      · rw [List.getElem?_eq_none (by simp; omega)] at q
        cases q
    subst this
    rw [show j - ys.length = 0 by omega] at q
    cases Option.some.inj q
    exact r
end
/-- a list that is told by its places -/
theorem list_is {α β : Type} {ys : List β} {xs : List α} {f : α → β} (hl : ys.length = xs.length) (h : ∀ (j : Nat) (y : β), ys[j]? = some y → ∃ x, xs[j]? = some x ∧ y = f x) : ys = xs.map f := by
  refine List.ext_getElem (by simpa using hl) fun i h1 h2 => ?_
  obtain ⟨x, e1, e2⟩ := h i ys[i] (by simp [h1])
  obtain ⟨hx, e3⟩ := List.getElem?_eq_some_iff.mp e1
  rw [List.getElem_map, e2, e3]
end L2

/-! COMPREHENSIONS IN GENERAL: any target, one test, names that inner comprehensions take along. -/
namespace L2
open PySem PySem.Spec PyProof.Rows
noncomputable def relab (sc scope : Scope) : Scope := { scope with names := scope.names.map fun (n, k) => if (k == .free && sc.kind == .function && sc.names.lookup n == some .cell) then (n, .cell) else (n, k) }
theorem relab_is {scope sc : Scope} {env : Env} (h : env.scope = sc) : relabel scope env = relab sc scope := by subst h; rfl
theorem own_app : ∀ (names : List (Str × NameKind)) (n : Nat) (acc : List (Str × Addr)), cellsFrom n names acc = cellsFrom n names [] ++ acc
  | [], _, _ => rfl
  | (x, k) :: r, n, acc => by
    unfold cellsFrom
    split
    · rw [own_app r (n + 1) ((x, n) :: acc), own_app r (n + 1) [(x, n)], List.append_assoc]
      rfl
    · exact own_app r n acc
theorem own_mem {y : Str} {b : Addr} : ∀ {names : List (Str × NameKind)} {n : Nat} {acc : List (Str × Addr)}, (y, b) ∈ cellsFrom n names acc → (y, b) ∈ acc ∨ (y, NameKind.cell) ∈ names
  | [], _, _, h => .inl h
  | (x, k) :: r, n, acc, h => by
    unfold cellsFrom at h
    split at h
    · rename_i hk
      rcases own_mem h with q | q
      · rcases List.mem_cons.mp q with e | e
        · have ek : k = .cell := by simpa using hk
          cases e
          exact .inr (by rw [ek]; exact List.mem_cons_self)
        · exact .inl e
      · exact .inr (List.mem_cons_of_mem _ q)
    · rcases own_mem h with q | q
      · exact .inl q
      · exact .inr (List.mem_cons_of_mem _ q)
theorem own_has {y : Str} : ∀ {names : List (Str × NameKind)} {n : Nat} {acc : List (Str × Addr)}, ((y, NameKind.cell) ∈ names ∨ ∃ b, acc.lookup y = some b) → ∃ b, (cellsFrom n names acc).lookup y = some b
  | [], _, _, h => by
    rcases h with h | h
    · simp at h
    · exact h
  | (x, k) :: r, n, acc, h => by
    unfold cellsFrom
    split
    · rename_i hk
      refine own_has ?_
      rcases h with h | ⟨b, h⟩
      · rcases List.mem_cons.mp h with e | e
        · cases e
          exact .inr ⟨n, by rw [List.lookup_cons]; simp⟩
        · exact .inl e
      · rw [List.lookup_cons]
        cases hx : y == x with
        | true => exact .inr ⟨n, rfl⟩
        | false => exact .inr ⟨b, h⟩
    · rename_i hk
      refine own_has ?_
      rcases h with h | h
      · rcases List.mem_cons.mp h with e | e
        · cases e
          simp at hk
        · exact .inl e
      · exact .inr h
theorem relab_was {env : Env} {q : NameKind} : ∀ {names : List (Str × NameKind)} {x : Str},
    (names.map fun (n, k) => if (k == NameKind.free && env.scope.kind == .function && env.kindOf n == some .cell) then (n, NameKind.cell) else (n, k)).lookup x = some q →
    (q = .cell ∨ q = .free) → (x, NameKind.free) ∈ names ∨ (x, NameKind.cell) ∈ names
  | [], _, h, _ => by simp at h
  | (n, k) :: r, x, h, hq => by
    have ih := @relab_was env q r x
    rw [List.map_cons] at h
    dsimp only at h
    by_cases hc : (k == NameKind.free && env.scope.kind == .function && env.kindOf n == some .cell) = true
    · rw [if_pos hc, List.lookup_cons] at h
      cases hx : x == n with
      | true =>
        have ex : x = n := by simpa using hx
        have ek : k = .free := by
          have := (Bool.and_eq_true _ _ ▸ ((Bool.and_eq_true _ _ ▸ hc).1)).1
          simpa using this
        rw [ex, ek]
        exact .inl List.mem_cons_self
      | false =>
        rw [hx] at h
        exact (ih h hq).imp (List.mem_cons_of_mem _) (List.mem_cons_of_mem _)
    · rw [if_neg hc, List.lookup_cons] at h
      cases hx : x == n with
      | true =>
        rw [hx] at h
        have ex : x = n := by simpa using hx
        have ek : k = q := Option.some.inj h
        rcases hq with e | e
        · rw [ex, ek, e]; exact .inr List.mem_cons_self
        · rw [ex, ek, e]; exact .inl List.mem_cons_self
      | false =>
        rw [hx] at h
        exact (ih h hq).imp (List.mem_cons_of_mem _) (List.mem_cons_of_mem _)
theorem key_one {α : Type} {x : Str} {k k' : α} : ∀ {l : List (Str × α)}, (l.map (·.1)).Nodup → (x, k) ∈ l → (x, k') ∈ l → k = k'
  | (n, q) :: r, nd, h, h' => by
    obtain ⟨n1, n2⟩ := List.nodup_cons.mp nd
    rcases List.mem_cons.mp h with e | e <;> rcases List.mem_cons.mp h' with e' | e'
    · cases e; cases e'; rfl
    · cases e; exact absurd (List.mem_map.mpr ⟨_, e', rfl⟩) n1
    · cases e'; exact absurd (List.mem_map.mpr ⟨_, e, rfl⟩) n1
    · exact key_one n2 e e'
theorem newEnv_own {M : Model} {A : Around} {E : Value → Shared → Prop} {s : Shared} {scope : Scope} {globals : Addr} {cl : List (Str × Addr)} {qual : Str} {func : Option Addr} {code : Value} {env : Env} {bl : Addr} {Q : Env → Shared → Prop}
    (h : Q (newEnv scope s.heap.objs.size globals (cellsFrom (s.heap.objs.size + 1) scope.names cl) qual func code (some env) bl) { s with heap := pushCells (s.heap.push { cls := .type "dict", data := .dict #[] }) scope.names }) :
    wpAny M A (newFunctionEnv scope globals cl [] qual func code (some env) bl) Q E s := by
  simp only [newFunctionEnv, Option.isSome_some, if_true]
  refine wpAny_bind (wpAny_alloc ?_)
  refine wpAny_bind (wpAny_layCells _ (fun name kind cells => by cases hkc : kind == NameKind.cell <;> simp [hkc]) _ _ _ _ ?_)
  rw [show ({ s with heap := s.heap.push { cls := .type "dict", data := .dict #[] } } : Shared).heap.objs.size = s.heap.objs.size + 1 from Heap.size_push ..]
  exact wpAny_pure h

/-- the context of a comprehension's block -/
noncomputable def cxCompG (X : Cx) (scope : Scope) (N : List Str) (s : Shared) (H : Hp) (fp : List Addr) : Cx :=
  { X with N := N, s₀ := s, H₀ := H, env := compEnvC scope (cellsFrom (s.heap.objs.size + 1) scope.names (clOf X.env scope.names [])) s.heap.objs.size X.env, outer := X.stack, ex := fp, fn := fun y => scope.names.lookup y == some .cell, pn := [], xe := fun _ _ => False }
structure CompOkG (X : Cx) (sc scope : Scope) (xs : List Str) (fr : List (Str × Nat)) : Prop where
  hsc : X.env.scope = sc
  kind : scope.kind = .function
  nn : (scope.names.map (·.1)).Nodup
  free : ∀ y ∈ scope.names, y.2 = .free → sc.names.lookup y.1 = some .cell ∨ sc.names.lookup y.1 = some .free
  loc : ∀ y ∈ scope.names, y.2 = .local → scope.names.lookup y.1 = some .local
  fr : ∀ p ∈ fr, X.N[p.2]? = some p.1 ∧ scope.names.lookup p.1 = some .free
section
variable {X : Cx} {sc scope : Scope} {xs : List Str} {fr : List (Str × Nat)}
theorem CompOkG.free' (c : CompOkG X sc scope xs fr) : ∀ y ∈ scope.names, y.2 = .free → X.env.kindOf y.1 = some .cell ∨ X.env.kindOf y.1 = some .free := fun y hy hf => by
  unfold Env.kindOf
  rw [c.hsc]
  exact c.free y hy hf
theorem CompOkG.cells {pins : List (Addr × Obj)} {σ : St} {H : Hp} {s : Shared} (c : CompOkG X sc scope xs fr) (I : Inv X pins σ H s) : ∀ y ∈ scope.names, y.2 = .free → ∃ c, X.env.cells.lookup y.1 = some c :=
  fun y hy hf => I.ok.has y.1 (c.free' y hy hf)
theorem CompOkG.was {pins : List (Addr × Obj)} {σ : St} {H : Hp} {s : Shared} (c : CompOkG X sc scope xs fr) (I : Inv X pins σ H s) {y : Str} {b : Addr} (h : (clOf X.env scope.names []).lookup y = some b) : X.env.cells.lookup y = some b := by
  rcases clOf_lookup (c.cells I) h with q | q
  · simp at q
  · exact q
theorem cells_cases {names : List (Str × NameKind)} {n : Nat} {cl : List (Str × Addr)} {y : Str} {b : Addr} (h : (cellsFrom n names cl).lookup y = some b) : (cellsFrom n names []).lookup y = some b ∨ ((cellsFrom n names []).lookup y = none ∧ cl.lookup y = some b) := by
  rw [own_app, List.lookup_append] at h
  cases q : (cellsFrom n names []).lookup y with
  | none => rw [q] at h; exact .inr ⟨rfl, h⟩
  | some c => rw [q] at h; exact .inl h
theorem comp_startG {pins : List (Addr × Obj)} {σ : St} {H : Hp} {s : Shared} {fp : List Addr} (c : CompOkG X sc scope xs fr) (I : Inv X pins σ H s)
    (hf : ∀ b ∈ fp, FpOk X pins H b ∧ ∃ o, s.heap.get? b = some o) :
    Inv (cxCompG X scope (xs ++ fr.map (·.1)) s H fp) [] (xs.map (fun _ => none) ++ frees fr σ) H { s with heap := pushCells (s.heap.push { cls := .type "dict", data := .dict #[] }) scope.names } := by
  have k : ∀ b o, s.heap.get? b = some o → (pushCells (s.heap.push { cls := .type "dict", data := .dict #[] }) scope.names).get? b = some o := fun b o e => pushCells_keeps _ _ b o (Heap.get?_push_of_some _ e)
  have hn : (pushCells (s.heap.push { cls := .type "dict", data := .dict #[] }) scope.names).Ns s.heap.objs.size (fun _ => none) := (Heap.Ns.new s.heap (.type "dict")).keeps (pushCells_keeps _ _)
  have ok := cellsFrom_ok scope.names (s.heap.push { cls := .type "dict", data := .dict #[] }) (s.heap.objs.size + 1) [] ⟨fun _ _ hm => (nomatch hm), List.Pairwise.nil⟩ (by rw [Heap.size_push]; exact Nat.le_refl _)
  rw [Heap.size_push] at ok
  have I4 : Inv X pins σ H { s with heap := pushCells (s.heap.push { cls := .type "dict", data := .dict #[] }) scope.names } := I.kept (t' := s.toks) k
  generalize hh : pushCells (s.heap.push { cls := .type "dict", data := .dict #[] }) scope.names = h₁ at k hn ok I4
  have old : ∀ {y : Str} {b : Nat}, (clOf X.env scope.names []).lookup y = some b → b < s.heap.objs.size := fun {y b} e => by
    obtain ⟨v, z⟩ := I.cell y b (c.was I e)
    exact z.lt
  have own : ∀ {y : Str} {b : Nat}, (cellsFrom (s.heap.objs.size + 1) scope.names []).lookup y = some b → h₁.IsCell b none ∧ s.heap.objs.size + 1 ≤ b := fun {y b} e => ok.empty y b (mem_of_lookup e)
  refine ⟨⟨I.ok.mod, c.kind, I.ok.glob, I.ok.blt, Nat.le_refl _, fun y z b h1 h2 => ?_, fun y hy => ?_, fun y b h0 h1 => ?_, I.ok.hd, I.ok.frames, .inl rfl, fun b hb => ?_, fun b o e => ?_, ?_, fun b o e hb => ?_, fun b hb hs => ?_, ?_, fun b hb => ?_⟩,
    rfl, I.bare, Un.kept k, ⟨_, hn, fun i y v h1 h2 h3 => ?_⟩, fun y b h => ?_, ?_, fun y b h => ?_, fun p hp => absurd (show p ∈ ([] : List (Addr × Obj)) from hp) (by simp), I4.hok, ?_⟩
  · rcases cells_cases h1 with e1 | ⟨_, e1⟩ <;> rcases cells_cases h2 with e2 | ⟨_, e2⟩
    · exact name_of_addr ok.apart (mem_of_lookup e1) (mem_of_lookup e2)
    · exact absurd (Nat.lt_of_lt_of_le (old e2) (Nat.le_of_succ_le (own e1).2)) (Nat.lt_irrefl _)
    · exact absurd (Nat.lt_of_lt_of_le (old e1) (Nat.le_of_succ_le (own e2).2)) (Nat.lt_irrefl _)
    · exact I.ok.inj y z b (c.was I e1) (c.was I e2)
  · show ∃ b, (cellsFrom (s.heap.objs.size + 1) scope.names (clOf X.env scope.names [])).lookup y = some b
    have hm : (y, NameKind.free) ∈ scope.names ∨ (y, NameKind.cell) ∈ scope.names := by
      rcases hy with hy | hy
      · exact relab_was hy (.inl rfl)
      · exact relab_was hy (.inr rfl)
    rcases hm with hm | hm
    · exact own_has (.inr (clOf_has (.inl hm)))
    · exact own_has (.inl hm)
  · have hy : scope.names.lookup y = some .cell := by
      have h0' : (scope.names.lookup y == some NameKind.cell) = true := h0
      simpa using h0'
    rcases cells_cases h1 with e1 | ⟨e1, _⟩
    · have := (own e1).2
      show s.heap.objs.size ≤ b
      omega
    · obtain ⟨b', e⟩ := own_has (n := s.heap.objs.size + 1) (acc := []) (.inl (mem_of_lookup hy))
      rw [e1] at e
      cases e
  · obtain ⟨⟨_, _, _, _, f5, _⟩, o, e⟩ := hf b hb
    refine ⟨Nat.ne_of_lt (Heap.lt_size e), fun y b' h => ?_⟩
    rcases cells_cases h with e1 | ⟨_, e1⟩
    · exact fun z => absurd (Nat.lt_of_lt_of_le (Heap.lt_size e) (Nat.le_of_succ_le (z ▸ (own e1).2))) (Nat.lt_irrefl _)
    · exact f5 y b' (c.was I e1)
  · exact I.bs b o e
  · exact Nat.le_trans I.ok.bsz I.sz
  · obtain ⟨⟨_, _, _, f4, _, _⟩, _⟩ := hf b hb
    rcases f4 with z | z
    · exact I.ok.noex b o e z
    · exact absurd (Nat.lt_of_lt_of_le (Heap.lt_size e) (Nat.le_trans I.ok.bsz z)) (Nat.lt_irrefl _)
  · obtain ⟨⟨_, f2, f3, _, _, _⟩, _⟩ := hf b hb
    rcases List.mem_cons.mp (I.stkSub b hs) with z | z
    · exact f2 z
    · exact f3 z
  · exact I.stack
  · exact I.stkFree b hb
  · have h1' : (xs ++ fr.map (·.1))[i]? = some y := h1
    by_cases hi : i < xs.length
    · rw [List.getElem?_append_left (by simpa using hi), List.getElem?_map] at h2
      cases q : xs[i]? with
      | none => rw [q] at h2; cases h2
      | some z => rw [q] at h2; cases Option.some.inj h2
    · rw [List.getElem?_append_right (by omega)] at h1'
      rw [List.getElem?_append_right (by simpa using hi), List.length_map] at h2
      generalize i - xs.length = j at h1' h2
      rw [List.getElem?_map] at h1'
      unfold frees at h2
      rw [List.getElem?_map] at h2
      cases e : fr[j]? with
      | none => rw [e] at h1'; cases h1'
      | some p =>
        rw [e] at h1' h2
        have e1 : p.1 = y := Option.some.inj h1'
        have e2 : σ.getD p.2 none = some v := Option.some.inj h2
        obtain ⟨n1, n2⟩ := c.fr p (List.mem_of_getElem? e)
        have e3 : σ[p.2]? = some (some v) := by
          rw [List.getD_eq_getElem?_getD] at e2
          cases q : σ[p.2]? with
          | none => rw [q] at e2; cases e2
          | some o => rw [q] at e2; have e2' : o = some v := e2; rw [e2']
        subst e1
        have hm : (p.1, NameKind.free) ∈ scope.names := PySem.mem_of_lookup n2
        have kd := c.free' _ hm rfl
        obtain ⟨m', _, hl⟩ := I4.loc
        obtain ⟨u, ru, lk⟩ := hl p.2 p.1 v n1 e3 (.inr kd)
        refine ⟨u, ru, .inr ⟨relabel_free n2, ?_⟩⟩
        rcases lk with ⟨k1, _⟩ | ⟨_, b, q, z⟩
        · rcases kd with kd | kd <;> (rw [kd] at k1; cases k1)
        · obtain ⟨b', q'⟩ := clOf_has (env := X.env) (l := scope.names) (cs := []) (.inl hm)
          have e4 := c.was I q'
          rw [q] at e4
          cases e4
          refine ⟨b, ?_, z⟩
          show (cellsFrom (s.heap.objs.size + 1) scope.names (clOf X.env scope.names [])).lookup p.1 = some b
          rw [own_app, List.lookup_append]
          cases w : (cellsFrom (s.heap.objs.size + 1) scope.names []).lookup p.1 with
          | none => exact q'
          | some b2 =>
            rcases own_mem (mem_of_lookup w) with w | w
            · simp at w
            · cases key_one c.nn hm w
  · rcases cells_cases h with e1 | ⟨_, e1⟩
    · exact ⟨none, (own e1).1⟩
    · exact I4.cell y b (c.was I e1)
  · exact I.hok.fresh (Nat.le_refl _)
  · rcases cells_cases h with e1 | ⟨_, e1⟩
    · exact I.hok.fresh (by have := (own e1).2; omega)
    · exact I4.freeC y b (c.was I e1)
  · show (xs.map (fun _ => none) ++ frees fr σ).length = (xs ++ fr.map (·.1)).length
    simp [frees]
end

/-! ### a turn: the test, the element -/
noncomputable abbrev TOx := St → Hp → (Option V → Hp → Prop) → Prop
noncomputable def tEl (te : TE)  : TOx := fun σ H Q => te σ H fun y H' => Q (some y) H'
/-- what a turn runs, behind the store: tests, then the element -/
noncomputable def turnOf (elt : Expr) (ifs : List Expr) (env : Env) (M : Model) (A : Around) (Q : Option Value → Shared → Prop) (E : Value → Shared → Prop) (s : Shared) : Prop :=
  match ifs with
  | [] => wpAny M A (eval elt env) (fun x s1 => Q (some x) s1) E s
  | [c] => wpAny M A (isTrue c env (eval c env)) (fun b s1 => if b = true then wpAny M A (eval elt env) (fun x s2 => Q (some x) s2) E s1 else Q none s1) E s
  | _ => False
noncomputable def POx (X : Cx) (elt : Expr) (ifs : List Expr) (t : TOx) : Prop := ∀ (pins : List (Addr × Obj)) (s : Shared) (σ : St) (H : Hp) (Q : Option V → Hp → Prop), Inv X pins σ H s → t σ H Q →
  turnOf elt ifs X.env (model X.prog X.w) X.A (fun o s' => ∃ v H', Inv X pins σ H' s' ∧ (match o, v with | some u, some y => RelV y u | none, none => True | _, _ => False) ∧ Q v H') X.xe s
theorem po_el {X : Cx} {elt : Expr} {te : TE} (h : PE X elt te) : POx X elt [] (tEl te) := fun pins s σ H Q I hw =>
  thn (h pins s σ H _ I hw) fun u s1 ⟨y, H1, I1, r1, q1⟩ => ⟨some y, H1, I1, r1, q1⟩
theorem codeAny_compLoop_gen {prog : Program} {w : World} {A : Around} {R : Result → Shared → Prop} {s : Shared} {elt target iter : Expr} {ifs : List Expr} {scope : Scope} {pos : Pos} {it acc : Value} {env : Env} (I : Nat → Shared → Prop)
    (turn : ∀ n s, I n s → wpAny (model prog w) A (pyNext it) (fun r s₁ => match r with
      | none => R (.ok .next) s₁
      | some v => wpAny (model prog w) A (letOwnedTupleGo target it v) (fun _ s₁' => wpAny (model prog w) A (assign target env v) (fun _ s₂ => turnOf elt ifs env (model prog w) A (fun o s₃ => match o with
          | some x => wpAny (model prog w) A (call (.builtin "list.append") [acc, x]) (fun _ s₄ => ∃ m, m < n ∧ I m s₄) (fun _ _ => False) s₃
          | none => ∃ m, m < n ∧ I m s₃)
          (fun _ _ => False) s₂) (fun _ _ => False) s₁') (fun _ _ => False) s₁) (fun _ _ => False) s)
    (n : Nat) (h : I n s) (hifs : ifs.length ≤ 1) :
    codeAny (model prog w) A (.compLoop (.ListComp elt [⟨target, iter, ifs, 0⟩] scope pos) 0 it acc env) R s := by
  refine codeAny_loop rfl I (fun n s hI => ?_) n h
  show wpAny _ _ ((compTurn (.ListComp elt [⟨target, iter, ifs, 0⟩] scope pos) 0 it acc env).onRaise (fun x => do noteFrame x env; theTreesLotGoes x)) _ _ s
  refine wpAny_noted ?_
  have T := turn n s hI
  match ifs, hifs, T with
  | [], _, T =>
    rw [compTurn_list1]
    refine wpAny_bind (wpAny_standAt (wpAny_bind (wpAny_mono T (fun r s₁ h₁ => ?_) fun _ _ h' => h'.elim)))
    cases r with
    | none => exact wpAny_pure h₁
    | some v =>
      refine wpAny_bind (wpAny_mono h₁ (fun _ s₁' h₁' => ?_) fun _ _ h' => h'.elim)
      exact wpAny_bind (wpAny_mono h₁' (fun _ s₂ h₂ => wpAny_bind (wpAny_bind (wpAny_mono (show wpAny _ _ _ _ _ _ from h₂) (fun x s₃ h₃ => wpAny_bind (wpAny_mono h₃
        (fun _ s₄ h₄ => wpAny_pure (wpAny_pure ⟨rfl, h₄⟩)) fun _ _ h' => h'.elim)) fun _ _ h' => h'.elim))) fun _ _ h' => h'.elim)
  | [c], _, T =>
    have e1 : compTurn (.ListComp elt [⟨target, iter, [c], 0⟩] scope pos) 0 it acc env = (standAt iter.pos >>= fun _ => pyNext it >>= fun r => match r with
      | none => pure (.done .next)
      | some v => letOwnedTupleGo target it v >>= fun _ => assign target env v >>= fun _ => isTrue c env (eval c env) >>= fun ok =>
        (if ok = true then (eval elt env >>= fun x => call (.builtin "list.append") [acc, x] >>= fun _ => pure ()) >>= fun _ => again (.compLoop (.ListComp elt [⟨target, iter, [c], 0⟩] scope pos) 0 it acc env)
          else again (.compLoop (.ListComp elt [⟨target, iter, [c], 0⟩] scope pos) 0 it acc env))) := by
      unfold compTurn
      simp only [List.forIn_cons, List.forIn_nil, if_true, bind_assoc, pure_bind, List.getElem?_cons_zero]
      rfl
    rw [e1]
    refine wpAny_bind (wpAny_standAt (wpAny_bind (wpAny_mono T (fun r s₁ h₁ => ?_) fun _ _ h' => h'.elim)))
    cases r with
    | none => exact wpAny_pure h₁
    | some v =>
      refine wpAny_bind (wpAny_mono h₁ (fun _ s₁' h₁' => ?_) fun _ _ h' => h'.elim)
      refine wpAny_bind (wpAny_mono h₁' (fun _ s₂ h₂ => wpAny_bind (wpAny_mono (show wpAny _ _ _ _ _ _ from h₂) (fun b s₃ h₃ => ?_) fun _ _ h' => h'.elim)) fun _ _ h' => h'.elim)
      cases b with
      | true =>
        rw [if_pos rfl] at h₃ ⊢
        exact wpAny_bind (wpAny_bind (wpAny_mono h₃ (fun x s₄ h₄ => wpAny_bind (wpAny_mono h₄ (fun _ s₅ h₅ => wpAny_pure (wpAny_pure ⟨rfl, h₅⟩)) fun _ _ h' => h'.elim)) fun _ _ h' => h'.elim))
      | false =>
        rw [if_neg Bool.false_ne_true] at h₃ ⊢
        exact wpAny_pure ⟨rfl, h₃⟩
  | _ :: _ :: _, hifs, T =>
    exact absurd hifs (by simp)
end L2
namespace L2
open PySem PySem.Spec PyProof.Rows
noncomputable def outTo (a : Addr) (N : Hp → Prop) : Option V → Hp → Prop
  | some y, H => ∃ zs, H a = some (.lst zs) ∧ zs.length < sizeLine ∧ N (upd H a (.lst (zs ++ [y])))
  | none, H => N H
noncomputable abbrev CompWG (J : It) (g : TG) (tt : TOx) (n : Nat) (fr : List (Str × Nat)) (σ : St) (a : Addr) (H : Hp) (Q : VK) : Prop :=
  ∃ W : Nat → Nat → Hp → Prop, (∃ m, W 0 m (upd H a (.lst []))) ∧ ∀ i m H2, W i m H2 → (J.stop i H2 ∧ Q (.ref a) H2) ∨
    (J.go i H2 ∧ ∃ N : Hp → Prop, (∀ H', N H' → ∃ m', m' < m ∧ W (i + 1) m' H') ∧ ∀ (ys : St) x H3, ys.length = n → J.yld i H2 x H3 →
      g x (ys ++ frees fr σ) H3 fun σ4 H4 => (∃ ys' : St, ys'.length = n ∧ σ4 = ys' ++ frees fr σ) ∧ tt σ4 H4 (outTo a N))
noncomputable def tCompG (wi : TI) (g : TG) (tt : TOx) (n : Nat) (fr : List (Str × Nat)) : TE := fun σ H Q => wi σ H fun J H1 => ∀ a, H1 a = none → CompWG J g tt n fr σ a H1 Q
section
variable {X : Cx} {sc scope : Scope} {xs : List Str} {fr : List (Str × Nat)} {elt tg iter : Expr} {ifs : List Expr} {g : TG} {tt : TOx}
theorem comp_coreG {pins : List (Addr × Obj)} {σ : St} {H : Hp} {s : Shared} {pos : Pos} {J : It} {fp : List Addr} {it : Addr} {tn : Nat → Heap → Prop} {Q : VK} {RR : Value → Addr → Result → Shared → Prop} {E : Value → Shared → Prop}
    (c : CompOkG X sc scope xs fr) (hc : X.calm = true) (hifs : ifs.length ≤ 1) (I : Inv X pins σ H s) (T : Turn X.prog X.w X.K tg J fp it tn) (t0 : tn 0 s.heap) (hf : ∀ b ∈ fp, FpOk X pins H b)
    (hg : ∀ (s₃ : Shared) (H₃ : Hp) (fp : List Addr), (cxCompG X scope (xs ++ fr.map (·.1)) s₃ H₃ fp).env.scope = relab sc scope → PG (cxCompG X scope (xs ++ fr.map (·.1)) s₃ H₃ fp) tg g)
    (he : ∀ (s₃ : Shared) (H₃ : Hp) (fp : List Addr), (cxCompG X scope (xs ++ fr.map (·.1)) s₃ H₃ fp).env.scope = relab sc scope → POx (cxCompG X scope (xs ++ fr.map (·.1)) s₃ H₃ fp) elt ifs tt)
    (hw : ∀ a, H a = none → CompWG J g tt xs.length fr σ a H Q)
    (hRR : ∀ a C H' s' m, s'.heap.Ns C m → Inv X pins σ H' s' → FpOk X pins H' C → Q (.ref a) H' → RR (.ref a) C (.ok .next) s') :
    wpAny (model X.prog X.w) X.A (newList []) (fun acc s₃ => wpAny (model X.prog X.w) X.A (newFunctionEnv scope X.env.globals (clOf X.env scope.names []) [] X.env.qual none .none (some X.env)) (fun cenv s₄ =>
      codeAny (model X.prog X.w) X.A (.compStart (.ListComp elt [⟨tg, iter, ifs, 0⟩] scope pos) 0 (.ref it) acc { cenv with scope := relabel scope X.env }) (RR acc cenv.locals) s₄) E s₃) E s := by
  obtain ⟨W, ⟨m0, w0⟩, turn⟩ := hw s.heap.objs.size I.fresh
  refine wpAny_newObj_type (newEnv_own ?_)
  have I3 : Inv X pins σ (upd H s.heap.objs.size (.lst [])) { s with heap := s.heap.push { cls := .type "list", dict := none, data := .seq ([] : List Value).toArray } } := I.lnew (ys := []) (its := []) (t' := s.toks) .nil (Nat.zero_le _)
  have kp : ∀ b o, s.heap.get? b = some o → (s.heap.push { cls := .type "list", dict := none, data := .seq ([] : List Value).toArray }).get? b = some o := fun b o e => Heap.get?_push_of_some _ e
  have un0 : Un (frs X.stack) fp H (upd H s.heap.objs.size (.lst [])) s.heap (s.heap.push { cls := .type "list", dict := none, data := .seq ([] : List Value).toArray }) := Un.laid kp (Nat.le_refl _) I.fresh
  dsimp only
  generalize hH2 : s.heap.push { cls := .type "list", dict := none, data := .seq ([] : List Value).toArray } = hp2 at I3 kp un0 ⊢
  have hsz : s.heap.objs.size ≤ hp2.objs.size := by rw [← hH2, Heap.size_push]; exact Nat.le_succ _
  have ft : ∀ b ∈ fp, ∃ o, s.heap.get? b = some o := fun b hb => let ⟨o, e, _⟩ := T.obj _ _ t0 b hb; ⟨o, e⟩
  have nea : ∀ b ∈ fp, b ≠ s.heap.objs.size := fun b hb => let ⟨_, e⟩ := ft b hb; Nat.ne_of_lt (Heap.lt_size e)
  have f3 : ∀ b ∈ fp, FpOk X pins (upd H s.heap.objs.size (.lst [])) b ∧ ∃ o, hp2.get? b = some o := fun b hb => by
    obtain ⟨o, e⟩ := ft b hb
    exact ⟨⟨by rw [upd_ne (nea b hb)]; exact (hf b hb).1, (hf b hb).2⟩, o, kp b o e⟩
  have J0 := comp_startG c I3 f3
  have k4 : ∀ b o, hp2.get? b = some o → (pushCells (hp2.push { cls := .type "dict", data := .dict #[] }) scope.names).get? b = some o := fun b o e => pushCells_keeps _ _ b o (Heap.get?_push_of_some _ e)
  have t4 : tn 0 (pushCells (hp2.push { cls := .type "dict", data := .dict #[] }) scope.names) := T.keep 0 _ _ t0 fun b hb o e => k4 b o (kp b o e)
  have esc : ∀ (s₃ : Shared) (H₃ : Hp) (fp : List Addr), (cxCompG X scope (xs ++ fr.map (·.1)) s₃ H₃ fp).env.scope = relab sc scope := fun _ _ _ => relab_is c.hsc
  have stat : ∀ {H' : Hp}, (∀ b ∈ fp, H' b = none) → ∀ b ∈ fp, FpOk (cxCompG X scope (xs ++ fr.map (·.1)) { s with heap := hp2 } (upd H s.heap.objs.size (.lst [])) fp) [] H' b := fun hn b hb => by
    obtain ⟨e1, e2⟩ := J0.ok.exf b hb
    exact ⟨hn b hb, e1, J0.ok.exfs b hb, .inl hb, e2, fun p hp => absurd (show p ∈ ([] : List (Addr × Obj)) from hp) (by simp)⟩
  have loop : codeAny (model X.prog X.w) X.A (.compLoop (.ListComp elt [⟨tg, iter, ifs, 0⟩] scope pos) 0 (.ref it) (.ref s.heap.objs.size) (compEnvC scope (cellsFrom (hp2.objs.size + 1) scope.names (clOf X.env scope.names [])) hp2.objs.size X.env))
      (RR (.ref s.heap.objs.size) hp2.objs.size) { s with heap := pushCells (hp2.push { cls := .type "dict", data := .dict #[] }) scope.names } := by
    refine codeAny_compLoop_gen (fun n s' => ∃ i, ∃ ys : St, ∃ H', ys.length = xs.length ∧ Inv (cxCompG X scope (xs ++ fr.map (·.1)) { s with heap := hp2 } (upd H s.heap.objs.size (.lst [])) fp) [] (ys ++ frees fr σ) H' s' ∧ tn i s'.heap ∧ (∀ b ∈ fp, H' b = none) ∧ W i n H')
      ?_ m0 ⟨0, xs.map fun _ => none, _, by simp, J0, t4, fun b hb => (f3 b hb).1.1, w0⟩ hifs
    rintro n s3 ⟨i, ys, H3, hys, K3, st3, fr3, w3⟩
    rcases turn i n H3 w3 with ⟨stop, qn⟩ | ⟨go, N, hN, step⟩
    · refine thn (T.done (cxCompG X scope (xs ++ fr.map (·.1)) { s with heap := hp2 } (upd H s.heap.objs.size (.lst [])) fp) rfl rfl rfl hc i [] s3 _ H3 (fun _ _ => False) K3 (stat fr3) st3 stop) fun r s4 ⟨hr, K4⟩ => ?_
      subst hr
      obtain ⟨m4, hn4, _⟩ := K4.loc
      have K5 : Inv X pins σ H3 s4 := I.call' K4.os (un0.trans K4.base) K4.hok K4.bare fun b hb => let f := hf b hb; ⟨f.2.2.2.1, f.2.1, f.2.2.2.2.1, f.2.2.2.2.2⟩
      exact hRR _ _ H3 s4 m4 hn4 K5 (I.fpOk hsz K4.free) qn
    · refine thn (T.item (cxCompG X scope (xs ++ fr.map (·.1)) { s with heap := hp2 } (upd H s.heap.objs.size (.lst [])) fp) rfl rfl rfl hc i [] s3 _ H3 (fun _ _ => False) K3 (stat fr3) st3 go) fun r s4 ⟨u, hr, h4⟩ => ?_
      subst hr
      refine thn h4 fun _ s5 ⟨y, H5, K5, r5, y5, st5, fr5⟩ => ?_
      have K5' := K5.pinned (stat fr5) (T.obj _ _ st5)
      refine thn (hg _ _ _ (esc _ _ _) _ s5 _ H5 y u _ K5' r5 (step ys y H5 hys y5)) fun _ s6 ⟨σ6, H6, K6, ⟨ys6, hl6, e6⟩, q6⟩ => ?_
      subst e6
      have fin : ∀ (s8 : Shared) (H8 : Hp), Inv (cxCompG X scope (xs ++ fr.map (·.1)) { s with heap := hp2 } (upd H s.heap.objs.size (.lst [])) fp) ([] ++ pinsAt fp s5.heap) (ys6 ++ frees fr σ) H8 s8 → N H8 →
          ∃ m, m < n ∧ ∃ i, ∃ ys : St, ∃ H', ys.length = xs.length ∧ Inv (cxCompG X scope (xs ++ fr.map (·.1)) { s with heap := hp2 } (upd H s.heap.objs.size (.lst [])) fp) [] (ys ++ frees fr σ) H' s8 ∧ tn i s8.heap ∧ (∀ b ∈ fp, H' b = none) ∧ W i m H' := by
        intro s8 H8 K8 n8
        obtain ⟨m', hm, w8⟩ := hN H8 n8
        refine ⟨m', hm, i + 1, ys6, H8, hl6, K8.unpinned, T.keep _ _ _ st5 fun b hb o e => (K8.pin (b, o) (List.mem_append_right _ (List.mem_append_right _ (mem_pinsAt hb e)))).1, fun b hb => ?_, w8⟩
        obtain ⟨o, e, d⟩ := T.obj _ _ st5 b hb
        exact (K8.pin (b, o) (List.mem_append_right _ (List.mem_append_right _ (mem_pinsAt hb e)))).2.1
      have h7 := he _ _ _ (esc _ _ _) _ s6 _ H6 _ K6 q6
      have mono : ∀ {Q Q' : Option Value → Shared → Prop} {E : Value → Shared → Prop} {s' : Shared} {env : Env}, (∀ o s1, Q o s1 → Q' o s1) → turnOf elt ifs env (model X.prog X.w) X.A Q E s' → turnOf elt ifs env (model X.prog X.w) X.A Q' E s' := by
        intro Q Q' E s' env hq ht
        unfold turnOf at ht ⊢
        match ifs, hifs, ht with
        | [], _, ht => exact wpAny_mono ht (fun x s1 q => hq _ _ q) fun _ _ e => e
        | [c], _, ht =>
          refine wpAny_mono ht (fun b s1 q => ?_) fun _ _ e => e
          split at q
          · rename_i hb; rw [if_pos hb]; exact wpAny_mono q (fun x s2 q => hq _ _ q) fun _ _ e => e
          · rename_i hb; rw [if_neg hb]; exact hq _ _ q
        | _ :: _ :: _, hifs, _ => exact absurd hifs (by simp)
      refine mono (fun o s7 ⟨z7, H7, K7, r7, q7⟩ => ?_) h7
      cases o with
      | none =>
        cases z7 with
        | none => exact fin s7 H7 K7 q7
        | some z => exact r7.elim
      | some v7 =>
        cases z7 with
        | none => exact r7.elim
        | some z7 =>
          obtain ⟨zs, hz, hl, w7⟩ := q7
          exact thn (mt_append _ s7 _ H7 (.ref s.heap.objs.size) [z7] (.ref s.heap.objs.size) [v7] (fun _ H8 => N H8) K7 rfl (.cons r7 .nil) ⟨_, zs, z7, rfl, rfl, hz, hl, w7⟩) fun _ s8 ⟨_, H8, K8, _, n8⟩ => fin s8 H8 K8 n8
  exact codeAny_compStart_list loop (T.self _ 0 _ _ _ t4 loop)
variable {wi : TI}
theorem pe_compG {pos : Pos} (c : CompOkG X sc scope xs fr) (hc : X.calm = true) (hi : PI X tg iter wi)
    (hg : ∀ (s₃ : Shared) (H₃ : Hp) (fp : List Addr), (cxCompG X scope (xs ++ fr.map (·.1)) s₃ H₃ fp).env.scope = relab sc scope → PG (cxCompG X scope (xs ++ fr.map (·.1)) s₃ H₃ fp) tg g)
    (he : ∀ (s₃ : Shared) (H₃ : Hp) (fp : List Addr), (cxCompG X scope (xs ++ fr.map (·.1)) s₃ H₃ fp).env.scope = relab sc scope → POx (cxCompG X scope (xs ++ fr.map (·.1)) s₃ H₃ fp) elt ifs tt)
    (hifs : ifs.length ≤ 1 := by exact Nat.le_of_ble_eq_true rfl) (hs : ∀ x, foldedSetIterable iter X.env x = pure x := by intro _; rfl) : PE X (.ListComp elt [⟨tg, iter, ifs, 0⟩] scope pos) (tCompG wi g tt xs.length fr) := by
  intro pins s σ H Q I h
  rw [eval_ListComp]
  refine wpAny_comprehension_free (use := none) rfl hs (closure_is (c.cells I)) c.kind c.loc (thn (hi pins s σ H _ I h) fun v s1 h1 => thn h1 fun itv s2 h2 => ?_)
  obtain ⟨it, fp, tn, J, H2, e, I2, T, t2, f2, hw⟩ := h2
  subst e
  refine comp_coreG (RR := fun acc C => compPost (model X.prog X.w) X.A X.xe none (EP X pins σ Q) acc C) c hc hifs I2 T t2 f2 hg he hw ?_
  intro a C H' s' m hn K f q
  exact ⟨m, hn, fun h' hs' => ⟨.ref a, H', K.turned (t' := s'.toks) (fun b o hb e => (hs'.2 b hb).trans e) f.1 f.2.1 f.2.2.2.1 f.2.2.2.2.1 f.2.2.2.2.2, rfl, q⟩⟩
theorem ps_setCG {pos spos py : Pos} {y : Str} {i : Nat} (c : CompOkG X sc scope xs fr) (hc : X.calm = true) (hN : X.N.Nodup) (hy : X.N[i]? = some y) (hl : X.env.scope.names.lookup y = some .local) (hi : PI X tg iter wi)
    (hg : ∀ (s₃ : Shared) (H₃ : Hp) (fp : List Addr), (cxCompG X scope (xs ++ fr.map (·.1)) s₃ H₃ fp).env.scope = relab sc scope → PG (cxCompG X scope (xs ++ fr.map (·.1)) s₃ H₃ fp) tg g)
    (he : ∀ (s₃ : Shared) (H₃ : Hp) (fp : List Addr), (cxCompG X scope (xs ++ fr.map (·.1)) s₃ H₃ fp).env.scope = relab sc scope → POx (cxCompG X scope (xs ++ fr.map (·.1)) s₃ H₃ fp) elt ifs tt)
    (hsw : swapsWith (.ListComp elt [⟨tg, iter, ifs, 0⟩] scope pos) (some (.Name y py)) spos.line X.env = pure true := by rfl)
    (hifs : ifs.length ≤ 1 := by exact Nat.le_of_ble_eq_true rfl) (hs : ∀ x, foldedSetIterable iter X.env x = pure x := by intro _; rfl) : PS X (.Assign [.Name y py] (.ListComp elt [⟨tg, iter, ifs, 0⟩] scope pos) spos) (tSetC i (tCompG wi g tt xs.length fr)) := by
  intro pins s σ H D I h
  rw [exec_Assign_Name_used _ _ _ _ hsw]
  refine wpAny_bind (wpAny_standAt (wpAny_bind ?_))
  show wpAny _ _ (do let _ ← comprehension (.ListComp elt [⟨tg, iter, ifs, 0⟩] scope pos) scope X.env _ (newList []) false (eval iter X.env) (some (assign (.Name y py) X.env))) _ _ s
  refine wpAny_bind (wpAny_mono (wpAny_comprehension_free (use := some (assign (.Name y py) X.env)) (Q := fun _ s' => SP X pins D .next s') rfl hs (closure_is (c.cells I)) c.kind c.loc
    (thn (hi pins s σ H _ I h) fun v s1 h1 => thn h1 fun itv s2 h2 => ?_)) (fun _ s' hq => wpAny_pure (wpAny_pure hq)) fun _ _ e => e)
  obtain ⟨it, fp, tn, J, H2, e, I2, T, t2, f2, hw⟩ := h2
  subst e
  refine comp_coreG (RR := fun acc C => compPost (model X.prog X.w) X.A X.xe (some (assign (.Name y py) X.env)) (fun _ s' => SP X pins D .next s') acc C) (Q := fun v H1 => D.nx (σ.set i (some v)) H1) c hc hifs I2 T t2 f2 hg he hw ?_
  intro a C H' s' m hn K f q
  show wpAny _ _ (assign (.Name y py) X.env (.ref a)) _ _ _
  refine wpAny_assign_Name (store_ok2 K hN hy (.inl hl) (show RelV (.ref a) (.ref a) from rfl) (fun s'' K2 ⟨b, sb, hb⟩ => ?_) (.inr hl))
  have hCb : C ≠ b := by
    rcases hb with e | e
    · rw [e]; exact f.2.1
    · exact Ne.symm (f.2.2.2.2.1 y b e)
  refine ⟨m, hn.sameBut sb hCb, fun h' hs' => ?_⟩
  exact ⟨_, H', K2.turned (t' := s''.toks) (fun b o hb e => (hs'.2 b hb).trans e) f.1 f.2.1 f.2.2.2.1 f.2.2.2.2.1 f.2.2.2.2.2, q⟩
end
noncomputable def compGB (sc : Scope) (N : List Str) (scope : Scope) (fr : List (Str × Nat)) : Bool :=
  decide (scope.kind = .function) && decide ((scope.names.map (·.1)).Nodup) && decide (∀ y ∈ scope.names, y.2 = .free → sc.names.lookup y.1 = some .cell ∨ sc.names.lookup y.1 = some .free) &&
  decide (∀ y ∈ scope.names, y.2 = .local → scope.names.lookup y.1 = some .local) && decide (∀ p ∈ fr, N[p.2]? = some p.1 ∧ scope.names.lookup p.1 = some .free)
theorem compG_ok {X : Cx} {sc scope : Scope} {N xs : List Str} {fr : List (Str × Nat)} (h1 : X.env.scope = sc) (h2 : X.N = N) (h : compGB sc N scope fr = true) : CompOkG X sc scope xs fr := by
  unfold compGB at h
  simp only [Bool.and_eq_true, decide_eq_true_eq] at h
  obtain ⟨⟨⟨⟨e1, e2⟩, e3⟩, e4⟩, e5⟩ := h
  subst h2
  exact ⟨h1, e1, e2, e3, e4, e5⟩
/-- a name of a block's own, in slot i -/
noncomputable def nameB (sc : Scope) (N : List Str) (i : Nat) (x : Str) : Bool := decide (N.Nodup) && decide (N[i]? = some x) && (decide (sc.names.lookup x = some .local))
theorem pg_own {X : Cx} {sc : Scope} {N : List Str} {i : Nat} {x : Str} {pos : Pos} (h1 : X.env.scope = sc) (h2 : X.N = N) (h : nameB sc N i x = true) : PG X (.Name x pos) (gName i) := by
  unfold nameB at h
  simp only [Bool.and_eq_true, decide_eq_true_eq] at h
  subst h1 h2
  exact pg_name h.1.1 h.1.2 (.inl h.2) (.inr h.2)
/-- .. that inner blocks take along -/
theorem pg_ownC {X : Cx} {sc : Scope} {N : List Str} {i : Nat} {x : Str} {pos : Pos} (h1 : X.env.scope = sc) (h2 : X.N = N) (h : (decide (N.Nodup) && decide (N[i]? = some x) && (decide (sc.names.lookup x = some .cell))) = true) (hf : X.fn x = true) : PG X (.Name x pos) (gName i) := by
  simp only [Bool.and_eq_true, decide_eq_true_eq] at h
  subst h1 h2
  exact pg_name h.1.1 h.1.2 (.inr h.2) (.inl hf)
end L2

/-! ZIP, ENUMERATE, SUM. -/
namespace L2
open PySem PySem.Spec PyProof.Rows
/-- lists: false; tuples: true -/
noncomputable def SqB (b : Bool) (K : PySem.W.Frag) (H : Hp) (a : Addr) (xs : List V) : Prop := match b with | false => SqL K H a xs | true => SqT K H a xs
noncomputable def ItB (b : Bool) (h : Heap) (it a : Addr) (i : Nat) : Prop := match b with | false => h.IsListIter it a i | true => h.IsTupleIter it a i
noncomputable def seqB (b : Bool) (h : Heap) (a : Addr) (its : Array Value) : Prop := match b with | false => h.IsList a its | true => h.IsTuple a its
noncomputable def nmB (b : Bool) : String := match b with | false => "list_iterator" | true => "tuple_iterator"
theorem ItB.at {b : Bool} {h h' : Heap} {it a : Addr} {i : Nat} (x : ItB b h it a i) (e : ∀ o, h.get? it = some o → h'.get? it = some o) : ItB b h' it a i := by
  cases b
  · exact Heap.IsListIter.at x e
  · exact Heap.IsTupleIter.at x e
theorem seqB.at {b : Bool} {h h' : Heap} {a : Addr} {its : Array Value} (x : seqB b h a its) (e : ∀ o, h.get? a = some o → h'.get? a = some o) : seqB b h' a its := by
  cases b
  · exact Heap.IsList.at x e
  · obtain ⟨o, ho, r⟩ := x
    exact ⟨o, e o ho, r⟩
theorem ItB.lt {b : Bool} {h : Heap} {it a : Addr} {i : Nat} (x : ItB b h it a i) : ∃ o, h.get? it = some o ∧ ∀ v, o.data ≠ .cell v := by
  cases b
  · obtain ⟨o, e, c, d⟩ := x
    exact ⟨o, e, fun v z => by rw [d] at z; cases z⟩
  · obtain ⟨o, e, c, d⟩ := x
    exact ⟨o, e, fun v z => by rw [d] at z; cases z⟩
section
variable {prog : Program} {w : World} {A : Around} {E : Value → Shared → Prop} {s : Shared}
theorem nextT_item {it t : Addr} {i : Nat} {items} {x : Value} {Q : Value → Shared → Prop} (hit : s.heap.IsTupleIter it t i) (ht : s.heap.IsTuple t items) (hx : items[i]? = some x)
    (hQ : ∀ h', h'.IsTupleIter it t (i + 1) → Heap.SameBut it s.heap h' → Q x { s with heap := h' }) : wpAny (model prog w) A (Builtin.SmallTypes.nextOf (.ref it)) Q E s := by
  obtain ⟨o, ho, hc, hd⟩ := id hit
  obtain ⟨ol, hol, _, nl, hdl⟩ := ht
  unfold Builtin.SmallTypes.nextOf
  refine wpAny_bind (wpAny_callSpecial?_slot (name := Str.ofString "__next__") hit.typeIs F.slot_tuple_iterator_next
    (wpAny_call_entry F.slot_tuple_iterator_next hit.typeIs F.entry_tuple_iterator_next ?_ (F.args_tuple_iterator_next_1 _)))
  show wpAny _ _ (field (.ref it) 0 >>= _) _ _ s
  refine wpAny_bind (wpAny_field ho hd (x := .ref t) rfl ?_)
  show wpAny _ _ (if (Value.ref t == Value.none) = true then _ else _) _ _ s
  rw [if_neg (show ¬ ((Value.ref t == Value.none) = true) from Bool.false_ne_true)]
  show wpAny _ _ (field (.ref it) 1 >>= _) _ _ s
  refine wpAny_bind (wpAny_field ho hd (x := .int i 0) rfl ?_)
  show wpAny _ _ (seqItems? (.ref t) >>= _) _ _ s
  refine wpAny_bind (wpAny_seqItems hol hdl ?_)
  simp only [Int.toNat_natCast, hx]
  refine wpAny_bind (wpAny_setField ho hd (by simp) (wpAny_pure ⟨x, rfl, wpAny_pure (hQ _ ?_ (Heap.SameBut.update ..))⟩))
  exact ⟨_, Heap.get?_update_self _ ho (Obj.isFreed_of_fields (Obj.data_mapFields hd _)), (Obj.cls_mapFields ..).trans hc, by
    rw [Obj.data_mapFields hd]; simp [rawInt]⟩
theorem nextT_end {it t : Addr} {i : Nat} {items} {Q : Value → Shared → Prop} (hh : A.handled = none) (hit : s.heap.IsTupleIter it t i) (ht : s.heap.IsTuple t items) (hx : items[i]? = none)
    (hE : ∀ h' e, Heap.ExtBut it s.heap h' → (∃ o, h'.get? e = some o ∧ o.cls = .type "StopIteration") → E (.ref e) { s with heap := h' }) : wpAny (model prog w) A (Builtin.SmallTypes.nextOf (.ref it)) Q E s := by
  obtain ⟨o, ho, hc, hd⟩ := id hit
  obtain ⟨ol, hol, _, nl, hdl⟩ := ht
  unfold Builtin.SmallTypes.nextOf
  refine wpAny_bind (wpAny_callSpecial?_slot (name := Str.ofString "__next__") hit.typeIs F.slot_tuple_iterator_next
    (wpAny_call_entry F.slot_tuple_iterator_next hit.typeIs F.entry_tuple_iterator_next ?_ (F.args_tuple_iterator_next_1 _)))
  show wpAny _ _ (field (.ref it) 0 >>= _) _ _ s
  refine wpAny_bind (wpAny_field ho hd (x := .ref t) rfl ?_)
  show wpAny _ _ (if (Value.ref t == Value.none) = true then _ else _) _ _ s
  rw [if_neg (show ¬ ((Value.ref t == Value.none) = true) from Bool.false_ne_true)]
  show wpAny _ _ (field (.ref it) 1 >>= _) _ _ s
  refine wpAny_bind (wpAny_field ho hd (x := .int i 0) rfl ?_)
  show wpAny _ _ (seqItems? (.ref t) >>= _) _ _ s
  refine wpAny_bind (wpAny_seqItems hol hdl ?_)
  simp only [Int.toNat_natCast, hx]
  refine wpAny_bind (wpAny_rule (wpAny_bind (wpAny_setField ho hd (by simp) ?_)))
  show wpAny _ _ (newExc (.type "StopIteration") [] >>= _) _ _ _
  refine wpAny_bind ?_
  simp only [newExc, newTuple]
  refine wpAny_bind (wpAny_newObj_type ?_ (by size_fits))
  refine wpAny_bind (m := firstArgMember _ _) (wpAny_of_eq (a := Value.none) (by first | rfl | (simp only [firstArgMember]; rfl)) ?_)
  refine wpAny_newObj_type ?_ (by size_fits)
  simp only [raiseNew]
  refine wpAny_bind (wpAny_handled ?_)
  first | rw [show A.in1.handled = none from hh] | rw [hh]
  refine wpAny_bind (wpAny_pure (wpAny_throw ?_))
  exact hE _ _ (((Heap.SameBut.update ..).extBut.push _).push _) ⟨_, Heap.get?_push_size _ rfl, rfl⟩
theorem nextB_item {b : Bool} {it l : Addr} {i : Nat} {items : Array Value} {x : Value} {Q : Value → Shared → Prop} (hit : ItB b s.heap it l i) (hl : seqB b s.heap l items) (hx : items[i]? = some x)
    (hQ : ∀ h', ItB b h' it l (i + 1) → Heap.SameBut it s.heap h' → Q x { s with heap := h' }) : wpAny (model prog w) A (Builtin.SmallTypes.nextOf (.ref it)) Q E s := by
  cases b
  · exact wpAny_nextOf_list_item hit hl hx hQ
  · exact nextT_item hit hl hx hQ
theorem nextB_end {b : Bool} {it l : Addr} {i : Nat} {items : Array Value} {Q : Value → Shared → Prop} (hh : A.handled = none) (hit : ItB b s.heap it l i) (hl : seqB b s.heap l items) (hx : items[i]? = none)
    (hE : ∀ h' e, Heap.ExtBut it s.heap h' → (∃ o, h'.get? e = some o ∧ o.cls = .type "StopIteration") → E (.ref e) { s with heap := h' }) : wpAny (model prog w) A (Builtin.SmallTypes.nextOf (.ref it)) Q E s := by
  cases b
  · exact wpAny_nextOf_list_end hh hit hl hx hE
  · exact nextT_end hh hit hl hx hE
theorem iterB {b : Bool} {l : Addr} {items : Array Value} {Q : Value → Shared → Prop} (hl : seqB b s.heap l items)
    (hQ : Q (.ref s.heap.objs.size) { s with heap := s.heap.push { cls := .type (nmB b), data := .fields #[.ref l, .int 0 0] } }) : wpAny (model prog w) A (pyIter (.ref l)) Q E s := by
  cases b
  · exact wpAny_pyIter_list hl hQ
  · exact wpAny_pyIter_tuple hl hQ
theorem iterB_new {b : Bool} {h : Heap} {l : Addr} : ItB b (h.push { cls := .type (nmB b), data := .fields #[.ref l, .int 0 0] }) h.objs.size l 0 := by
  cases b
  · exact ⟨_, Heap.get?_push_size _ rfl, rfl, rfl⟩
  · exact ⟨_, Heap.get?_push_size _ rfl, rfl, rfl⟩
/-! zip -/
theorem zipB_item {b1 b2 : Bool} {z TI TO i1 i2 l1 l2 : Addr} {k1 k2 : Nat} {xs ys : Array Value} {x y a b : Value} {Q : Option Value → Shared → Prop} (D : ZipApart z TI TO i1 i2 l1 l2)
    (hz : IsZip s.heap z TI TO .none) (hTI : IsPair s.heap TI (.ref i1) (.ref i2)) (hTO : IsPair s.heap TO a b)
    (h1 : ItB b1 s.heap i1 l1 k1) (h2 : ItB b2 s.heap i2 l2 k2) (hl1 : seqB b1 s.heap l1 xs) (hl2 : seqB b2 s.heap l2 ys) (hx : xs[k1]? = some x) (hy : ys[k2]? = some y)
    (hQ : ∀ h', IsZip h' z TI TO (rawInt s.heap.objs.size) → IsPair h' TO x y → ItB b1 h' i1 l1 (k1 + 1) → ItB b2 h' i2 l2 (k2 + 1) → IsPair h' s.heap.objs.size x y → h'.objs.size = s.heap.objs.size + 1 →
      (∀ c o, c ≠ z → c ≠ TO → c ≠ i1 → c ≠ i2 → s.heap.get? c = some o → h'.get? c = some o) → Q (some (.ref s.heap.objs.size)) { s with heap := h' }) :
    wpAny (model prog w) A (pyNext (.ref z)) Q E s := by
  have hT : s.TypeIs (.ref z) "zip" := ⟨_, hz, rfl⟩
  unfold pyNext
  refine wpAny_bind (wpAny_attempt (wpAny_callSpecial?_slot (name := Str.ofString "__next__") hT F.slot_zip_next (wpAny_call_entry F.slot_zip_next hT F.entry_zip_next ?_ (F.args_zip_next_1 _))))
  show wpAny _ _ (field (.ref z) 2 >>= _) _ _ _
  refine wpAny_bind (wpAny_field hz rfl (x := .bool false) rfl ?_)
  show wpAny _ _ (field (.ref z) 3 >>= _) _ _ _
  refine wpAny_bind (wpAny_field hz rfl (x := .ref TI) rfl ?_)
  refine wpAny_bind (wpAny_seqItems hTI rfl ?_)
  show wpAny _ _ (Builtin.SmallTypes.ownedTupleIsFree (.ref z) >>= _) _ _ _
  refine wpAny_bind ?_
  unfold Builtin.SmallTypes.ownedTupleIsFree
  refine wpAny_bind (wpAny_field hz rfl (x := .none) rfl (wpAny_pure ?_))
  simp only [if_true]
  refine wpAny_bind (wpAny_rule ?_)
  refine wpAny_bind (wpAny_field hz rfl (x := .ref TO) rfl ?_)
  refine wpAny_bind (wpAny_setField_rec hz (by simp) fun h₁ hz₁ hs₁ => ?_)
  replace hz₁ : IsZip h₁ z TI TO .ellipsis := hz₁
  refine wpAny_bind ?_
  simp only [List.zipIdx_cons, List.zipIdx_nil, List.forIn_cons, List.forIn_nil]
  refine wpAny_bind (wpAny_bind (wpAny_onRaise ?_))
  show wpAny _ _ (Builtin.SmallTypes.nextOf (.ref i1) >>= _) _ _ _
  refine wpAny_bind (nextB_item (h1.at fun o e => hs₁.extBut _ _ D.i1z e) (hl1.at fun o e => hs₁.extBut _ _ D.l1z e) hx fun h₂ h1₂ hs₂ => wpAny_pure ?_)
  have hTO₂ : IsPair h₂ TO a b := hs₂.extBut _ _ D.TOi1 (hs₁.extBut _ _ D.TOz hTO)
  refine wpAny_bind (wpAny_seqItems hTO₂ rfl ?_)
  refine wpAny_bind (wpAny_updateSeq_pair hTO₂ fun h₃ hTO₃ hs₃ => ?_)
  replace hTO₃ : IsPair h₃ TO x b := hTO₃
  refine wpAny_bind (wpAny_letGo (wpAny_pure ?_))
  refine wpAny_bind (wpAny_bind (wpAny_onRaise ?_))
  show wpAny _ _ (Builtin.SmallTypes.nextOf (.ref i2) >>= _) _ _ _
  refine wpAny_bind (nextB_item (h2.at fun o e => hs₃.extBut _ _ D.TOi2.symm (hs₂.extBut _ _ D.i12.symm (hs₁.extBut _ _ D.i2z e)))
    (hl2.at fun o e => hs₃.extBut _ _ D.l2TO (hs₂.extBut _ _ D.l2i1 (hs₁.extBut _ _ D.l2z e))) hy fun h₄ h2₄ hs₄ => wpAny_pure ?_)
  have hTO₄ : IsPair h₄ TO x b := hs₄.extBut _ _ D.TOi2 hTO₃
  refine wpAny_bind (wpAny_seqItems hTO₄ rfl ?_)
  refine wpAny_bind (wpAny_updateSeq_pair hTO₄ fun h₅ hTO₅ hs₅ => ?_)
  replace hTO₅ : IsPair h₅ TO x y := hTO₅
  refine wpAny_bind (wpAny_letGo (wpAny_pure (wpAny_pure ?_)))
  refine wpAny_bind (wpAny_seqItems hTO₅ rfl ?_)
  refine wpAny_bind (wpAny_newTuple ?_)
  have hsz : h₅.objs.size = s.heap.objs.size := by rw [hs₅.1, hs₄.1, hs₃.1, hs₂.1, hs₁.1]
  have hz₅ : IsZip h₅ z TI TO .ellipsis := hs₅.extBut _ _ D.TOz.symm (hs₄.extBut _ _ D.i2z.symm (hs₃.extBut _ _ D.TOz.symm (hs₂.extBut _ _ D.i1z.symm hz₁)))
  have hk₅ : ∀ c o, c ≠ z → c ≠ TO → c ≠ i1 → c ≠ i2 → s.heap.get? c = some o → h₅.get? c = some o := fun c o c1 c2 c3 c4 e =>
    hs₅.extBut _ _ c2 (hs₄.extBut _ _ c4 (hs₃.extBut _ _ c2 (hs₂.extBut _ _ c3 (hs₁.extBut _ _ c1 e))))
  have h1₅ : ItB b1 h₅ i1 l1 (k1 + 1) := h1₂.at fun o e => hs₅.extBut _ _ D.TOi1.symm (hs₄.extBut _ _ D.i12 (hs₃.extBut _ _ D.TOi1.symm e))
  have h2₅ : ItB b2 h₅ i2 l2 (k2 + 1) := h2₄.at fun o e => hs₅.extBut _ _ D.TOi2.symm e
  have hzlt : z < h₅.objs.size := Heap.lt_size hz₅
  show wpAny _ _ (Builtin.SmallTypes.ownedTupleHandOut (.ref z) (.ref h₅.objs.size) >>= _) _ _ _
  refine wpAny_bind ?_
  unfold Builtin.SmallTypes.ownedTupleHandOut
  have hz₆ : IsZip (h₅.push { cls := .type "tuple", data := .seq #[x, y] }) z TI TO .ellipsis := Heap.get?_push_of_some _ hz₅
  refine wpAny_bind (wpAny_setField_rec hz₆ (by simp) fun h₇ hz₇ hs₇ => ?_)
  replace hz₇ : IsZip h₇ z TI TO (rawInt h₅.objs.size) := hz₇
  refine wpAny_setField_rec hz₇ (by simp) fun h₈ hz₈ hs₈ => ?_
  replace hz₈ : IsZip h₈ z TI TO (rawInt h₅.objs.size) := hz₈
  have up : ∀ c o, c ≠ z → h₅.get? c = some o → h₈.get? c = some o := fun c o c1 e => hs₈.extBut _ _ c1 (hs₇.extBut _ _ c1 (Heap.get?_push_of_some _ e))
  have hT₈ : IsPair h₈ h₅.objs.size x y := hs₈.extBut _ _ (Nat.ne_of_gt hzlt) (hs₇.extBut _ _ (Nat.ne_of_gt hzlt) (Heap.get?_push_size _ rfl))
  have hz8 : h₈.objs.size = h₅.objs.size + 1 := by rw [hs₈.1, hs₇.1, Heap.size_push]
  rw [hsz] at hz₈ hT₈ hz8
  refine wpAny_pure ⟨_, rfl, wpAny_pure ?_⟩
  show Q (some (.ref h₅.objs.size)) _
  rw [hsz]
  exact hQ h₈ hz₈ (up _ _ D.TOz hTO₅) (h1₅.at fun o e => up _ o D.i1z e) (h2₅.at fun o e => up _ o D.i2z e) hT₈ hz8 fun c o c1 c2 c3 c4 e => up c o c1 (hk₅ c o c1 c2 c3 c4 e)
theorem zipB_end {b1 b2 : Bool} {z TI TO i1 i2 l1 l2 : Addr} {k1 k2 : Nat} {xs ys : Array Value} {a b : Value} {Q : Option Value → Shared → Prop} (hh : A.handled = none) (D : ZipApart z TI TO i1 i2 l1 l2)
    (hz : IsZip s.heap z TI TO .none) (hTI : IsPair s.heap TI (.ref i1) (.ref i2)) (hTO : IsPair s.heap TO a b)
    (h1 : ItB b1 s.heap i1 l1 k1) (h2 : ItB b2 s.heap i2 l2 k2) (hl1 : seqB b1 s.heap l1 xs) (hl2 : seqB b2 s.heap l2 ys) (hend : xs[k1]? = none ∨ ys[k2]? = none)
    (hQ : ∀ h', (∀ c o, c ≠ z → c ≠ TO → c ≠ i1 → c ≠ i2 → s.heap.get? c = some o → h'.get? c = some o) → Q none { s with heap := h' }) : wpAny (model prog w) A (pyNext (.ref z)) Q E s := by
  have hT : s.TypeIs (.ref z) "zip" := ⟨_, hz, rfl⟩
  unfold pyNext
  refine wpAny_bind (wpAny_attempt (wpAny_callSpecial?_slot (name := Str.ofString "__next__") hT F.slot_zip_next (wpAny_call_entry F.slot_zip_next hT F.entry_zip_next (Q := _) ?_ (F.args_zip_next_1 _))))
  show wpAny _ _ (field (.ref z) 2 >>= _) _ _ _
  refine wpAny_bind (wpAny_field hz rfl (x := .bool false) rfl ?_)
  show wpAny _ _ (field (.ref z) 3 >>= _) _ _ _
  refine wpAny_bind (wpAny_field hz rfl (x := .ref TI) rfl ?_)
  refine wpAny_bind (wpAny_seqItems hTI rfl ?_)
  show wpAny _ _ (Builtin.SmallTypes.ownedTupleIsFree (.ref z) >>= _) _ _ _
  refine wpAny_bind ?_
  unfold Builtin.SmallTypes.ownedTupleIsFree
  refine wpAny_bind (wpAny_field hz rfl (x := .none) rfl (wpAny_pure ?_))
  simp only [if_true]
  refine wpAny_bind (wpAny_rule ?_)
  refine wpAny_bind (wpAny_field hz rfl (x := .ref TO) rfl ?_)
  refine wpAny_bind (wpAny_setField_rec hz (by simp) fun h₁ hz₁ hs₁ => ?_)
  replace hz₁ : IsZip h₁ z TI TO .ellipsis := hz₁
  refine wpAny_bind ?_
  simp only [List.zipIdx_cons, List.zipIdx_nil, List.forIn_cons, List.forIn_nil]
  refine wpAny_bind (wpAny_bind (wpAny_onRaise ?_))
  show wpAny _ _ (Builtin.SmallTypes.nextOf (.ref i1) >>= _) _ _ _
  cases hx : xs[k1]? with
  | none =>
    refine wpAny_bind (nextB_end hh (h1.at fun o e => hs₁.extBut _ _ D.i1z e) (hl1.at fun o e => hs₁.extBut _ _ D.l1z e) hx fun h₂ e hs₂ he => ?_)
    obtain ⟨oe, hoe, hce⟩ := he
    have hz₂ : IsZip h₂ z TI TO .ellipsis := hs₂ _ _ D.i1z.symm hz₁
    have hez : e ≠ z := fun x => by subst x; rw [hz₂] at hoe; cases hoe; simp at hce
    refine wpAny_setField_rec hz₂ (by simp) fun h₃ _ hs₃ => ?_
    refine wpAny_bind (wpAny_isInstance (T := "StopIteration") (b := true) ⟨oe, hs₃.extBut _ _ hez hoe, hce⟩ isSubtype_stop ?_)
    exact wpAny_pure (hQ h₃ fun c o c1 _ c3 _ x => hs₃.extBut _ _ c1 (hs₂ _ _ c3 (hs₁.extBut _ _ c1 x)))
  | some x =>
    have hy : ys[k2]? = none := by rcases hend with h | h; rw [hx] at h; cases h; exact h
    refine wpAny_bind (nextB_item (h1.at fun o e => hs₁.extBut _ _ D.i1z e) (hl1.at fun o e => hs₁.extBut _ _ D.l1z e) hx fun h₂ h1₂ hs₂ => wpAny_pure ?_)
    have hTO₂ : IsPair h₂ TO a b := hs₂.extBut _ _ D.TOi1 (hs₁.extBut _ _ D.TOz hTO)
    refine wpAny_bind (wpAny_seqItems hTO₂ rfl ?_)
    refine wpAny_bind (wpAny_updateSeq_pair hTO₂ fun h₃ hTO₃ hs₃ => ?_)
    refine wpAny_bind (wpAny_letGo (wpAny_pure ?_))
    refine wpAny_bind (wpAny_bind (wpAny_onRaise ?_))
    show wpAny _ _ (Builtin.SmallTypes.nextOf (.ref i2) >>= _) _ _ _
    refine wpAny_bind (nextB_end hh (h2.at fun o e => hs₃.extBut _ _ D.TOi2.symm (hs₂.extBut _ _ D.i12.symm (hs₁.extBut _ _ D.i2z e)))
      (hl2.at fun o e => hs₃.extBut _ _ D.l2TO (hs₂.extBut _ _ D.l2i1 (hs₁.extBut _ _ D.l2z e))) hy fun h₄ e hs₄ he => ?_)
    obtain ⟨oe, hoe, hce⟩ := he
    have hz₄ : IsZip h₄ z TI TO .ellipsis := hs₄ _ _ D.i2z.symm (hs₃.extBut _ _ D.TOz.symm (hs₂.extBut _ _ D.i1z.symm hz₁))
    have hez : e ≠ z := fun x => by subst x; rw [hz₄] at hoe; cases hoe; simp at hce
    refine wpAny_setField_rec hz₄ (by simp) fun h₅ _ hs₅ => ?_
    refine wpAny_bind (wpAny_isInstance (T := "StopIteration") (b := true) ⟨oe, hs₅.extBut _ _ hez hoe, hce⟩ isSubtype_stop ?_)
    exact wpAny_pure (hQ h₅ fun c o c1 c2 c3 c4 x => hs₅.extBut _ _ c1 (hs₄ _ _ c4 (hs₃.extBut _ _ c2 (hs₂.extBut _ _ c3 (hs₁.extBut _ _ c1 x)))))
end
noncomputable abbrev zB1 (b1 : Bool) (h : Heap) (l1 : Addr) : Heap := h.push { cls := .type (nmB b1), data := .fields #[.ref l1, .int 0 0] }
noncomputable abbrev zB2 (b1 b2 : Bool) (h : Heap) (l1 l2 : Addr) : Heap := (zB1 b1 h l1).push { cls := .type (nmB b2), data := .fields #[.ref l2, .int 0 0] }
noncomputable abbrev zB3 (b1 b2 : Bool) (h : Heap) (l1 l2 : Addr) : Heap := (zB2 b1 b2 h l1 l2).push { cls := .type "tuple", data := .seq #[.ref h.objs.size, .ref (zB1 b1 h l1).objs.size] }
noncomputable abbrev zB4 (b1 b2 : Bool) (h : Heap) (l1 l2 : Addr) : Heap := (zB3 b1 b2 h l1 l2).push { cls := .type "tuple", data := .seq #[.none, .none] }
noncomputable abbrev zB5 (b1 b2 : Bool) (h : Heap) (l1 l2 : Addr) : Heap := (zB4 b1 b2 h l1 l2).push { cls := .type "zip", data := .fields #[.none, .bool false, .bool false, .ref (zB2 b1 b2 h l1 l2).objs.size, .ref (zB3 b1 b2 h l1 l2).objs.size] }
theorem meets_zipB (b1 b2 : Bool) (l1 l2 : Addr) (xs ys : Array Value) :
    Meets (Builtin.«zip.__new__» ⟨[.type "zip", .ref l1, .ref l2], []⟩) (fun _ R s => seqB b1 s.heap l1 xs ∧ seqB b2 s.heap l2 ys ∧
      R (.ok (.ret (.ref (zB4 b1 b2 s.heap l1 l2).objs.size))) { s with heap := zB5 b1 b2 s.heap l1 l2 }) :=
  .of_wp fun prog w A R s h => by
    obtain ⟨hp, g, d, tk, os⟩ := s; obtain ⟨hl1, hl2, h⟩ := h
    have hsub := sub_zip
    have hL1 : seqB b1 (Shared.heap ⟨hp, g, d, tk, os⟩) l1 xs := hl1
    have hL2 : seqB b2 (Shared.heap ⟨hp.push { cls := .type (nmB b1), data := .fields #[.ref l1, .int 0 0] }, g, d, tk, os⟩) l2 ys := hl2.at fun o e => Heap.get?_push_of_some _ e
    wp_walk using iterB hL1, iterB hL2
    exact ⟨_, rfl, h⟩
theorem call_zipB {prog : Program} {w : World} {A : Around} {E : Value → Shared → Prop} {s : Shared} {b1 b2 : Bool} {l1 l2 : Addr} {xs ys : Array Value} {Q : Value → Shared → Prop} (hl1 : seqB b1 s.heap l1 xs) (hl2 : seqB b2 s.heap l2 ys)
    (h : ∀ h', IsZip h' (s.heap.objs.size + 4) (s.heap.objs.size + 2) (s.heap.objs.size + 3) .none → IsPair h' (s.heap.objs.size + 2) (.ref s.heap.objs.size) (.ref (s.heap.objs.size + 1)) →
      IsPair h' (s.heap.objs.size + 3) .none .none → ItB b1 h' s.heap.objs.size l1 0 → ItB b2 h' (s.heap.objs.size + 1) l2 0 →
      (∀ c o, s.heap.get? c = some o → h'.get? c = some o) → Q (.ref (s.heap.objs.size + 4)) { s with heap := h' }) :
    wpAny (model prog w) A (call (.type "zip") [.ref l1, .ref l2]) Q E s := by
  refine callType_new F.called_zip (by decide) (F.typeCall_zip_2 _ _) (F.newCall_zip_2 _ _) (fun obj => F.args_object_init_3 obj _ _) F.entry_zip_new
    (meets_zipB b1 b2 l1 l2 xs ys) ⟨hl1, hl2, ?_⟩
  have z1 : (zB1 b1 s.heap l1).objs.size = s.heap.objs.size + 1 := Heap.size_push ..
  have z2 : (zB2 b1 b2 s.heap l1 l2).objs.size = s.heap.objs.size + 2 := by rw [Heap.size_push, z1]
  have z3 : (zB3 b1 b2 s.heap l1 l2).objs.size = s.heap.objs.size + 3 := by rw [Heap.size_push, z2]
  have z4 : (zB4 b1 b2 s.heap l1 l2).objs.size = s.heap.objs.size + 4 := by rw [Heap.size_push, z3]
  have g5 : (zB5 b1 b2 s.heap l1 l2).get? (zB4 b1 b2 s.heap l1 l2).objs.size = some _ := Heap.get?_push_size _ rfl
  have g4 : (zB5 b1 b2 s.heap l1 l2).get? (zB3 b1 b2 s.heap l1 l2).objs.size = some _ := Heap.get?_push_of_some _ (Heap.get?_push_size _ rfl)
  have g3 : (zB5 b1 b2 s.heap l1 l2).get? (zB2 b1 b2 s.heap l1 l2).objs.size = some _ := Heap.get?_push_of_some _ (Heap.get?_push_of_some _ (Heap.get?_push_size _ rfl))
  have u2 : ∀ c o, (zB2 b1 b2 s.heap l1 l2).get? c = some o → (zB5 b1 b2 s.heap l1 l2).get? c = some o := fun c o e => Heap.get?_push_of_some _ (Heap.get?_push_of_some _ (Heap.get?_push_of_some _ e))
  have g2 : ItB b2 (zB5 b1 b2 s.heap l1 l2) (zB1 b1 s.heap l1).objs.size l2 0 := iterB_new.at fun o e => u2 _ o e
  have g1 : ItB b1 (zB5 b1 b2 s.heap l1 l2) s.heap.objs.size l1 0 := iterB_new.at fun o e => u2 _ o (Heap.get?_push_of_some _ e)
  show _ ∧ _
  rw [z2, z3, z4] at g5
  rw [z1, z2] at g3
  rw [z3] at g4
  rw [z1] at g2
  rw [z4]
  exact ⟨⟨_, g5, rfl⟩, h _ g5 g3 g4 g1 g2 fun c o x => u2 c o (Heap.get?_push_of_some _ (Heap.get?_push_of_some _ x))⟩
end L2
namespace L2
open PySem PySem.Spec PyProof.Rows
section
variable {X : Cx} {pins : List (Addr × Obj)} {σ : St} {H : Hp} {s : Shared} {h' : Heap}
theorem Inv.seqB {b : Bool} {a : Addr} {xs : List V} (I : Inv X pins σ H s) (h : SqB b X.K H a xs) : ∃ its : List Value, Vals xs its ∧ L2.seqB b s.heap a its.toArray := by
  cases b
  · obtain ⟨its, rv, p, _⟩ := I.list h
    exact ⟨its, rv, p.isList⟩
  · obtain ⟨its, rv, p, _⟩ := I.tuple h
    exact ⟨its, rv, p⟩
theorem Inv.seqB_inj {b : Bool} {a : Addr} {xs ys : List V} (I : Inv X pins σ H s) (h : SqB b X.K H a xs) (h2 : SqB b X.K H a ys) : xs = ys := by
  cases b
  · exact I.list_inj h h2
  · exact I.tuple_inj h h2
/-- what is read is no iterator's own object -/
theorem Inv.seq_ne {b : Bool} {a f : Addr} {xs : List V} (I : Inv X pins σ H s) (h : SqB b X.K H a xs) (hf : FpOk X pins H f) : a ≠ f := by
  have rd : ∀ u, Rd H a u → a ≠ f := fun u r z => by
    subst z
    rcases r with r | ⟨o, r⟩ <;> (rw [hf.1] at r; cases r)
  have kk : ∀ o, X.K.lookup a = some o → a ≠ f := fun o e z => by
    subst z
    have q := I.mod.kin a o e
    rcases hf.2.2.2.1 with w | w
    · exact I.ok.noex _ _ q w
    · exact absurd (Nat.lt_of_lt_of_le (Heap.lt_size q) (Nat.le_trans I.ok.bsz w)) (Nat.lt_irrefl _)
  cases b
  · rcases h with h | ⟨o, its, n, hk, _⟩
    · exact rd _ h
    · exact kk _ hk
  · rcases h with h | ⟨o, its, n, hk, _⟩
    · exact rd _ h
    · exact kk _ hk
/-- untracked records of ours have turned, a new object has come -/
theorem Inv.turnedNew {fp : List Addr} {n : Addr} {u : HO} {t' : Nat} (I : Inv X pins σ H s) (hf : ∀ b ∈ fp, FpOk X pins H b) (k : ∀ b o, b ∉ fp → s.heap.get? b = some o → h'.get? b = some o) (hn : s.heap.objs.size ≤ n)
    (new : ObjOk X.prog X.w (upd H n u) h' n u) : Inv X pins σ (upd H n u) { s with heap := h', toks := t' } := by
  have fn := I.hok.fresh hn
  have nfp : ∀ b v, H b = some v → b ∉ fp := fun b v e z => by rw [(hf b z).1] at e; cases e
  have nl : X.env.locals ∉ fp := fun z => (hf _ z).2.1 rfl
  refine I.step (g' := s.gens) (d' := s.drawn) (ch := fp) (fun b hb => ?_) (fun b o _ _ hc e _ => k b o hc e) (fun b o _ _ hc e _ => ⟨o.slots, k b o hc e⟩) (fun b o _ e z => ?_)
    (fun b o hc e => ⟨o, k b o hc e⟩) (fun b xs e => ?_) (fun b o v e => ?_) (fun b ps e => ⟨#[], ?_⟩) (fun m hm => ?_) (fun b v e => ?_) I.bare
  · obtain ⟨f0, f1, f2, f3, f4, f5⟩ := hf b hb
    exact ⟨f3, f1, f4, f5⟩
  · rw [upd_ne (Nat.ne_of_lt (Nat.lt_of_lt_of_le (Heap.lt_size e) hn))]
    exact z
  · rw [upd_ne (ne_of_none e fn)]; exact e
  · rw [upd_ne (ne_of_none e fn)]; exact e
  · rw [upd_ne (ne_of_none e fn), e]; simp
  · obtain ⟨o, es, ep, ho, r⟩ := hm
    exact ⟨o, es, ep, k _ o nl ho, r⟩
  · by_cases hb : b = n
    · subst hb
      rw [upd_same] at e
      cases e
      exact new
    · rw [upd_ne hb] at e
      refine (I.hok b v e).stay (fun c x hc q => k c x ?_ q) (fun c q => by rw [upd_ne (ne_of_none q fn)]; exact q) fun c xs q => by rw [upd_ne (ne_of_none q fn)]; exact q
      rcases hc with z | z
      · rw [z]; exact nfp b v e
      · exact nfp c _ z
theorem Inv.turnedL {fp : List Addr} {t' : Nat} (I : Inv X pins σ H s) (hf : ∀ b ∈ fp, FpOk X pins H b) (k : ∀ b o, b ∉ fp → s.heap.get? b = some o → h'.get? b = some o) : Inv X pins σ H { s with heap := h', toks := t' } := by
  have nfp : ∀ b v, H b = some v → b ∉ fp := fun b v e z => by rw [(hf b z).1] at e; cases e
  have nl : X.env.locals ∉ fp := fun z => (hf _ z).2.1 rfl
  refine I.step (g' := s.gens) (d' := s.drawn) (ch := fp) (fun b hb => ?_) (fun b o _ _ hc e _ => k b o hc e) (fun b o _ _ hc e _ => ⟨o.slots, k b o hc e⟩) (fun b o _ e z => z)
    (fun b o hc e => ⟨o, k b o hc e⟩) (fun b xs e => e) (fun b o v e => e) (fun b ps e => ⟨#[], by rw [e]; simp⟩) (fun m hm => ?_) (fun b v e => ?_) I.bare
  · obtain ⟨f0, f1, f2, f3, f4, f5⟩ := hf b hb
    exact ⟨f3, f1, f4, f5⟩
  · obtain ⟨o, es, ep, ho, r⟩ := hm
    exact ⟨o, es, ep, k _ o nl ho, r⟩
  · refine (I.hok b v e).stay (fun c x hc q => k c x ?_ q) (fun c q => q) fun c xs q => q
    rcases hc with z | z
    · rw [z]; exact nfp b v e
    · exact nfp c _ z
end
/-- two sequences side by side -/
noncomputable def Itz (K : PySem.W.Frag) (b1 : Bool) (l1 : Addr) (b2 : Bool) (l2 : Addr) : It :=
  ⟨fun i H => ∃ xs ys x y, SqB b1 K H l1 xs ∧ SqB b2 K H l2 ys ∧ xs[i]? = some x ∧ ys[i]? = some y,
   fun i H v H' => ∃ p x y, v = .ref p ∧ H p = none ∧ H' = upd H p (.tup [x, y]) ∧ (∀ xs, SqB b1 K H l1 xs → xs[i]? = some x) ∧ ∀ ys, SqB b2 K H l2 ys → ys[i]? = some y,
   fun i H => ∃ xs ys, SqB b1 K H l1 xs ∧ SqB b2 K H l2 ys ∧ (xs[i]? = none ∨ ys[i]? = none)⟩
theorem vals_at {xs : List V} {its : List Value} {i : Nat} (r : Vals xs its) : xs[i]? = none → its.toArray[i]? = none := fun h => by
  have := r.none_of h
  simpa using this
theorem turn_zip {P : Program} {w : World} {K : PySem.W.Frag} {es : List Expr} {k : Nat} {pos : Pos} {b1 b2 : Bool} {z TI TO i1 i2 l1 l2 : Addr} (hd : [z, TI, TO, i1, i2].Nodup) :
    Turn P w K (.Tuple es k pos) (Itz K b1 l1 b2 l2) [z, TI, TO, i1, i2] z (fun i h => IsZip h z TI TO .none ∧ IsPair h TI (.ref i1) (.ref i2) ∧ (∃ a b, IsPair h TO a b) ∧ ItB b1 h i1 l1 i ∧ ItB b2 h i2 l2 i) where
  mem := by simp
  obj := fun i h ⟨hz, hTI, ⟨a, b, hTO⟩, h1, h2⟩ c hc => by
    simp only [List.mem_cons, List.not_mem_nil, or_false] at hc
    rcases hc with e | e | e | e | e <;> subst e
    · exact ⟨_, hz, fun v q => by have q' : Data.fields _ = Data.cell v := q; cases q'⟩
    · exact ⟨_, hTI, fun v q => by have q' : Data.seq _ _ = Data.cell v := q; cases q'⟩
    · exact ⟨_, hTO, fun v q => by have q' : Data.seq _ _ = Data.cell v := q; cases q'⟩
    · exact h1.lt
    · exact h2.lt
  keep := fun i h h' ⟨hz, hTI, ⟨a, b, hTO⟩, h1, h2⟩ kk => ⟨kk z (by simp) _ hz, kk TI (by simp) _ hTI, ⟨a, b, kk TO (by simp) _ hTO⟩, h1.at fun o e => kk i1 (by simp) o e, h2.at fun o e => kk i2 (by simp) o e⟩
  item := by
    intro X hP hw hK hc i pins s σ H E I hf st hg
    subst hP hw hK
    obtain ⟨hz, hTI, ⟨a, b, hTO⟩, h1, h2⟩ := st
    obtain ⟨xs, ys, x, y, q1, q2, e1, e2⟩ := hg
    obtain ⟨its1, r1, p1⟩ := I.seqB q1
    obtain ⟨its2, r2, p2⟩ := I.seqB q2
    obtain ⟨u1, hu1, ru1⟩ := r1.get e1
    obtain ⟨u2, hu2, ru2⟩ := r2.get e2
    have ne1 : ∀ f ∈ [z, TI, TO, i1, i2], l1 ≠ f := fun f hff => I.seq_ne q1 (hf f hff)
    have ne2 : ∀ f ∈ [z, TI, TO, i1, i2], l2 ≠ f := fun f hff => I.seq_ne q2 (hf f hff)
    simp only [List.nodup_cons, List.mem_cons, List.not_mem_nil, or_false, not_or, List.nodup_nil, and_true, not_false_eq_true] at hd
    obtain ⟨⟨d1, d2, d3, d4⟩, ⟨d5, d6, d7⟩, ⟨d8, d9⟩, d10⟩ := hd
    have D : ZipApart z TI TO i1 i2 l1 l2 := ⟨Ne.symm d1, Ne.symm d2, Ne.symm d3, Ne.symm d4, d5, d6, d7, d8, d9, d10, ne1 z (by simp), ne1 TO (by simp), ne1 i1 (by simp), ne1 i2 (by simp), ne2 z (by simp), ne2 TO (by simp), ne2 i1 (by simp), ne2 i2 (by simp)⟩
    refine zipB_item D hz hTI hTO h1 h2 p1 p2 (x := u1) (y := u2) (by simpa using hu1) (by simpa using hu2) fun h' a1 a2 a3 a4 a5 a6 a7 => ⟨_, rfl, ?_⟩
    refine wpAny_letOwnedTupleGo_zip a1 fun h'' hz' hs' => ?_
    have up : ∀ c o, c ∉ [z, TI, TO, i1, i2] → s.heap.get? c = some o → h''.get? c = some o := fun c o hc' e => by
      simp only [List.mem_cons, List.not_mem_nil, or_false, not_or] at hc'
      obtain ⟨c1, c2, c3, c4, c5⟩ := hc'
      exact hs'.extBut _ _ c1 (a7 c o c1 c3 c4 c5 e)
    have nz : s.heap.objs.size ≠ z := Nat.ne_of_gt (Heap.lt_size hz)
    have new : ObjOk X.prog X.w (upd H s.heap.objs.size (.tup [x, y])) h'' s.heap.objs.size (.tup [x, y]) :=
      ⟨by show 2 ≤ sizeLine; decide, [u1, u2], .cons ru1 (.cons ru2 .nil), ⟨_, hs'.extBut _ _ nz a5, rfl, _, rfl⟩⟩
    have I2 : Inv X pins σ (upd H s.heap.objs.size (.tup [x, y])) { s with heap := h'' } := I.turnedNew (t' := s.toks) hf up (Nat.le_refl _) new
    refine ⟨.ref s.heap.objs.size, _, I2, rfl, ⟨_, x, y, rfl, I.fresh, rfl, fun xs' q => by rw [I.seqB_inj q q1]; exact e1, fun ys' q => by rw [I.seqB_inj q q2]; exact e2⟩, ⟨hz', hs'.extBut _ _ D.TIz (a7 _ _ D.TIz D.TITO D.TIi1 D.TIi2 hTI), ⟨_, _, hs'.extBut _ _ D.TOz a2⟩, a3.at fun o e => hs'.extBut _ _ D.i1z e, a4.at fun o e => hs'.extBut _ _ D.i2z e⟩, fun c hc' => ?_⟩
    have hcf := (hf c hc').1
    rw [upd_ne]
    · exact hcf
    · intro e
      subst e
      simp only [List.mem_cons, List.not_mem_nil, or_false] at hc'
      rcases hc' with e | e | e | e | e
      · exact nz e
      · exact absurd (Heap.lt_size hTI) (by rw [← e]; exact Nat.lt_irrefl _)
      · exact absurd (Heap.lt_size hTO) (by rw [← e]; exact Nat.lt_irrefl _)
      · obtain ⟨o, q, _⟩ := h1.lt; exact absurd (Heap.lt_size q) (by rw [← e]; exact Nat.lt_irrefl _)
      · obtain ⟨o, q, _⟩ := h2.lt; exact absurd (Heap.lt_size q) (by rw [← e]; exact Nat.lt_irrefl _)
  done := by
    intro X hP hw hK hc i pins s σ H E I hf st hg
    subst hP hw hK
    obtain ⟨hz, hTI, ⟨a, b, hTO⟩, h1, h2⟩ := st
    obtain ⟨xs, ys, q1, q2, e1⟩ := hg
    obtain ⟨its1, r1, p1⟩ := I.seqB q1
    obtain ⟨its2, r2, p2⟩ := I.seqB q2
    have ne1 : ∀ f ∈ [z, TI, TO, i1, i2], l1 ≠ f := fun f hff => I.seq_ne q1 (hf f hff)
    have ne2 : ∀ f ∈ [z, TI, TO, i1, i2], l2 ≠ f := fun f hff => I.seq_ne q2 (hf f hff)
    simp only [List.nodup_cons, List.mem_cons, List.not_mem_nil, or_false, not_or, List.nodup_nil, and_true, not_false_eq_true] at hd
    obtain ⟨⟨d1, d2, d3, d4⟩, ⟨d5, d6, d7⟩, ⟨d8, d9⟩, d10⟩ := hd
    have D : ZipApart z TI TO i1 i2 l1 l2 := ⟨Ne.symm d1, Ne.symm d2, Ne.symm d3, Ne.symm d4, d5, d6, d7, d8, d9, d10, ne1 z (by simp), ne1 TO (by simp), ne1 i1 (by simp), ne1 i2 (by simp), ne2 z (by simp), ne2 TO (by simp), ne2 i1 (by simp), ne2 i2 (by simp)⟩
    refine zipB_end (I.ok.hd hc) D hz hTI hTO h1 h2 p1 p2 (e1.imp (vals_at r1) (vals_at r2)) fun h' a7 => ⟨rfl, I.turnedL (t' := s.toks) hf fun c o hc' e => ?_⟩
    simp only [List.mem_cons, List.not_mem_nil, or_false, not_or] at hc'
    obtain ⟨c1, c2, c3, c4, c5⟩ := hc'
    exact a7 c o c1 c3 c4 c5 e
  self := fun _ _ _ _ _ st h => wpAny_pyIter_zip st.1 h
section
variable {X : Cx}
noncomputable def iZip (K : PySem.W.Frag) (ta : TA) : TI := fun σ H R => ta σ H fun vs H1 => ∃ b1 b2 l1 l2, vs = [.ref l1, .ref l2] ∧ (∃ xs, SqB b1 K H1 l1 xs) ∧ (∃ ys, SqB b2 K H1 l2 ys) ∧ R (Itz K b1 l1 b2 l2) H1
theorem pi_zip {a b : Expr} {ta : TA} {es : List Expr} {k : Nat} {tp p pos : Pos} (hg : Gl X "zip") (hm : X.mg "zip" = none) (ha : PA X [a, b] ta) (hv : bootBuiltins "zip" = some (.type "zip") := by decide +kernel)
    (hs : starEach [a, b] X.env = [(false, eval a X.env), (false, eval b X.env)] := by rfl) (hs2 : starEach [b] X.env = [(false, eval b X.env)] := by rfl) :
    PI X (.Tuple es k tp) (.Call (.Name "zip" p) [a, b] [] pos) (iZip X.K ta) := by
  intro pins s σ H R I h
  refine Call_ (ld_blt I hg hm hv (PyProof.Rows.callWith_type1 (thn (ha pos pins s σ H _ I h) fun us s1 ⟨vs, H1, I1, r1, q1⟩ => ?_) (by rw [hs, hs2]) (by rw [hs2]; rfl)))
  obtain ⟨b1, b2, l1, l2, e, ⟨xs, q1⟩, ⟨ys, q2⟩, q⟩ := q1
  subst e
  cases r1 with
  | cons r rr =>
    cases rr with
    | cons r' rr =>
      cases rr
      cases r
      cases r'
      obtain ⟨its1, v1, p1⟩ := I1.seqB q1
      obtain ⟨its2, v2, p2⟩ := I1.seqB q2
      refine call_zipB p1 p2 fun h' a1 a2 a3 a4 a5 kp => ?_
      refine wpAny_pyIter_zip a1 ?_
      have lt : ∀ j, j ≤ 4 → s1.heap.objs.size ≤ s1.heap.objs.size + j := fun j _ => Nat.le_add_right _ _
      refine ⟨s1.heap.objs.size + 4, [s1.heap.objs.size + 4, s1.heap.objs.size + 2, s1.heap.objs.size + 3, s1.heap.objs.size, s1.heap.objs.size + 1], _, _, H1, rfl, I1.kept (t' := s1.toks) kp, turn_zip (b1 := b1) (b2 := b2) (l1 := l1) (l2 := l2) ?_, ⟨a1, a2, ⟨_, _, a3⟩, a4, a5⟩, fun c hc => ?_, q⟩
      · simp
      · have hle : s1.heap.objs.size ≤ c := by
          simp only [List.mem_cons, List.not_mem_nil, or_false] at hc
          rcases hc with e | e | e | e | e <;> subst e <;> first | exact Nat.le_refl _ | exact Nat.le_add_right _ _
        exact I1.fpOk hle (I1.hok.fresh hle)
end
end L2

/-! ENUMERATE, SUM. -/
namespace L2
open PySem PySem.Spec PyProof.Rows
open AutoSeq1 (wpAny_loadPart')
set_option maxRecDepth 100000 in
noncomputable def Ite (K : PySem.W.Frag) (b : Bool) (l : Addr) : It :=
  ⟨fun i H => ∃ xs x, SqB b K H l xs ∧ xs[i]? = some x,
   fun i H v H' => ∃ p x, v = .ref p ∧ H p = none ∧ H' = upd H p (.tup [.int i, x]) ∧ ∀ xs, SqB b K H l xs → xs[i]? = some x,
   fun i H => ∃ xs, SqB b K H l xs ∧ xs.length = i⟩
section
variable {X : Cx}
theorem ints_items : ∀ {ns : List Int} {its : List Value}, Vals (ns.map V.int) its → ∃ xs : List (Int × Tok), its = xs.map (fun p => Value.int p.1 p.2) ∧ xs.map (·.1) = ns
  | [], _, .nil => ⟨[], rfl, rfl⟩
  | n :: r, _, .cons ⟨t, h⟩ q => by
    obtain ⟨xs, e1, e2⟩ := ints_items (ns := r) q
    exact ⟨(n, t) :: xs, by rw [h, e1]; rfl, by rw [List.map_cons, e2]⟩
theorem call_sum (hc : X.calm = true) : CallR X (.builtin "sum") (fun xs H Q => ∃ (p : Addr) (ns : List Int), xs = [.ref p] ∧ SqL X.K H p (ns.map V.int) ∧ Q (.int ns.sum) H) := by
  intro pins s σ H xs us Q I r h
  obtain ⟨p, ns, rfl, hq, q⟩ := h
  obtain ⟨u, rfl, rx⟩ := vals1 r
  cases rx
  obtain ⟨its, rv, pl, hz⟩ := I.list hq
  obtain ⟨ps, e1, e2⟩ := ints_items rv
  have hl : s.heap.IsList p (intItems ps.toArray) := by
    have := pl.isList
    rw [e1] at this
    simpa [intItems] using this
  refine sum_intListG (I.ok.hd hc) hl fun h' tk t' hk => ⟨.int ns.sum, H, I.kept (t' := tk) hk, ⟨t', ?_⟩, q⟩
  rw [preSum_eq, List.take_of_length_le (by simp)]
  simp [e2]
end
end L2

/-! SEQUENCES OF EITHER KIND; the forms of comprehensions. -/
namespace L2
open PySem PySem.Spec PyProof.Rows
theorem SqB.or {b : Bool} {K : PySem.W.Frag} {H : Hp} {a : Addr} {xs : List V} (h : SqB b K H a xs) : SqL K H a xs ∨ SqT K H a xs := by
  cases b
  · exact .inl h
  · exact .inr h
theorem SqB.up {b : Bool} {K : PySem.W.Frag} {H H' : Hp} {a : Addr} {xs : List V} (h : SqB b K H a xs) (s : Same H H') : SqB b K H' a xs := by
  cases b
  · exact s.seq h
  · exact s.tup h
theorem SqB.lst {K : PySem.W.Frag} {H : Hp} {a : Addr} {xs : List V} (h : H a = some (.lst xs)) : SqB false K H a xs := SqL.of h
theorem SqB.tup {K : PySem.W.Frag} {H : Hp} {a : Addr} {xs : List V} (h : H a = some (.tup xs)) : SqB true K H a xs := SqT.of h
noncomputable def Its (K : PySem.W.Frag) (b : Bool) (a : Addr) : It := match b with | false => Itl K a | true => Itt K a
theorem Its.go {K : PySem.W.Frag} {b : Bool} {a : Addr} {xs : List V} {x : V} {i : Nat} {H : Hp} (h : SqB b K H a xs) (e : xs[i]? = some x) : (Its K b a).go i H := by
  cases b
  · exact ⟨xs, x, h, e⟩
  · exact ⟨xs, x, h, e⟩
theorem Its.stop {K : PySem.W.Frag} {b : Bool} {a : Addr} {xs : List V} {i : Nat} {H : Hp} (h : SqB b K H a xs) (e : xs.length ≤ i) : (Its K b a).stop i H := by
  cases b
  · exact ⟨xs, h, e⟩
  · exact ⟨xs, h, e⟩
theorem Its.yld {K : PySem.W.Frag} {b : Bool} {a : Addr} {xs : List V} {i : Nat} {H H' : Hp} {x : V} (h : SqB b K H a xs) (y : (Its K b a).yld i H x H') : H' = H ∧ xs[i]? = some x := by
  cases b
  · exact ⟨y.1, y.2 xs h⟩
  · exact ⟨y.1, y.2 xs h⟩
section
variable {X : Cx}
noncomputable def iSeq (K : PySem.W.Frag) (tl : TE) : TI := fun σ H R => tl σ H fun x H1 => ∃ b a, x = .ref a ∧ (∃ xs, SqB b K H1 a xs) ∧ R (Its K b a) H1
theorem pi_seq {tg l : Expr} {tl : TE} (hl : PE X l tl) : PI X tg l (iSeq X.K tl) := by
  intro pins s σ H R I h
  refine thn (hl pins s σ H _ I h) fun v s1 ⟨x, H1, I1, r1, q1⟩ => ?_
  obtain ⟨b, a, e, ⟨xs, hq⟩, q⟩ := q1
  subst e
  cases r1
  cases b
  · obtain ⟨its, rv, p, hz⟩ := I1.list hq
    refine wpAny_pyIter_list p.isList ?_
    refine ⟨s1.heap.objs.size, [s1.heap.objs.size], _, _, H1, rfl, I1.kept (t' := s1.toks) fun b o e => Heap.get?_push_of_some _ e, turn_list a _, ⟨_, Heap.get?_push_size _ rfl, rfl, rfl⟩, fun b hb => ?_, q⟩
    have e : b = s1.heap.objs.size := by simpa using hb
    subst e
    exact I1.fpOk (Nat.le_refl _) (I1.hok.fresh (Nat.le_refl _))
  · obtain ⟨its, rv, p, hz⟩ := I1.tuple hq
    refine wpAny_pyIter_tuple (show s1.heap.IsTuple a its.toArray from p) ?_
    refine ⟨s1.heap.objs.size, [s1.heap.objs.size], _, _, H1, rfl, I1.kept (t' := s1.toks) fun b o e => Heap.get?_push_of_some _ e, turn_tuple a _, ⟨_, Heap.get?_push_size _ rfl, rfl, rfl⟩, fun b hb => ?_, q⟩
    have e : b = s1.heap.objs.size := by simpa using hb
    subst e
    exact I1.fpOk (Nat.le_refl _) (I1.hok.fresh (Nat.le_refl _))
noncomputable def rIxB (K : PySem.W.Frag) : R2 := fun x y H Q => ∃ b p xs i v, x = .ref p ∧ y = .int i ∧ SqB b K H p xs ∧ atI xs i = some v ∧ Q v H
theorem ix_B : IxR X (rIxB X.K) := by
  intro value slice pins s σ H x y v u Q I rx ry h
  obtain ⟨b, p, xs, i, v', e1, e2, hq, ha, q⟩ := h
  cases b
  · exact ix_list value slice pins s σ H x y v u Q I rx ry ⟨p, xs, i, v', e1, e2, hq, ha, q⟩
  · exact ix_tup value slice pins s σ H x y v u Q I rx ry ⟨p, xs, i, v', e1, e2, hq, ha, q⟩
noncomputable def rLenB (K : PySem.W.Frag) : List V → Hp → VK → Prop := fun xs H Q => ∃ b p ys, xs = [.ref p] ∧ SqB b K H p ys ∧ Q (.int ys.length) H
theorem call_lenB : CallR X (.builtin "len") (rLenB X.K) := by
  intro pins s σ H xs us Q I r h
  obtain ⟨b, p, ys, e, hq, q⟩ := h
  exact call_len_seq pins s σ H xs us Q I r ⟨p, ys, e, hq.or, q⟩
noncomputable def rTupB (K : PySem.W.Frag) : List V → Hp → VK → Prop := fun xs H Q => ∃ p ys, xs = [.ref p] ∧ ((SqL K H p ys ∧ ∀ l, H l = none → Q (.ref l) (upd H l (.tup ys))) ∨ (SqT K H p ys ∧ Q (.ref p) H))
theorem call_tupB : CallR X (.type "tuple") (rTupB X.K) := call_tuple_of
end
/-! ### for, over a sequence that stays -/
theorem for_seq {K : PySem.W.Frag} {b : Bool} {a : Addr} {xs : List V} {g : TG} {tb : TS} {D : Ends} {σ : St} {H : Hp} (Pv : Nat → St → Hp → Prop) (h0 : Pv 0 σ H) (hl : ∀ i σ H, i ≤ xs.length → Pv i σ H → SqB b K H a xs)
    (hs : ∀ i x σ H, xs[i]? = some x → Pv i σ H → g x σ H fun σ2 H2 => tb { D with nx := Pv (i + 1), ct := Pv (i + 1), bk := D.nx } σ2 H2) (hd : ∀ σ H, Pv xs.length σ H → D.nx σ H) :
    ∃ W : Nat → Nat → St → Hp → Prop, (∃ m, W 0 m σ H) ∧ ∀ i m σ H, W i m σ H →
      ((Its K b a).stop i H ∧ D.nx σ H) ∨ ((Its K b a).go i H ∧ ∃ N : St → Hp → Prop, (∀ σ' H', N σ' H' → ∃ m', m' < m ∧ W (i + 1) m' σ' H') ∧ ∀ x H', (Its K b a).yld i H x H' → g x σ H' fun σ2 H2 => tb { D with nx := N, ct := N, bk := D.nx } σ2 H2) := by
  cases b
  · exact for_list Pv h0 hl hs hd
  · exact for_tup Pv h0 hl hs hd
/-- two side by side -/
theorem for_zip {K : PySem.W.Frag} {b1 b2 : Bool} {a1 a2 : Addr} {xs ys : List V} {g : TG} {tb : TS} {D : Ends} {σ : St} {H : Hp} (Pv : Nat → St → Hp → Prop) (h0 : Pv 0 σ H) (hlen : xs.length = ys.length) (hl : ∀ i σ H, i ≤ xs.length → Pv i σ H → SqB b1 K H a1 xs ∧ SqB b2 K H a2 ys)
    (hs : ∀ i x y p σ H, xs[i]? = some x → ys[i]? = some y → Pv i σ H → H p = none → g (.ref p) σ (upd H p (.tup [x, y])) fun σ2 H2 => tb { D with nx := Pv (i + 1), ct := Pv (i + 1), bk := D.nx } σ2 H2) (hd : ∀ σ H, Pv xs.length σ H → D.nx σ H) :
    ∃ W : Nat → Nat → St → Hp → Prop, (∃ m, W 0 m σ H) ∧ ∀ i m σ H, W i m σ H →
      ((Itz K b1 a1 b2 a2).stop i H ∧ D.nx σ H) ∨ ((Itz K b1 a1 b2 a2).go i H ∧ ∃ N : St → Hp → Prop, (∀ σ' H', N σ' H' → ∃ m', m' < m ∧ W (i + 1) m' σ' H') ∧ ∀ x H', (Itz K b1 a1 b2 a2).yld i H x H' → g x σ H' fun σ2 H2 => tb { D with nx := N, ct := N, bk := D.nx } σ2 H2) := by
  refine ⟨fun i m σ H => m = xs.length - i ∧ i ≤ xs.length ∧ Pv i σ H, ⟨xs.length, by simp, Nat.zero_le _, h0⟩, ?_⟩
  rintro i m σ H ⟨rfl, hi, p⟩
  obtain ⟨q1, q2⟩ := hl i σ H hi p
  by_cases hlt : i < xs.length
  · refine .inr ⟨⟨xs, ys, xs[i], ys[i], q1, q2, by simp [hlt], by simp⟩, Pv (i + 1), fun σ' H' p' => ⟨xs.length - (i + 1), by omega, rfl, hlt, p'⟩, fun x H' y => ?_⟩
    obtain ⟨r, x, z, rfl, hr, rfl, hx, hy⟩ := y
    exact hs i x z r σ H (hx xs q1) (hy ys q2) p hr
  · have e : i = xs.length := by omega
    subst e
    exact .inl ⟨⟨xs, ys, q1, q2, .inl (by simp)⟩, hd σ H p⟩
/-! ### comprehensions -/
/-- all that stood but at a stands still -/
noncomputable def SameX (a : Addr) (H H' : Hp) : Prop := ∀ b o, b ≠ a → H b = some o → H' b = some o
theorem Same.x {a : Addr} {H H' : Hp} (s : Same H H') : SameX a H H' := fun b o _ e => s b o e
section
variable {J : It} {g : TG} {tt : TOx} {te : TE} {n : Nat} {fr : List (Str × Nat)} {σ : St} {a : Addr} {H : Hp} {Q : VK} {K : PySem.W.Frag}
/-- P i zs H: behind i turns the list is zs -/
theorem cg_inv (len : Nat) (P : Nat → List V → Hp → Prop) (ha : H a = none) (hz : len ≤ 1000) (h0 : P 0 [] (upd H a (.lst [])))
    (hl : ∀ i zs H1, P i zs H1 → zs.length ≤ i) (mono : ∀ i zs H1 H2, P i zs H1 → SameX a H1 H2 → P i zs H2)
    (hgo : ∀ i H1, i < len → Same H H1 → J.go i H1) (hstop : ∀ H1, Same H H1 → J.stop len H1)
    (he : ∀ i H1 zs, i < len → Same H H1 → H1 a = some (.lst zs) → P i zs H1 → ∀ (ys : St) x H3, ys.length = n → J.yld i H1 x H3 → ∀ C : Option V → Hp → Prop,
      (∀ y H2, Same H1 H2 → P (i + 1) (zs ++ [y]) H2 → C (some y) H2) → (∀ H2, Same H1 H2 → P (i + 1) zs H2 → C none H2) →
      g x (ys ++ frees fr σ) H3 fun σ4 H4 => (∃ ys' : St, ys'.length = n ∧ σ4 = ys' ++ frees fr σ) ∧ tt σ4 H4 C)
    (hd : ∀ H1 ys, Same H H1 → H1 a = some (.lst ys) → P len ys H1 → Q (.ref a) H1) : CompWG J g tt n fr σ a H Q := by
  refine ⟨fun i m H1 => m = len - i ∧ i ≤ len ∧ Same H H1 ∧ ∃ zs, H1 a = some (.lst zs) ∧ P i zs H1, ⟨len, by simp, Nat.zero_le _, Same.new ha, [], upd_same, h0⟩, ?_⟩
  rintro i m H1 ⟨rfl, hi, s1, zs, ez, p⟩
  by_cases hlt : i < len
  · refine .inr ⟨hgo i H1 hlt s1, fun H' => i + 1 ≤ len ∧ Same H H' ∧ ∃ zs, H' a = some (.lst zs) ∧ P (i + 1) zs H', fun H' q => ⟨len - (i + 1), by omega, rfl, q⟩, fun ys x H3 hys hy => ?_⟩
    refine he i H1 zs hlt s1 ez p ys x H3 hys hy _ (fun y H2 s2 p2 => ?_) fun H2 s2 p2 => ?_
    · refine ⟨zs, s2 _ _ ez, small1000 (by have := hl i zs H1 p; omega), hlt, Same.over ha (s1.trans s2), _, upd_same, mono _ _ _ _ p2 fun b o hb e => ?_⟩
      rw [upd_ne hb]
      exact e
    · exact ⟨hlt, s1.trans s2, zs, s2 _ _ ez, p2⟩
  · have e : i = len := by omega
    subst e
    exact .inl ⟨hstop H1 s1, hd H1 zs s1 ez p⟩
/-- R i y H: the element of turn i is y -/
theorem cg_rel (len : Nat) (R : Nat → V → Hp → Prop) (ha : H a = none) (hz : len ≤ 1000) (mono : ∀ i y H1 H2, R i y H1 → SameX a H1 H2 → R i y H2)
    (hgo : ∀ i H1, i < len → Same H H1 → J.go i H1) (hstop : ∀ H1, Same H H1 → J.stop len H1)
    (he : ∀ i H1 zs, i < len → Same H H1 → H1 a = some (.lst zs) → ∀ (ys : St) x H3, ys.length = n → J.yld i H1 x H3 → ∀ Q' : VK, (∀ y H2, Same H1 H2 → R i y H2 → Q' y H2) →
      g x (ys ++ frees fr σ) H3 fun σ4 H4 => (∃ ys' : St, ys'.length = n ∧ σ4 = ys' ++ frees fr σ) ∧ te σ4 H4 Q')
    (hd : ∀ H1 ys, Same H H1 → H1 a = some (.lst ys) → ys.length = len → (∀ j y, ys[j]? = some y → R j y H1) → Q (.ref a) H1) : CompWG J g (tEl te) n fr σ a H Q := by
  refine cg_inv len (fun i zs H1 => zs.length = i ∧ ∀ j y, zs[j]? = some y → R j y H1) ha hz ⟨rfl, fun j y e => by simp at e⟩ (fun i zs H1 p => Nat.le_of_eq p.1) (fun i zs H1 H2 p s => ⟨p.1, fun j y e => mono _ _ _ _ (p.2 j y e) s⟩) hgo hstop ?_ fun H1 ys s e p => hd H1 ys s e p.1 p.2
  intro i H1 zs hi s1 ez p ys x H3 hys hy C hC _
  refine he i H1 zs hi s1 ez ys x H3 hys hy _ fun y H2 s2 r => hC y H2 s2 ⟨by simp [p.1], fun j z e => ?_⟩
  by_cases hj : j < zs.length
  · rw [List.getElem?_append_left hj] at e
    exact mono _ _ _ _ (p.2 j z e) s2.x
  · rw [List.getElem?_append_right (by omega)] at e
    have e0 : j - zs.length = 0 := by
      by_cases h0 : j - zs.length = 0
      · exact h0
      · rw [List.getElem?_eq_none (by simp; omega)] at e; cases e
    rw [e0] at e
    cases Option.some.inj e
    have : j = i := by have := p.1; omega
    rw [this]
    exact r
/-- a name over a sequence -/
theorem cg_seq {b : Bool} {l : Addr} {xs : List V} (R : Nat → V → Hp → Prop) (ha : H a = none) (hS : SqB b K H l xs) (hz : xs.length ≤ 1000) (mono : ∀ i y H1 H2, R i y H1 → SameX a H1 H2 → R i y H2)
    (he : ∀ i x H1 zs, xs[i]? = some x → Same H H1 → H1 a = some (.lst zs) → ∀ Q' : VK, (∀ y H2, Same H1 H2 → R i y H2 → Q' y H2) → te (some x :: frees fr σ) H1 Q')
    (hd : ∀ H1 ys, Same H H1 → H1 a = some (.lst ys) → ys.length = xs.length → (∀ j y, ys[j]? = some y → R j y H1) → Q (.ref a) H1) : CompWG (Its K b l) (gName 0) (tEl te) 1 fr σ a H Q := by
  refine cg_rel xs.length R ha hz mono (fun i H1 hi s => Its.go (hS.up s) (x := xs[i]) (by simp [hi])) (fun H1 s => Its.stop (hS.up s) (Nat.le_refl _)) ?_ hd
  intro i H1 zs hi s1 ez ys x H3 hys hy Q' hQ'
  obtain ⟨e1, e2⟩ := Its.yld (hS.up s1) hy
  subst e1
  match ys, hys with
  | [o], _ => exact ⟨⟨[some x], rfl, rfl⟩, he i x H3 zs e2 s1 ez Q' hQ'⟩
/-- a name over a range -/
theorem cg_range {lo : Int} {len : Nat} (R : Nat → V → Hp → Prop) (ha : H a = none) (hz : len ≤ 1000) (mono : ∀ i y H1 H2, R i y H1 → SameX a H1 H2 → R i y H2)
    (he : ∀ (i : Nat) H1 zs, i < len → Same H H1 → H1 a = some (.lst zs) → ∀ Q' : VK, (∀ y H2, Same H1 H2 → R i y H2 → Q' y H2) → te (some (.int (lo + i)) :: frees fr σ) H1 Q')
    (hd : ∀ H1 ys, Same H H1 → H1 a = some (.lst ys) → ys.length = len → (∀ j y, ys[j]? = some y → R j y H1) → Q (.ref a) H1) : CompWG (Itr lo len) (gName 0) (tEl te) 1 fr σ a H Q := by
  refine cg_rel len R ha hz mono (fun i H1 hi s => hi) (fun H1 s => Nat.le_refl _) ?_ hd
  intro i H1 zs hi s1 ez ys x H3 hys hy Q' hQ'
  obtain ⟨e1, e2⟩ := hy
  subst e1 e2
  match ys, hys with
  | [o], _ => exact ⟨⟨[_], rfl, rfl⟩, he i H3 zs hi s1 ez Q' hQ'⟩
/-- two names over two sequences -/
theorem cg_zip {b1 b2 : Bool} {l1 l2 : Addr} {xs ys : List V} (R : Nat → V → Hp → Prop) (ha : H a = none) (hS1 : SqB b1 K H l1 xs) (hS2 : SqB b2 K H l2 ys) (hlen : xs.length = ys.length) (hz : xs.length ≤ 1000) (mono : ∀ i y H1 H2, R i y H1 → SameX a H1 H2 → R i y H2)
    (he : ∀ i x y H1 zs, xs[i]? = some x → ys[i]? = some y → Same H H1 → H1 a = some (.lst zs) → ∀ Q' : VK, (∀ y H2, Same H1 H2 → R i y H2 → Q' y H2) → te (some x :: some y :: frees fr σ) H1 Q')
    (hd : ∀ H1 zs, Same H H1 → H1 a = some (.lst zs) → zs.length = xs.length → (∀ j y, zs[j]? = some y → R j y H1) → Q (.ref a) H1) :
    CompWG (Itz K b1 l1 b2 l2) (gTup K 2 (gCons (gName 0) (gCons (gName 1) gNil))) (tEl te) 2 fr σ a H Q := by
  refine cg_rel xs.length R ha hz mono (fun i H1 hi s => ⟨xs, ys, xs[i], ys[i], hS1.up s, hS2.up s, by simp [hi], by simp⟩) (fun H1 s => ⟨xs, ys, hS1.up s, hS2.up s, .inl (by simp)⟩) ?_ hd
  intro i H1 zs hi s1 ez os x H3 hos hy Q' hQ'
  obtain ⟨p, x, y, rfl, hp, rfl, hx, hy⟩ := hy
  refine ⟨p, [x, y], rfl, SqT.of upd_same, rfl, x, [y], rfl, y, [], rfl, rfl, ?_⟩
  match os, hos with
  | [o, o'], _ =>
    refine ⟨⟨[some x, some y], rfl, rfl⟩, he i x y _ zs (hx xs (hS1.up s1)) (hy ys (hS2.up s1)) (s1.trans (Same.new hp)) (Same.new hp _ _ ez) Q' fun y H2 s2 r => hQ' y H2 ((Same.new hp).trans s2) r⟩
end
/-! ### rows of ints -/
/-- rows of ints at a: a list (false) or tuple (true) of lists or tuples -/
noncomputable def MatB (b1 b2 : Bool) (K : PySem.W.Frag) (H : Hp) (a : Addr) (rows : List (List Int)) : Prop := ∃ ps : List Addr, SqB b1 K H a (ps.map V.ref) ∧ ps.length = rows.length ∧ ∀ (i : Nat) (p : Addr) (r : List Int), ps[i]? = some p → rows[i]? = some r → SqB b2 K H p (r.map V.int)
theorem MatB.up {b1 b2 : Bool} {K : PySem.W.Frag} {H H' : Hp} {a : Addr} {rows : List (List Int)} (h : MatB b1 b2 K H a rows) (s : Same H H') : MatB b1 b2 K H' a rows := let ⟨ps, h1, h2, h3⟩ := h; ⟨ps, h1.up s, h2, fun i p r e1 e2 => (h3 i p r e1 e2).up s⟩
/-- a list of new lists of ints, at turn j of a comprehension that makes a -/
noncomputable def RowR (a : Addr) (f : Nat → List Int) (j : Nat) (y : V) (H : Hp) : Prop := ∃ p, y = .ref p ∧ p ≠ a ∧ H p = some (.lst ((f j).map V.int))
theorem RowR.mono {a : Addr} {f : Nat → List Int} (i : Nat) (y : V) (H1 H2 : Hp) (h : RowR a f i y H1) (s : SameX a H1 H2) : RowR a f i y H2 := let ⟨p, e, n, q⟩ := h; ⟨p, e, n, s _ _ n q⟩
theorem MatB.of {K : PySem.W.Frag} {H : Hp} {a : Addr} {f : Nat → List Int} {ys : List V} (h : H a = some (.lst ys)) (hr : ∀ (j : Nat) y, ys[j]? = some y → RowR a f j y H) : MatB false false K H a ((List.range ys.length).map f) := by
  have hp : ∃ ps : List Addr, ys = ps.map V.ref := by
    clear h
    have : ∀ (zs : List V) (k : Nat), (∀ (j : Nat) y, zs[j]? = some y → RowR a f (j + k) y H) → ∃ ps : List Addr, zs = ps.map V.ref := by
      intro zs
      induction zs with
      | nil => intro k _; exact ⟨[], rfl⟩
      | cons z r ih =>
        intro k hz
        obtain ⟨p, e, _⟩ := hz 0 z rfl
        obtain ⟨ps, e2⟩ := ih (k + 1) fun j y q => by
          have := hz (j + 1) y (by simpa using q)
          rwa [Nat.add_assoc, Nat.add_comm 1 k] at this
        exact ⟨p :: ps, by rw [e, e2]; rfl⟩
    exact this ys 0 hr
  obtain ⟨ps, rfl⟩ := hp
  refine ⟨ps, SqB.lst h, by simp, fun i p r e1 e2 => ?_⟩
  obtain ⟨p', e, _, q⟩ := hr i (.ref p) (by simp [e1])
  cases e
  have hi : i < ps.length := (List.getElem?_eq_some_iff.mp e1).1
  have : r = f i := by
    rw [List.getElem?_map, List.length_map, List.getElem?_range hi] at e2
    exact (Option.some.inj e2).symm
  rw [this]
  exact SqB.lst q
end L2

/-! TREES OF INTS as data: what == and != ask of them. -/
namespace L2
open PySem PySem.Spec PyProof.Rows
/-- a tree of ints, of lists and tuples, at most n deep -/
noncomputable def iT : Nat → PyData → Bool
  | _, .int _ => true
  | n + 1, .list xs => xs.all (iT n)
  | n + 1, .tuple xs => xs.all (iT n)
  | _, _ => false
theorem iT_lay : ∀ (n : Nat) (d : PyData), iT n d = true → d.canLay0 = true ∧ d.depth ≤ n
  | 0, .int _, _ => by simp [PyData.canLay0, PyData.depth]
  | n + 1, .int _, _ => by simp [PyData.canLay0, PyData.depth]
  | n + 1, .list xs, h => by
    have all : ∀ ys : List PyData, ys.all (iT n) = true → PyData.canLayAll0 ys = true ∧ PyData.depthAll ys ≤ n := by
      intro ys
      induction ys with
      | nil => intro _; simp [PyData.canLayAll0, PyData.depthAll]
      | cons y r ih =>
        intro hy
        rw [List.all_cons, Bool.and_eq_true] at hy
        have h1 := iT_lay n y hy.1
        have h2 := ih hy.2
        simp only [PyData.canLayAll0, PyData.depthAll, Bool.and_eq_true]
        exact ⟨⟨h1.1, h2.1⟩, by omega⟩
    have := all xs (by simpa [iT] using h)
    simp only [PyData.canLay0, PyData.depth]
    exact ⟨this.1, by omega⟩
  | n + 1, .tuple xs, h => by
    have all : ∀ ys : List PyData, ys.all (iT n) = true → PyData.canLayAll0 ys = true ∧ PyData.depthAll ys ≤ n := by
      intro ys
      induction ys with
      | nil => intro _; simp [PyData.canLayAll0, PyData.depthAll]
      | cons y r ih =>
        intro hy
        rw [List.all_cons, Bool.and_eq_true] at hy
        have h1 := iT_lay n y hy.1
        have h2 := ih hy.2
        simp only [PyData.canLayAll0, PyData.depthAll, Bool.and_eq_true]
        exact ⟨⟨h1.1, h2.1⟩, by omega⟩
    have := all xs (by simpa [iT] using h)
    simp only [PyData.canLay0, PyData.depth]
    exact ⟨this.1, by omega⟩
theorem iT_mix : ∀ (n : Nat) (d d' : PyData), iT n d = true → iT n d' = true → SeqAt.noMix d d' = true := by
  intro n
  induction n with
  | zero => intro d d' h h'; cases d <;> simp [iT] at h <;> cases d' <;> simp [iT] at h' <;> simp [SeqAt.noMix]
  | succ n ih =>
    have all : ∀ ys zs : List PyData, ys.all (iT n) = true → zs.all (iT n) = true → SeqAt.noMixAll ys zs = true := by
      intro ys
      induction ys with
      | nil => intro zs _ _; cases zs <;> simp [SeqAt.noMixAll]
      | cons y r ihr =>
        intro zs hy hz
        cases zs with
        | nil => simp [SeqAt.noMixAll]
        | cons z t =>
          rw [List.all_cons, Bool.and_eq_true] at hy hz
          simp only [SeqAt.noMixAll, Bool.and_eq_true]
          exact ⟨ih y z hy.1 hz.1, ihr t hy.2 hz.2⟩
    intro d d' h h'
    cases d <;> simp only [iT, Bool.false_eq_true] at h <;> cases d' <;> simp only [iT, Bool.false_eq_true] at h' <;> simp only [SeqAt.noMix]
    · exact all _ _ h h'
    · exact all _ _ h h'
theorem iT_same : ∀ (n : Nat) (d d' : PyData), iT n d = true → iT n d' = true → (same d d' = true ↔ d = d') := by
  intro n
  induction n with
  | zero => intro d d' h h'; cases d <;> simp [iT] at h <;> cases d' <;> simp [iT] at h' <;> simp [same]
  | succ n ih =>
    have all : ∀ ys zs : List PyData, ys.all (iT n) = true → zs.all (iT n) = true → (sameAll ys zs = true ↔ ys = zs) := by
      intro ys
      induction ys with
      | nil => intro zs _ _; cases zs <;> simp [sameAll]
      | cons y r ihr =>
        intro zs hy hz
        cases zs with
        | nil => simp [sameAll]
        | cons z t =>
          rw [List.all_cons, Bool.and_eq_true] at hy hz
          simp only [sameAll, Bool.and_eq_true, List.cons.injEq]
          rw [ih y z hy.1 hz.1, ihr t hy.2 hz.2]
    intro d d' h h'
    cases d <;> simp only [iT, Bool.false_eq_true] at h <;> cases d' <;> simp only [iT, Bool.false_eq_true] at h' <;> simp only [same, beq_iff_eq, PyData.int.injEq, PyData.list.injEq, PyData.tuple.injEq, reduceCtorEq, Bool.false_eq_true]
    · exact all _ _ h h'
    · exact all _ _ h h'
theorem iT_shaped {n : Nat} {d : PyData} (hn : n ≤ 64) (h : iT n d = true) : SeqAt.shaped d = true := by
  have := iT_lay n d h
  unfold SeqAt.shaped
  rw [Bool.and_eq_true]
  exact ⟨this.1, decide_eq_true (by omega)⟩
section
variable {K : PySem.W.Frag} {H : Hp} {x y : V} {d d' : PyData} {Q : VK}
/-- x == y -/
theorem eqD_of (n : Nat) (hn : n ≤ 64) (h1 : Dt K H x d) (h2 : Dt K H y d') (t1 : iT n d = true) (t2 : iT n d' = true) {b : Bool} (hb : b = true ↔ d = d') (q : Q (.bl b) H) : rEqD K x y H Q := by
  refine ⟨d, d', h1, h2, iT_shaped hn t1, iT_shaped hn t2, iT_mix n d d' t1 t2, ?_⟩
  have := iT_same n d d' t1 t2
  have e : same d d' = b := by
    cases hs : same d d' <;> cases b <;> simp_all
  rw [e]
  exact q
end
/-- rows as data -/
noncomputable def seqD (b : Bool) (ds : List PyData) : PyData := match b with | false => .list ds | true => .tuple ds
theorem Dt.seqB {b : Bool} {K : PySem.W.Frag} {H : Hp} {a : Addr} {xs : List V} {ds : List PyData} (h : SqB b K H a xs) (hd : Dts K H xs ds) : Dt K H (.ref a) (seqD b ds) := by
  cases b
  · exact .lst h hd
  · exact .tup h hd
end L2

/-! SMALL WORDS, II; rows of whole numbers. -/
namespace L2
open PySem PySem.Spec PyProof.Rows
section
variable {wi : TI} {g : TG} {tt : TOx} {te : TE} {tc : TT} {n : Nat} {fr : List (Str × Nat)} {σ : St} {H : Hp} {Q : VK}
theorem compE_st (h : ∀ B : TE, B = te → wi σ H fun J H1 => ∀ a, H1 a = none → CompWG J g (tEl B) n fr σ a H1 Q) : tCompG wi g (tEl te) n fr σ H Q := h _ rfl
end
noncomputable def seqO (b : Bool) (xs : List V) : HO := match b with | false => .lst xs | true => .tup xs
/-- a new list of new lists of ints -/
noncomputable def MatL (H : Hp) (a : Addr) (rows : List (List Int)) : Prop := ∃ ps : List Addr, H a = some (.lst (ps.map V.ref)) ∧ ps.length = rows.length ∧ ∀ (i : Nat) (p : Addr) (r : List Int), ps[i]? = some p → rows[i]? = some r → p ≠ a ∧ H p = some (.lst (r.map V.int))
theorem MatL.b {K : PySem.W.Frag} {H : Hp} {a : Addr} {rows : List (List Int)} (h : MatL H a rows) : MatB false false K H a rows := let ⟨ps, h1, h2, h3⟩ := h; ⟨ps, SqB.lst h1, h2, fun i p r e1 e2 => SqB.lst (h3 i p r e1 e2).2⟩
theorem MatL.up {H H' : Hp} {a : Addr} {rows : List (List Int)} (h : MatL H a rows) (s : Same H H') : MatL H' a rows := let ⟨ps, h1, h2, h3⟩ := h; ⟨ps, s _ _ h1, h2, fun i p r e1 e2 => ⟨(h3 i p r e1 e2).1, s _ _ (h3 i p r e1 e2).2⟩⟩
theorem MatL.of {H : Hp} {a : Addr} {f : Nat → List Int} {ys : List V} (h : H a = some (.lst ys)) (hr : ∀ (j : Nat) y, ys[j]? = some y → RowR a f j y H) : MatL H a ((List.range ys.length).map f) := by
  have hp : ∃ ps : List Addr, ys = ps.map V.ref := by
    clear h
    have : ∀ (zs : List V) (k : Nat), (∀ (j : Nat) y, zs[j]? = some y → RowR a f (j + k) y H) → ∃ ps : List Addr, zs = ps.map V.ref := by
      intro zs
      induction zs with
      | nil => intro k _; exact ⟨[], rfl⟩
      | cons z r ih =>
        intro k hz
        obtain ⟨p, e, _⟩ := hz 0 z rfl
        obtain ⟨ps, e2⟩ := ih (k + 1) fun j y q => by
          have := hz (j + 1) y (by simpa using q)
          rwa [Nat.add_assoc, Nat.add_comm 1 k] at this
        exact ⟨p :: ps, by rw [e, e2]; rfl⟩
    exact this ys 0 hr
  obtain ⟨ps, rfl⟩ := hp
  refine ⟨ps, h, by simp, fun i p r e1 e2 => ?_⟩
  obtain ⟨p', e, n, q⟩ := hr i (.ref p) (by simp [e1])
  cases e
  have hi : i < ps.length := (List.getElem?_eq_some_iff.mp e1).1
  have : r = f i := by
    rw [List.getElem?_map, List.length_map, List.getElem?_range hi] at e2
    exact (Option.some.inj e2).symm
  rw [this]
  exact ⟨n, q⟩
theorem MatL.app {H : Hp} {l p : Addr} {M : List (List Int)} {r : List Int} (h : MatL H l M) (hp : H p = some (.lst (r.map V.int))) (ne : p ≠ l) : ∃ xs, H l = some (.lst xs) ∧ xs.length = M.length ∧ MatL (upd H l (.lst (xs ++ [.ref p]))) l (M ++ [r]) := by
  obtain ⟨ps, h1, h2, h3⟩ := h
  refine ⟨_, h1, by simp [h2], ps ++ [p], by rw [upd_same]; simp, by simp [h2], fun i q z e1 e2 => ?_⟩
  by_cases hi : i < ps.length
  · rw [List.getElem?_append_left hi] at e1
    rw [List.getElem?_append_left (by omega)] at e2
    obtain ⟨n, w⟩ := h3 i q z e1 e2
    exact ⟨n, by rw [upd_ne n]; exact w⟩
  · have e0 : i = ps.length := by
      have := (List.getElem?_eq_some_iff.mp e1).1
      simp at this
      omega
    subst e0
    rw [List.getElem?_append_right (Nat.le_refl _)] at e1
    rw [h2, List.getElem?_append_right (Nat.le_refl _)] at e2
    simp at e1 e2
    subst e1 e2
    exact ⟨ne, by rw [upd_ne ne]; exact hp⟩
theorem MatB.row {b1 b2 : Bool} {K : PySem.W.Frag} {H : Hp} {a : Addr} {rows : List (List Int)} (h : MatB b1 b2 K H a rows) {i : Nat} {r : List Int} (e : rows[i]? = some r) : ∃ ps : List Addr, ∃ p, SqB b1 K H a (ps.map V.ref) ∧ (ps.map V.ref)[i]? = some (.ref p) ∧ (ps.map V.ref).length = rows.length ∧ SqB b2 K H p (r.map V.int) := by
  obtain ⟨ps, h1, h2, h3⟩ := h
  have hi : i < ps.length := by have := (List.getElem?_eq_some_iff.mp e).1; omega
  exact ⟨ps, ps[i], h1, by simp [hi], by simp [h2], h3 i _ r (by simp [hi]) e⟩
/-- .. walked -/
theorem MatB.walk {b1 b2 : Bool} {K : PySem.W.Frag} {H : Hp} {a : Addr} {rows : List (List Int)} (h : MatB b1 b2 K H a rows) : ∃ xs : List V, SqB b1 K H a xs ∧ xs.length = rows.length ∧ ∀ (i : Nat) x, xs[i]? = some x → ∃ p r, x = .ref p ∧ rows[i]? = some r ∧ SqB b2 K H p (r.map V.int) := by
  obtain ⟨ps, h1, h2, h3⟩ := h
  refine ⟨_, h1, by simp [h2], fun i x e => ?_⟩
  rw [List.getElem?_map] at e
  cases q : ps[i]? with
  | none => rw [q] at e; cases e
  | some p =>
    rw [q] at e
    have hi : i < rows.length := by have := (List.getElem?_eq_some_iff.mp q).1; omega
    exact ⟨p, rows[i], (Option.some.inj e).symm, by simp [hi], h3 i p _ q (by simp [hi])⟩
theorem atI_at {α : Type} {xs : List α} {k : Nat} {x : α} {i : Int} (h : xs[k]? = some x) (hi : i = k) : atI xs i = some x := by
  subst hi
  exact atI_nat h
theorem ints_at {ns : List Int} {i : Nat} {x : V} (h : (ns.map V.int)[i]? = some x) : ∃ n, ns[i]? = some n ∧ x = .int n := by
  rw [List.getElem?_map] at h
  cases e : ns[i]? with
  | none => rw [e] at h; cases h
  | some n => rw [e] at h; exact ⟨n, rfl, (Option.some.inj h).symm⟩
theorem int_at {ns : List Int} {i : Nat} {n : Int} (h : ns[i]? = some n) : (ns.map V.int)[i]? = some (.int n) := by rw [List.getElem?_map, h]; rfl
theorem getD_at {ns : List Int} {k : Nat} (h : k < ns.length) : ns[k]? = some (ns.getD k 0) := by simp [h]
theorem getD_mem {ns : List Int} {k : Nat} (h : k < ns.length) : ns.getD k 0 ∈ ns := by
  rw [show ns.getD k 0 = ns[k] by simp [h]]
  exact List.getElem_mem h
/-! ### what is reckoned -/
noncomputable def colI (k : Nat) (rows : List (List Int)) : List Int := rows.map fun r => r.getD k 0
noncomputable def dotI (ms ns : List Int) : Int := (List.zipWith (· * ·) ms ns).sum
noncomputable def turnM (w : Nat) (rows : List (List Int)) : List (List Int) := (List.range w).map fun k => colI k rows
noncomputable def mulM (w : Nat) (A B : List (List Int)) : List (List Int) := A.map fun r => (List.range w).map fun k => dotI r (colI k B)
theorem mulM_at {w : Nat} {A B : List (List Int)} {i : Nat} {r : List Int} (h : A[i]? = some r) : (mulM w A B)[i]? = some ((List.range w).map fun k => dotI r (colI k B)) := by
  unfold mulM
  rw [List.getElem?_map, h]
  rfl
end L2
namespace L2
open PySem PySem.Spec PyProof.Rows
section
variable {K : PySem.W.Frag} {g : TG} {tb : TS} {σ : St} {H : Hp} {nx : St → Hp → Prop} {rt : VK}
/-- the loops, with the ways out one by one -/
noncomputable abbrev LoopW (J : It) (g : TG) (tb : TS) (nx : St → Hp → Prop) (rt : VK) (σ : St) (H : Hp) : Prop := ∃ W : Nat → Nat → St → Hp → Prop, (∃ m, W 0 m σ H) ∧ ∀ i m σ H, W i m σ H →
  (J.stop i H ∧ nx σ H) ∨ (J.go i H ∧ ∃ N : St → Hp → Prop, (∀ σ' H', N σ' H' → ∃ m', m' < m ∧ W (i + 1) m' σ' H') ∧ ∀ x H', J.yld i H x H' → g x σ H' fun σ2 H2 => tb { nx := N, rt := rt, bk := nx, ct := N } σ2 H2)
theorem fr_range {lo : Int} {n : Nat} (Pv : Nat → St → Hp → Prop) (h0 : Pv 0 σ H)
    (hs : ∀ i σ H, i < n → Pv i σ H → g (.int (lo + i)) σ H fun σ2 H2 => tb { nx := Pv (i + 1), rt := rt, bk := nx, ct := Pv (i + 1) } σ2 H2) (hd : ∀ σ H, Pv n σ H → nx σ H) : LoopW (Itr lo n) g tb nx rt σ H :=
  for_range (D := { nx := nx, rt := rt, bk := nx, ct := nx }) Pv h0 hs hd
theorem fr_seq {b : Bool} {a : Addr} {xs : List V} (Pv : Nat → St → Hp → Prop) (h0 : Pv 0 σ H) (hl : ∀ i σ H, i ≤ xs.length → Pv i σ H → SqB b K H a xs)
    (hs : ∀ i x σ H, xs[i]? = some x → Pv i σ H → g x σ H fun σ2 H2 => tb { nx := Pv (i + 1), rt := rt, bk := nx, ct := Pv (i + 1) } σ2 H2) (hd : ∀ σ H, Pv xs.length σ H → nx σ H) : LoopW (Its K b a) g tb nx rt σ H :=
  for_seq (D := { nx := nx, rt := rt, bk := nx, ct := nx }) Pv h0 hl hs hd
end
/-- a[i][k] of rows -/
theorem mat_ix {b1 b2 : Bool} {K : PySem.W.Frag} {H : Hp} {a : Addr} {rows : List (List Int)} {i k : Nat} {r : List Int} {x : Int} {I J : Int} {Q : VK} (h : MatB b1 b2 K H a rows) (e : rows[i]? = some r) (e2 : r[k]? = some x) (hi : I = i) (hk : J = k) (q : Q (.int x) H) :
    rIxB K (.ref a) (.int I) H fun v H1 => rIxB K v (.int J) H1 Q := by
  obtain ⟨ps, p, k1, k2, k3, k4⟩ := h.row e
  exact ⟨b1, a, _, _, _, rfl, rfl, k1, atI_at k2 hi, b2, p, _, _, _, rfl, rfl, k4, atI_at (int_at e2) hk, q⟩
/-- a[i] of rows -/
theorem mat_row {b1 b2 : Bool} {K : PySem.W.Frag} {H : Hp} {a : Addr} {rows : List (List Int)} {i : Nat} {r : List Int} {I : Int} {Q : VK} (h : MatB b1 b2 K H a rows) (e : rows[i]? = some r) (hi : I = i) (q : ∀ p, SqB b2 K H p (r.map V.int) → Q (.ref p) H) :
    rIxB K (.ref a) (.int I) H Q := by
  obtain ⟨ps, p, k1, k2, k3, k4⟩ := h.row e
  exact ⟨b1, a, _, _, _, rfl, rfl, k1, atI_at k2 hi, q p k4⟩
/-- len(a) of rows -/
theorem mat_len {b1 b2 : Bool} {K : PySem.W.Frag} {H : Hp} {a : Addr} {rows : List (List Int)} {Q : VK} (h : MatB b1 b2 K H a rows) (q : Q (.int rows.length) H) : rLenB K [.ref a] H Q := by
  obtain ⟨ps, h1, h2, h3⟩ := h
  refine ⟨b1, a, _, rfl, h1, ?_⟩
  rw [List.length_map, h2]
  exact q
/-- len(p) of ints -/
theorem ints_len {b : Bool} {K : PySem.W.Frag} {H : Hp} {a : Addr} {ns : List Int} {Q : VK} (h : SqB b K H a (ns.map V.int)) (q : Q (.int ns.length) H) : rLenB K [.ref a] H Q := by
  refine ⟨b, a, _, rfl, h, ?_⟩
  rw [List.length_map]
  exact q
end L2

/-! RANGES WITH A STEP; names op= ..; lists of new rows, by turns. -/
namespace L2
open PySem PySem.Spec PyProof.Rows
/-- lo, lo + st, .. (n of them) -/
noncomputable def Itq (lo st : Int) (n : Nat) : It := ⟨fun i _ => i < n, fun i H x H' => H' = H ∧ x = .int (lo + i * st), fun i _ => n ≤ i⟩
theorem turn_rangeS {P : Program} {w : World} {K : PySem.W.Frag} {tg : Expr} (it : Addr) (lo st : Int) (n : Nat) : Turn P w K tg (Itq lo st n) [it] it (fun i h => IsRangeIter h it (lo + (i : Nat) * st) ((n : Int) - (i : Nat)) st) where
  mem := by simp
  obj := fun i h st b hb => by
    have e : b = it := by simpa using hb
    subst e
    exact ⟨_, st, fun v z => by
      have z' : Data.fields _ = Data.cell v := z
      cases z'⟩
  keep := fun i h h' st k => k it (by simp) _ st
  item := by
    intro X hP hw hK hc i pins s σ H E I hf hst hg
    subst hP hw hK
    obtain ⟨f0, f1, f2, f3, f4, f5⟩ := hf it (by simp)
    have W := Walks.range (prog := X.prog) (w := X.w) (I.ok.hd hc) it lo st n
    refine W.item i s _ _ hg hst fun v h' tk hv st' kk => ?_
    obtain ⟨t, rfl⟩ := hv
    have I1 : Inv X pins σ H { s with heap := h', toks := tk } := I.turned (fun b o hb e => kk b o (by simpa using hb) e) f0 f1 f3 f4 f5
    exact ⟨_, rfl, go_of (s := { s with heap := h', toks := tk }) (n := "range_iterator") st' rfl rfl (by decide) ⟨.int (lo + i * st), H, I1, ⟨t, rfl⟩, ⟨rfl, rfl⟩, st', fun b hb => (hf b hb).1⟩⟩
  done := by
    intro X hP hw hK hc i pins s σ H E I hf st hg
    subst hP hw hK
    obtain ⟨f0, f1, f2, f3, f4, f5⟩ := hf it (by simp)
    exact wpAny_pyNext_range_end (I.ok.hd hc) st (by have : n ≤ i := hg; omega) fun h' eb => ⟨rfl, I.turned (t' := s.toks) (fun b o hb e => eb b o hb e) f0 f1 f3 f4 f5⟩
  self := fun _ _ _ _ _ st h => wpAny_pyIter_rangeiter st h
theorem small_step {a b c : Int} (ha : 0 ≤ a) (ha' : a < 2 ^ 40) (hb0 : 0 ≤ b) (hb : b < 2 ^ 40) (hc : 0 < c) (hc' : c < 2 ^ 40) : Builtin.Range.small a b c = true := by
  unfold Builtin.Range.small Builtin.Range.rangeSize
  have q : a < b → (b - a - 1) / c + 1 ≤ 2 ^ 40 := fun h => by
    have := Int.ediv_le_self c (show 0 ≤ b - a - 1 by omega)
    omega
  have q0 : a < b → 0 ≤ (b - a - 1) / c := fun h => Int.ediv_nonneg (by omega) (by omega)
  simp only [Builtin.Range.rangeFitsLong, if_pos (show c > 0 from hc)]
  by_cases h : a < b
  · have q1 := q h
    have q2 := q0 h
    rw [if_pos h]
    generalize (b - a - 1) / c = z at q1 q2
    simp only [Bool.and_eq_true, Bool.or_eq_true, decide_eq_true_eq, beq_iff_eq]
    omega
  · rw [if_neg h]
    simp only [Bool.and_eq_true, Bool.or_eq_true, decide_eq_true_eq, beq_iff_eq]
    omega
section
variable {X : Cx} {tg : Expr}
noncomputable def iRng3 (ta : TA) : TI := fun σ H R => ta σ H fun vs H1 => ∃ i j c : Int, vs = [.int i, .int j, .int c] ∧ (0 ≤ i ∧ i < 2 ^ 40 ∧ 0 ≤ j ∧ j < 2 ^ 40 ∧ 0 < c ∧ c < 2 ^ 40) ∧ R (Itq i c (Builtin.Range.rangeSize i j c).toNat) H1
theorem pi_range3 {a b c : Expr} {ta : TA} {p pos : Pos} (hg : Gl X "range") (hm : X.mg "range" = none) (ha : PA X [a, b, c] ta) (hs : starEach [a, b, c] X.env = [(false, eval a X.env), (false, eval b X.env), (false, eval c X.env)] := by rfl)
    (hs2 : starEach [b, c] X.env = [(false, eval b X.env), (false, eval c X.env)] := by rfl) : PI X tg (.Call (.Name "range" p) [a, b, c] [] pos) (iRng3 ta) := by
  intro pins s σ H R I h
  refine Call_ (ld_blt I hg hm boot_range (PyProof.Rows.callWith_type1 (thn (ha pos pins s σ H _ I h) fun us s1 ⟨vs, H1, I1, r1, q1⟩ => ?_) (by rw [hs, hs2]) (by rw [hs2]; rfl)))
  obtain ⟨i, j, k, e, ⟨q1, q2, q3, q4, q5, q6⟩, q⟩ := q1
  subst e
  cases r1 with
  | cons r rr =>
    cases rr with
    | cons r' rr =>
      cases rr with
      | cons r'' rr =>
        cases rr
        obtain ⟨t, rfl⟩ := r
        obtain ⟨t', rfl⟩ := r'
        obtain ⟨t'', rfl⟩ := r''
        refine call_range_3 (by omega) ?_ (.inl (PyProof.noPylong_of_log2 (Nat.lt_of_lt_of_le ((Nat.log2_lt (by omega)).mpr (show k.natAbs < 2 ^ 40 by omega)) (by decide))))
        refine wpAny_pyIter_range (IsRange.new ..) (small_step q1 q2 q3 q4 q5 q6) ?_
        have I2 : Inv X pins σ H1 { s1 with heap := s1.heap.push { cls := .type "range", data := .fields #[.int i t, .int j t', .int k t''] }, toks := s1.toks } := I1.kept fun b o e => Heap.get?_push_of_some _ e
        refine ⟨(s1.heap.push { cls := .type "range", data := .fields #[.int i t, .int j t', .int k t''] }).objs.size, [(s1.heap.push { cls := .type "range", data := .fields #[.int i t, .int j t', .int k t''] }).objs.size], _, _, H1, rfl,
          I2.kept (t' := s1.toks) fun b o e => Heap.get?_push_of_some _ e, turn_rangeS _ i k (Builtin.Range.rangeSize i j k).toNat, ?_, fun b hb => ?_, q⟩
        · have nn : 0 ≤ Builtin.Range.rangeSize i j k := by
            unfold Builtin.Range.rangeSize
            rw [if_pos (show k > 0 from q5)]
            split
            · have := Int.ediv_nonneg (show 0 ≤ j - i - 1 by omega) (show 0 ≤ k by omega)
              omega
            · omega
          have e1 : i + ((0 : Nat) : Int) * k = i := by simp
          have e2 : (((Builtin.Range.rangeSize i j k).toNat : Nat) : Int) - ((0 : Nat) : Int) = Builtin.Range.rangeSize i j k := by omega
          show IsRangeIter _ _ (i + ((0 : Nat) : Int) * k) ((((Builtin.Range.rangeSize i j k).toNat : Nat) : Int) - ((0 : Nat) : Int)) k
          rw [e1, e2]
          exact Heap.get?_push_size _ rfl
        · have e : b = (s1.heap.push { cls := .type "range", data := .fields #[.int i t, .int j t', .int k t''] }).objs.size := by simpa using hb
          subst e
          exact I2.fpOk (Nat.le_refl _) (I2.hok.fresh (Nat.le_refl _))
end
section
variable {g : TG} {tb : TS} {σ : St} {H : Hp} {nx : St → Hp → Prop} {rt : VK}
theorem fr_step {lo st : Int} {n : Nat} (Pv : Nat → St → Hp → Prop) (h0 : Pv 0 σ H)
    (hs : ∀ i σ H, i < n → Pv i σ H → g (.int (lo + i * st)) σ H fun σ2 H2 => tb { nx := Pv (i + 1), rt := rt, bk := nx, ct := Pv (i + 1) } σ2 H2) (hd : ∀ σ H, Pv n σ H → nx σ H) : LoopW (Itq lo st n) g tb nx rt σ H := by
  refine ⟨fun i m σ H => m = n - i ∧ i ≤ n ∧ Pv i σ H, ⟨n, by simp, Nat.zero_le _, h0⟩, ?_⟩
  rintro i m σ H ⟨rfl, hi, p⟩
  by_cases hlt : i < n
  · refine .inr ⟨hlt, Pv (i + 1), fun σ' H' p' => ⟨n - (i + 1), by omega, rfl, hlt, p'⟩, fun x H' y => ?_⟩
    obtain ⟨e, y⟩ := y
    subst e y
    exact hs i σ _ hlt p
  · have e : i = n := by omega
    subst e
    exact .inl ⟨Nat.le_refl _, hd σ H p⟩
end
/-- zs are new lists of ints -/
noncomputable def RefRows (a : Addr) (H : Hp) (zs : List V) (M : List (List Int)) : Prop := ∃ ps : List Addr, zs = ps.map V.ref ∧ ps.length = M.length ∧ ∀ (j : Nat) (p : Addr) (r : List Int), ps[j]? = some p → M[j]? = some r → p ≠ a ∧ H p = some (.lst (r.map V.int))
theorem RefRows.nil {a : Addr} {H : Hp} : RefRows a H [] [] := ⟨[], rfl, rfl, fun j p r e => by simp at e⟩
theorem RefRows.len {a : Addr} {H : Hp} {zs : List V} {M : List (List Int)} (h : RefRows a H zs M) : zs.length = M.length := let ⟨ps, e, l, _⟩ := h; by rw [e, List.length_map, l]
theorem RefRows.mono {a : Addr} {H H' : Hp} {zs : List V} {M : List (List Int)} (h : RefRows a H zs M) (s : SameX a H H') : RefRows a H' zs M := let ⟨ps, e, l, q⟩ := h; ⟨ps, e, l, fun j p r e1 e2 => ⟨(q j p r e1 e2).1, s _ _ (q j p r e1 e2).1 (q j p r e1 e2).2⟩⟩
theorem RefRows.mat {a : Addr} {H : Hp} {zs : List V} {M : List (List Int)} (h : H a = some (.lst zs)) (r : RefRows a H zs M) : MatL H a M := by
  obtain ⟨ps, rfl, h2, h3⟩ := r
  exact ⟨ps, h, h2, h3⟩
theorem MatL.refs {a : Addr} {H : Hp} {M : List (List Int)} (h : MatL H a M) : ∃ zs, H a = some (.lst zs) ∧ RefRows a H zs M := let ⟨ps, h1, h2, h3⟩ := h; ⟨_, h1, ps, rfl, h2, h3⟩
end L2

/-! COPIES OF ROWS. -/
namespace L2
open PySem PySem.Spec PyProof.Rows
section
variable {K : PySem.W.Frag} {H : Hp} {a a1 : Addr} {M : List (List Int)} {σ : St} {Q : VK} {b1 b2 : Bool}
/-- a new list of new tuples of ints -/
noncomputable def MatT (H : Hp) (a : Addr) (rows : List (List Int)) : Prop := ∃ ps : List Addr, H a = some (.lst (ps.map V.ref)) ∧ ps.length = rows.length ∧ ∀ (i : Nat) (p : Addr) (r : List Int), ps[i]? = some p → rows[i]? = some r → H p = some (.tup (r.map V.int))
/-- [tuple(row) for row in rows], of lists -/
theorem copy_tup (hM : MatB b1 false K H a M) (hl : M.length ≤ 1000) (ha1 : H a1 = none) (hQ : ∀ H1, Same H H1 → MatT H1 a1 M → Q (.ref a1) H1) : CompWG (Its K b1 a) (gName 0) (tEl (tCB (rTupB K) (tCons (tVar 0) tNil))) 1 [] σ a1 H Q := by
  obtain ⟨xs, x1, x2, x3⟩ := hM.walk
  refine cg_seq (fun j y H1 => ∃ p r, y = .ref p ∧ M[j]? = some r ∧ p ≠ a1 ∧ H1 p = some (.tup (r.map V.int))) ha1 x1 (by omega) (fun i y H1 H2 ⟨p, r, e1, e2, e3, e4⟩ s => ⟨p, r, e1, e2, e3, s _ _ e3 e4⟩) ?_ ?_
  · intro i x H1 zs ex s1 ez Q' hQ'
    obtain ⟨p, r, rfl, er, hp⟩ := x3 i x ex
    exact ⟨_, rfl, p, _, rfl, .inl ⟨hp.up s1, fun l hl1 => hQ' _ _ (Same.new hl1) ⟨l, r, rfl, er, Ne.symm (ne_of_none ez hl1), upd_same⟩⟩⟩
  · intro H1 ys s1 e1 hly hr1
    have hps : ∃ ps : List Addr, ys = ps.map V.ref := by
      clear e1 hly
      have : ∀ (zs : List V), (∀ (j : Nat) y, zs[j]? = some y → ∃ p : Addr, y = .ref p) → ∃ ps : List Addr, zs = ps.map V.ref := by
        intro zs
        induction zs with
        | nil => intro _; exact ⟨[], rfl⟩
        | cons z r ih =>
          intro hz
          obtain ⟨p, e⟩ := hz 0 z rfl
          obtain ⟨ps, e2⟩ := ih fun j y q => hz (j + 1) y (by simpa using q)
          exact ⟨p :: ps, by rw [e, e2]; rfl⟩
      exact this ys fun j y e => let ⟨p, r, e1, _⟩ := hr1 j y e; ⟨p, e1⟩
    obtain ⟨ps, rfl⟩ := hps
    refine hQ H1 s1 ⟨ps, e1, by simp at hly; omega, fun i p r e2 e3 => ?_⟩
    obtain ⟨p', r', e4, e5, _, e6⟩ := hr1 i (.ref p) (by simp [e2])
    cases e4
    rw [e3] at e5
    cases e5
    exact e6
/-- tuple(..) of it -/
theorem MatT.tuple {l : Addr} (h : MatT H a M) (hl : H l = none) : ∃ zs, H a = some (.lst zs) ∧ MatB true true K (upd H l (.tup zs)) l M := by
  obtain ⟨ps, h1, h2, h3⟩ := h
  exact ⟨_, h1, ps, SqB.tup upd_same, h2, fun i p r e1 e2 => SqB.tup (Same.new hl _ _ (h3 i p r e1 e2))⟩
end
end L2

/-! NAMES OF THE MODULE that stand for an int or a text. -/
namespace L2
open PySem PySem.Spec PyProof.Rows
end L2
/-! LITERALS: lists of ints, rows, lists of rows, as they are written. -/
namespace L2
open PySem PySem.Spec PyProof.Rows
noncomputable def MkI (te : TE) (n : Int) : Prop := ∀ σ H Q, Q (.int n) H → te σ H Q
theorem MkI.pos (n : Int) : MkI (tC (.int n)) n := fun _ _ _ q => q
noncomputable def MkIs (ta : TA) (ns : List Int) : Prop := ∀ σ H Q, Q (ns.map V.int) H → ta σ H Q
theorem MkIs.nil : MkIs tNil [] := fun _ _ _ q => q
theorem MkIs.cons {te : TE} {ta : TA} {n : Int} {ns : List Int} (h : MkI te n) (h2 : MkIs ta ns) : MkIs (tCons te ta) (n :: ns) := fun σ H Q q => h σ H _ (h2 σ H _ q)
noncomputable def MkR (te : TE) (ns : List Int) : Prop := ∀ σ H Q, (∀ p H', Same H H' → H p = none → H' p = some (.lst (ns.map V.int)) → Q (.ref p) H') → te σ H Q
theorem MkR.of {ta : TA} {ns : List Int} (h : MkIs ta ns) (hz : ns.length ≤ 1000) : MkR (tLst ta) ns := fun σ H Q q => h σ H _ ⟨by rw [List.length_map]; exact Nat.le_of_lt (small1000 hz), fun l hl => q l _ (Same.new hl) hl upd_same⟩
/-- rows one after another, all new -/
noncomputable def MkRs (ta : TA) (M : List (List Int)) : Prop := ∀ σ H Q, (∀ ps H', Same H H' → RefRowsN H H' ps M → Q (ps.map V.ref) H') → ta σ H Q
where RefRowsN (H H' : Hp) (ps : List Addr) (M : List (List Int)) : Prop := ps.length = M.length ∧ ∀ (j : Nat) (p : Addr) (r : List Int), ps[j]? = some p → M[j]? = some r → H' p = some (.lst (r.map V.int))
theorem MkRs.nil : MkRs tNil [] := fun _ H Q q => q [] H (Same.refl _) ⟨rfl, fun j p r e => by simp at e⟩
theorem MkRs.cons {te : TE} {ta : TA} {ns : List Int} {M : List (List Int)} (h : MkR te ns) (h2 : MkRs ta M) : MkRs (tCons te ta) (ns :: M) := fun σ H Q q => h σ H _ fun p H1 s1 hp e1 => h2 σ H1 _ fun ps H2 s2 r => q (p :: ps) H2 (s1.trans s2) ⟨by simp [r.1], fun j p' r' e e' => by
  cases j with
  | zero => simp at e e'; subst e e'; exact s2 _ _ e1
  | succ j => exact r.2 j p' r' (by simpa using e) (by simpa using e')⟩
noncomputable def MkM (te : TE) (M : List (List Int)) : Prop := ∀ σ H Q, (∀ p H', Same H H' → H p = none → MatL H' p M → Q (.ref p) H') → te σ H Q
theorem MkM.of {ta : TA} {M : List (List Int)} (h : MkRs ta M) (hz : M.length ≤ 1000) : MkM (tLst ta) M := fun σ H Q q => h σ H _ fun ps H1 s1 r => ⟨by rw [List.length_map, r.1]; exact Nat.le_of_lt (small1000 hz), fun l hl => by
  have hn : H l = none := by cases e : H l with | none => rfl | some o => rw [s1 _ _ e] at hl; cases hl
  exact q l _ (s1.trans (Same.new hl)) hn ⟨ps, upd_same, r.1, fun i p z e1 e2 => ⟨ne_of_none (r.2 i p z e1 e2) hl, Same.new hl _ _ (r.2 i p z e1 e2)⟩⟩⟩
/-- a list of rows' lists -/
noncomputable def Mats (H : Hp) (p : Addr) (Ms : List (List (List Int))) : Prop := ∃ ps : List Addr, H p = some (.lst (ps.map V.ref)) ∧ ps.length = Ms.length ∧ ∀ (i : Nat) (q : Addr) (M : List (List Int)), ps[i]? = some q → Ms[i]? = some M → MatL H q M
theorem Mats.up {H H' : Hp} {p : Addr} {Ms : List (List (List Int))} (h : Mats H p Ms) (s : Same H H') : Mats H' p Ms := let ⟨ps, h1, h2, h3⟩ := h; ⟨ps, s _ _ h1, h2, fun i q M e1 e2 => (h3 i q M e1 e2).up s⟩
noncomputable def MkMs (ta : TA) (Ms : List (List (List Int))) : Prop := ∀ σ H Q, (∀ (ps : List Addr) H', Same H H' → ps.length = Ms.length → (∀ (i : Nat) (q : Addr) (M : List (List Int)), ps[i]? = some q → Ms[i]? = some M → MatL H' q M) → Q (ps.map V.ref) H') → ta σ H Q
theorem MkMs.nil : MkMs tNil [] := fun _ H Q q => q [] H (Same.refl _) rfl fun j p r e => by simp at e
theorem MkMs.cons {te : TE} {ta : TA} {M : List (List Int)} {Ms : List (List (List Int))} (h : MkM te M) (h2 : MkMs ta Ms) : MkMs (tCons te ta) (M :: Ms) := fun σ H Q q => h σ H _ fun p H1 s1 _ e1 => h2 σ H1 _ fun ps H2 s2 l r => q (p :: ps) H2 (s1.trans s2) (by simp [l]) fun j p' r' e e' => by
  cases j with
  | zero => simp at e e'; subst e e'; exact e1.up s2
  | succ j => exact r j p' r' (by simpa using e) (by simpa using e')
theorem MkMs.lst {ta : TA} {Ms : List (List (List Int))} (h : MkMs ta Ms) (hz : Ms.length ≤ 1000) {σ : St} {H : Hp} {Q : VK} (q : ∀ p H', Same H H' → Mats H' p Ms → Q (.ref p) H') : tLst ta σ H Q := h σ H _ fun ps H1 s1 l r => ⟨by rw [List.length_map, l]; exact Nat.le_of_lt (small1000 hz), fun a ha =>
  q a _ (s1.trans (Same.new ha)) ⟨ps, upd_same, l, fun i q M e1 e2 => (r i q M e1 e2).up (Same.new ha)⟩⟩
theorem Mats.at {K : PySem.W.Frag} {H : Hp} {p : Addr} {Ms : List (List (List Int))} {i : Nat} {M : List (List Int)} {I : Int} {Q : VK} (h : Mats H p Ms) (e : Ms[i]? = some M) (hi : I = i) (k : ∀ q, MatL H q M → Q (.ref q) H) : rIxB K (.ref p) (.int I) H Q := by
  obtain ⟨ps, h1, h2, h3⟩ := h
  have hlt : i < ps.length := by have := (List.getElem?_eq_some_iff.mp e).1; omega
  exact ⟨false, p, _, _, _, rfl, rfl, SqB.lst h1, atI_at (show (ps.map V.ref)[i]? = some (.ref ps[i]) by simp [hlt]) hi, k _ (h3 i _ M (by simp [hlt]) e)⟩
/-! ### rows that are changed in place: all of them apart -/
noncomputable def MatD (H0 H : Hp) (a : Addr) (rows : List (List Int)) : Prop := ∃ ps : List Addr, H a = some (.lst (ps.map V.ref)) ∧ ps.length = rows.length ∧ ps.Nodup ∧ ∀ (i : Nat) (p : Addr) (r : List Int), ps[i]? = some p → rows[i]? = some r → p ≠ a ∧ H0 p = none ∧ H p = some (.lst (r.map V.int))
theorem MatD.l {H0 H : Hp} {a : Addr} {rows : List (List Int)} (h : MatD H0 H a rows) : MatL H a rows := let ⟨ps, h1, h2, _, h3⟩ := h; ⟨ps, h1, h2, fun i p r e1 e2 => ⟨(h3 i p r e1 e2).1, (h3 i p r e1 e2).2.2⟩⟩
theorem MatD.up {H0 H H' : Hp} {a : Addr} {rows : List (List Int)} (h : MatD H0 H a rows) (s : Same H H') : MatD H0 H' a rows := let ⟨ps, h1, h2, n, h3⟩ := h; ⟨ps, s _ _ h1, h2, n, fun i p r e1 e2 => ⟨(h3 i p r e1 e2).1, (h3 i p r e1 e2).2.1, s _ _ (h3 i p r e1 e2).2.2⟩⟩
/-- a row's list and its change -/
theorem MatD.row {H0 H : Hp} {a : Addr} {rows : List (List Int)} {i : Nat} {r : List Int} (h : MatD H0 H a rows) (e : rows[i]? = some r) : ∃ zs p, H a = some (.lst zs) ∧ zs[i]? = some (.ref p) ∧ zs.length = rows.length ∧ p ≠ a ∧ H0 p = none ∧ H p = some (.lst (r.map V.int)) ∧ ∀ r', MatD H0 (upd H p (.lst (r'.map V.int))) a (rows.set i r') := by
  obtain ⟨ps, h1, h2, hn, h3⟩ := h
  have hi : i < ps.length := by have := (List.getElem?_eq_some_iff.mp e).1; omega
  have hp := h3 i ps[i] r (by simp [hi]) e
  refine ⟨_, ps[i], h1, by simp [hi], by simp [h2], hp.1, hp.2.1, hp.2.2, fun r' => ⟨ps, by rw [upd_ne (Ne.symm hp.1)]; exact h1, by simp [h2], hn, fun j q z e1 e2 => ?_⟩⟩
  by_cases hj : j = i
  · subst hj
    have eq : q = ps[j] := by simp [hi] at e1; exact e1.symm
    subst eq
    rw [List.getElem?_set_self (by omega)] at e2
    cases e2
    exact ⟨hp.1, hp.2.1, upd_same⟩
  · rw [List.getElem?_set_ne (Ne.symm hj)] at e2
    obtain ⟨n1, n3, n2⟩ := h3 j q z e1 e2
    have : q ≠ ps[i] := fun w => by
      have hjl := (List.getElem?_eq_some_iff.mp e1)
      obtain ⟨hjl, ej⟩ := hjl
      exact hj ((List.getElem_inj hn).mp (ej.trans w))
    exact ⟨n1, n3, by rw [upd_ne this]; exact n2⟩
section
variable {K : PySem.W.Frag} {H : Hp} {a a1 : Addr} {M : List (List Int)} {σ : St} {Q : VK} {b1 b2 : Bool}
end
end L2
/-! LITERALS, all at once: what is written decides it. -/
namespace L2
open PySem PySem.Spec PyProof.Rows
section
variable {X : Cx}
end
end L2
namespace L2
open PySem
end L2
namespace L2
open PySem PySem.Spec PyProof.Rows
noncomputable def isList : Expr → Bool
  | .List _ _ => true
  | _ => false
end L2

/-! ANY. -/
namespace L2
open PySem PySem.Spec PyProof.Rows
section
variable {X : Cx}
end
end L2

/-! CHAINS of three comparisons; targets (x, y, ..) of a list. -/
namespace L2
open PySem PySem.Spec PyProof.Rows
section
variable {X : Cx} {a b c d : Expr} {ta tb tc td : TE} {pos : Pos}
end
section
variable {prog : Program} {w : World} {A : Around} {E : Value → Shared → Prop} {s : Shared}
end
section
variable {X : Cx} {pos : Pos}
end
end L2

/-! PART R: t * k of a tuple (k from 2 on), xs[:k] = ys. -/
namespace L2
open PySem PySem.Spec PyProof.Rows
section
variable {X : Cx}
end

section
variable {prog : Program} {w : World} {A : Around} {E : Value → Shared → Prop} {s : Shared}
set_option maxRecDepth 100000 in
end
section
variable {X : Cx}
end
section
variable {X : Cx} {tg : Expr}
end
end L2

/-! PART S: try .. except C without a name. -/
namespace L2
open PySem PySem.Spec PyProof.Rows
section
variable {X : Cx} {C0 : Addr} {x : Str} {np hpos pos : Pos} {body suite : List Stmt} {b₀ : Stmt} {tb : XE → TS} {ts : TS}
theorem SP.offsuite {pins : List (Addr × Obj)} {D : Ends} {f : Flow} {s : Shared} {e : Addr} (ok : X.Ok) (h : SP (X.suite e) pins D f s) : SP X pins D f s := by
  cases f with
  | next => obtain ⟨σ', H', J, q⟩ := h; exact ⟨σ', H', J.offsuite ok, q⟩
  | brk => obtain ⟨σ', H', J, q⟩ := h; exact ⟨σ', H', J.offsuite ok, q⟩
  | cont => obtain ⟨σ', H', J, q⟩ := h; exact ⟨σ', H', J.offsuite ok, q⟩
  | ret u => obtain ⟨v, σ', H', J, r, q⟩ := h; exact ⟨v, σ', H', J.offsuite ok, r, q⟩
end
end L2

namespace L2
open PySem PySem.Spec PyProof.Rows
open Builtin Builtin.Str
section
variable {X : Cx}
end
section
variable {fr : List (Str × Nat)} {σ : St} {a : Addr} {H : Hp} {Q : VK} {te : TE}
end
theorem Dts.strs {K : PySem.W.Frag} {H : Hp} : ∀ (xs : List Str), Dts K H (xs.map V.str) (xs.map PyData.str)
  | [] => .nil
  | x :: r => .cons (.str x) (Dts.strs r)
/-! a long list of texts, as it is written -/
end L2

/-! AN EXCEPTION THAT LEAVES A COMPREHENSION of a def's body. -/
namespace L2
open PySem PySem.Spec PyProof.Rows
theorem funFrames_same {base h h' : Heap} : ∀ {l : List Env}, h.FunFrames base l → (∀ env ∈ l, ∀ a, env.frame = some a → h'.get? a = h.get? a) → h'.FunFrames base l
  | [], _, _ => trivial
  | env :: _, ⟨hk, ⟨L, o, hf, hn, ho, hd⟩, hr⟩, hin => ⟨hk, ⟨L, o, hf, hn, (hin env (.head _) L hf).trans ho, hd⟩, funFrames_same hr fun e he => hin e (.tail _ he)⟩
/-- out of a frame: what stays (only the frames need to be the same but for their slots) -/
theorem fly_out2 {X : Cx} {pins : List (Addr × Obj)} {σ : St} {H : Hp} {s : Shared} {h'' B : Heap} (I : Inv X pins σ H s) (hst : X.stack = X.env :: X.outer) (hfr : X.env.frame = some X.env.locals) (hex : X.ex = [])
    (stay : B.StaysIn h'') (frm : ∀ b, b ∈ X.fs → ∀ o, s.heap.get? b = some o → (∀ vs, o.data ≠ .fields vs) → ∃ sl, h''.get? b = some { o with slots := sl }) (cov : Cov (frs X.stack) X.s₀.heap H s.heap B) :
    Un X.fs [] X.H₀ H X.s₀.heap h'' ∧ HOk X.prog X.w H h'' ∧ Cov X.fs X.s₀.heap H h'' B := by
  have u := I.base
  rw [hex] at u
  have hfs : frs X.stack = X.env.locals :: X.fs := by
    rw [hst]
    unfold frs
    rw [List.filterMap_cons, hfr]
    rfl
  have old : ∀ b o, X.s₀.heap.get? b = some o → b ∉ X.fs → b ∉ frs X.stack := fun b o e hb hm => by
    rw [hfs] at hm
    rcases List.mem_cons.mp hm with z | z
    · exact absurd (Nat.lt_of_lt_of_le (Heap.lt_size e) I.ok.above) (by rw [z]; exact Nat.lt_irrefl _)
    · exact hb z
  have trk : ∀ b v, H b = some v → b ∉ frs X.stack := fun b v e hm => by
    have := I.stkFree b hm
    rw [e] at this
    cases this
  have keepO : ∀ b o, s.heap.get? b = some o → b ∉ frs X.stack → ((∃ o', X.s₀.heap.get? b = some o') ∨ ∃ v, H b = some v) → h''.get? b = some o := fun b o e hb hc => stay b o (cov b o e hb hc)
  have frm' : ∀ b, b ∈ X.fs → ∀ o, s.heap.get? b = some o → ∃ sl, h''.get? b = some { o with slots := sl } := fun b hb o e => by
    obtain ⟨_, o', e', nf⟩ := I.funs.mem hb
    rw [e] at e'
    cases e'
    exact frm b hb o e nf
  refine ⟨⟨fun b o e n hb hx => ?_, fun b o e n hb hx => ?_, u.free, fun b o e hx => ?_, u.tups, u.frzs, u.tbls⟩, fun a o ha => ?_, fun b o e hb hc => ?_⟩
  · exact keepO b o (u.keep b o e n hb hx) (old b o e hb) (.inl ⟨o, e⟩)
  · obtain ⟨sl, e1⟩ := u.slot b o e n hb hx
    obtain ⟨sl', e2⟩ := frm' b hb _ e1
    exact ⟨sl', e2⟩
  · obtain ⟨o1, e1⟩ := u.there b o e hx
    by_cases hb : b ∈ X.fs
    · obtain ⟨sl, e2⟩ := frm' b hb _ e1
      exact ⟨_, e2⟩
    · exact ⟨o1, keepO b o1 e1 (old b o e hb) (.inl ⟨o, e⟩)⟩
  · refine (I.hok a o ha).stay (fun b v hb q => ?_) (fun _ q => q) fun _ _ q => q
    rcases hb with hb | hb
    · subst hb
      exact keepO b v q (trk b o ha) (.inr ⟨o, ha⟩)
    · exact keepO b v q (trk b _ hb) (.inr ⟨_, hb⟩)
  · rcases hc with ⟨o', e'⟩ | ⟨v, e'⟩
    · obtain ⟨o1, e1⟩ := u.there b o' e' (by simp)
      have q := keepO b o1 e1 (old b o' e' hb) (.inl ⟨o', e'⟩)
      rw [e] at q
      cases q
      exact cov b o e1 (old b o' e' hb) (.inl ⟨o', e'⟩)
    · obtain ⟨o1, e1⟩ := (I.hok b v e').there
      have q := keepO b o1 e1 (trk b v e') (.inr ⟨v, e'⟩)
      rw [e] at q
      cases q
      exact cov b o e1 (trk b v e') (.inr ⟨v, e'⟩)
/-- an exception that this frame has noted already is right where EX lets it pass -/
noncomputable def LandsH (X : Cx) (EX : Value → Hp → Prop) : Prop := X.stack = X.env :: X.outer ∧ X.env.frame = some X.env.locals ∧ X.ex = [] ∧
  ∀ (pins : List (Addr × Obj)) (σ : St) (H : Hp) (s : Shared) (h2 B : Heap) (e : Addr) (C a0 : Value), Inv X pins σ H s →
    (∀ b, b ∈ X.fs → ∀ o, s.heap.get? b = some o → (∀ vs, o.data ≠ .fields vs) → ∃ sl, h2.get? b = some { o with slots := sl }) →
    Heap.HeldW B X.stack e C a0 X.env.locals h2 → Cov (frs X.stack) X.s₀.heap H s.heap B → EX C H → X.xe (.ref e) { s with heap := h2 }
section
variable {P : Program} {w : World} {K : PySem.W.Frag} {mg : Str → Option Value} {base : Heap} {N : List Str} {qual : Str} {scope : Scope} {f : Addr} {cd : Value} {A : Around} {outer : List Env} {s₀ : Shared} {H₀ : Hp} {E : XK}
theorem landsH_def : LandsH (cxOf (CX1 P w) P w K mg base N qual scope f cd A outer s₀ H₀ E) (fun C H => E C none H) := by
  refine ⟨rfl, rfl, rfl, ?_⟩
  intro pins σ H s h2 B e C a0 I frm held cov hE
  show wpAny _ _ (leaving _ (.ref e)) _ _ _
  unfold leaving
  refine wpAny_bind (wpAny_noteFrame_againW rfl held.2.2.2 ?_)
  refine wpAny_landsW (s := { s with heap := h2 }) held fun h'' fl sm => ?_
  obtain ⟨k1, k2, ⟨_, _, k3⟩, k4⟩ := fl
  obtain ⟨un, ok, cv⟩ := fly_out2 I rfl rfl rfl k1 (fun b hb o e nf => by
    obtain ⟨sl, e1⟩ := frm b hb o e nf
    obtain ⟨sl2, e2⟩ := sm b _ e1 nf
    exact ⟨sl2, e2⟩) cov
  exact ⟨e, C, H, B, a0, rfl, I.os, I.bare, un, ok, ⟨k1, k2, k3, k4⟩, cv, hE⟩
end
section
variable {M : Model} {A : Around} {E : Value → Shared → Prop} {s : Shared} {env : Env}
theorem setFlight_heldW {base : Heap} {l : List Env} {e L : Addr} {cls a0 : Value} {Q : Unit → Shared → Prop} (R : Heap.HeldW base l e cls a0 L s.heap)
    (h : ∀ h', Heap.HeldW base l e cls a0 L h' → s.heap.UpToSlots h' → Q () { s with heap := h' }) : wpAny M A (setFlight (.ref e) (some L)) Q E s := by
  obtain ⟨hkb, hen, hl, oe, vs, T, oT, ts, he, hcls, hd, h1, hnT, hTe, hT, hdT, h3⟩ := R
  have hsz3 : 3 < ts.size := (Array.getElem?_eq_some_iff.mp h3).1
  have other : ∀ b, b ≠ T → (s.heap.update T (Obj.mapFields (·.setIfInBounds 3 ((some L).elim Value.none fun f => rawInt f)))).get? b = s.heap.get? b :=
    fun b hb => Heap.get?_update_other _ _ (Ne.symm hb)
  have noRecord : ∀ b o, s.heap.get? b = some o → (∀ vs, o.data ≠ .fields vs) → b ≠ T := fun b o hb hnf q => by
    rw [q, hT] at hb; injection hb with hb; subst hb; exact hnf ts hdT
  unfold setFlight
  refine wpAny_bind (wpAny_field he hd h1 ?_)
  rw [if_pos (show (Value.ref T != Value.none) = true from by simp)]
  refine wpAny_setField hT hdT hsz3 (h _ ⟨fun b o hbo => (other b fun q => by rw [q, hnT] at hbo; cases hbo).trans (hkb b o hbo), hen,
    hl.of_keeps fun b o hb hnf => ⟨o, (other b (noRecord b o hb hnf)).trans hb, rfl⟩, ?_⟩ fun b o hb hnf => ⟨o.slots, (other b (noRecord b o hb hnf)).trans hb⟩)
  exact ⟨oe, vs, T, _, _, (other e (Ne.symm hTe)).trans he, hcls, hd, h1, hnT, hTe, Heap.get?_update_self _ hT (Obj.isFreed_of_fields (Obj.data_mapFields hdT _)), Obj.data_mapFields hdT _, by simp [hsz3]⟩
theorem passOn_heldW {base : Heap} {l : List Env} {e L : Addr} {cls a0 : Value} {what : String} {Q : Value → Shared → Prop} (hf : env.frame = some L) (R : Heap.HeldW base l e cls a0 L s.heap)
    (h : ∀ h', Heap.HeldW base l e cls a0 L h' → s.heap.UpToSlots h' → E (.ref e) { s with heap := h' }) : wpAny M A (PySem.passOn what (.ref e) env : Sem Value) Q E s := by
  have R' := R
  obtain ⟨hkb, hen, hl, oe, vs, T, oT, ts, he, hcls, hd, h1, hnT, hTe, hT, hdT, h3⟩ := R
  unfold PySem.passOn
  refine wpAny_bind (wpAny_field he hd h1 ?_)
  rw [if_neg (by simp)]
  rw [hf]
  refine wpAny_bind (setFlight_heldW R' fun h' r u => ?_)
  exact wpAny_throw (h h' r u)
end
theorem codeAny_compLoop_genX {prog : Program} {w : World} {A : Around} {R : Result → Shared → Prop} {s : Shared} {elt target iter : Expr} {ifs : List Expr} {scope : Scope} {pos : Pos} {it acc : Value} {env : Env} (I : Nat → Shared → Prop)
    (turn : ∀ n s, I n s → wpAny (model prog w) A (pyNext it) (fun r s₁ => match r with
      | none => R (.ok .next) s₁
      | some v => wpAny (model prog w) A (letOwnedTupleGo target it v) (fun _ s₁' => wpAny (model prog w) A (assign target env v) (fun _ s₂ => turnOf elt ifs env (model prog w) A (fun o s₃ => match o with
          | some x => wpAny (model prog w) A (call (.builtin "list.append") [acc, x]) (fun _ s₄ => ∃ m, m < n ∧ I m s₄) (notedBy (model prog w) A env fun x s' => R (.error x) s') s₃
          | none => ∃ m, m < n ∧ I m s₃)
          (notedBy (model prog w) A env fun x s' => R (.error x) s') s₂) (notedBy (model prog w) A env fun x s' => R (.error x) s') s₁') (fun _ _ => False) s₁) (fun _ _ => False) s)
    (n : Nat) (h : I n s) (hifs : ifs.length ≤ 1) :
    codeAny (model prog w) A (.compLoop (.ListComp elt [⟨target, iter, ifs, 0⟩] scope pos) 0 it acc env) R s := by
  refine codeAny_loop rfl I (fun n s hI => ?_) n h
  show wpAny _ _ ((compTurn (.ListComp elt [⟨target, iter, ifs, 0⟩] scope pos) 0 it acc env).onRaise (fun x => do noteFrame x env; theTreesLotGoes x)) _ _ s
  refine wpAny_noted ?_
  have T := turn n s hI
  match ifs, hifs, T with
  | [], _, T =>
    rw [compTurn_list1]
    refine wpAny_bind (wpAny_standAt (wpAny_bind (wpAny_mono T (fun r s₁ h₁ => ?_) fun _ _ h' => h'.elim)))
    cases r with
    | none => exact wpAny_pure h₁
    | some v =>
      refine wpAny_bind (wpAny_mono h₁ (fun _ s₁' h₁' => ?_) fun _ _ h' => h'.elim)
      exact wpAny_bind (wpAny_mono h₁' (fun _ s₂ h₂ => wpAny_bind (wpAny_bind (wpAny_mono (show wpAny _ _ _ _ _ _ from h₂) (fun x s₃ h₃ => wpAny_bind (wpAny_mono h₃
        (fun _ s₄ h₄ => wpAny_pure (wpAny_pure ⟨rfl, h₄⟩)) fun _ _ h' => h')) fun _ _ h' => h'))) fun _ _ h' => h')
  | [c], _, T =>
    have e1 : compTurn (.ListComp elt [⟨target, iter, [c], 0⟩] scope pos) 0 it acc env = (standAt iter.pos >>= fun _ => pyNext it >>= fun r => match r with
      | none => pure (.done .next)
      | some v => letOwnedTupleGo target it v >>= fun _ => assign target env v >>= fun _ => isTrue c env (eval c env) >>= fun ok =>
        (if ok = true then (eval elt env >>= fun x => call (.builtin "list.append") [acc, x] >>= fun _ => pure ()) >>= fun _ => again (.compLoop (.ListComp elt [⟨target, iter, [c], 0⟩] scope pos) 0 it acc env)
          else again (.compLoop (.ListComp elt [⟨target, iter, [c], 0⟩] scope pos) 0 it acc env))) := by
      unfold compTurn
      simp only [List.forIn_cons, List.forIn_nil, if_true, bind_assoc, pure_bind, List.getElem?_cons_zero]
      rfl
    rw [e1]
    refine wpAny_bind (wpAny_standAt (wpAny_bind (wpAny_mono T (fun r s₁ h₁ => ?_) fun _ _ h' => h'.elim)))
    cases r with
    | none => exact wpAny_pure h₁
    | some v =>
      refine wpAny_bind (wpAny_mono h₁ (fun _ s₁' h₁' => ?_) fun _ _ h' => h'.elim)
      refine wpAny_bind (wpAny_mono h₁' (fun _ s₂ h₂ => wpAny_bind (wpAny_mono (show wpAny _ _ _ _ _ _ from h₂) (fun b s₃ h₃ => ?_) fun _ _ h' => h')) fun _ _ h' => h')
      cases b with
      | true =>
        rw [if_pos rfl] at h₃ ⊢
        exact wpAny_bind (wpAny_bind (wpAny_mono h₃ (fun x s₄ h₄ => wpAny_bind (wpAny_mono h₄ (fun _ s₅ h₅ => wpAny_pure (wpAny_pure ⟨rfl, h₅⟩)) fun _ _ h' => h')) fun _ _ h' => h'))
      | false =>
        rw [if_neg Bool.false_ne_true] at h₃ ⊢
        exact wpAny_pure ⟨rfl, h₃⟩
  | _ :: _ :: _, hifs, T =>
    exact absurd hifs (by simp)

section
variable {M : Model} {A : Around} {E : Value → Shared → Prop} {s : Shared} {env : Env}
/-- what a comprehension's block leaves; an exception: as it stands in the block's own frame -/
noncomputable def compPostX (M : Model) (A : Around) (E : Value → Shared → Prop) (Q : Value → Shared → Prop) (acc : Value) (cenv : Env) (r : Result) (s' : Shared) : Prop :=
  match r with
  | .ok _ => ∃ m, s'.heap.Ns cenv.locals m ∧ ∀ h', Heap.SameBut cenv.locals s'.heap h' → Q acc { s' with heap := h' }
  | .error x => ∃ m, s'.heap.Ns cenv.locals m ∧ ∀ h', Heap.SameBut cenv.locals s'.heap h' → ∀ cenv' : Env, cenv'.frame = cenv.frame → wpAny M A (PySem.passOn "comprehension.variables-let-go" x cenv' : Sem Value) (fun _ _ => False) E { s' with heap := h' }
theorem comprehension_freeX {e : Expr} {scope : Scope} {pos : Pos} {newAcc first : Sem Value} {g : Comprehension} {gs : List Comprehension} {cl : List (Str × Addr)}
    {Q : Value → Shared → Prop}
    (hcl : clausesOf e = g :: gs) (hs : ∀ x, foldedSetIterable g.iter env x = pure x) (hclos : closureFor scope env = pure cl)
    (hkind : scope.kind = .function) (hnames : ∀ x ∈ scope.names, x.2 = .local → scope.names.lookup x.1 = some .local)
    (h : wpAny M A first (fun x s₁ => wpAny M A (pyIter x) (fun it s₂ => wpAny M A newAcc (fun acc s₃ =>
      wpAny M A (newFunctionEnv scope env.globals cl [] env.qual none .none (some env)) (fun cenv s₄ =>
        codeAny M A (.compStart e 0 it acc { cenv with scope := relabel scope env }) (compPostX M A E Q acc cenv) s₄) E s₃) E s₂) E s₁) E s) :
    wpAny M A (comprehension e scope env pos newAcc false first none) Q E s := by
  unfold comprehension
  rw [hclos, hcl]
  refine wpAny_bind (wpAny_mono h (fun x s₁ h₁ => wpAny_bind (wpAny_standAt (wpAny_bind (wpAny_of_eq (hs x) (wpAny_bind (wpAny_holding (wpAny_mono h₁ (fun it s₂ h₂ =>
    wpAny_standIf (wpAny_bind (wpAny_mono h₂ (fun acc s₃ h₃ => wpAny_bind (wpAny_pure (wpAny_bind (wpAny_mono h₃ (fun cenv s₄ h₄ => ?_) fun _ _ h' => h')))) fun _ _ h' => h')))
      fun _ _ h' => h'))))))) fun _ _ h' => h')
  dsimp only
  have hv : ∀ x ∈ (scope.names.filter fun x => (x.2 == .local || x.2 == .cell) && x.1 != (".0" : Str)).reverse, x.2 = .local →
      Env.kindOf { cenv with scope := relabel scope env } x.1 = some .local := fun x hx hl => lookup_relabel_local (hnames x (List.mem_filter.mp (List.mem_reverse.mp hx)).1 hl)
  refine wpAny_holding (wpAny_bind (wpAny_attempt (wpAny_holding (wpAny_run (codeAny_mono h₄ fun r s' hr => ?_)))))
  cases r with
  | ok f =>
    obtain ⟨m, hn, hr⟩ := hr
    exact wpAny_bind (wpAny_holding (wpAny_comp_letGo (cenv := { cenv with scope := relabel scope env }) hkind _ s' m hv hn fun h' m' _ hs' => wpAny_pure (hr h' hs')))
  | error x =>
    obtain ⟨m, hn, hr⟩ := hr
    exact wpAny_bind (wpAny_holding (wpAny_comp_letGo (cenv := { cenv with scope := relabel scope env }) hkind _ s' m hv hn fun h' m' _ hs' => wpAny_mono (hr h' hs' _ rfl) (fun _ _ f => f.elim) fun _ _ y => y))
end

noncomputable def cxCompX (X : Cx) (scope : Scope) (N : List Str) (s : Shared) (H : Hp) (fp : List Addr) (XE : Value → Shared → Prop) : Cx := { cxCompG X scope N s H fp with xe := XE }
theorem Inv.xe {X : Cx} {scope : Scope} {N : List Str} {s0 : Shared} {H0 : Hp} {fp : List Addr} {pins : List (Addr × Obj)} {σ : St} {H : Hp} {s : Shared} (XE : Value → Shared → Prop) (I : Inv (cxCompG X scope N s0 H0 fp) pins σ H s) : Inv (cxCompX X scope N s0 H0 fp XE) pins σ H s :=
  ⟨⟨I.ok.mod, I.ok.kind, I.ok.glob, I.ok.blt, I.ok.above, I.ok.inj, I.ok.has, I.ok.cab, I.ok.hd, I.ok.frames, I.ok.stk, I.ok.exf, I.ok.bs, I.ok.bsz, I.ok.noex, I.ok.exfs, I.ok.funs, I.ok.frf⟩,
    I.os, I.bare, I.base, I.loc, I.cell, I.free, I.freeC, I.pin, I.hok, I.len⟩
noncomputable abbrev Cov2 (fs ex : List Addr) (h₀ : Heap) (H : Hp) (h B : Heap) : Prop := ∀ b o, h.get? b = some o → b ∉ fs → ((b ∉ ex ∧ ∃ o', h₀.get? b = some o') ∨ ∃ u, H b = some u) → B.get? b = some o
/-- in a comprehension's block: an exception of a call is right where EX lets it pass -/
noncomputable def LandsC (X : Cx) (EX : Value → Hp → Prop) : Prop := ∀ (pins : List (Addr × Obj)) (σ : St) (H : Hp) (s : Shared) (e : Addr) (C : Value) (B : Heap) (a0 : Value), Inv X pins σ H s → Heap.FlyingW B X.stack e C a0 s.heap →
  Cov2 (frs X.stack) X.ex X.s₀.heap H s.heap B → EX C H → X.xe (.ref e) s
section
variable {X : Cx} {sc scope : Scope} {xs : List Str} {fr : List (Str × Nat)} {elt tg iter : Expr} {ifs : List Expr} {g : TG} {tt : TOx} {EX : Value → Hp → Prop} {QQ : Value → Shared → Prop}
theorem comp_coreX {pins : List (Addr × Obj)} {σ : St} {H : Hp} {s : Shared} {pos : Pos} {J : It} {fp : List Addr} {it : Addr} {tn : Nat → Heap → Prop} {Q : VK} {E : Value → Shared → Prop}
    (c : CompOkG X sc scope xs fr) (hc : X.calm = true) (hX : LandsH X EX) (hifs : ifs.length ≤ 1) (I : Inv X pins σ H s) (T : Turn X.prog X.w X.K tg J fp it tn) (t0 : tn 0 s.heap) (hf : ∀ b ∈ fp, FpOk X pins H b)
    (hg : ∀ (s₃ : Shared) (H₃ : Hp) (fp : List Addr) (XE : Value → Shared → Prop), (cxCompX X scope (xs ++ fr.map (·.1)) s₃ H₃ fp XE).env.scope = relab sc scope → PG (cxCompX X scope (xs ++ fr.map (·.1)) s₃ H₃ fp XE) tg g)
    (he : ∀ (s₃ : Shared) (H₃ : Hp) (fp : List Addr) (XE : Value → Shared → Prop), (cxCompX X scope (xs ++ fr.map (·.1)) s₃ H₃ fp XE).env.scope = relab sc scope → LandsC (cxCompX X scope (xs ++ fr.map (·.1)) s₃ H₃ fp XE) EX → POx (cxCompX X scope (xs ++ fr.map (·.1)) s₃ H₃ fp XE) elt ifs tt)
    (hw : ∀ a, H a = none → CompWG J g tt xs.length fr σ a H Q)
    (hRR : ∀ a C H' s' m, s'.heap.Ns C m → Inv X pins σ H' s' → FpOk X pins H' C → Q (.ref a) H' → ∀ h', Heap.SameBut C s'.heap h' → QQ (.ref a) { s' with heap := h' }) :
    wpAny (model X.prog X.w) X.A (newList []) (fun acc s₃ => wpAny (model X.prog X.w) X.A (newFunctionEnv scope X.env.globals (clOf X.env scope.names []) [] X.env.qual none .none (some X.env)) (fun cenv s₄ =>
      codeAny (model X.prog X.w) X.A (.compStart (.ListComp elt [⟨tg, iter, ifs, 0⟩] scope pos) 0 (.ref it) acc { cenv with scope := relabel scope X.env }) (compPostX (model X.prog X.w) X.A X.xe QQ acc cenv) s₄) E s₃) E s := by
  obtain ⟨W, ⟨m0, w0⟩, turn⟩ := hw s.heap.objs.size I.fresh
  refine wpAny_newObj_type (newEnv_own ?_)
  have I3 : Inv X pins σ (upd H s.heap.objs.size (.lst [])) { s with heap := s.heap.push { cls := .type "list", dict := none, data := .seq ([] : List Value).toArray } } := I.lnew (ys := []) (its := []) (t' := s.toks) .nil (Nat.zero_le _)
  have kp : ∀ b o, s.heap.get? b = some o → (s.heap.push { cls := .type "list", dict := none, data := .seq ([] : List Value).toArray }).get? b = some o := fun b o e => Heap.get?_push_of_some _ e
  have un0 : Un (frs X.stack) fp H (upd H s.heap.objs.size (.lst [])) s.heap (s.heap.push { cls := .type "list", dict := none, data := .seq ([] : List Value).toArray }) := Un.laid kp (Nat.le_refl _) I.fresh
  dsimp only
  generalize hH2 : s.heap.push { cls := .type "list", dict := none, data := .seq ([] : List Value).toArray } = hp2 at I3 kp un0 ⊢
  have hsz : s.heap.objs.size ≤ hp2.objs.size := by rw [← hH2, Heap.size_push]; exact Nat.le_succ _
  have ft : ∀ b ∈ fp, ∃ o, s.heap.get? b = some o := fun b hb => let ⟨o, e, _⟩ := T.obj _ _ t0 b hb; ⟨o, e⟩
  have nea : ∀ b ∈ fp, b ≠ s.heap.objs.size := fun b hb => let ⟨_, e⟩ := ft b hb; Nat.ne_of_lt (Heap.lt_size e)
  have f3 : ∀ b ∈ fp, FpOk X pins (upd H s.heap.objs.size (.lst [])) b ∧ ∃ o, hp2.get? b = some o := fun b hb => by
    obtain ⟨o, e⟩ := ft b hb
    exact ⟨⟨by rw [upd_ne (nea b hb)]; exact (hf b hb).1, (hf b hb).2⟩, o, kp b o e⟩
  have J0' := comp_startG c I3 f3
  have k4 : ∀ b o, hp2.get? b = some o → (pushCells (hp2.push { cls := .type "dict", data := .dict #[] }) scope.names).get? b = some o := fun b o e => pushCells_keeps _ _ b o (Heap.get?_push_of_some _ e)
  have t4 : tn 0 (pushCells (hp2.push { cls := .type "dict", data := .dict #[] }) scope.names) := T.keep 0 _ _ t0 fun b hb o e => k4 b o (kp b o e)
  have esc : ∀ (s₃ : Shared) (H₃ : Hp) (fp : List Addr) (XE : Value → Shared → Prop), (cxCompX X scope (xs ++ fr.map (·.1)) s₃ H₃ fp XE).env.scope = relab sc scope := fun _ _ _ _ => relab_is c.hsc
  obtain ⟨XE, hXE⟩ : ∃ XE : Value → Shared → Prop, XE = notedBy (model X.prog X.w) X.A (compEnvC scope (cellsFrom (hp2.objs.size + 1) scope.names (clOf X.env scope.names [])) hp2.objs.size X.env) (fun x s' => compPostX (model X.prog X.w) X.A X.xe QQ (.ref s.heap.objs.size) (newEnv scope hp2.objs.size X.env.globals (cellsFrom (hp2.objs.size + 1) scope.names (clOf X.env scope.names [])) X.env.qual none .none (some X.env) X.env.builtins) (.error x) s') := ⟨_, rfl⟩
  have J0 := J0'.xe XE
  have lands : LandsC (cxCompX X scope (xs ++ fr.map (·.1)) { s with heap := hp2 } (upd H s.heap.objs.size (.lst [])) fp XE) EX := by
    obtain ⟨hst, hfr, hex, hX⟩ := hX
    intro pins' σ' H3 s3 e C B a0 K3 fl cov hE
    obtain ⟨m4, hn4, _⟩ := K3.loc
    have K5 : Inv X pins σ H3 s3 := I.call' K3.os (un0.trans K3.base) K3.hok K3.bare fun b hb => let f := hf b hb; ⟨f.2.2.2.1, f.2.1, f.2.2.2.2.1, f.2.2.2.2.2⟩
    show XE (.ref e) s3
    rw [hXE]
    show wpAny _ _ (noteFrame (.ref e) X.env) _ _ s3
    refine wpAny_looks_onW (I.ok.frames.trans (by rw [hst])) hfr (hst ▸ fl) fun h4 held4 sm4 => ?_
    obtain ⟨o4, es4, ep4, ho4, hd4, hk4, hm4⟩ := hn4
    obtain ⟨sl4, ho4'⟩ := sm4 hp2.objs.size o4 ho4 (fun vs z => by rw [hd4] at z; cases z)
    refine ⟨m4, ⟨_, es4, ep4, ho4', hd4, hk4, hm4⟩, fun h' hs' cenv' hcf => ?_⟩
    obtain ⟨g1, g2, g3, oe, vs, T, oT, ts, he, hcls, hd, h1, hnT, hTe, hT, hdT, h3⟩ := held4
    have ne : e ≠ hp2.objs.size := fun z => by
      rw [z, ho4'] at he
      cases he
      have hd' : o4.data = .fields vs := hd
      rw [hd4] at hd'
      cases hd'
    have nT : T ≠ hp2.objs.size := fun z => by
      rw [z, ho4'] at hT
      cases hT
      have hd' : o4.data = .fields ts := hdT
      rw [hd4] at hd'
      cases hd'
    have nfr : ∀ b ∈ frs X.stack, b ≠ hp2.objs.size := fun b hb z => by
      obtain ⟨_, o, ho, _⟩ := I.stack.mem hb
      exact absurd (Nat.lt_of_lt_of_le (Heap.lt_size ho) hsz) (by rw [z]; exact Nat.lt_irrefl _)
    have hst' : Heap.StaysIn (PySem.W.hideAll B [hp2.objs.size]) B := fun b o q => PySem.W.of_hideAll _ q
    have held5 : Heap.HeldW (PySem.W.hideAll B [hp2.objs.size]) X.stack e C a0 X.env.locals h' := by
      refine ⟨fun b o q => ?_, PySem.W.fresh_of_stays hst' g2, funFrames_same (PySem.W.funFrames_base hst' (hst ▸ g3)) fun env hv a ha => hs'.2 a (nfr a (List.mem_filterMap.mpr ⟨env, hv, ha⟩)), oe, vs, T, oT, ts, (hs'.2 e ne).trans he, hcls, hd, h1, PySem.W.fresh_of_stays hst' hnT, hTe, (hs'.2 T nT).trans hT, hdT, h3⟩
      have nb : b ≠ hp2.objs.size := fun z => by
        rw [z, PySem.W.hideAll_none _ (by simp)] at q
        cases q
      exact (hs'.2 b nb).trans (g1 b o (PySem.W.of_hideAll _ q))
    refine passOn_heldW (hcf.trans hfr) held5 fun h5 held6 sm6 => ?_
    refine hX pins σ H3 s3 h5 _ e C a0 K5 (fun b hb o e1 nf => ?_) held6 (fun b o e1 hb hc => ?_) hE
    · obtain ⟨sl, e2⟩ := sm4 b o e1 nf
      have nb : b ≠ hp2.objs.size := nfr b (by
        rw [hst]
        unfold frs
        rw [List.filterMap_cons, hfr]
        exact List.mem_cons_of_mem _ hb)
      obtain ⟨sl', e3⟩ := sm6 b _ ((hs'.2 b nb).trans e2) nf
      exact ⟨sl', e3⟩
    · have nb : b ≠ hp2.objs.size ∧ ((b ∉ fp ∧ ∃ o', hp2.get? b = some o') ∨ ∃ u, H3 b = some u) := by
        rcases hc with ⟨o', e'⟩ | ⟨u, e'⟩
        · obtain ⟨o2, e2⟩ := I.base.there b o' e' (by rw [hex]; simp)
          refine ⟨fun z => ?_, .inl ⟨fun hb' => ?_, o2, kp b o2 e2⟩⟩
          · exact absurd (Heap.lt_size (kp b o2 e2)) (by rw [z]; exact Nat.lt_irrefl _)
          · have := (hf b hb').2.2.2.1
            rw [hex] at this
            rcases this with z | z
            · simp at z
            · exact absurd (Heap.lt_size e') (Nat.not_lt.mpr z)
        · refine ⟨fun z => ?_, .inr ⟨u, e'⟩⟩
          have : H3 hp2.objs.size = none := K3.free
          rw [← z, e'] at this
          cases this
      exact PySem.W.hideAll_get _ (cov b o e1 hb nb.2) (by simp [nb.1])
  subst hXE
  have stat : ∀ {H' : Hp}, (∀ b ∈ fp, H' b = none) → ∀ b ∈ fp, FpOk (cxCompX X scope (xs ++ fr.map (·.1)) { s with heap := hp2 } (upd H s.heap.objs.size (.lst [])) fp (notedBy (model X.prog X.w) X.A (compEnvC scope (cellsFrom (hp2.objs.size + 1) scope.names (clOf X.env scope.names [])) hp2.objs.size X.env) (fun x s' => compPostX (model X.prog X.w) X.A X.xe QQ (.ref s.heap.objs.size) (newEnv scope hp2.objs.size X.env.globals (cellsFrom (hp2.objs.size + 1) scope.names (clOf X.env scope.names [])) X.env.qual none .none (some X.env) X.env.builtins) (.error x) s'))) [] H' b := fun hn b hb => by
    obtain ⟨e1, e2⟩ := J0.ok.exf b hb
    exact ⟨hn b hb, e1, J0.ok.exfs b hb, .inl hb, e2, fun p hp => absurd (show p ∈ ([] : List (Addr × Obj)) from hp) (by simp)⟩
  have loop : codeAny (model X.prog X.w) X.A (.compLoop (.ListComp elt [⟨tg, iter, ifs, 0⟩] scope pos) 0 (.ref it) (.ref s.heap.objs.size) (compEnvC scope (cellsFrom (hp2.objs.size + 1) scope.names (clOf X.env scope.names [])) hp2.objs.size X.env))
      (compPostX (model X.prog X.w) X.A X.xe QQ (.ref s.heap.objs.size) (newEnv scope hp2.objs.size X.env.globals (cellsFrom (hp2.objs.size + 1) scope.names (clOf X.env scope.names [])) X.env.qual none .none (some X.env) X.env.builtins)) { s with heap := pushCells (hp2.push { cls := .type "dict", data := .dict #[] }) scope.names } := by
    refine codeAny_compLoop_genX (fun n s' => ∃ i, ∃ ys : St, ∃ H', ys.length = xs.length ∧ Inv (cxCompX X scope (xs ++ fr.map (·.1)) { s with heap := hp2 } (upd H s.heap.objs.size (.lst [])) fp (notedBy (model X.prog X.w) X.A (compEnvC scope (cellsFrom (hp2.objs.size + 1) scope.names (clOf X.env scope.names [])) hp2.objs.size X.env) (fun x s' => compPostX (model X.prog X.w) X.A X.xe QQ (.ref s.heap.objs.size) (newEnv scope hp2.objs.size X.env.globals (cellsFrom (hp2.objs.size + 1) scope.names (clOf X.env scope.names [])) X.env.qual none .none (some X.env) X.env.builtins) (.error x) s'))) [] (ys ++ frees fr σ) H' s' ∧ tn i s'.heap ∧ (∀ b ∈ fp, H' b = none) ∧ W i n H')
      ?_ m0 ⟨0, xs.map fun _ => none, _, by simp, J0, t4, fun b hb => (f3 b hb).1.1, w0⟩ hifs
    rintro n s3 ⟨i, ys, H3, hys, K3, st3, fr3, w3⟩
    rcases turn i n H3 w3 with ⟨stop, qn⟩ | ⟨go, N, hN, step⟩
    · refine thn (T.done (cxCompX X scope (xs ++ fr.map (·.1)) { s with heap := hp2 } (upd H s.heap.objs.size (.lst [])) fp (notedBy (model X.prog X.w) X.A (compEnvC scope (cellsFrom (hp2.objs.size + 1) scope.names (clOf X.env scope.names [])) hp2.objs.size X.env) (fun x s' => compPostX (model X.prog X.w) X.A X.xe QQ (.ref s.heap.objs.size) (newEnv scope hp2.objs.size X.env.globals (cellsFrom (hp2.objs.size + 1) scope.names (clOf X.env scope.names [])) X.env.qual none .none (some X.env) X.env.builtins) (.error x) s'))) rfl rfl rfl hc i [] s3 _ H3 (fun _ _ => False) K3 (stat fr3) st3 stop) fun r s4 ⟨hr, K4⟩ => ?_
      subst hr
      obtain ⟨m4, hn4, _⟩ := K4.loc
      have K5 : Inv X pins σ H3 s4 := I.call' K4.os (un0.trans K4.base) K4.hok K4.bare fun b hb => let f := hf b hb; ⟨f.2.2.2.1, f.2.1, f.2.2.2.2.1, f.2.2.2.2.2⟩
      exact ⟨m4, hn4, fun h' hs' => hRR _ _ H3 s4 m4 hn4 K5 (I.fpOk hsz K4.free) qn h' hs'⟩
    · refine thn (T.item (cxCompX X scope (xs ++ fr.map (·.1)) { s with heap := hp2 } (upd H s.heap.objs.size (.lst [])) fp (notedBy (model X.prog X.w) X.A (compEnvC scope (cellsFrom (hp2.objs.size + 1) scope.names (clOf X.env scope.names [])) hp2.objs.size X.env) (fun x s' => compPostX (model X.prog X.w) X.A X.xe QQ (.ref s.heap.objs.size) (newEnv scope hp2.objs.size X.env.globals (cellsFrom (hp2.objs.size + 1) scope.names (clOf X.env scope.names [])) X.env.qual none .none (some X.env) X.env.builtins) (.error x) s'))) rfl rfl rfl hc i [] s3 _ H3 (fun _ _ => False) K3 (stat fr3) st3 go) fun r s4 ⟨u, hr, h4⟩ => ?_
      subst hr
      refine thn h4 fun _ s5 ⟨y, H5, K5, r5, y5, st5, fr5⟩ => ?_
      have K5' := K5.pinned (stat fr5) (T.obj _ _ st5)
      refine thn (hg _ _ _ _ (esc _ _ _ _) _ s5 _ H5 y u _ K5' r5 (step ys y H5 hys y5)) fun _ s6 ⟨σ6, H6, K6, ⟨ys6, hl6, e6⟩, q6⟩ => ?_
      subst e6
      have fin : ∀ (s8 : Shared) (H8 : Hp), Inv (cxCompX X scope (xs ++ fr.map (·.1)) { s with heap := hp2 } (upd H s.heap.objs.size (.lst [])) fp (notedBy (model X.prog X.w) X.A (compEnvC scope (cellsFrom (hp2.objs.size + 1) scope.names (clOf X.env scope.names [])) hp2.objs.size X.env) (fun x s' => compPostX (model X.prog X.w) X.A X.xe QQ (.ref s.heap.objs.size) (newEnv scope hp2.objs.size X.env.globals (cellsFrom (hp2.objs.size + 1) scope.names (clOf X.env scope.names [])) X.env.qual none .none (some X.env) X.env.builtins) (.error x) s'))) ([] ++ pinsAt fp s5.heap) (ys6 ++ frees fr σ) H8 s8 → N H8 →
          ∃ m, m < n ∧ ∃ i, ∃ ys : St, ∃ H', ys.length = xs.length ∧ Inv (cxCompX X scope (xs ++ fr.map (·.1)) { s with heap := hp2 } (upd H s.heap.objs.size (.lst [])) fp (notedBy (model X.prog X.w) X.A (compEnvC scope (cellsFrom (hp2.objs.size + 1) scope.names (clOf X.env scope.names [])) hp2.objs.size X.env) (fun x s' => compPostX (model X.prog X.w) X.A X.xe QQ (.ref s.heap.objs.size) (newEnv scope hp2.objs.size X.env.globals (cellsFrom (hp2.objs.size + 1) scope.names (clOf X.env scope.names [])) X.env.qual none .none (some X.env) X.env.builtins) (.error x) s'))) [] (ys ++ frees fr σ) H' s8 ∧ tn i s8.heap ∧ (∀ b ∈ fp, H' b = none) ∧ W i m H' := by
        intro s8 H8 K8 n8
        obtain ⟨m', hm, w8⟩ := hN H8 n8
        refine ⟨m', hm, i + 1, ys6, H8, hl6, K8.unpinned, T.keep _ _ _ st5 fun b hb o e => (K8.pin (b, o) (List.mem_append_right _ (List.mem_append_right _ (mem_pinsAt hb e)))).1, fun b hb => ?_, w8⟩
        obtain ⟨o, e, d⟩ := T.obj _ _ st5 b hb
        exact (K8.pin (b, o) (List.mem_append_right _ (List.mem_append_right _ (mem_pinsAt hb e)))).2.1
      have h7 := he _ _ _ _ (esc _ _ _ _) lands _ s6 _ H6 _ K6 q6
      have mono : ∀ {Q Q' : Option Value → Shared → Prop} {E : Value → Shared → Prop} {s' : Shared} {env : Env}, (∀ o s1, Q o s1 → Q' o s1) → turnOf elt ifs env (model X.prog X.w) X.A Q E s' → turnOf elt ifs env (model X.prog X.w) X.A Q' E s' := by
        intro Q Q' E s' env hq ht
        unfold turnOf at ht ⊢
        match ifs, hifs, ht with
        | [], _, ht => exact wpAny_mono ht (fun x s1 q => hq _ _ q) fun _ _ e => e
        | [c], _, ht =>
          refine wpAny_mono ht (fun b s1 q => ?_) fun _ _ e => e
          split at q
          · rename_i hb; rw [if_pos hb]; exact wpAny_mono q (fun x s2 q => hq _ _ q) fun _ _ e => e
          · rename_i hb; rw [if_neg hb]; exact hq _ _ q
        | _ :: _ :: _, hifs, _ => exact absurd hifs (by simp)
      refine mono (fun o s7 ⟨z7, H7, K7, r7, q7⟩ => ?_) h7
      cases o with
      | none =>
        cases z7 with
        | none => exact fin s7 H7 K7 q7
        | some z => exact r7.elim
      | some v7 =>
        cases z7 with
        | none => exact r7.elim
        | some z7 =>
          obtain ⟨zs, hz, hl, w7⟩ := q7
          exact thn (mt_append _ s7 _ H7 (.ref s.heap.objs.size) [z7] (.ref s.heap.objs.size) [v7] (fun _ H8 => N H8) K7 rfl (.cons r7 .nil) ⟨_, zs, z7, rfl, rfl, hz, hl, w7⟩) fun _ s8 ⟨_, H8, K8, _, n8⟩ => fin s8 H8 K8 n8
  exact codeAny_compStart_list loop (T.self _ 0 _ _ _ t4 loop)
variable {wi : TI}
theorem pe_compX {pos : Pos} (c : CompOkG X sc scope xs fr) (hc : X.calm = true) (hX : LandsH X EX) (hi : PI X tg iter wi)
    (hg : ∀ (s₃ : Shared) (H₃ : Hp) (fp : List Addr) (XE : Value → Shared → Prop), (cxCompX X scope (xs ++ fr.map (·.1)) s₃ H₃ fp XE).env.scope = relab sc scope → PG (cxCompX X scope (xs ++ fr.map (·.1)) s₃ H₃ fp XE) tg g)
    (he : ∀ (s₃ : Shared) (H₃ : Hp) (fp : List Addr) (XE : Value → Shared → Prop), (cxCompX X scope (xs ++ fr.map (·.1)) s₃ H₃ fp XE).env.scope = relab sc scope → LandsC (cxCompX X scope (xs ++ fr.map (·.1)) s₃ H₃ fp XE) EX → POx (cxCompX X scope (xs ++ fr.map (·.1)) s₃ H₃ fp XE) elt ifs tt)
    (hifs : ifs.length ≤ 1 := by exact Nat.le_of_ble_eq_true rfl) (hs : ∀ x, foldedSetIterable iter X.env x = pure x := by intro _; rfl) : PE X (.ListComp elt [⟨tg, iter, ifs, 0⟩] scope pos) (tCompG wi g tt xs.length fr) := by
  intro pins s σ H Q I h
  rw [eval_ListComp]
  refine comprehension_freeX rfl hs (closure_is (c.cells I)) c.kind c.loc (thn (hi pins s σ H _ I h) fun v s1 h1 => thn h1 fun itv s2 h2 => ?_)
  obtain ⟨it, fp, tn, J, H2, e, I2, T, t2, f2, hw⟩ := h2
  subst e
  refine comp_coreX (QQ := EP X pins σ Q) c hc hX hifs I2 T t2 f2 hg he hw ?_
  intro a C H' s' m hn K f q h' hs'
  exact ⟨.ref a, H', K.turned (t' := s'.toks) (fun b o hb e => (hs'.2 b hb).trans e) f.1 f.2.1 f.2.2.2.1 f.2.2.2.2.1 f.2.2.2.2.2, rfl, q⟩
end
section
variable {X : Cx} {EX : Value → Hp → Prop} {k : Nat} {f : Addr} {fd : FuncData} {ps : List Str} {sp : Sp} {dvs : List V} {ds : List Value} {x : Str} {p pos : Pos} {e : Expr} {es : List Expr} {t : TA}
theorem run_fnXC {pins : List (Addr × Obj)} {σ : St} {H : Hp} {s : Shared} {Q : VK} {us : List Value} {vs : List V} (F : FnOk X.prog X.w X.K X.mg X.base (CX1 X.prog X.w) k f fd ps sp) (hr : Room k X.A) (hb : Binds X.K fd ps ds) (hd : Vals dvs ds) (hx : LandsC X EX)
    (I : Inv X pins σ H s) (r : Vals vs us) (h : sp (vs ++ dvs) H Q fun C _ H' => EX C H') : wpAny (model X.prog X.w) X.A (call (.ref f) us) (EP X pins σ Q) X.xe s := by
  have r2 : Vals (vs ++ dvs) (us ++ ds) := r.append hd
  have hl : (us ++ ds).length = ps.length := by rw [← r2.length]; exact F.len _ _ _ _ h
  refine wpAny_call (codeAny_mono (F.run X.A X.stack s H ⟨us, []⟩ (us ++ ds) (vs ++ dvs) Q _ hr I.env0 (hb s us I.kIn hl) r2 h) fun r s' hq => ?_)
  cases r with
  | error ev =>
    obtain ⟨e, C, H', B, a0, rfl, os, bare, un, ok, fl, cov, q⟩ := hq
    have J : Inv X pins σ H' s' := I.call' os un ok bare fun b z => absurd z (by simp)
    refine hx pins σ H' s' e C B a0 J fl (fun b o e1 hb hc => cov b o e1 hb ?_) q
    rcases hc with ⟨nx, o', e'⟩ | hc
    · obtain ⟨o2, e2⟩ := I.base.there b o' e' nx
      exact .inl ⟨o2, e2⟩
    · exact .inr hc
  | ok fl =>
    cases fl with
    | ret u => exact I.after hq
    | next => exact False.elim hq
    | brk => exact False.elim hq
    | cont => exact False.elim hq
/-- a call that may raise, within a comprehension -/
theorem pe_callXC (F : FnOk X.prog X.w X.K X.mg X.base (CX1 X.prog X.w) k f fd ps sp) (hr : Room k X.A) (hg : Gl X x) (hm : X.mg x = some (.ref f)) (hk : PySem.W.keepIn X.K (.ref f) = true) (hb : Binds X.K fd ps ds) (hd : Vals dvs ds) (hx : LandsC X EX)
    (ha : PA X (e :: es) t) (hdb : (x == ("__debug__" : Str)) = false := by decide) (he : starEach (e :: es) X.env = (false, eval e X.env) :: starEach es X.env := by rfl) (hpl : (backTo pos (starEach es X.env)).any (·.1) = false := by rfl) :
    PE X (.Call (.Name x p) (e :: es) [] pos) (tCallX sp dvs (fun _ C H => EX C H) t) := by
  intro pins s σ H Q I h
  refine wpAny_Call_Name_kw (ld_glob I hg hm ?_ hdb)
  refine PySem.W.callWith_K (h₀ := X.base) I.ok.mod.kin hk (thn (ha pos pins s σ H _ I h) fun us s1 ⟨vs, H1, I1, r, q⟩ => ⟨I1.kIn, ?_⟩) he hpl
  exact run_fnXC F hr hb hd hx I1 r q
end
end L2

namespace Cw
open PySem L2
noncomputable def top (i : Nat) : Stmt := PySem.Challenge.pw_crystalwords_k82_lays.main.body.getD i (.Pass ⟨0, 0, 0, 0⟩)
noncomputable abbrev s_divisor : Stmt := top 19
noncomputable abbrev N_divisor : List Str := ["one", "other", "greater", "lesser", "remainder"]
noncomputable abbrev s_place : Stmt := top 21
noncomputable abbrev N_place : List Str := ["tops", "under", "common", "top"]
noncomputable abbrev s_dot : Stmt := top 23
noncomputable abbrev N_dot : List Str := ["one", "other"]
noncomputable abbrev s_moved : Stmt := top 25
noncomputable abbrev N_moved : List Str := ["one", "spot", "tops"]
noncomputable abbrev s_seats : Stmt := top 27
noncomputable abbrev N_seats : List Str := ["n", "m"]
noncomputable abbrev s_seat_at : Stmt := top 28
noncomputable abbrev N_seat_at : List Str := ["spot", "n", "m", "under", "down", "along"]
noncomputable abbrev s_seats_reached : Stmt := top 29
noncomputable abbrev N_seats_reached : List Str := ["one", "n", "m", "spots"]
noncomputable abbrev s_sign_at : Stmt := top 30
noncomputable abbrev N_sign_at : List Str := ["drawing", "seat"]
noncomputable abbrev s_lays : Stmt := top 31
noncomputable abbrev N_lays : List Str := ["drawing", "one", "n", "m", "seat", "reached"]
noncomputable abbrev s_law_cell_at : Stmt := top 33
noncomputable abbrev N_law_cell_at : List Str := ["_law_script", "_law_k"]
noncomputable abbrev s_law_whole : Stmt := top 34
noncomputable abbrev N_law_whole : List Str := ["_law_found"]
noncomputable abbrev s_law_common : Stmt := top 35
noncomputable abbrev N_law_common : List Str := ["_law_one", "_law_other"]
noncomputable abbrev s_law_drawing : Stmt := top 36
noncomputable abbrev N_law_drawing : List Str := ["_law_cells", "_law_n", "_law_m", "_law_way", "_law_rows_here", "_law_i", "_law_row", "_law_j", "_law_by"]
noncomputable abbrev s_law_times : Stmt := top 37
noncomputable abbrev N_law_times : List Str := ["_law_one", "_law_other", "_law_d", "_law_found", "_law_i"]
noncomputable abbrev s_law_rows : Stmt := top 38
noncomputable abbrev N_law_rows : List Str := ["_law_cell", "_law_sort", "_law_rows_here", "_law_k", "_law_by"]
noncomputable abbrev s_law_deed : Stmt := top 39
noncomputable abbrev N_law_deed : List Str := ["_law_cells", "_law_n", "_law_m", "_law_rows_here", "_law_tops", "_law_under", "_law_by"]
noncomputable abbrev s_law_reached : Stmt := top 40
noncomputable abbrev N_law_reached : List Str := ["_law_one", "_law_i", "_law_j", "_law_n", "_law_m", "_law_rows_here", "_law_tops", "_law_under", "_law_spot", "_law_row", "_law_top", "_law_far"]
noncomputable abbrev s_law_due : Stmt := top 41
noncomputable abbrev N_law_due : List Str := ["_law_drawing_here", "_law_one", "_law_first", "_law_n", "_law_m", "_law_i", "_law_j", "_law_there"]
noncomputable abbrev s_law_others : Stmt := top 42
noncomputable abbrev N_law_others : List Str := ["_law_e"]
noncomputable abbrev s_law_only : Stmt := top 43
noncomputable abbrev N_law_only : List Str := ["_law_e"]
noncomputable abbrev s_law_right : Stmt := top 44
noncomputable abbrev N_law_right : List Str := ["_law_drawing_here", "_law_one", "_law_due_here", "_law_refused", "_law_only_here", "_law_told", "_law_e"]
noncomputable abbrev s_law : Stmt := top 45
noncomputable abbrev N_law : List Str := ["_law_script", "_law_at", "_law_cells", "_law_drawing_here", "_law_one", "_law_due_here", "_law_rested", "_law_some"]
theorem sc_divisor : FnScope N_divisor ["one", "other"] (defScope s_divisor) := ⟨rfl, rfl, rfl, by decide +kernel, rfl, by decide +kernel, by decide +kernel⟩
theorem sc_place : FnScope N_place ["tops", "under"] (defScope s_place) := ⟨rfl, rfl, rfl, by decide +kernel, rfl, by decide +kernel, by decide +kernel⟩
theorem sc_dot : FnScope N_dot ["one", "other"] (defScope s_dot) := ⟨rfl, rfl, rfl, by decide +kernel, rfl, by decide +kernel, by decide +kernel⟩
theorem sc_moved : FnScope N_moved ["one", "spot"] (defScope s_moved) := ⟨rfl, rfl, rfl, by decide +kernel, rfl, by decide +kernel, by decide +kernel⟩
theorem sc_seats : FnScope N_seats ["n", "m"] (defScope s_seats) := ⟨rfl, rfl, rfl, by decide +kernel, rfl, by decide +kernel, by decide +kernel⟩
theorem sc_seat_at : FnScope N_seat_at ["spot", "n", "m"] (defScope s_seat_at) := ⟨rfl, rfl, rfl, by decide +kernel, rfl, by decide +kernel, by decide +kernel⟩
theorem sc_seats_reached : FnScope N_seats_reached ["one", "n", "m"] (defScope s_seats_reached) := ⟨rfl, rfl, rfl, by decide +kernel, rfl, by decide +kernel, by decide +kernel⟩
theorem sc_sign_at : FnScope N_sign_at ["drawing", "seat"] (defScope s_sign_at) := ⟨rfl, rfl, rfl, by decide +kernel, rfl, by decide +kernel, by decide +kernel⟩
theorem sc_lays : FnScope N_lays ["drawing", "one"] (defScope s_lays) := ⟨rfl, rfl, rfl, by decide +kernel, rfl, by decide +kernel, by decide +kernel⟩
theorem sc_law_cell_at : FnScope N_law_cell_at ["_law_script", "_law_k"] (defScope s_law_cell_at) := ⟨rfl, rfl, rfl, by decide +kernel, rfl, by decide +kernel, by decide +kernel⟩
theorem sc_law_whole : FnScope N_law_whole ["_law_found"] (defScope s_law_whole) := ⟨rfl, rfl, rfl, by decide +kernel, rfl, by decide +kernel, by decide +kernel⟩
theorem sc_law_common : FnScope N_law_common ["_law_one", "_law_other"] (defScope s_law_common) := ⟨rfl, rfl, rfl, by decide +kernel, rfl, by decide +kernel, by decide +kernel⟩
theorem sc_law_drawing : FnScope N_law_drawing ["_law_cells"] (defScope s_law_drawing) := ⟨rfl, rfl, rfl, by decide +kernel, rfl, by decide +kernel, by decide +kernel⟩
theorem sc_law_times : FnScope N_law_times ["_law_one", "_law_other"] (defScope s_law_times) := ⟨rfl, rfl, rfl, by decide +kernel, rfl, by decide +kernel, by decide +kernel⟩
theorem sc_law_rows : FnScope N_law_rows ["_law_cell"] (defScope s_law_rows) := ⟨rfl, rfl, rfl, by decide +kernel, rfl, by decide +kernel, by decide +kernel⟩
theorem sc_law_deed : FnScope N_law_deed ["_law_cells", "_law_n", "_law_m"] (defScope s_law_deed) := ⟨rfl, rfl, rfl, by decide +kernel, rfl, by decide +kernel, by decide +kernel⟩
theorem sc_law_reached : FnScope N_law_reached ["_law_one", "_law_i", "_law_j", "_law_n", "_law_m"] (defScope s_law_reached) := ⟨rfl, rfl, rfl, by decide +kernel, rfl, by decide +kernel, by decide +kernel⟩
theorem sc_law_due : FnScope N_law_due ["_law_drawing_here", "_law_one"] (defScope s_law_due) := ⟨rfl, rfl, rfl, by decide +kernel, rfl, by decide +kernel, by decide +kernel⟩
theorem sc_law_others : FnScope N_law_others ["_law_e"] (defScope s_law_others) := ⟨rfl, rfl, rfl, by decide +kernel, rfl, by decide +kernel, by decide +kernel⟩
theorem sc_law_only : FnScope N_law_only ["_law_e"] (defScope s_law_only) := ⟨rfl, rfl, rfl, by decide +kernel, rfl, by decide +kernel, by decide +kernel⟩
theorem sc_law_right : FnScope N_law_right ["_law_drawing_here", "_law_one", "_law_due_here"] (defScope s_law_right) := ⟨rfl, rfl, rfl, by decide +kernel, rfl, by decide +kernel, by decide +kernel⟩
theorem sc_law : FnScope N_law ["_law_script"] (defScope s_law) := ⟨rfl, rfl, rfl, by decide +kernel, rfl, by decide +kernel, by decide +kernel⟩
structure Adr where
  a_divisor : Addr
  d_divisor : FuncData
  a_place : Addr
  d_place : FuncData
  a_dot : Addr
  d_dot : FuncData
  a_moved : Addr
  d_moved : FuncData
  a_seats : Addr
  d_seats : FuncData
  a_seat_at : Addr
  d_seat_at : FuncData
  a_seats_reached : Addr
  d_seats_reached : FuncData
  a_sign_at : Addr
  d_sign_at : FuncData
  a_lays : Addr
  d_lays : FuncData
  a_law_cell_at : Addr
  d_law_cell_at : FuncData
  a_law_whole : Addr
  d_law_whole : FuncData
  a_law_common : Addr
  d_law_common : FuncData
  a_law_drawing : Addr
  d_law_drawing : FuncData
  a_law_times : Addr
  d_law_times : FuncData
  a_law_rows : Addr
  d_law_rows : FuncData
  a_law_deed : Addr
  d_law_deed : FuncData
  a_law_reached : Addr
  d_law_reached : FuncData
  a_law_due : Addr
  d_law_due : FuncData
  a_law_others : Addr
  d_law_others : FuncData
  a_law_only : Addr
  d_law_only : FuncData
  a_law_right : Addr
  d_law_right : FuncData
  a_law : Addr
  d_law : FuncData
  a_CrystalError : Addr
  a_NoPlace : Addr
  a_NoDeed : Addr
  a_NoNumber : Addr
  a_NoText : Addr
  a_TooMany : Addr
  a_NoChange : Addr
  a_NotKept : Addr
  a_NoForm : Addr
  a_NotWithin : Addr
  a_NotLeast : Addr
  a_NoDrawing : Addr
  a_OffSheet : Addr
  a_NoSheet : Addr
  a_NoRow : Addr
  a_NoName : Addr
structure Txt (K : PySem.W.Frag) (mg : Str → Option Value) (t : Adr) : Prop where
  F_divisor : Fun K "divisor" "divisor" s_divisor t.a_divisor t.d_divisor
  m_divisor : mg "divisor" = some (.ref t.a_divisor)
  b_divisor : Binds K t.d_divisor ["one", "other"] []
  F_place : Fun K "place" "place" s_place t.a_place t.d_place
  m_place : mg "place" = some (.ref t.a_place)
  b_place : Binds K t.d_place ["tops", "under"] []
  F_dot : Fun K "dot" "dot" s_dot t.a_dot t.d_dot
  m_dot : mg "dot" = some (.ref t.a_dot)
  b_dot : Binds K t.d_dot ["one", "other"] []
  F_moved : Fun K "moved" "moved" s_moved t.a_moved t.d_moved
  m_moved : mg "moved" = some (.ref t.a_moved)
  b_moved : Binds K t.d_moved ["one", "spot"] []
  F_seats : Fun K "seats" "seats" s_seats t.a_seats t.d_seats
  m_seats : mg "seats" = some (.ref t.a_seats)
  b_seats : Binds K t.d_seats ["n", "m"] []
  F_seat_at : Fun K "seat_at" "seat_at" s_seat_at t.a_seat_at t.d_seat_at
  m_seat_at : mg "seat_at" = some (.ref t.a_seat_at)
  b_seat_at : Binds K t.d_seat_at ["spot", "n", "m"] []
  F_seats_reached : Fun K "seats_reached" "seats_reached" s_seats_reached t.a_seats_reached t.d_seats_reached
  m_seats_reached : mg "seats_reached" = some (.ref t.a_seats_reached)
  b_seats_reached : Binds K t.d_seats_reached ["one", "n", "m"] []
  F_sign_at : Fun K "sign_at" "sign_at" s_sign_at t.a_sign_at t.d_sign_at
  m_sign_at : mg "sign_at" = some (.ref t.a_sign_at)
  b_sign_at : Binds K t.d_sign_at ["drawing", "seat"] []
  F_lays : Fun K "lays" "lays" s_lays t.a_lays t.d_lays
  m_lays : mg "lays" = some (.ref t.a_lays)
  b_lays : Binds K t.d_lays ["drawing", "one"] []
  F_law_cell_at : Fun K "_law_cell_at" "_law_cell_at" s_law_cell_at t.a_law_cell_at t.d_law_cell_at
  m_law_cell_at : mg "_law_cell_at" = some (.ref t.a_law_cell_at)
  b_law_cell_at : Binds K t.d_law_cell_at ["_law_script", "_law_k"] []
  F_law_whole : Fun K "_law_whole" "_law_whole" s_law_whole t.a_law_whole t.d_law_whole
  m_law_whole : mg "_law_whole" = some (.ref t.a_law_whole)
  b_law_whole : Binds K t.d_law_whole ["_law_found"] []
  F_law_common : Fun K "_law_common" "_law_common" s_law_common t.a_law_common t.d_law_common
  m_law_common : mg "_law_common" = some (.ref t.a_law_common)
  b_law_common : Binds K t.d_law_common ["_law_one", "_law_other"] []
  F_law_drawing : Fun K "_law_drawing" "_law_drawing" s_law_drawing t.a_law_drawing t.d_law_drawing
  m_law_drawing : mg "_law_drawing" = some (.ref t.a_law_drawing)
  b_law_drawing : Binds K t.d_law_drawing ["_law_cells"] []
  F_law_times : Fun K "_law_times" "_law_times" s_law_times t.a_law_times t.d_law_times
  m_law_times : mg "_law_times" = some (.ref t.a_law_times)
  b_law_times : Binds K t.d_law_times ["_law_one", "_law_other"] []
  F_law_rows : Fun K "_law_rows" "_law_rows" s_law_rows t.a_law_rows t.d_law_rows
  m_law_rows : mg "_law_rows" = some (.ref t.a_law_rows)
  b_law_rows : Binds K t.d_law_rows ["_law_cell"] []
  F_law_deed : Fun K "_law_deed" "_law_deed" s_law_deed t.a_law_deed t.d_law_deed
  m_law_deed : mg "_law_deed" = some (.ref t.a_law_deed)
  b_law_deed : Binds K t.d_law_deed ["_law_cells", "_law_n", "_law_m"] []
  F_law_reached : Fun K "_law_reached" "_law_reached" s_law_reached t.a_law_reached t.d_law_reached
  m_law_reached : mg "_law_reached" = some (.ref t.a_law_reached)
  b_law_reached : Binds K t.d_law_reached ["_law_one", "_law_i", "_law_j", "_law_n", "_law_m"] []
  F_law_due : Fun K "_law_due" "_law_due" s_law_due t.a_law_due t.d_law_due
  m_law_due : mg "_law_due" = some (.ref t.a_law_due)
  b_law_due : Binds K t.d_law_due ["_law_drawing_here", "_law_one"] []
  F_law_others : Fun K "_law_others" "_law_others" s_law_others t.a_law_others t.d_law_others
  m_law_others : mg "_law_others" = some (.ref t.a_law_others)
  b_law_others : Binds K t.d_law_others ["_law_e"] []
  F_law_only : Fun K "_law_only" "_law_only" s_law_only t.a_law_only t.d_law_only
  m_law_only : mg "_law_only" = some (.ref t.a_law_only)
  b_law_only : Binds K t.d_law_only ["_law_e"] []
  F_law_right : Fun K "_law_right" "_law_right" s_law_right t.a_law_right t.d_law_right
  m_law_right : mg "_law_right" = some (.ref t.a_law_right)
  b_law_right : Binds K t.d_law_right ["_law_drawing_here", "_law_one", "_law_due_here"] []
  F_law : Fun K "law" "law" s_law t.a_law t.d_law
  m_law : mg "law" = some (.ref t.a_law)
  b_law : Binds K t.d_law ["_law_script"] []
  z_range : mg "range" = none
  z_len : mg "len" = none
  z_isinstance : mg "isinstance" = none
  z_tuple : mg "tuple" = none
  z_max : mg "max" = none
  z_sum : mg "sum" = none
  z_zip : mg "zip" = none
  z_abs : mg "abs" = none
  z_int : mg "int" = none
  z_bool : mg "bool" = none
  z_ValueError : mg "ValueError" = none
  m_CrystalError : mg "CrystalError" = some (.ref t.a_CrystalError)
  m_NoPlace : mg "NoPlace" = some (.ref t.a_NoPlace)
  m_NoDeed : mg "NoDeed" = some (.ref t.a_NoDeed)
  m_NoNumber : mg "NoNumber" = some (.ref t.a_NoNumber)
  m_NoText : mg "NoText" = some (.ref t.a_NoText)
  m_TooMany : mg "TooMany" = some (.ref t.a_TooMany)
  m_NoChange : mg "NoChange" = some (.ref t.a_NoChange)
  m_NotKept : mg "NotKept" = some (.ref t.a_NotKept)
  m_NoForm : mg "NoForm" = some (.ref t.a_NoForm)
  m_NotWithin : mg "NotWithin" = some (.ref t.a_NotWithin)
  m_NotLeast : mg "NotLeast" = some (.ref t.a_NotLeast)
  m_NoDrawing : mg "NoDrawing" = some (.ref t.a_NoDrawing)
  m_OffSheet : mg "OffSheet" = some (.ref t.a_OffSheet)
  m_NoSheet : mg "NoSheet" = some (.ref t.a_NoSheet)
  m_NoRow : mg "NoRow" = some (.ref t.a_NoRow)
  m_NoName : mg "NoName" = some (.ref t.a_NoName)
  k_int : PySem.W.kitOne K (.type "int") (.type "int") = some true
  k_ib : PySem.W.kitOne K (.type "int") (.type "bool") = some false
  k_tt : PySem.W.kitOne K (.type "tuple") (.type "tuple") = some true
  xm : PySem.W.exmOne K (.ref t.a_OffSheet) (.ref t.a_CrystalError) = some true
  e_ga : PySem.W.findIn K (.ref t.a_OffSheet) "__getattribute__" = some (some (.builtin "BaseException.__getattribute__"))
  e_gt : PySem.W.findIn K (.ref t.a_OffSheet) "__getattr__" = some none
  e_ca : PySem.W.findIn K (.ref t.a_OffSheet) "__class__" = some (some (.builtin "object.__class__"))
  e_cg : PySem.W.specialIn K (.builtin "object.__class__") "__get__" = some (some (.builtin "getset_descriptor.__get__"))
  e_tk : PySem.W.takesIn K (.builtin "object.__class__") = some true
  e_ob : PySem.W.mroIn K t.a_OffSheet (.type "object") = some true
  e_bx : PySem.W.mroIn K t.a_OffSheet (.type "BaseException") = some true
  i_NoPlace : PySem.W.kitOne K (.ref t.a_OffSheet) (.ref t.a_NoPlace) = some false
  i_NoDeed : PySem.W.kitOne K (.ref t.a_OffSheet) (.ref t.a_NoDeed) = some false
  i_NoNumber : PySem.W.kitOne K (.ref t.a_OffSheet) (.ref t.a_NoNumber) = some false
  i_NoText : PySem.W.kitOne K (.ref t.a_OffSheet) (.ref t.a_NoText) = some false
  i_TooMany : PySem.W.kitOne K (.ref t.a_OffSheet) (.ref t.a_TooMany) = some false
  i_NoChange : PySem.W.kitOne K (.ref t.a_OffSheet) (.ref t.a_NoChange) = some false
  i_NotKept : PySem.W.kitOne K (.ref t.a_OffSheet) (.ref t.a_NotKept) = some false
  i_NoForm : PySem.W.kitOne K (.ref t.a_OffSheet) (.ref t.a_NoForm) = some false
  i_NotWithin : PySem.W.kitOne K (.ref t.a_OffSheet) (.ref t.a_NotWithin) = some false
  i_NotLeast : PySem.W.kitOne K (.ref t.a_OffSheet) (.ref t.a_NotLeast) = some false
  i_NoDrawing : PySem.W.kitOne K (.ref t.a_OffSheet) (.ref t.a_NoDrawing) = some false
  i_OffSheet : PySem.W.kitOne K (.ref t.a_OffSheet) (.ref t.a_OffSheet) = some true
  i_NoSheet : PySem.W.kitOne K (.ref t.a_OffSheet) (.ref t.a_NoSheet) = some false
  i_NoRow : PySem.W.kitOne K (.ref t.a_OffSheet) (.ref t.a_NoRow) = some false
  i_NoName : PySem.W.kitOne K (.ref t.a_OffSheet) (.ref t.a_NoName) = some false
  i_VE : PySem.W.kitOne K (.ref t.a_OffSheet) (.type "ValueError") = some true
  x_OffSheet : PySem.W.excIn K t.a_OffSheet [.type "ValueError", .type "Exception", .type "BaseException", .type "object"] "ValueError.__new__" = true
  x_NoPlace : PySem.W.excIn K t.a_NoPlace [.type "ValueError", .type "Exception", .type "BaseException", .type "object"] "ValueError.__new__" = true
  bl : ∀ (s : Shared) (u : Value), BindsTo s t.d_law ⟨[u], []⟩ [("_law_script", u)]
local macro_rules | `(tactic| walk_at "rd2") => `(tactic| simp only [tSeq, tAsg, gName, tVar, tC, tOp, rd_rI0, rd_rI, rd_rU, tUn, tTest, tB, tIfS, tIf, tAnd, tOr, tNot, tAndV, tOrV, tNotV, tRet, tRetN, tNext, tDrop, tCall, tCallX, tCons, tNil, tCB, tTup, tLst, tPar, tSetC, tBM, tBM0, tSl, tPart, tNoPart, List.getElem?_cons_zero, List.getElem?_cons_succ, Option.some.injEq, exists_eq_left', exists_eq_left, List.set_cons_zero, List.set_cons_succ, List.cons.injEq, V.int.injEq, V.bl.injEq, V.ref.injEq, and_true, true_and, List.append_nil, ne_eq, exists_and_left, and_assoc, ↓reduceIte, Bool.not_true, Bool.not_false, Bool.false_eq_true])
noncomputable def gcdI (a b : Int) : Int := (Int.gcd a b : Int)
noncomputable def absI (u : Int) : Int := if u < 0 then -u else u
/-- the common divisor of an under and tops, as the program folds it -/
noncomputable def gl (u : Int) (ns : List Int) : Int := ns.foldl gcdI (absI u)
theorem absI_nonneg (u : Int) : 0 ≤ absI u := by unfold absI; split <;> omega
theorem absI_dvd {d u : Int} : d ∣ absI u ↔ d ∣ u := by
  unfold absI
  split
  · exact Int.dvd_neg
  · exact Iff.rfl
theorem dvd_foldl {d : Int} : ∀ (ns : List Int) (c : Int), d ∣ ns.foldl gcdI c ↔ d ∣ c ∧ ∀ t ∈ ns, d ∣ t
  | [], c => by simp
  | t :: r, c => by
    rw [List.foldl_cons, dvd_foldl r]
    unfold gcdI
    rw [Int.dvd_coe_gcd_iff]
    constructor
    · rintro ⟨⟨h1, h2⟩, h3⟩
      refine ⟨h1, fun x hx => ?_⟩
      rcases List.mem_cons.mp hx with e | e
      · rw [e]; exact h2
      · exact h3 x e
    · rintro ⟨h1, h2⟩
      exact ⟨⟨h1, h2 t List.mem_cons_self⟩, fun x hx => h2 x (List.mem_cons_of_mem _ hx)⟩
theorem dvd_gl {d u : Int} {ns : List Int} : d ∣ gl u ns ↔ d ∣ u ∧ ∀ t ∈ ns, d ∣ t := by
  unfold gl
  rw [dvd_foldl, absI_dvd]
theorem foldl_nonneg : ∀ (ns : List Int) (c : Int), 0 ≤ c → 0 ≤ ns.foldl gcdI c
  | [], _, h => h
  | t :: r, c, _ => foldl_nonneg r _ (Int.natCast_nonneg _)
theorem gl_nonneg (u : Int) (ns : List Int) : 0 ≤ gl u ns := foldl_nonneg ns _ (absI_nonneg u)
theorem gl_u (u : Int) (ns : List Int) : gl u ns ∣ u := (dvd_gl.mp (Int.dvd_refl _)).1
theorem gl_mem {u t : Int} {ns : List Int} (h : t ∈ ns) : gl u ns ∣ t := (dvd_gl.mp (Int.dvd_refl _)).2 t h
theorem gl_pos {u : Int} (ns : List Int) (h : u ≠ 0) : 0 < gl u ns := by
  have := gl_nonneg u ns
  rcases Int.lt_or_eq_of_le this with q | q
  · exact q
  · obtain ⟨k, e⟩ := gl_u u ns
    rw [← q, Int.zero_mul] at e
    exact absurd e h
theorem gl_eq_of {u v : Int} {ns ms : List Int} (h : ∀ d : Int, (d ∣ u ∧ ∀ t ∈ ns, d ∣ t) ↔ (d ∣ v ∧ ∀ t ∈ ms, d ∣ t)) : gl u ns = gl v ms :=
  Int.dvd_antisymm (gl_nonneg _ _) (gl_nonneg _ _) (dvd_gl.mpr ((h _).mp (dvd_gl.mp (Int.dvd_refl _)))) (dvd_gl.mpr ((h _).mpr (dvd_gl.mp (Int.dvd_refl _))))
theorem gl_snoc (u : Int) (ns : List Int) (t : Int) : gl u (ns ++ [t]) = gcdI (gl u ns) t := by unfold gl; rw [List.foldl_append]; rfl
/-- the divisor with the under's sign -/
noncomputable def cs (u : Int) (ns : List Int) : Int := if u < 0 then -(gl u ns) else gl u ns
theorem cs_ne {u : Int} (ns : List Int) (h : u ≠ 0) : cs u ns ≠ 0 := by
  have := gl_pos ns h
  unfold cs
  split <;> omega
theorem cs_dvd {u x : Int} {ns : List Int} (h : gl u ns ∣ x) : cs u ns ∣ x := by
  unfold cs
  split
  · exact Int.neg_dvd.mpr h
  · exact h
theorem fdiv_exact {c x : Int} (hc : c ≠ 0) (h : c ∣ x) : x.fdiv c * c = x := by
  obtain ⟨k, e⟩ := h
  subst e
  rw [Int.mul_comm c k, Int.mul_fdiv_cancel _ hc]
theorem under_pos {u : Int} (ns : List Int) (h : u ≠ 0) : 0 < u.fdiv (cs u ns) := by
  have e := fdiv_exact (cs_ne ns h) (cs_dvd (gl_u u ns))
  have g := gl_pos ns h
  rcases Int.lt_trichotomy (u.fdiv (cs u ns)) 0 with q | q | q
  · exfalso
    unfold cs at e q
    split at e
    · rename_i hu
      rw [if_pos hu] at q
      have := Int.mul_nonneg_of_nonpos_of_nonpos (Int.le_of_lt q) (show -(gl u ns) ≤ 0 by omega)
      omega
    · rename_i hu
      rw [if_neg hu] at q
      have := Int.mul_neg_of_neg_of_pos q g
      omega
  · rw [q, Int.zero_mul] at e
    exact absurd e.symm h
  · exact q
theorem cross {u t : Int} {ns : List Int} (h : u ≠ 0) (ht : t ∈ ns) : t * u.fdiv (cs u ns) = t.fdiv (cs u ns) * u := by
  have e1 := fdiv_exact (cs_ne ns h) (cs_dvd (gl_u u ns))
  have e2 := fdiv_exact (cs_ne ns h) (cs_dvd (gl_mem (u := u) ht))
  generalize u.fdiv (cs u ns) = a at *
  generalize t.fdiv (cs u ns) = b at *
  generalize cs u ns = c at *
  rw [← e2, ← e1, Int.mul_assoc, Int.mul_comm c a]
theorem gl_red {u : Int} {ns : List Int} (h : u ≠ 0) : gl (u.fdiv (cs u ns)) (ns.map fun t => t.fdiv (cs u ns)) = 1 := by
  have hc := cs_ne ns h
  have e1 := fdiv_exact hc (cs_dvd (gl_u u ns))
  have n := gl_nonneg (u.fdiv (cs u ns)) (ns.map fun t => t.fdiv (cs u ns))
  have d := dvd_gl.mp (Int.dvd_refl (gl (u.fdiv (cs u ns)) (ns.map fun t => t.fdiv (cs u ns))))
  generalize gl (u.fdiv (cs u ns)) (ns.map fun t => t.fdiv (cs u ns)) = g at *
  have key : g * cs u ns ∣ gl u ns := by
    refine dvd_gl.mpr ⟨?_, fun t ht => ?_⟩
    · have := Int.mul_dvd_mul d.1 (Int.dvd_refl (cs u ns))
      rw [e1] at this
      exact this
    · have := Int.mul_dvd_mul (d.2 _ (List.mem_map.mpr ⟨t, ht, rfl⟩)) (Int.dvd_refl (cs u ns))
      rw [fdiv_exact hc (cs_dvd (gl_mem (u := u) ht))] at this
      exact this
  have key2 : g * cs u ns ∣ 1 * cs u ns := by
    rw [Int.one_mul]
    unfold cs at key ⊢
    split at key
    · rename_i hu
      rw [if_pos hu]
      exact Int.dvd_neg.mpr key
    · rename_i hu
      rw [if_neg hu]
      exact key
  have : g ∣ 1 := Int.dvd_of_mul_dvd_mul_right hc key2
  have := Int.le_of_dvd (by decide) this
  rcases (show g = 0 ∨ g = 1 by omega) with q | q
  · subst q
    have z := d.1
    rw [Int.zero_dvd] at z
    rw [z, Int.zero_mul] at e1
    exact absurd e1.symm h
  · exact q
theorem cs_one {u : Int} {ns : List Int} (h : 0 < u) (g : gl u ns = 1) : cs u ns = 1 := by
  unfold cs
  rw [if_neg (by omega), g]
theorem red_same {u : Int} {ns : List Int} (h : 0 < u) (g : gl u ns = 1) : (ns.map fun t => t.fdiv (cs u ns)) = ns ∧ u.fdiv (cs u ns) = u := by
  rw [cs_one h g]
  refine ⟨?_, Int.fdiv_one u⟩
  rw [show (fun t : Int => t.fdiv 1) = id from funext fun t => Int.fdiv_one t, List.map_id]
theorem fmod_dvd {d u t : Int} (h : d ∣ u) : d ∣ t.fmod u ↔ d ∣ t := by
  rw [Int.fmod_def]
  have q : d ∣ u * t.fdiv u := Int.dvd_mul_of_dvd_left h
  constructor
  · intro z
    have := Int.dvd_add z q
    rwa [Int.sub_add_cancel] at this
  · intro z
    exact Int.dvd_sub z q
theorem gl_rest (u : Int) (ns : List Int) : gl u (ns.map fun t => t.fmod u) = gl u ns := by
  refine gl_eq_of fun d => ?_
  constructor
  · rintro ⟨h1, h2⟩
    exact ⟨h1, fun t ht => (fmod_dvd h1).mp (h2 _ (List.mem_map.mpr ⟨t, ht, rfl⟩))⟩
  · rintro ⟨h1, h2⟩
    refine ⟨h1, fun x hx => ?_⟩
    obtain ⟨t, ht, e⟩ := List.mem_map.mp hx
    subst e
    exact (fmod_dvd h1).mpr (h2 t ht)
theorem rest_rest {u : Int} (hu : 0 < u) (ns : List Int) : ((ns.map fun t => t.fmod u).map fun t => t.fmod u) = ns.map fun t => t.fmod u := by
  rw [List.map_map]
  refine List.map_congr_left fun t _ => ?_
  show (t.fmod u).fmod u = t.fmod u
  rw [Int.fmod_eq_emod_of_nonneg t (Int.le_of_lt hu), Int.fmod_eq_emod_of_nonneg _ (Int.le_of_lt hu)]
  exact Int.emod_emod_of_dvd t (Int.dvd_refl u)
/-- the places beside: every second number one whole less -/
noncomputable def besd (u : Int) (rs : List Int) : List Int := rs.mapIdx fun k t => t - (k : Int) % 2 * u
theorem gl_besd (u : Int) (rs : List Int) : gl u (besd u rs) = gl u rs := by
  refine gl_eq_of fun d => ?_
  unfold besd
  constructor
  · rintro ⟨h1, h2⟩
    refine ⟨h1, fun t ht => ?_⟩
    obtain ⟨k, hk, e⟩ := List.getElem_of_mem ht
    have q := h2 (t - (k : Int) % 2 * u) (by
      rw [List.mem_mapIdx]
      exact ⟨k, hk, by rw [e]⟩)
    have := Int.dvd_add q (show d ∣ (k : Int) % 2 * u from Int.dvd_mul_of_dvd_right h1)
    rwa [Int.sub_add_cancel] at this
  · rintro ⟨h1, h2⟩
    refine ⟨h1, fun x hx => ?_⟩
    rw [List.mem_mapIdx] at hx
    obtain ⟨k, hk, e⟩ := hx
    subst e
    exact Int.dvd_sub (h2 _ (List.getElem_mem hk)) (Int.dvd_mul_of_dvd_right h1)
theorem rest_besd {u : Int} (hu : 0 < u) {rs : List Int} (h : ∀ r ∈ rs, 0 ≤ r ∧ r < u) : ((besd u rs).map fun t => t.fmod u) = rs := by
  unfold besd
  refine List.ext_getElem (by simp) fun k h1 h2 => ?_
  rw [List.getElem_map, List.getElem_mapIdx]
  have hr := h _ (List.getElem_mem h2)
  rw [Int.fmod_eq_emod_of_nonneg _ (Int.le_of_lt hu), Int.sub_mul_emod_self_right]
  exact Int.emod_eq_of_lt hr.1 hr.2
theorem rest_in {u : Int} (hu : 0 < u) (ns : List Int) : ∀ r ∈ ns.map (fun t => t.fmod u), 0 ≤ r ∧ r < u := fun r hr => by
  obtain ⟨t, _, e⟩ := List.mem_map.mp hr
  subst e
  exact ⟨Int.fmod_nonneg_of_pos t hu, Int.fmod_lt_of_pos t hu⟩
theorem rest_diff {u : Int} (hu : 0 < u) (t : Int) : (t.fmod u - t).fmod u = 0 := by
  rw [Int.fmod_eq_emod_of_nonneg t (Int.le_of_lt hu), Int.fmod_eq_emod_of_nonneg _ (Int.le_of_lt hu)]
  exact Int.emod_eq_zero_of_dvd (by
    have := Int.emod_add_mul_ediv t u
    exact ⟨-(t / u), by rw [Int.mul_neg]; omega⟩)
noncomputable def big : Int := 10 ^ 100
theorem big_gt : 5000 < big := by decide +kernel
theorem big_lt : big < 2 ^ 400 := by decide +kernel
theorem gcd_fmodI (g l : Int) : Int.gcd l (Int.fmod g l) = Int.gcd g l := by
  rw [Int.fmod_def, Int.gcd_sub_mul_left_right, Int.gcd_comm]
theorem absI_gcd (a b : Int) : Int.gcd (if a < 0 then -a else a) (if b < 0 then -b else b) = Int.gcd a b := by
  split <;> split <;> simp
theorem absI_nn (a : Int) : 0 ≤ (if a < 0 then -a else a) := by split <;> omega
theorem gcd_end {g l a b : Int} (h : Int.gcd g l = Int.gcd a b) (hg : 0 ≤ g) (z : l = 0) : g = gcdI a b := by
  rw [z, Int.gcd_zero_right] at h
  unfold gcdI
  rw [← h]
  omega
noncomputable def sp_gcd : Sp := fun vs H Q _ => ∃ a b, vs = [.int a, .int b] ∧ Q (.int (gcdI a b)) H
noncomputable abbrev sp_divisor : Sp := sp_gcd
noncomputable abbrev sp_law_common : Sp := sp_gcd
/-- a place stands at p -/
noncomputable def PlaceAt (H : Hp) (p : Addr) (ns : List Int) (u : Int) : Prop := ∃ q, H p = some (.tup [.ref q, .int u]) ∧ H q = some (.tup (ns.map V.int))
theorem PlaceAt.up {H H' : Hp} {p : Addr} {ns : List Int} {u : Int} (h : PlaceAt H p ns u) (s : Same H H') : PlaceAt H' p ns u := let ⟨q, h1, h2⟩ := h; ⟨q, s _ _ h1, s _ _ h2⟩
noncomputable def small (n : Int) : Prop := -big < n ∧ n < big
theorem sizeBig {n : Nat} (h : n ≤ 1000) : n < sizeLine := small1000 h
theorem small_log {c : Int} (h : small c) (z : c ≠ 0) : c.natAbs.log2 < 9000 := by
  have hl := big_lt
  have : c.natAbs < 2 ^ 400 := by
    have e2 : ((2 ^ 400 : Nat) : Int) = (2 : Int) ^ 400 := by decide +kernel
    obtain ⟨h1, h2⟩ := h
    omega
  exact Nat.lt_of_lt_of_le ((Nat.log2_lt (by omega)).mpr this) (by decide)
theorem small_dvd {c u : Int} (h : small u) (z : u ≠ 0) (d : c ∣ u) : small c := by
  have := Int.natAbs_dvd_natAbs.mpr d
  have := Nat.le_of_dvd (by omega) this
  obtain ⟨h1, h2⟩ := h
  constructor <;> omega

noncomputable def redT (u : Int) (ns : List Int) : List Int := ns.map fun t => t.fdiv (cs u ns)
noncomputable def redU (u : Int) (ns : List Int) : Int := u.fdiv (cs u ns)
noncomputable def restT (u : Int) (ns : List Int) : List Int := ns.map fun t => t.fmod u
noncomputable def sp_place (K : PySem.W.Frag) (C : Addr) : Sp := fun vs H Q E => ∃ (b : Bool) (a : Addr) (ns : List Int) (u : Int), vs = [.ref a, .int u] ∧ SqB b K H a (ns.map V.int) ∧ ns.length ≤ 100 ∧ small u ∧
  ((u = 0 ∨ ns = []) → E (.ref C) none H) ∧ (u ≠ 0 → ns ≠ [] → ∀ p H', Same H H' → PlaceAt H' p (redT u ns) (redU u ns) → Q (.ref p) H')
noncomputable def sp_rest_place (K : PySem.W.Frag) : Sp := fun vs H Q _ => ∃ (p : Addr) (ns : List Int) (u : Int), vs = [.ref p] ∧ PlaceAt H p ns u ∧ ns.length ≤ 100 ∧ 0 < u ∧ ∀ p' H', Same H H' → PlaceAt H' p' (restT u ns) u → Q (.ref p') H'
theorem take_snoc {α : Type} {ns : List α} {i : Nat} {n : α} (h : ns[i]? = some n) : ns.take (i + 1) = ns.take i ++ [n] := by
  rw [List.take_add_one, h]
  rfl

noncomputable def sp_dot (K : PySem.W.Frag) : Sp := fun vs H Q _ => ∃ (b1 b2 : Bool) (p q : Addr) (ms ns : List Int), vs = [.ref p, .ref q] ∧ SqB b1 K H p (ms.map V.int) ∧ SqB b2 K H q (ns.map V.int) ∧ ms.length = ns.length ∧ ms.length ≤ 1000 ∧
  (∀ (i : Nat) m n, ms[i]? = some m → ns[i]? = some n → IntMulOk m n) ∧ ∀ H', Same H H' → Q (.int (dotI ms ns)) H'
noncomputable def sp_turned (K : PySem.W.Frag) : Sp := fun vs H Q _ => ∃ (b1 b2 : Bool) (a : Addr) (rows : List (List Int)) (w : Nat), vs = [.ref a] ∧ MatB b1 b2 K H a rows ∧ rows ≠ [] ∧ (∀ r ∈ rows, r.length = w) ∧ w ≤ 1000 ∧ rows.length ≤ 1000 ∧
  ∀ r H', H r = none → Same H H' → MatL H' r (turnM w rows) → Q (.ref r) H'
/-- what may be multiplied -/
noncomputable def MulOkM (A B : List (List Int)) : Prop := ∀ r ∈ A, ∀ x ∈ r, ∀ r' ∈ B, ∀ y ∈ r', IntMulOk x y
noncomputable def sp_times (K : PySem.W.Frag) : Sp := fun vs H Q _ => ∃ (b1 b2 b3 b4 : Bool) (a b : Addr) (A B : List (List Int)) (w : Nat), vs = [.ref a, .ref b] ∧ MatB b1 b2 K H a A ∧ MatB b3 b4 K H b B ∧ B ≠ [] ∧ (∀ r ∈ B, r.length = w) ∧ (∀ r ∈ A, r.length = B.length) ∧
  w ≤ 1000 ∧ A.length ≤ 1000 ∧ B.length ≤ 1000 ∧ MulOkM A B ∧ ∀ r H', H r = none → Same H H' → MatL H' r (mulM w A B) → Q (.ref r) H'

noncomputable def minorM (i k : Nat) (rows : List (List Int)) : List (List Int) := (rows.eraseIdx i).map fun r => r.eraseIdx k
noncomputable def sg (k : Nat) : Int := if k % 2 = 0 then 1 else -1
noncomputable def altS (f : Nat → Int) : Nat → Int
  | 0 => 0
  | k + 1 => altS f k + sg k * f k
/-- the determinant of n rows of n numbers -/
noncomputable def detM : Nat → List (List Int) → Int
  | 0, _ => 1
  | 1, rows => (rows.getD 0 []).getD 0 0
  | n + 2, rows => altS (fun k => (rows.getD 0 []).getD k 0 * detM (n + 1) (minorM 0 k rows)) (n + 2)
noncomputable def Sq (n : Nat) (rows : List (List Int)) : Prop := rows.length = n ∧ ∀ r ∈ rows, r.length = n
noncomputable def BitsM (B : Nat) (rows : List (List Int)) : Prop := ∀ r ∈ rows, ∀ x ∈ r, x.natAbs < 2 ^ B
theorem sg_succ (k : Nat) : -sg k = sg (k + 1) := by
  unfold sg
  by_cases h : k % 2 = 0
  · rw [if_pos h, if_neg (by omega)]
  · rw [if_neg h, if_pos (by omega)]
    rfl
theorem sg_abs (k : Nat) : (sg k).natAbs = 1 := by unfold sg; split <;> rfl
theorem Sq.minor {n i k : Nat} {rows : List (List Int)} (h : Sq (n + 1) rows) (hi : i < n + 1) (hk : k < n + 1) : Sq n (minorM i k rows) := by
  refine ⟨?_, fun r hr => ?_⟩
  · unfold minorM
    rw [List.length_map, List.length_eraseIdx, h.1, if_pos hi]
    rfl
  · obtain ⟨z, hz, rfl⟩ := List.mem_map.mp hr
    have hl := h.2 z (List.mem_of_mem_eraseIdx hz)
    rw [List.length_eraseIdx, hl, if_pos hk]
    rfl
theorem BitsM.minor {B i k : Nat} {rows : List (List Int)} (h : BitsM B rows) : BitsM B (minorM i k rows) := fun r hr x hx => by
  obtain ⟨z, hz, rfl⟩ := List.mem_map.mp hr
  exact h z (List.mem_of_mem_eraseIdx hz) x (List.mem_of_mem_eraseIdx hx)
theorem altS_abs {f : Nat → Int} {M : Nat} : ∀ n : Nat, (∀ k < n, (f k).natAbs ≤ M) → (altS f n).natAbs ≤ n * M
  | 0, _ => by simp [altS]
  | n + 1, h => by
    have h1 := altS_abs n fun k hk => h k (by omega)
    have h2 := h n (by omega)
    show (altS f n + sg n * f n).natAbs ≤ _
    have h3 := Int.natAbs_add_le (altS f n) (sg n * f n)
    rw [Int.natAbs_mul, sg_abs, Nat.one_mul] at h3
    rw [Nat.succ_mul]
    omega
theorem row0 {n : Nat} {rows : List (List Int)} (h : Sq (n + 1) rows) : rows[0]? = some (rows.getD 0 []) ∧ rows.getD 0 [] ∈ rows := by
  have hl : 0 < rows.length := by have := h.1; omega
  have e : rows.getD 0 [] = rows[0] := by simp [hl]
  rw [e]
  exact ⟨by simp [hl], List.getElem_mem hl⟩
theorem det_abs {B : Nat} : ∀ (n : Nat) (rows : List (List Int)), 1 ≤ n → n ≤ 4 → Sq n rows → BitsM B rows → (detM n rows).natAbs ≤ 2 ^ (n * (B + 2))
  | 0, _, h, _, _, _ => by omega
  | 1, rows, _, _, hs, hb => by
    have hr := row0 hs
    have hl : 0 < (rows.getD 0 []).length := by rw [hs.2 _ hr.2]; decide
    have := hb _ hr.2 _ (L2.getD_mem hl)
    show ((rows.getD 0 []).getD 0 0).natAbs ≤ _
    have : 2 ^ B ≤ 2 ^ (1 * (B + 2)) := Nat.pow_le_pow_right (by decide) (by omega)
    omega
  | n + 2, rows, _, h4, hs, hb => by
    have hr := row0 hs
    have key : ∀ k < n + 2, ((rows.getD 0 []).getD k 0 * detM (n + 1) (minorM 0 k rows)).natAbs ≤ 2 ^ B * 2 ^ ((n + 1) * (B + 2)) := fun k hk => by
      have hl : k < (rows.getD 0 []).length := by rw [hs.2 _ hr.2]; exact hk
      have h1 := hb _ hr.2 _ (L2.getD_mem hl)
      have h2 := det_abs (n + 1) (minorM 0 k rows) (by omega) (by omega) (hs.minor (by omega) hk) hb.minor
      rw [Int.natAbs_mul]
      exact Nat.mul_le_mul (Nat.le_of_lt h1) h2
    have := altS_abs (n + 2) key
    have e : 2 ^ ((n + 2) * (B + 2)) = 4 * (2 ^ B * 2 ^ ((n + 1) * (B + 2))) := by
      rw [← Nat.pow_add, show (4 : Nat) = 2 ^ 2 from rfl, ← Nat.pow_add]
      congr 1
      rw [Nat.add_mul, Nat.add_mul]
      omega
    show (altS _ (n + 2)).natAbs ≤ _
    rw [e]
    refine Nat.le_trans this (Nat.mul_le_mul_right _ (by omega))
theorem bits_of {x : Int} {B : Nat} (h : x.natAbs < 2 ^ B) : Builtin.Int.intBits x ≤ B := intBits_le_iff.mpr h
noncomputable def sp_without (K : PySem.W.Frag) : Sp := fun vs H Q _ => ∃ (b1 b2 : Bool) (a : Addr) (rows : List (List Int)) (i k w : Nat), vs = [.ref a, .int i, .int k] ∧ MatB b1 b2 K H a rows ∧ (∀ r ∈ rows, r.length = w) ∧ k < w ∧ w ≤ 1000 ∧ rows.length ≤ 1000 ∧
  ∀ r H', H r = none → Same H H' → MatL H' r (minorM i k rows) → Q (.ref r) H'
noncomputable def sp_determinant (K : PySem.W.Frag) : Nat → Sp
  | 0 => fun _ _ _ _ => False
  | n + 1 => fun vs H Q _ => ∃ (b1 b2 : Bool) (a : Addr) (rows : List (List Int)) (B : Nat), vs = [.ref a] ∧ MatB b1 b2 K H a rows ∧ Sq (n + 1) rows ∧ n ≤ 3 ∧ BitsM B rows ∧ B ≤ 1000000 ∧ ∀ H', Same H H' → Q (.int (detM (n + 1) rows)) H'
section
variable {g : TG} {tt : TOx} {fr : List (Str × Nat)} {σ : St} {a : Addr} {H : Hp} {Q : VK} {K : PySem.W.Frag}
theorem cg_enumI {b : Bool} {l : Addr} {xs : List V} (P : Nat → List V → Hp → Prop) (ha : H a = none) (hS : SqB b K H l xs) (hz : xs.length ≤ 1000) (h0 : P 0 [] (upd H a (.lst [])))
    (hl : ∀ i zs H1, P i zs H1 → zs.length ≤ i) (mono : ∀ i zs H1 H2, P i zs H1 → SameX a H1 H2 → P i zs H2)
    (he : ∀ i x H1 zs, xs[i]? = some x → Same H H1 → H1 a = some (.lst zs) → P i zs H1 → ∀ C : Option V → Hp → Prop,
      (∀ y H2, Same H1 H2 → P (i + 1) (zs ++ [y]) H2 → C (some y) H2) → (∀ H2, Same H1 H2 → P (i + 1) zs H2 → C none H2) → tt (some (.int i) :: some x :: frees fr σ) H1 C)
    (hd : ∀ H1 ys, Same H H1 → H1 a = some (.lst ys) → P xs.length ys H1 → Q (.ref a) H1) :
    CompWG (Ite K b l) (gTup K 2 (gCons (gName 0) (gCons (gName 1) gNil))) tt 2 fr σ a H Q := by
  refine cg_inv xs.length P ha hz h0 hl mono (fun i H1 hi s => ⟨xs, xs[i], hS.up s, by simp [hi]⟩) (fun H1 s => ⟨xs, hS.up s, rfl⟩) ?_ hd
  intro i H1 zs hi s1 ez p os x H3 hos hy C hC1 hC2
  obtain ⟨q, x, rfl, hp, rfl, hx⟩ := hy
  refine ⟨q, [.int i, x], rfl, SqT.of upd_same, rfl, _, [x], rfl, x, [], rfl, rfl, ?_⟩
  have sn : Same H1 (upd H1 q (.tup [.int i, x])) := Same.new hp
  match os, hos with
  | [o, o'], _ =>
    exact ⟨⟨[some (.int i), some x], rfl, rfl⟩, he i x _ zs (hx xs (hS.up s1)) (s1.trans sn) (sn _ _ ez) (mono _ _ _ _ p sn.x) C (fun y H2 s2 r => hC1 y H2 (sn.trans s2) r) fun H2 s2 r => hC2 H2 (sn.trans s2) r⟩
end
theorem SqB.cut {b : Bool} {K : PySem.W.Frag} {H : Hp} {p : Addr} {xs : List V} : SqB b K (upd H p (seqO b xs)) p xs := by
  cases b
  · exact SqB.lst upd_same
  · exact SqB.tup upd_same
theorem erase_take {α : Type} {rows : List α} {i0 t : Nat} {r : α} (e : rows[t]? = some r) : (rows.take (t + 1)).eraseIdx i0 = if t = i0 then (rows.take t).eraseIdx i0 else (rows.take t).eraseIdx i0 ++ [r] := by
  have ht : t < rows.length := (List.getElem?_eq_some_iff.mp e).1
  have hl : (rows.take t).length = t := by rw [List.length_take]; omega
  rw [List.take_add_one, e]
  show (rows.take t ++ [r]).eraseIdx i0 = _
  by_cases h : t = i0
  · rw [if_pos h, List.eraseIdx_append_of_length_le (by omega), hl, h, Nat.sub_self, List.eraseIdx_of_length_le (l := rows.take i0) (by rw [List.length_take]; omega)]
    simp
  · rw [if_neg h]
    by_cases h2 : i0 < t
    · rw [List.eraseIdx_append_of_lt_length (by omega)]
    · rw [List.eraseIdx_append_of_length_le (by omega), hl, List.eraseIdx_of_length_le (l := rows.take t) (by omega)]
      congr 1
      rw [List.eraseIdx_of_length_le]
      simp
      omega

theorem dot_abs {B C : Nat} : ∀ (ms ns : List Int), (∀ x ∈ ms, x.natAbs < 2 ^ B) → (∀ y ∈ ns, y.natAbs < 2 ^ C) → (dotI ms ns).natAbs ≤ ms.length * 2 ^ (B + C)
  | [], ns, _, _ => by simp [dotI]
  | m :: ms, [], _, _ => by simp [dotI]
  | m :: ms, n :: ns, h1, h2 => by
    have ih := dot_abs ms ns (fun x hx => h1 x (List.mem_cons_of_mem _ hx)) (fun y hy => h2 y (List.mem_cons_of_mem _ hy))
    have e : dotI (m :: ms) (n :: ns) = m * n + dotI ms ns := by simp [dotI]
    have hm := h1 m List.mem_cons_self
    have hn := h2 n List.mem_cons_self
    have h3 : (m * n).natAbs ≤ 2 ^ (B + C) := by
      rw [Int.natAbs_mul, Nat.pow_add]
      exact Nat.mul_le_mul (Nat.le_of_lt hm) (Nat.le_of_lt hn)
    have h4 := Int.natAbs_add_le (m * n) (dotI ms ns)
    rw [e, List.length_cons, Nat.succ_mul]
    omega

/-- a deed stands at p -/
noncomputable def DeedAt (K : PySem.W.Frag) (H : Hp) (p : Addr) (M : List (List Int)) (ts : List Int) (u : Int) : Prop := ∃ pr pt, H p = some (.tup [.ref pr, .ref pt, .int u]) ∧ MatB true true K H pr M ∧ H pt = some (.tup (ts.map V.int))
theorem DeedAt.up {K : PySem.W.Frag} {H H' : Hp} {p : Addr} {M : List (List Int)} {ts : List Int} {u : Int} (h : DeedAt K H p M ts u) (s : Same H H') : DeedAt K H' p M ts u := let ⟨pr, pt, h1, h2, h3⟩ := h; ⟨pr, pt, s _ _ h1, h2.up s, s _ _ h3⟩
noncomputable def sp_joined (K : PySem.W.Frag) : Sp := fun vs H Q _ => ∃ (b1 b2 : Bool) (a p : Addr) (M : List (List Int)) (ts : List Int) (u : Int), vs = [.ref a, .ref p] ∧ MatB b1 b2 K H a M ∧ PlaceAt H p ts u ∧ M.length ≤ 100 ∧ ∀ q H', Same H H' → DeedAt K H' q M ts u → Q (.ref q) H'
/-- the tops ahead of the lowest terms -/
noncomputable def movT (M : List (List Int)) (ts : List Int) (u : Int) (ns : List Int) (v : Int) : List Int := List.zipWith (fun r t => dotI r ns * u + t * v) M ts
noncomputable def BitsL (B : Nat) (ns : List Int) : Prop := ∀ x ∈ ns, x.natAbs < 2 ^ B
/-- a deed of d axes whose numbers are not too great -/
structure Fine (d : Nat) (M : List (List Int)) (ts : List Int) (u : Int) : Prop where
  sq : Sq d M
  len : ts.length = d
  pos : 0 < u
  bm : BitsM 1000 M
  bt : BitsL 1000 ts
  bu : u < 2 ^ 150
noncomputable def sp_moved (K : PySem.W.Frag) : Sp := fun vs H Q _ => ∃ (p q : Addr) (M : List (List Int)) (ts ns : List Int) (u v : Int) (d : Nat), vs = [.ref p, .ref q] ∧ DeedAt K H p M ts u ∧ PlaceAt H q ns v ∧ Fine d M ts u ∧ 1 ≤ d ∧ d ≤ 4 ∧ ns.length = d ∧ BitsL 1000 ns ∧ 0 < v ∧ v < 2 ^ 150 ∧
  ∀ r H', Same H H' → PlaceAt H' r (redT (u * v) (movT M ts u ns v)) (redU (u * v) (movT M ts u ns v)) → Q (.ref r) H'
noncomputable def sp_behind (K : PySem.W.Frag) : Sp := fun vs H Q _ => ∃ (p q : Addr) (M N : List (List Int)) (ts ns : List Int) (u v : Int) (d : Nat), vs = [.ref p, .ref q] ∧ DeedAt K H p M ts u ∧ DeedAt K H q N ns v ∧ Fine d M ts u ∧ Fine d N ns v ∧ 1 ≤ d ∧ d ≤ 4 ∧
  ∀ r H', Same H H' → DeedAt K H' r (mulM d N M) (redT (v * u) (movT N ns v ts u)) (redU (v * u) (movT N ns v ts u)) → Q (.ref r) H'
noncomputable def sp_rest (K : PySem.W.Frag) : Sp := fun vs H Q _ => ∃ (p : Addr) (M : List (List Int)) (ts : List Int) (u : Int), vs = [.ref p] ∧ DeedAt K H p M ts u ∧ M.length ≤ 100 ∧ ts.length ≤ 100 ∧ 0 < u ∧ ∀ r H', Same H H' → DeedAt K H' r M (restT u ts) u → Q (.ref r) H'
theorem pow150 : (2 : Int) ^ 150 * 2 ^ 150 < big := by decide +kernel
theorem small_prod {u v : Int} (h1 : 0 < u) (h2 : u < 2 ^ 150) (h3 : 0 < v) (h4 : v < 2 ^ 150) : small (u * v) ∧ 0 < u * v := by
  have hp : 0 < u * v := Int.mul_pos h1 h3
  have : u * v ≤ 2 ^ 150 * 2 ^ 150 := Int.mul_le_mul (by omega) (by omega) (by omega) (by decide)
  have := pow150
  have := big_gt
  exact ⟨⟨by omega, by omega⟩, hp⟩
theorem bits150 {u : Int} (h1 : 0 < u) (h2 : u < 2 ^ 150) : u.natAbs < 2 ^ 150 := by
  have e : ((2 ^ 150 : Nat) : Int) = (2 : Int) ^ 150 := by decide +kernel
  omega

section
variable {P : Program} {w : World} {K : PySem.W.Frag} {mg : Str → Option Value} {base : Heap} {t : Adr}
theorem atI_ints {ns : List Int} {k : Int} (h0 : 0 ≤ k) (h1 : k < ns.length) : atI (ns.map V.int) k = some (.int (ns.getD k.toNat 0)) := by
  obtain ⟨j, rfl⟩ := Int.eq_ofNat_of_zero_le h0
  exact atI_at (int_at (getD_at (by omega))) rfl
noncomputable def sp_law_cell_at (K : PySem.W.Frag) : Sp := fun vs H Q _ => ∃ (p : Addr) (ns : List Int) (k : Int), vs = [.ref p, .int k] ∧ SqL K H p (ns.map V.int) ∧ 0 ≤ k ∧ Q (.int (ns.getD k.toNat 0)) H
noncomputable def sp_law_whole : Sp := fun vs H Q _ => ∃ i, vs = [.int i] ∧ Q (.bl true) H
theorem ok_law_cell_at (T : Txt K mg t) : FnOk P w K mg base CX0 1 t.a_law_cell_at t.d_law_cell_at ["_law_script", "_law_k"] (sp_law_cell_at K) := by
  refine T.F_law_cell_at.ok sc_law_cell_at (fun vs H Q E h => ?_) (fun cdv A outer s H vs Q E hr h => ?_)
  · obtain ⟨p, ns, k, rfl, _⟩ := h
    rfl
  · obtain ⟨p, ns, k, rfl, hS, h0, q⟩ := h
    refine ⟨_, (pss_cons (ps_if (pt_cmpR op_lt (pv 1) (pe_callB call_lenB rfl T.z_len (by decide +kernel) (pa_cons (pv 0) pa_nil)) (nomark _))
      (pss_one (ps_ret (pe_ix ix_B (pv 0) (pv 1) (fun _ _ => rfl))))
      pss_nil)
      (pss_one (ps_ret pe_int))), ?_⟩
    show tSeq _ _ _ [some (.ref p), some (.int k)] H
    walk_at "rd2"
    refine ints_len (b := false) hS ?_
    walk_at "rd2"
    by_cases z : k < ns.length
    · rw [decide_eq_true z]
      exact iteT ⟨false, p, _, _, _, rfl, rfl, hS, atI_ints h0 z, q⟩
    · rw [decide_eq_false z]
      refine iteF ?_
      have e : ns.getD k.toNat 0 = 0 := by
        rw [List.getD_eq_getElem?_getD, List.getElem?_eq_none (by omega)]
        rfl
      rw [e] at q
      exact q
theorem ok_law_whole (T : Txt K mg t) : FnOk P w K mg base CX0 1 t.a_law_whole t.d_law_whole ["_law_found"] sp_law_whole := by
  refine T.F_law_whole.ok sc_law_whole (fun vs H Q E h => ?_) (fun cdv A outer s H vs Q E hr h => ?_)
  · obtain ⟨i, rfl, _⟩ := h
    rfl
  · obtain ⟨i, rfl, q⟩ := h
    refine ⟨_, (pss_one (ps_ret (pe_and (pe_callB call_isi rfl T.z_isinstance (by decide +kernel) (pa_cons (pv 0) (pa_cons (pe_bltn (v := .ty "int") rfl T.z_int (by decide +kernel) rfl) pa_nil))) (pe_one (pe_not (pe_callB call_isi rfl T.z_isinstance (by decide +kernel) (pa_cons (pv 0) (pa_cons (pe_bltn (v := .ty "bool") rfl T.z_bool (by decide +kernel) rfl) pa_nil)))))))), ?_⟩
    show tRet _ _ [some (.int i)] H
    walk_at "rd2"
    refine ⟨_, _, _, _, rfl, .ty (.int i), rfl, T.k_int, ?_⟩
    walk_at "rd2"
    refine ⟨_, _, _, _, rfl, .ty (.int i), rfl, T.k_ib, ?_⟩
    walk_at "rd2"
    exact q

theorem rd_gcd {a b : Int} {H : Hp} {Q : VK} {E : XK} : sp_gcd [.int a, .int b] H Q E = Q (.int (gcdI a b)) H := propext ⟨fun ⟨_, _, e, q⟩ => by cases e; exact q, fun q => ⟨_, _, rfl, q⟩⟩
theorem ok_divisor (T : Txt K mg t) : FnOk P w K mg base CX0 1 t.a_divisor t.d_divisor ["one", "other"] sp_divisor := by
  refine T.F_divisor.ok sc_divisor (fun vs H Q E h => ?_) (fun cdv A outer s H vs Q E hr h => ?_)
  · obtain ⟨a, b, rfl, _⟩ := h
    rfl
  · obtain ⟨a, b, rfl, k⟩ := h
    refine ⟨_, (pss_cons (ps_set (i := 2) sc_divisor.nd rfl (Or.inl rfl) (pe_callB call_abs rfl T.z_abs (by decide +kernel) (pa_cons (pv 0) pa_nil)))
      (pss_cons (ps_set (i := 3) sc_divisor.nd rfl (Or.inl rfl) (pe_callB call_abs rfl T.z_abs (by decide +kernel) (pa_cons (pv 1) pa_nil)))
      (pss_cons (ps_while PassesOwn.never (pt_cmpR op_neZ (pv 3) pe_int (nomark _))
      (pss_cons (ps_set (i := 4) sc_divisor.nd rfl (Or.inl rfl) (pe_op op_modN (pv 2) (pv 3)))
      (pss_cons (ps_set (i := 2) sc_divisor.nd rfl (Or.inl rfl) (pv 3))
      (pss_one (ps_set (i := 3) sc_divisor.nd rfl (Or.inl rfl) (pv 4))))))
      (pss_one (ps_ret (pv 2)))))), ?_⟩
    show tSeq _ _ _ [some (.int a), some (.int b), none, none, none] H
    walk_at "rd2"
    refine ⟨fun m σ H1 => ∃ g l r, σ = [some (.int a), some (.int b), some (.int g), some (.int l), r] ∧ H1 = H ∧ 0 ≤ g ∧ 0 ≤ l ∧ Int.gcd g l = Int.gcd a b ∧ m = l.toNat,
      ⟨_, _, _, _, rfl, rfl, absI_nn a, absI_nn b, absI_gcd a b, rfl⟩, ?_⟩
    rintro m σ H1 ⟨g, l, r, rfl, rfl, hg, hl, e, rfl⟩
    walk_at "rd2"
    by_cases z : l = 0
    · rw [decide_eq_true z]
      refine iteF ?_
      rw [gcd_end e hg z]
      exact k
    · rw [decide_eq_false z]
      refine iteT ⟨fun σ' H' => σ' = [some (.int a), some (.int b), some (.int l), some (.int (g.fmod l)), some (.int (g.fmod l))] ∧ H' = H1, ?_, z, rfl, rfl⟩
      rintro σ' H' ⟨rfl, rfl⟩
      have l1 := Int.fmod_lt_of_pos g (show 0 < l by omega)
      have l2 := Int.fmod_nonneg_of_pos g (show 0 < l by omega)
      exact ⟨(g.fmod l).toNat, by omega, _, _, _, rfl, rfl, hl, l2, by rw [gcd_fmodI]; exact e, rfl⟩

theorem ok_law_common (T : Txt K mg t) : FnOk P w K mg base CX0 1 t.a_law_common t.d_law_common ["_law_one", "_law_other"] sp_law_common := by
  refine T.F_law_common.ok sc_law_common (fun vs H Q E h => ?_) (fun cdv A outer s H vs Q E hr h => ?_)
  · obtain ⟨a, b, rfl, _⟩ := h
    rfl
  · obtain ⟨a, b, rfl, k⟩ := h
    refine ⟨_, (pss_cons (ps_set (i := 0) sc_law_common.nd rfl (Or.inl rfl) (pe_callB call_abs rfl T.z_abs (by decide +kernel) (pa_cons (pv 0) pa_nil)))
      (pss_cons (ps_set (i := 1) sc_law_common.nd rfl (Or.inl rfl) (pe_callB call_abs rfl T.z_abs (by decide +kernel) (pa_cons (pv 1) pa_nil)))
      (pss_cons (ps_while PassesOwn.never (pt_cmpR op_gt (pv 1) pe_int (nomark _))
      (pss_one (ps_par (i := 0) (j := 1) rfl sc_law_common.nd rfl rfl (by decide) rfl rfl (pa_cons (pv 1) (pa_cons (pe_op op_modN (pv 0) (pv 1)) pa_nil)) rfl)))
      (pss_one (ps_ret (pv 0)))))), ?_⟩
    show tSeq _ _ _ [some (.int a), some (.int b)] H
    walk_at "rd2"
    refine ⟨fun m σ H1 => ∃ g l, σ = [some (.int g), some (.int l)] ∧ H1 = H ∧ 0 ≤ g ∧ 0 ≤ l ∧ Int.gcd g l = Int.gcd a b ∧ m = l.toNat,
      ⟨_, _, _, rfl, rfl, absI_nn a, absI_nn b, absI_gcd a b, rfl⟩, ?_⟩
    rintro m σ H1 ⟨g, l, rfl, rfl, hg, hl, e, rfl⟩
    walk_at "rd2"
    by_cases z : 0 < l
    · rw [decide_eq_true z]
      refine iteT ⟨fun σ' H' => σ' = [some (.int l), some (.int (g.fmod l))] ∧ H' = H1, ?_, by omega, rfl, rfl⟩
      rintro σ' H' ⟨rfl, rfl⟩
      have l1 := Int.fmod_lt_of_pos g z
      have l2 := Int.fmod_nonneg_of_pos g z
      exact ⟨(g.fmod l).toNat, by omega, _, _, rfl, rfl, hl, l2, by rw [gcd_fmodI]; exact e, rfl⟩
    · rw [decide_eq_false z]
      refine iteF ?_
      rw [gcd_end e hg (by omega)]
      exact k

theorem ok_place (T : Txt K mg t) : FnOk P w K mg base (CX1 P w) 2 t.a_place t.d_place ["tops", "under"] (sp_place K t.a_NoPlace) := by
  have G_divisor : FnOk P w K mg base CX0 1 t.a_divisor t.d_divisor ["one", "other"] sp_divisor := ok_divisor T
  refine T.F_place.okX sc_place (fun vs H Q E h => ?_) (fun cdv A outer s H vs Q E hr h => ?_)
  · obtain ⟨b, a, ns, u, rfl, _⟩ := h
    rfl
  · obtain ⟨b, a, ns, u, rfl, hS, hl, su, hE, hQ⟩ := h
    refine ⟨_, (pss_cons (ps_if (pt_cmpR op_eqZ (pv 1) pe_int (nomark _))
      (pss_one (ps_raise rfl landsN_def rfl T.m_NoPlace T.x_NoPlace PySem.F.excBase_ValueError (pa_cons pe_str pa_nil)))
      pss_nil)
      (pss_cons (ps_if (pt_cmpR op_eqZ (pe_callB call_lenB rfl T.z_len (by decide +kernel) (pa_cons (pv 0) pa_nil)) pe_int (nomark _))
      (pss_one (ps_raise rfl landsN_def rfl T.m_NoPlace T.x_NoPlace PySem.F.excBase_ValueError (pa_cons pe_str pa_nil)))
      pss_nil)
      (pss_cons (ps_set (i := 2) sc_place.nd rfl (Or.inr rfl) (pe_callB call_abs rfl T.z_abs (by decide +kernel) (pa_cons (pv 1) pa_nil)))
      (pss_cons (PS.nox (ps_for PassesOwn.never rfl (pi_seq (pv 0)) (pg_name (i := 3) sc_place.nd rfl (Or.inl rfl))
      (pss_one (ps_set (i := 2) sc_place.nd rfl (Or.inr rfl) (pe_call G_divisor (hr.mono (by omega)) rfl T.m_divisor T.F_divisor.kp T.b_divisor .nil pass0 (pa_cons (pv 2) (pa_cons (pv 3) pa_nil)))))))
      (pss_cons (ps_if (pt_cmpR op_lt (pv 1) pe_int (nomark _))
      (pss_one (ps_set (i := 2) sc_place.nd rfl (Or.inr rfl) (pe_un un_neg (pv 2))))
      pss_nil)
      (pss_one (ps_ret (pe_tup (pa_cons (pe_callTy call_tupB rfl T.z_tuple (by decide +kernel) (pa_cons (pe_compG (xs := ["top"]) (fr := [("common", 2)]) (g := (gName 0)) (tt := (tEl (tOp (rI CDivB fun i j => .int (i.fdiv j)) (tVar 0) (tVar 1)))) (compG_ok (sc := defScope s_place) (N := N_place) rfl rfl (by decide +kernel)) rfl (pi_seq (pv 0)) (fun _ _ _ hE1 => (pg_own (N := ["top", "common"]) (i := 0) hE1 rfl (by decide +kernel))) (fun _ _ _ hE1 => (po_el (pe_op op_fdivB (pv 0) (pv 1))))) pa_nil)) (pa_cons (pe_op op_fdivB (pv 1) (pv 2)) pa_nil)))))))))), ?_⟩
    show tSeq _ _ _ [some (.ref a), some (.int u), none, none] H
    refine st fun N1 e1 => ?_
    simp only [tRaise]
    walk_at "rd2"
    refine ite2 (fun z => ⟨by decide, hE (.inl (of_decide_eq_true z))⟩) (fun z => ?_)
    have hu : u ≠ 0 := fun q => z (decide_eq_true q)
    subst e1
    refine st fun N1 e1 => ?_
    simp only [tRaise]
    walk_at "rd2"
    refine ints_len hS ?_
    walk_at "rd2"
    refine ite2 (fun z => ⟨by decide, hE (.inr ?_)⟩) (fun z => ?_)
    · have := of_decide_eq_true z
      exact List.eq_nil_of_length_eq_zero (by omega)
    have hne : ns ≠ [] := fun q => z (decide_eq_true (by rw [q]; rfl))
    subst e1
    refine st fun N1 e1 => ?_
    walk_at "rd2"
    subst e1
    refine st fun N1 e1 => for_st fun B eB => ?_
    simp only [iSeq]
    walk_at "rd2"
    refine ⟨b, ⟨_, hS⟩, ?_⟩
    refine fr_seq (g := gName 3) (tb := B) (fun i σ H1 => ∃ v3, σ = [some (.ref a), some (.int u), some (.int (gl u (ns.take i))), v3] ∧ H1 = H) ⟨_, rfl, rfl⟩ (fun i σ H1 _ ⟨_, _, e⟩ => e ▸ hS) ?_ ?_
    · rintro i x σ H1 hi ⟨v3, rfl, rfl⟩
      obtain ⟨n, hn, rfl⟩ := ints_at hi
      subst eB
      walk_at "rd2"
      simp only [rd_gcd]
      rw [take_snoc hn, gl_snoc]
      first | trivial | exact ⟨_, rfl, rfl⟩
    · rintro σ H1 ⟨v3, rfl, rfl⟩
      rw [List.length_map, List.take_length]
      subst e1
      refine st fun N2 e2 => ?_
      have key2 : N2 [some (.ref a), some (.int u), some (.int (cs u ns)), v3] H1 := by
        subst e2
        have sc1 : small (cs u ns) := small_dvd su hu (cs_dvd (gl_u u ns))
        have hd : ∀ x, CDivB x (cs u ns) := fun x => ⟨cs_ne ns hu, small_log sc1 (cs_ne ns hu)⟩
        walk_at "rd2"
        refine compE_st fun B eB => ?_
        simp only [iSeq]
        walk_at "rd2"
        refine ⟨b, ⟨_, hS⟩, fun a1 ha1 => cg_seq (fun j y _ => ∃ n, ns[j]? = some n ∧ y = .int (n.fdiv (cs u ns))) ha1 hS (by rw [List.length_map]; omega) (fun _ _ _ _ r _ => r) ?_ ?_⟩
        · intro i x H2 zs hx _ _ Q' hQ'
          obtain ⟨n, hn, rfl⟩ := ints_at hx
          subst eB
          show tOp _ _ _ [some (.int n), some (.int (cs u ns))] H2 Q'
          walk_at "rd2"
          exact ⟨hd n, hQ' _ H2 (Same.refl _) ⟨n, hn, rfl⟩⟩
        · intro H2 ys s1 e1 hly hr2
          have ey : ys = (redT u ns).map V.int := by
            unfold redT
            rw [List.map_map]
            exact list_is (by simpa using hly) hr2
          subst ey
          refine ⟨a1, _, rfl, .inl ⟨SqL.of e1, fun l hl1 => ?_⟩⟩
          walk_at "rd2"
          refine ⟨hd u, (by show 2 ≤ sizeLine; decide), fun p hp => hQ hu hne p _ ((s1.trans (Same.new hl1)).trans (Same.new hp)) ⟨l, upd_same, ?_⟩⟩
          rw [upd_ne (ne_of_none upd_same hp)]
          exact upd_same
      walk_at "rd2"
      unfold cs at key2
      refine ite2 (fun z => ?_) (fun z => ?_)
      · rw [if_pos (of_decide_eq_true z)] at key2
        exact key2
      · rw [if_neg (fun q => z (decide_eq_true q))] at key2
        exact key2
theorem place_ix0 {H : Hp} {p : Addr} {ns : List Int} {u : Int} {Q : VK} (h : PlaceAt H p ns u) (q : ∀ x, H x = some (.tup (ns.map V.int)) → Q (.ref x) H) : rIxB K (.ref p) (.int 0) H Q := let ⟨x, h1, h2⟩ := h; ⟨true, p, _, _, _, rfl, rfl, SqB.tup h1, rfl, q x h2⟩
theorem place_ix1 {H : Hp} {p : Addr} {ns : List Int} {u : Int} {Q : VK} (h : PlaceAt H p ns u) (q : Q (.int u) H) : rIxB K (.ref p) (.int 1) H Q := let ⟨x, h1, h2⟩ := h; ⟨true, p, _, _, _, rfl, rfl, SqB.tup h1, rfl, q⟩
theorem ok_dot (T : Txt K mg t) : FnOk P w K mg base CX0 1 t.a_dot t.d_dot ["one", "other"] (sp_dot K) := by
  refine T.F_dot.ok sc_dot (fun vs H Q E h => ?_) (fun cdv A outer s H vs Q E hr h => ?_)
  · obtain ⟨b1, b2, p, q, ms, ns, rfl, _⟩ := h
    rfl
  · obtain ⟨b1, b2, p, q, ms, ns, rfl, h1, h2, hl, hz, hm, hQ⟩ := h
    refine ⟨_, (pss_one (ps_ret (pe_callB (call_sum rfl) rfl T.z_sum (by decide +kernel) (pa_cons (pe_compG (xs := ["left", "right"]) (fr := []) (g := (gTup K 2 (gCons (gName 0) (gCons (gName 1) gNil)))) (tt := (tEl (tOp (rI (fun i j => IntMulOk i j) fun i j => .int (i * j)) (tVar 0) (tVar 1)))) (compG_ok (sc := defScope s_dot) (N := N_dot) rfl rfl (by decide +kernel)) rfl (pi_zip rfl T.z_zip (pa_cons (pv 0) (pa_cons (pv 1) pa_nil))) (fun _ _ _ hE1 => (pg_tup rfl (pgs_cons (pg_own (N := ["left", "right"]) (i := 0) hE1 rfl (by decide +kernel)) (pgs_cons (pg_own (N := ["left", "right"]) (i := 1) hE1 rfl (by decide +kernel)) pgs_nil)))) (fun _ _ _ hE1 => (po_el (pe_op op_mulB (pv 0) (pv 1))))) pa_nil)))), ?_⟩
    show tRet _ _ [some (.ref p), some (.ref q)] H
    walk_at "rd2"
    refine compE_st fun B eB => ?_
    simp only [iZip]
    walk_at "rd2"
    refine ⟨b1, ⟨_, h1⟩, b2, ⟨_, h2⟩, fun a ha => ?_⟩
    refine cg_zip (fun j y _ => ∃ m n, ms[j]? = some m ∧ ns[j]? = some n ∧ y = .int (m * n)) ha h1 h2 (by simpa using hl) (by simpa using hz) (fun _ _ _ _ r _ => r) ?_ ?_
    · intro i x y H1 zs ex ey s1 ez Q' hQ'
      obtain ⟨m, em, rfl⟩ := ints_at ex
      obtain ⟨n, en, rfl⟩ := ints_at ey
      subst eB
      show tOp _ _ _ [some (.int m), some (.int n)] H1 Q'
      walk_at "rd2"
      exact ⟨hm i m n em en, hQ' _ _ (Same.refl _) ⟨m, n, em, en, rfl⟩⟩
    · intro H1 zs s1 ez hlz hr'
      have ey : zs = (List.zipWith (· * ·) ms ns).map V.int := by
        refine list_is (by simp at hlz ⊢; omega) fun j y e => ?_
        obtain ⟨m, n, em, en, rfl⟩ := hr' j y e
        exact ⟨m * n, by rw [List.getElem?_zipWith, em, en], rfl⟩
      subst ey
      exact ⟨_, rfl, _, SqL.of ez, hQ H1 s1⟩
theorem deed_ix0 {H : Hp} {p : Addr} {M : List (List Int)} {ts : List Int} {u : Int} {Q : VK} (h : DeedAt K H p M ts u) (q : ∀ x, MatB true true K H x M → Q (.ref x) H) : rIxB K (.ref p) (.int 0) H Q := let ⟨x, y, h1, h2, h3⟩ := h; ⟨true, p, _, _, _, rfl, rfl, SqB.tup h1, rfl, q x h2⟩
theorem deed_ix1 {H : Hp} {p : Addr} {M : List (List Int)} {ts : List Int} {u : Int} {Q : VK} (h : DeedAt K H p M ts u) (q : ∀ x, H x = some (.tup (ts.map V.int)) → Q (.ref x) H) : rIxB K (.ref p) (.int 1) H Q := let ⟨x, y, h1, h2, h3⟩ := h; ⟨true, p, _, _, _, rfl, rfl, SqB.tup h1, rfl, q y h3⟩
theorem deed_ix2 {H : Hp} {p : Addr} {M : List (List Int)} {ts : List Int} {u : Int} {Q : VK} (h : DeedAt K H p M ts u) (q : Q (.int u) H) : rIxB K (.ref p) (.int 2) H Q := let ⟨x, y, h1, h2, h3⟩ := h; ⟨true, p, _, _, _, rfl, rfl, SqB.tup h1, rfl, q⟩
/-- tuple([tuple(row) for row in rows]), rows of either kind -/
theorem copy_tupB {H : Hp} {a a1 : Addr} {M : List (List Int)} {σ : St} {Q : VK} {b1 b2 : Bool} (hM : MatB b1 b2 K H a M) (hl : M.length ≤ 1000) (ha1 : H a1 = none)
    (hQ : ∀ H1 zs, Same H H1 → H1 a1 = some (.lst zs) → (∀ l, H1 l = none → MatB true true K (upd H1 l (.tup zs)) l M) → Q (.ref a1) H1) : CompWG (Its K b1 a) (gName 0) (tEl (tCB (rTupB K) (tCons (tVar 0) tNil))) 1 [] σ a1 H Q := by
  cases b2 with
  | false =>
    refine copy_tup hM hl ha1 fun H1 s1 hT => ?_
    obtain ⟨zs, hz, _⟩ := id hT
    refine hQ H1 _ s1 hz fun l hl1 => ?_
    obtain ⟨zs', hz', hB⟩ := hT.tuple (K := K) hl1
    rw [hz] at hz'
    cases hz'
    exact hB
  | true =>
    obtain ⟨xs, x1, x2, x3⟩ := hM.walk
    refine cg_seq (fun j y _ => ∃ p r, y = .ref p ∧ M[j]? = some r ∧ SqB true K H p (r.map V.int)) ha1 x1 (by omega) (fun _ _ _ _ r _ => r) ?_ ?_
    · intro i x H1 zs ex s1 ez Q' hQ'
      obtain ⟨p, r, rfl, er, hp⟩ := x3 i x ex
      exact ⟨_, rfl, p, _, rfl, .inr ⟨hp.up s1, hQ' _ _ (Same.refl _) ⟨p, r, rfl, er, hp⟩⟩⟩
    · intro H1 ys s1 e1 hly hr1
      have hps : ∃ ps : List Addr, ys = ps.map V.ref := by
        clear e1 hly
        have : ∀ (zs : List V), (∀ (j : Nat) y, zs[j]? = some y → ∃ p : Addr, y = .ref p) → ∃ ps : List Addr, zs = ps.map V.ref := by
          intro zs
          induction zs with
          | nil => intro _; exact ⟨[], rfl⟩
          | cons z r ih =>
            intro hz
            obtain ⟨p, e⟩ := hz 0 z rfl
            obtain ⟨ps, e2⟩ := ih fun j y q => hz (j + 1) y (by simpa using q)
            exact ⟨p :: ps, by rw [e, e2]; rfl⟩
        exact this ys fun j y e => let ⟨p, r, e1, _⟩ := hr1 j y e; ⟨p, e1⟩
      obtain ⟨ps, rfl⟩ := hps
      refine hQ H1 _ s1 e1 fun l hl1 => ⟨ps, SqB.tup upd_same, by simp at hly; omega, fun i p r e2 e3 => ?_⟩
      obtain ⟨p', r', e4, e5, e6⟩ := hr1 i (.ref p) (by simp [e2])
      cases e4
      rw [e3] at e5
      cases e5
      exact e6.up (s1.trans (Same.new hl1))
theorem ok_moved (T : Txt K mg t) : FnOk P w K mg base CX0 3 t.a_moved t.d_moved ["one", "spot"] (sp_moved K) := by
  have G_dot : FnOk P w K mg base CX0 1 t.a_dot t.d_dot ["one", "other"] (sp_dot K) := ok_dot T
  have G_place : FnOk P w K mg base (CX1 P w) 2 t.a_place t.d_place ["tops", "under"] (sp_place K t.a_NoPlace) := ok_place T
  refine T.F_moved.ok sc_moved (fun vs H Q E h => ?_) (fun cdv A outer s H vs Q E hr h => ?_)
  · obtain ⟨p, q, M, ts, ns, u, v, d, rfl, _⟩ := h
    rfl
  · obtain ⟨p, q, M, ts, ns, u, v, d, rfl, hD, hP, fi, hd1, hd4, hnl, bn, hv, hv2, hQ⟩ := h
    refine ⟨_, (pss_cons (ps_setCG (i := 2) (xs := ["row", "top"]) (fr := [("one", 0), ("spot", 1)]) (g := (gTup K 2 (gCons (gName 0) (gCons (gName 1) gNil)))) (tt := (tEl (tOp (rI0 fun i j => .int (i + j)) (tOp (rI (fun i j => IntMulOk i j) fun i j => .int (i * j)) (tCall (sp_dot K) [] E0 (tCons (tVar 0) (tCons (tOp (rIxB K) (tVar 3) (tC (.int 0))) tNil))) (tOp (rIxB K) (tVar 2) (tC (.int 2)))) (tOp (rI (fun i j => IntMulOk i j) fun i j => .int (i * j)) (tVar 1) (tOp (rIxB K) (tVar 3) (tC (.int 1))))))) (compG_ok (sc := defScope s_moved) (N := N_moved) rfl rfl (by decide +kernel)) rfl sc_moved.nd rfl rfl (pi_zip rfl T.z_zip (pa_cons (pe_ix ix_B (pv 0) pe_int (fun _ _ => rfl)) (pa_cons (pe_ix ix_B (pv 0) pe_int (fun _ _ => rfl)) pa_nil))) (fun _ _ _ hE1 => (pg_tup rfl (pgs_cons (pg_own (N := ["row", "top", "one", "spot"]) (i := 0) hE1 rfl (by decide +kernel)) (pgs_cons (pg_own (N := ["row", "top", "one", "spot"]) (i := 1) hE1 rfl (by decide +kernel)) pgs_nil)))) (fun _ _ _ hE1 => (po_el (pe_op op_add (pe_op op_mulB (pe_call G_dot (hr.mono (by omega)) rfl T.m_dot T.F_dot.kp T.b_dot .nil pass0 (pa_cons (pv 0) (pa_cons (pe_ix ix_B (pv 3) pe_int (fun _ _ => rfl)) pa_nil))) (pe_ix ix_B (pv 2) pe_int (fun _ _ => rfl))) (pe_op op_mulB (pv 1) (pe_ix ix_B (pv 3) pe_int (fun _ _ => rfl)))))))
      (pss_one (ps_ret (pe_call G_place (hr.mono (by omega)) rfl T.m_place T.F_place.kp T.b_place .nil passes1 (pa_cons (pv 2) (pa_cons (pe_op op_mulB (pe_ix ix_B (pv 0) pe_int (fun _ _ => rfl)) (pe_ix ix_B (pv 1) pe_int (fun _ _ => rfl))) pa_nil)))))), ?_⟩
    show tSeq _ _ _ [some (.ref p), some (.ref q), none] H
    refine st fun N1 e1 => ?_
    walk_at "rd2"
    refine compE_st fun B eB => ?_
    simp only [iZip]
    walk_at "rd2"
    refine deed_ix0 hD fun x hx => deed_ix1 hD fun y hy => ?_
    obtain ⟨xs, x1, x2, x3⟩ := hx.walk
    refine ⟨true, true, x, rfl, y, rfl, ⟨_, x1⟩, ⟨_, SqB.tup hy⟩, fun a1 ha1 => ?_⟩
    have hraw : ∀ (i : Nat) (r : List Int) (tt : Int), M[i]? = some r → ts[i]? = some tt → (movT M ts u ns v)[i]? = some (dotI r ns * u + tt * v) := fun i r tt e1 e2 => by
      unfold movT
      rw [List.getElem?_zipWith, e1, e2]
    refine cg_zip (fun j z _ => ∃ n, (movT M ts u ns v)[j]? = some n ∧ z = .int n) ha1 x1 (SqB.tup hy) (by rw [x2, fi.sq.1, List.length_map, fi.len]) (by rw [x2, fi.sq.1]; omega) (fun _ _ _ _ r _ => r) ?_ ?_
    · intro i zr zt H1 zs er et s1 ez Q' hQ'
      obtain ⟨pr, r, rfl, er2, hp⟩ := x3 i zr er
      obtain ⟨tt, et2, rfl⟩ := ints_at et
      have hrl : r.length = d := fi.sq.2 r (List.mem_of_getElem? er2)
      have br := fi.bm r (List.mem_of_getElem? er2)
      subst eB
      show tOp _ _ _ [some (.ref pr), some (.int tt), some (.ref p), some (.ref q)] H1 Q'
      walk_at "rd2"
      refine place_ix0 (hP.up s1) fun z hz => ?_
      refine ⟨true, true, pr, z, r, ns, rfl, hp.up s1, SqB.tup hz, by omega, by omega, fun i2 m n e1 e2 => PyProof.Rows.mulOk_of_bits (bits_of (br m (List.mem_of_getElem? e1))) (bits_of (bn n (List.mem_of_getElem? e2))) (by decide), fun H2 s2 => ?_⟩
      refine deed_ix2 (hD.up (s1.trans s2)) ?_
      walk_at "rd2"
      have hda := dot_abs r ns br bn
      have hdb : (dotI r ns).natAbs < 2 ^ 2010 := by
        have : r.length * 2 ^ (1000 + 1000) ≤ 4 * 2 ^ (1000 + 1000) := Nat.mul_le_mul_right _ (by omega)
        have e : (2 : Nat) ^ 2010 = 1024 * 2 ^ (1000 + 1000) := by decide +kernel
        have := Nat.two_pow_pos (1000 + 1000)
        omega
      refine ⟨PyProof.Rows.mulOk_of_bits (bits_of hdb) (bits_of (bits150 fi.pos fi.bu)) (by decide), ?_⟩
      refine place_ix1 (hP.up (s1.trans s2)) ?_
      walk_at "rd2"
      refine ⟨PyProof.Rows.mulOk_of_bits (bits_of (fi.bt tt (List.mem_of_getElem? et2))) (bits_of (bits150 hv hv2)) (by decide), ?_⟩
      exact hQ' _ _ s2 ⟨_, hraw i r tt er2 et2, rfl⟩
    · intro H1 zs s1 ez1 hlz hr1
      have hml : (movT M ts u ns v).length = d := by unfold movT; rw [List.length_zipWith, fi.sq.1, fi.len]; omega
      have ey : zs = (movT M ts u ns v).map V.int := list_is (by rw [hlz, x2, fi.sq.1, hml]) hr1
      subst ey
      subst e1
      walk_at "rd2"
      refine deed_ix2 (hD.up s1) ?_
      refine place_ix1 (hP.up s1) ?_
      walk_at "rd2"
      have hsp := small_prod fi.pos fi.bu hv hv2
      refine ⟨PyProof.Rows.mulOk_of_bits (bits_of (bits150 fi.pos fi.bu)) (bits_of (bits150 hv hv2)) (by decide), ?_⟩
      refine ⟨false, a1, _, _, rfl, SqB.lst ez1, by omega, hsp.1, fun z => ?_, fun _ _ r H2 s2 hR => hQ r H2 (s1.trans s2) hR⟩
      rcases z with z | z
      · omega
      · rw [z] at hml; simp at hml; omega
theorem dvs (x y : Int) (h1 : y ≠ 0) (h2 : y.natAbs < 1073741824) : CDivB x y := ⟨h1, Nat.lt_of_lt_of_le ((Nat.log2_lt (by omega)).mpr (show y.natAbs < 2 ^ 30 from h2)) (by decide)⟩
theorem fms (x y : Int) (h : 0 < y) : 0 ≤ x.fmod y ∧ x.fmod y < y := ⟨Int.fmod_nonneg_of_pos x h, Int.fmod_lt_of_pos x h⟩
/-- the tops to which a seat is led, above n * m * u -/
noncomputable def far (M : List (List Int)) (ts : List Int) (u n m i j : Int) (k : Nat) : Int := ((M.getD k []).getD 0 0 * i * m + (M.getD k []).getD 1 0 * j * n) * u + ts.getD k 0 * n * m
noncomputable def offP (M : List (List Int)) (ts : List Int) (u n m i j : Int) : Prop := (far M ts u n m i j 0).fmod (m * u) ≠ 0 ∨ (far M ts u n m i j 1).fmod (n * u) ≠ 0
noncomputable def rch0 (M : List (List Int)) (ts : List Int) (u n m i j : Int) : Int := ((far M ts u n m i j 0).fdiv (m * u)).fmod n
noncomputable def rch1 (M : List (List Int)) (ts : List Int) (u n m i j : Int) : Int := ((far M ts u n m i j 1).fdiv (n * u)).fmod m
noncomputable def si (m k : Nat) : Int := (k : Int).fdiv m
noncomputable def sj (m k : Nat) : Int := (k : Int).fmod m
noncomputable def offK (M : List (List Int)) (ts : List Int) (u : Int) (n m k : Nat) : Prop := offP M ts u n m (si m k) (sj m k)
noncomputable def Off (M : List (List Int)) (ts : List Int) (u : Int) (n m : Nat) : Prop := M.length = 3 ∨ ∃ k, k < n * m ∧ offK M ts u n m k
noncomputable def r0K (M : List (List Int)) (ts : List Int) (u : Int) (n m k : Nat) : Int := rch0 M ts u n m (si m k) (sj m k)
noncomputable def r1K (M : List (List Int)) (ts : List Int) (u : Int) (n m k : Nat) : Int := rch1 M ts u n m (si m k) (sj m k)
noncomputable def sgn (D : List Str) (i j : Int) : Nat := (D.getD i.toNat "").cps.toList.getD j.toNat 0
noncomputable def Dif (D : List Str) (M : List (List Int)) (ts : List Int) (u : Int) (n m k : Nat) : Prop := sgn D (si m k) (sj m k) ≠ sgn D (r0K M ts u n m k) (r1K M ts u n m k)
noncomputable def NoDif (D : List Str) (M : List (List Int)) (ts : List Int) (u : Int) (n m N : Nat) : Prop := ∀ k < N, ¬ Dif D M ts u n m k
theorem quot_eq {A B C D : Int} (hB : 0 < B) (hD : 0 < D) (h : A * D = C * B) : A.fdiv B = C.fdiv D ∧ (A.fmod B = 0 ↔ C.fmod D = 0) := by
  rw [Int.fdiv_eq_ediv_of_nonneg _ (Int.le_of_lt hB), Int.fdiv_eq_ediv_of_nonneg _ (Int.le_of_lt hD), Int.fmod_eq_emod_of_nonneg _ (Int.le_of_lt hB), Int.fmod_eq_emod_of_nonneg _ (Int.le_of_lt hD)]
  have e1 : D * A / (D * B) = A / B := Int.mul_ediv_mul_of_pos _ _ hD
  have e2 : B * C / (B * D) = C / D := Int.mul_ediv_mul_of_pos _ _ hB
  have e3 : D * A % (D * B) = D * (A % B) := Int.mul_emod_mul_of_pos _ _ hD
  have e4 : B * C % (B * D) = B * (C % D) := Int.mul_emod_mul_of_pos _ _ hB
  have h1 : D * A = B * C := by rw [Int.mul_comm D A, h, Int.mul_comm]
  have h2 : D * B = B * D := Int.mul_comm _ _
  rw [h1, h2] at e1 e3
  refine ⟨by rw [← e1, e2], ?_⟩
  rw [e4] at e3
  constructor
  · intro z
    rw [z, Int.mul_zero] at e3
    rcases Int.mul_eq_zero.mp e3 with q | q
    · omega
    · exact q
  · intro z
    rw [z, Int.mul_zero] at e3
    rcases Int.mul_eq_zero.mp e3.symm with q | q
    · omega
    · exact q
theorem redX {u : Int} {ns : List Int} (h : u ≠ 0) {t : Int} (ht : t ∈ ns) : t * redU u ns = t.fdiv (cs u ns) * u := cross h ht
theorem two_of' {rows : List (List Int)} (h : Sq 2 rows) : ∃ a b c e, rows = [[a, b], [c, e]] := by
  obtain ⟨h1, h2⟩ := h
  match rows, h1, h2 with
  | [[a, b], [c, e]], _, _ => exact ⟨a, b, c, e, rfl⟩
  | [[], _], _, h2 => exact absurd (h2 [] (by simp)) (by simp)
  | [[_], _], _, h2 => exact absurd (h2 _ List.mem_cons_self) (by simp)
  | [_ :: _ :: _ :: _, _], _, h2 => exact absurd (h2 _ List.mem_cons_self) (by simp)
  | [[_, _], []], _, h2 => exact absurd (h2 [] (by simp)) (by simp)
  | [[_, _], [_]], _, h2 => exact absurd (h2 _ (List.mem_cons_of_mem _ List.mem_cons_self)) (by simp)
  | [[_, _], _ :: _ :: _ :: _], _, h2 => exact absurd (h2 _ (List.mem_cons_of_mem _ List.mem_cons_self)) (by simp)
theorem len2 {ts : List Int} (h : ts.length = 2) : ∃ a b, ts = [a, b] := by
  match ts, h with
  | [a, b], _ => exact ⟨a, b, rfl⟩
theorem alg2 {a b y0 y1 u t0 v x X0 n m i j : Int} (c0 : i * m * v = y0 * (n * m)) (c1 : j * n * v = y1 * (n * m)) (d0 : ((a * y0 + b * y1) * u + t0 * v) * x = X0 * (u * v)) : X0 * n * (m * u) * v = ((a * i * m + b * j * n) * u + t0 * n * m) * x * v := by
  have e : X0 * n * (m * u) * v = (X0 * (u * v)) * (n * m) := by clear c0 c1 d0; grind
  have e2 : ((a * y0 + b * y1) * u + t0 * v) * x * (n * m) = (a * (y0 * (n * m)) + b * (y1 * (n * m))) * u * x + t0 * v * x * (n * m) := by clear c0 c1 d0 e; grind
  rw [e, ← d0, e2, ← c0, ← c1]
  clear c0 c1 d0 e e2
  grind
theorem sw4 (X m n u v : Int) : X * m * (n * u) * v = X * n * (m * u) * v := by grind
/-- where the program's own place lies: the same fraction -/
theorem moved_far {M : List (List Int)} {ts : List Int} {u n m i j : Int} (hM : Sq 2 M) (ht : ts.length = 2) (hu : 0 < u) (hn : 0 < n) (hm : 0 < m) :
    ∃ x0 x1 : Int, redT (u * redU (n * m) [i * m, j * n]) (movT M ts u (redT (n * m) [i * m, j * n]) (redU (n * m) [i * m, j * n])) = [x0, x1] ∧ 0 < redU (u * redU (n * m) [i * m, j * n]) (movT M ts u (redT (n * m) [i * m, j * n]) (redU (n * m) [i * m, j * n])) ∧
      x0 * n * (m * u) = far M ts u n m i j 0 * redU (u * redU (n * m) [i * m, j * n]) (movT M ts u (redT (n * m) [i * m, j * n]) (redU (n * m) [i * m, j * n])) ∧
      x1 * m * (n * u) = far M ts u n m i j 1 * redU (u * redU (n * m) [i * m, j * n]) (movT M ts u (redT (n * m) [i * m, j * n]) (redU (n * m) [i * m, j * n])) := by
  obtain ⟨a, b, c, e, rfl⟩ := two_of' hM
  obtain ⟨t0, t1, rfl⟩ := len2 ht
  have hnm : n * m ≠ 0 := Int.ne_of_gt (Int.mul_pos hn hm)
  have v0 : 0 < redU (n * m) [i * m, j * n] := under_pos _ hnm
  have c0 := redX hnm (t := i * m) (ns := [i * m, j * n]) (by simp)
  have c1 := redX hnm (t := j * n) (ns := [i * m, j * n]) (by simp)
  have ern : redT (n * m) [i * m, j * n] = [(i * m).fdiv (cs (n * m) [i * m, j * n]), (j * n).fdiv (cs (n * m) [i * m, j * n])] := rfl
  rw [ern]
  generalize (i * m).fdiv (cs (n * m) [i * m, j * n]) = y0 at *
  generalize (j * n).fdiv (cs (n * m) [i * m, j * n]) = y1 at *
  generalize redU (n * m) [i * m, j * n] = v at *
  have huv : u * v ≠ 0 := Int.ne_of_gt (Int.mul_pos hu v0)
  have emv : movT [[a, b], [c, e]] [t0, t1] u [y0, y1] v = [(a * y0 + b * y1) * u + t0 * v, (c * y0 + e * y1) * u + t1 * v] := by
    unfold movT dotI
    simp
  rw [emv]
  have d0 := redX huv (t := (a * y0 + b * y1) * u + t0 * v) (ns := [(a * y0 + b * y1) * u + t0 * v, (c * y0 + e * y1) * u + t1 * v]) (by simp)
  have d1 := redX huv (t := (c * y0 + e * y1) * u + t1 * v) (ns := [(a * y0 + b * y1) * u + t0 * v, (c * y0 + e * y1) * u + t1 * v]) (by simp)
  refine ⟨_, _, rfl, under_pos _ huv, ?_, ?_⟩
  · refine Int.eq_of_mul_eq_mul_right (Int.ne_of_gt v0) ?_
    exact alg2 c0 c1 d0
  · refine Int.eq_of_mul_eq_mul_right (Int.ne_of_gt v0) ?_
    show _ * m * (n * u) * v = ((c * i * m + e * j * n) * u + t1 * n * m) * _ * v
    exact (sw4 _ _ _ _ _).trans (alg2 (a := c) (b := e) c0 c1 d1)
theorem fmod_sub_mul {x n q : Int} (hn : 0 < n) : (x - q * n).fmod n = x.fmod n := by
  rw [Int.fmod_eq_emod_of_nonneg _ (Int.le_of_lt hn), Int.fmod_eq_emod_of_nonneg _ (Int.le_of_lt hn)]
  exact Int.sub_mul_emod_self_right ..
theorem fdiv_sub_mul {x n q : Int} (hn : 0 < n) : (x - q * n).fdiv n = x.fdiv n - q := by
  rw [Int.fdiv_eq_ediv_of_nonneg _ (Int.le_of_lt hn), Int.fdiv_eq_ediv_of_nonneg _ (Int.le_of_lt hn), Int.sub_eq_add_neg, ← Int.neg_mul, Int.add_mul_ediv_right _ _ (Int.ne_of_gt hn)]
  rfl
theorem far_rest {M : List (List Int)} {ts : List Int} {u n m i j : Int} (ht : ts.length = 2) (k : Nat) (hk : k < 2) : ∃ q, far M (ts.map fun x => x.fmod u) u n m i j k = far M ts u n m i j k - q * (n * m * u) := by
  obtain ⟨t0, t1, rfl⟩ := len2 ht
  rcases (show k = 0 ∨ k = 1 by omega) with rfl | rfl
  · refine ⟨t0.fdiv u, ?_⟩
    show (_ * i * m + _ * j * n) * u + t0.fmod u * n * m = (_ * i * m + _ * j * n) * u + t0 * n * m - _
    rw [Int.fmod_def]
    grind
  · refine ⟨t1.fdiv u, ?_⟩
    show (_ * i * m + _ * j * n) * u + t1.fmod u * n * m = (_ * i * m + _ * j * n) * u + t1 * n * m - _
    rw [Int.fmod_def]
    grind
theorem rest_same {M : List (List Int)} {ts : List Int} {u n m i j : Int} (ht : ts.length = 2) (hu : 0 < u) (hn : 0 < n) (hm : 0 < m) :
    (offP M (ts.map fun x => x.fmod u) u n m i j ↔ offP M ts u n m i j) ∧ rch0 M (ts.map fun x => x.fmod u) u n m i j = rch0 M ts u n m i j ∧ rch1 M (ts.map fun x => x.fmod u) u n m i j = rch1 M ts u n m i j := by
  obtain ⟨q0, e0⟩ := far_rest (M := M) (u := u) (n := n) (m := m) (i := i) (j := j) ht 0 (by decide)
  obtain ⟨q1, e1⟩ := far_rest (M := M) (u := u) (n := n) (m := m) (i := i) (j := j) ht 1 (by decide)
  have hmu := Int.mul_pos hm hu
  have hnu := Int.mul_pos hn hu
  have f0 : q0 * (n * m * u) = (q0 * n) * (m * u) := by grind
  have f1 : q1 * (n * m * u) = (q1 * m) * (n * u) := by grind
  unfold offP rch0 rch1
  rw [e0, e1, f0, f1, fmod_sub_mul hmu, fmod_sub_mul hnu, fdiv_sub_mul hmu, fdiv_sub_mul hnu, fmod_sub_mul hn, fmod_sub_mul hm]
  exact ⟨Iff.rfl, rfl, rfl⟩
theorem rest_Off {M : List (List Int)} {ts : List Int} {u : Int} {n m : Nat} (hM : Sq ts.length M) (ht : ts.length = 2 ∨ ts.length = 3) (hu : 0 < u) (hn : 1 ≤ n) (hm : 1 ≤ m) : Off M (ts.map fun x => x.fmod u) u n m ↔ Off M ts u n m := by
  rcases ht with ht | ht
  · unfold Off offK
    have : ∀ k, offP M (ts.map fun x => x.fmod u) u n m (si m k) (sj m k) ↔ offP M ts u n m (si m k) (sj m k) := fun k => (rest_same ht hu (by omega) (by omega)).1
    simp only [this]
  · unfold Off
    rw [hM.1, ht]
    simp
theorem rest_Dif {D : List Str} {M : List (List Int)} {ts : List Int} {u : Int} {n m k : Nat} (ht : ts.length = 2) (hu : 0 < u) (hn : 1 ≤ n) (hm : 1 ≤ m) : Dif D M (ts.map fun x => x.fmod u) u n m k ↔ Dif D M ts u n m k := by
  unfold Dif r0K r1K
  obtain ⟨_, e1, e2⟩ := rest_same (M := M) (i := si m k) (j := sj m k) ht hu (show (0 : Int) < n by omega) (show (0 : Int) < m by omega)
  rw [e1, e2]
/-- the drawing D of n rows of m signs lies at dr -/
noncomputable def DrAt (H : Hp) (dr : Addr) (D : List Str) (n m : Nat) : Prop := H dr = some (.tup (D.map V.str)) ∧ D.length = n ∧ ∀ x ∈ D, x.length = m
theorem DrAt.up {H H' : Hp} {dr : Addr} {D : List Str} {n m : Nat} (h : DrAt H dr D n m) (s : Same H H') : DrAt H' dr D n m := ⟨s _ _ h.1, h.2⟩
noncomputable def PairsAt (H : Hp) (l : Addr) (N : Nat) (f g : Nat → Int) : Prop := ∃ ys, H l = some (.lst ys) ∧ ys.length = N ∧ ∀ k < N, ∃ q, ys[k]? = some (.ref q) ∧ H q = some (.tup [.int (f k), .int (g k)])
theorem PairsAt.up {H H' : Hp} {l : Addr} {N : Nat} {f g : Nat → Int} (h : PairsAt H l N f g) (s : Same H H') : PairsAt H' l N f g := let ⟨ys, h1, h2, h3⟩ := h; ⟨ys, s _ _ h1, h2, fun k hk => let ⟨q, q1, q2⟩ := h3 k hk; ⟨q, q1, s _ _ q2⟩⟩
noncomputable def Small6 (n m : Nat) : Prop := 1 ≤ n ∧ n ≤ 6 ∧ 1 ≤ m ∧ m ≤ 6
noncomputable def sp_seats : Sp := fun vs H Q _ => ∃ n m : Nat, vs = [.int n, .int m] ∧ Small6 n m ∧ ∀ l H', Same H H' → PairsAt H' l (n * m) (si m) (sj m) → Q (.ref l) H'
noncomputable def sp_seat_at (K : PySem.W.Frag) (C : Addr) : Sp := fun vs H Q E => ∃ (q : Addr) (x0 x1 x : Int) (n m : Nat), vs = [.ref q, .int n, .int m] ∧ PlaceAt H q [x0, x1] x ∧ 0 < x ∧ x.natAbs.log2 < 9000 ∧ Small6 n m ∧
  (((x0 * n).fmod x ≠ 0 ∨ (x1 * m).fmod x ≠ 0) → E (.ref C) none H) ∧ (¬ ((x0 * n).fmod x ≠ 0 ∨ (x1 * m).fmod x ≠ 0) → ∀ p H', Same H H' → H' p = some (.tup [.int (((x0 * n).fdiv x).fmod n), .int (((x1 * m).fdiv x).fmod m)]) → Q (.ref p) H')
noncomputable def sp_seats_reached (K : PySem.W.Frag) (C : Addr) : Sp := fun vs H Q E => ∃ (p : Addr) (M : List (List Int)) (ts : List Int) (u : Int) (n m d : Nat), vs = [.ref p, .int n, .int m] ∧ DeedAt K H p M ts u ∧ Fine d M ts u ∧ (d = 2 ∨ d = 3) ∧ Small6 n m ∧
  (Off M ts u n m → ∀ H', Same H H' → E (.ref C) none H') ∧ (¬ Off M ts u n m → ∀ l H', Same H H' → PairsAt H' l (n * m) (r0K M ts u n m) (r1K M ts u n m) → Q (.ref l) H')
noncomputable def sp_sign_at : Sp := fun vs H Q _ => ∃ (dr q : Addr) (D : List Str) (n m : Nat) (i j : Int), vs = [.ref dr, .ref q] ∧ DrAt H dr D n m ∧ H q = some (.tup [.int i, .int j]) ∧ Small6 n m ∧ 0 ≤ i ∧ i < n ∧ 0 ≤ j ∧ j < m ∧ Q (.str ⟨#[sgn D i j]⟩) H
noncomputable def sp_lays (K : PySem.W.Frag) (C : Addr) : Sp := fun vs H Q E => ∃ (dr p : Addr) (D : List Str) (M : List (List Int)) (ts : List Int) (u : Int) (n m d : Nat), vs = [.ref dr, .ref p] ∧ DrAt H dr D n m ∧ DeedAt K H p M ts u ∧ Fine d M ts u ∧ (d = 2 ∨ d = 3) ∧ Small6 n m ∧
  (Off M ts u n m → ∀ H', Same H H' → E (.ref C) none H') ∧ (¬ Off M ts u n m → NoDif D M ts u n m (n * m) → ∀ H', Same H H' → Q .non H') ∧
  (¬ Off M ts u n m → ∀ k, k < n * m → Dif D M ts u n m k → NoDif D M ts u n m k → ∀ q H', Same H H' → H' q = some (.tup [.int (si m k), .int (sj m k)]) → Q (.ref q) H')
noncomputable def sp_law_drawing (K : PySem.W.Frag) : Sp := fun vs H Q _ => ∃ (a : Addr) (ns : List Int), vs = [.ref a] ∧ SqL K H a (ns.map V.int) ∧ ns.length = 8 ∧ (∀ x ∈ ns, Builtin.Int.intBits x ≤ 1048576) ∧ ∀ dr D n m H', Same H H' → DrAt H' dr D n m → Small6 n m → Q (.ref dr) H'
noncomputable def sp_law_times (K : PySem.W.Frag) : Sp := fun vs H Q _ => ∃ (b1 b2 b3 b4 : Bool) (a b : Addr) (A B : List (List Int)) (x y : Nat), vs = [.ref a, .ref b] ∧ MatB b1 b2 K H a A ∧ MatB b3 b4 K H b B ∧ Sq 2 A ∧ Sq 2 B ∧ BitsM x A ∧ BitsM y B ∧ x + y ≤ 900 ∧
  ∀ l C H', Same H H' → MatB false false K H' l C → Sq 2 C → BitsM (x + y + 2) C → Q (.ref l) H'
noncomputable def sp_law_rows (K : PySem.W.Frag) : Sp := fun vs H Q _ => ∃ c : Int, vs = [.int c] ∧ ∀ l M d H', Same H H' → MatB false false K H' l M → (d = 2 ∨ d = 3) → Sq d M → BitsM 200 M → Q (.ref l) H'
noncomputable def sp_law_deed (K : PySem.W.Frag) : Sp := fun vs H Q _ => ∃ (a : Addr) (ns : List Int) (n m : Nat), vs = [.ref a, .int n, .int m] ∧ SqL K H a (ns.map V.int) ∧ ns.length = 8 ∧ Small6 n m ∧
  ∀ p M ts u d H', Same H H' → DeedAt K H' p M ts u → Fine d M ts u → (d = 2 ∨ d = 3) → Q (.ref p) H'
noncomputable def sp_law_reached (K : PySem.W.Frag) : Sp := fun vs H Q _ => ∃ (p : Addr) (M : List (List Int)) (ts : List Int) (u : Int) (i j n m : Nat), vs = [.ref p, .int i, .int j, .int n, .int m] ∧ DeedAt K H p M ts u ∧ Fine 2 M ts u ∧ Small6 n m ∧ i < n ∧ j < m ∧
  (offP M ts u n m i j → ∀ H', Same H H' → Q .non H') ∧ (¬ offP M ts u n m i j → ∀ q H', Same H H' → H' q = some (.tup [.int (rch0 M ts u n m i j), .int (rch1 M ts u n m i j)]) → Q (.ref q) H')
noncomputable def sp_law_due (K : PySem.W.Frag) : Sp := fun vs H Q _ => ∃ (dr p : Addr) (D : List Str) (M : List (List Int)) (ts : List Int) (u : Int) (n m d : Nat), vs = [.ref dr, .ref p] ∧ DrAt H dr D n m ∧ DeedAt K H p M ts u ∧ Fine d M ts u ∧ (d = 2 ∨ d = 3) ∧ Small6 n m ∧
  (Off M ts u n m → ∀ H', Same H H' → Q (.str "off") H') ∧ (¬ Off M ts u n m → NoDif D M ts u n m (n * m) → ∀ H', Same H H' → Q .non H') ∧
  (¬ Off M ts u n m → ∀ k, k < n * m → Dif D M ts u n m k → NoDif D M ts u n m k → ∀ q H', Same H H' → H' q = some (.tup [.int (si m k), .int (sj m k)]) → Q (.ref q) H')
/-- what the law's own answer is -/
noncomputable def DueV (H : Hp) (v : V) (D : List Str) (M : List (List Int)) (ts : List Int) (u : Int) (n m : Nat) : Prop := (Off M ts u n m ∧ v = .str "off") ∨ (¬ Off M ts u n m ∧ NoDif D M ts u n m (n * m) ∧ v = .non) ∨
  (¬ Off M ts u n m ∧ ∃ k q, k < n * m ∧ Dif D M ts u n m k ∧ NoDif D M ts u n m k ∧ v = .ref q ∧ H q = some (.tup [.int (si m k), .int (sj m k)]))
noncomputable def sp_law_others (C : Addr) : Sp := fun vs H Q _ => ∃ e, vs = [.ref e] ∧ H e = some (ExcAt e (.ref C)) ∧ Q (.bl false) H
noncomputable def sp_law_only (C : Addr) : Sp := fun vs H Q _ => ∃ e, vs = [.ref e] ∧ H e = some (ExcAt e (.ref C)) ∧ Q (.bl true) H
noncomputable def sp_law_right (K : PySem.W.Frag) : Sp := fun vs H Q _ => ∃ (dr p : Addr) (v : V) (D : List Str) (M : List (List Int)) (ts : List Int) (u : Int) (n m d : Nat), vs = [.ref dr, .ref p, v] ∧ DrAt H dr D n m ∧ DeedAt K H p M ts u ∧ Fine d M ts u ∧ (d = 2 ∨ d = 3) ∧ Small6 n m ∧ DueV H v D M ts u n m ∧
  ∀ H', Same H H' → Q (.bl true) H'
theorem ecls (T : Txt K mg t) : ExcCls K t.a_OffSheet := ⟨T.e_ga, T.e_gt, T.e_ca, T.e_cg, T.e_tk, T.e_ob, T.e_bx, by
  have q := T.e_ob
  unfold PySem.W.mroIn at q
  cases e : PySem.W.clsIn K t.a_OffSheet with
  | none => rw [e] at q; cases q
  | some c => rfl⟩
theorem one_len (c : Nat) : (⟨#[c]⟩ : Str).length = 1 := rfl
theorem len_app (x y : Str) : (x ++ y).length = x.length + y.length := by
  show (x.cps ++ y.cps).size = _
  rw [Array.size_append]; rfl
theorem fr_zip {K : PySem.W.Frag} {b1 b2 : Bool} {a1 a2 : Addr} {xs ys : List V} {g : TG} {tb : TS} {nx : St → Hp → Prop} {rt : VK} {σ : St} {H : Hp} (Pv : Nat → St → Hp → Prop) (h0 : Pv 0 σ H) (hlen : xs.length = ys.length) (hl : ∀ i σ H, i ≤ xs.length → Pv i σ H → SqB b1 K H a1 xs ∧ SqB b2 K H a2 ys)
    (hs : ∀ i x y p σ H, xs[i]? = some x → ys[i]? = some y → Pv i σ H → H p = none → g (.ref p) σ (upd H p (.tup [x, y])) fun σ2 H2 => tb { nx := Pv (i + 1), rt := rt, bk := nx, ct := Pv (i + 1) } σ2 H2) (hd : ∀ σ H, Pv xs.length σ H → nx σ H) : LoopW (Itz K b1 a1 b2 a2) g tb nx rt σ H :=
  for_zip (D := { nx := nx, rt := rt, bk := nx, ct := nx }) Pv h0 hlen hl hs hd
theorem rch_in {M : List (List Int)} {ts : List Int} {u : Int} {n m : Nat} {i j : Int} (hn : 1 ≤ n) (hm : 1 ≤ m) : 0 ≤ rch0 M ts u n m i j ∧ rch0 M ts u n m i j < n ∧ 0 ≤ rch1 M ts u n m i j ∧ rch1 M ts u n m i j < m :=
  ⟨(fms _ _ (by omega)).1, (fms _ _ (by omega)).2, (fms _ _ (by omega)).1, (fms _ _ (by omega)).2⟩
theorem sgn_eq {a b : Nat} : (V.str (⟨#[a]⟩ : Str) = V.str (⟨#[b]⟩ : Str)) ↔ a = b := by
  constructor
  · intro h
    have z2 : (⟨#[a]⟩ : Str) = ⟨#[b]⟩ := by injection h
    have z3 : (#[a] : Array Nat) = #[b] := congrArg Str.cps z2
    simpa using z3
  · intro h; rw [h]
theorem si_in {n m k : Nat} (hm : 1 ≤ m) (hk : k < n * m) : 0 ≤ si m k ∧ si m k < n ∧ 0 ≤ sj m k ∧ sj m k < m := by
  unfold si sj
  have h0 : (0 : Int) ≤ m := by omega
  rw [Int.fdiv_eq_ediv_of_nonneg _ h0, Int.fmod_eq_emod_of_nonneg _ h0]
  have e1 : ((k / m : Nat) : Int) = (k : Int) / (m : Int) := rfl
  have e2 : ((k % m : Nat) : Int) = (k : Int) % (m : Int) := rfl
  have h1 : k / m < n := Nat.div_lt_of_lt_mul (by rw [Nat.mul_comm]; exact hk)
  have h2 : k % m < m := Nat.mod_lt _ (by omega)
  rw [← e1, ← e2]
  exact ⟨Int.natCast_nonneg _, Int.ofNat_lt.mpr h1, Int.natCast_nonneg _, Int.ofNat_lt.mpr h2⟩
theorem NoDif.step {D : List Str} {M : List (List Int)} {ts : List Int} {u : Int} {n m i : Nat} (h : NoDif D M ts u n m i) (df : ¬ Dif D M ts u n m i) : NoDif D M ts u n m (i + 1) := fun k hk => by
  rcases (show k < i ∨ k = i by omega) with z | z
  · exact h k z
  · rw [z]; exact df
theorem si_of {m i j : Nat} (hj : j < m) : si m (i * m + j) = i ∧ sj m (i * m + j) = j := by
  unfold si sj
  have h0 : (0 : Int) ≤ m := by omega
  rw [Int.fdiv_eq_ediv_of_nonneg _ h0, Int.fmod_eq_emod_of_nonneg _ h0]
  have e1 : (((i * m + j) / m : Nat) : Int) = ((i * m + j : Nat) : Int) / (m : Int) := rfl
  have e2 : (((i * m + j) % m : Nat) : Int) = ((i * m + j : Nat) : Int) % (m : Int) := rfl
  have h1 : (i * m + j) / m = i := by rw [Nat.mul_comm, Nat.mul_add_div (by omega), Nat.div_eq_of_lt hj, Nat.add_zero]
  have h2 : (i * m + j) % m = j := by rw [Nat.mul_comm, Nat.mul_add_mod, Nat.mod_eq_of_lt hj]
  rw [← e1, ← e2, h1, h2]
  exact ⟨rfl, rfl⟩
theorem draw_row {K : PySem.W.Frag} {H : Hp} {dr : Addr} {D : List Str} {n m : Nat} {i : Int} {Q : VK} (hd : DrAt H dr D n m) (i0 : 0 ≤ i) (i1 : i < n) (q : Q (.str (D.getD i.toNat "")) H) : rIxB K (.ref dr) (.int i) H Q := by
  obtain ⟨k, rfl⟩ := Int.eq_ofNat_of_zero_le i0
  have hk : k < D.length := by have := hd.2.1; omega
  refine ⟨true, dr, _, _, _, rfl, rfl, SqB.tup hd.1, atI_at (i := k) (by rw [List.getElem?_map, List.getElem?_eq_getElem hk]; rfl) rfl, ?_⟩
  have e0 : D.getD k "" = D[k] := by rw [List.getD_eq_getElem?_getD, List.getElem?_eq_getElem hk]; rfl
  rw [Int.toNat_natCast, e0] at q
  exact q
theorem draw_sgn {H : Hp} {dr : Addr} {D : List Str} {n m : Nat} {i j : Int} {Q : VK} (hd : DrAt H dr D n m) (hm : m ≤ 6) (i0 : 0 ≤ i) (i1 : i < n) (j0 : 0 ≤ j) (j1 : j < m) (q : Q (.str ⟨#[sgn D i j]⟩) H) : rIxS (.str (D.getD i.toNat "")) (.int j) H Q := by
  obtain ⟨k, rfl⟩ := Int.eq_ofNat_of_zero_le i0
  obtain ⟨l, rfl⟩ := Int.eq_ofNat_of_zero_le j0
  have hk : k < D.length := by have := hd.2.1; omega
  have e0 : D.getD k "" = D[k] := by rw [List.getD_eq_getElem?_getD, List.getElem?_eq_getElem hk]; rfl
  have hlen := hd.2.2 _ (List.getElem_mem hk)
  have hl2 : l < D[k].cps.toList.length := by
    have : D[k].cps.toList.length = D[k].length := by simp [Str.length]
    omega
  rw [Int.toNat_natCast, e0]
  refine ⟨_, l, D[k].cps.toList[l], rfl, rfl, Nat.le_of_lt (sizeBig (by omega)), atI_at (i := l) (by rw [List.getElem?_eq_getElem hl2]) rfl, ?_⟩
  have e : sgn D (k : Int) (l : Int) = D[k].cps.toList[l] := by
    unfold sgn
    rw [Int.toNat_natCast, Int.toNat_natCast, e0, List.getD_eq_getElem?_getD, List.getElem?_eq_getElem hl2]
    rfl
  rw [e] at q
  exact q
theorem draw_len {K : PySem.W.Frag} {H : Hp} {dr : Addr} {D : List Str} {n m : Nat} {Q : VK} (hd : DrAt H dr D n m) (q : Q (.int n) H) : rLenB K [.ref dr] H Q := by
  refine ⟨true, dr, _, rfl, SqB.tup hd.1, ?_⟩
  rw [List.length_map, hd.2.1]
  exact q
/-- the first seat among the first N whose sign is another one than there -/
noncomputable def FirstV (H : Hp) (v : V) (D : List Str) (M : List (List Int)) (ts : List Int) (u : Int) (n m N : Nat) : Prop := (v = .non ∧ NoDif D M ts u n m N) ∨
  ∃ k q, k < N ∧ Dif D M ts u n m k ∧ NoDif D M ts u n m k ∧ v = .ref q ∧ H q = some (.tup [.int (si m k), .int (sj m k)])
theorem FirstV.up {H H' : Hp} {v : V} {D : List Str} {M : List (List Int)} {ts : List Int} {u : Int} {n m N : Nat} (h : FirstV H v D M ts u n m N) (s : Same H H') : FirstV H' v D M ts u n m N := by
  rcases h with h | ⟨k, q, h1, h2, h3, h4, h5⟩
  · exact .inl h
  · exact .inr ⟨k, q, h1, h2, h3, h4, s _ _ h5⟩
theorem ok_seats (T : Txt K mg t) : FnOk P w K mg base CX0 1 t.a_seats t.d_seats ["n", "m"] sp_seats := by
  refine T.F_seats.ok sc_seats (fun vs H Q E h => ?_) (fun cdv A outer s H vs Q E hr h => ?_)
  · obtain ⟨n, m, rfl, _⟩ := h
    rfl
  · obtain ⟨n, m, rfl, ⟨n1, n6, m1, m6⟩, hQ⟩ := h
    refine ⟨_, (pss_one (ps_ret (pe_compG (xs := ["number"]) (fr := [("m", 1)]) (g := (gName 0)) (tt := (tEl (tTup (tCons (tOp (rI CDivB fun i j => .int (i.fdiv j)) (tVar 0) (tVar 1)) (tCons (tOp (rI (fun _ j => j ≠ 0) fun i j => .int (i.fmod j)) (tVar 0) (tVar 1)) tNil))))) (compG_ok (sc := defScope s_seats) (N := N_seats) rfl rfl (by decide +kernel)) rfl (pi_range1 rfl T.z_range (pa_cons (pe_op op_mulB (pv 0) (pv 1)) pa_nil)) (fun _ _ _ hE1 => (pg_own (N := ["number", "m"]) (i := 0) hE1 rfl (by decide +kernel))) (fun _ _ _ hE1 => (po_el (pe_tup (pa_cons (pe_op op_fdivB (pv 0) (pv 1)) (pa_cons (pe_op op_modN (pv 0) (pv 1)) pa_nil)))))))), ?_⟩
    show tRet _ _ [some (.int n), some (.int m)] H
    walk_at "rd2"
    refine compE_st fun B eB => ?_
    simp only [iRng1]
    walk_at "rd2"
    have hnm : n * m ≤ 6 * 6 := Nat.mul_le_mul n6 m6
    have enm : (n : Int) * (m : Int) = ((n * m : Nat) : Int) := by rw [Int.natCast_mul]
    rw [enm]
    refine ⟨IntMulOk.of_left (intBits_le_iff.mpr (by omega)), by omega, by omega, fun a1 ha1 => ?_⟩
    rw [Int.toNat_natCast]
    refine cg_range (len := n * m) (fun k y H' => ∃ q, y = .ref q ∧ q ≠ a1 ∧ H' q = some (.tup [.int (si m k), .int (sj m k)])) ha1 (by omega) (fun i y H1 H2 ⟨q, h1, h2, h3⟩ sx => ⟨q, h1, h2, sx _ _ h2 h3⟩) ?_ ?_
    · intro k H2 zs hk s2 ez Q' hQ'
      subst eB
      show tTup _ [some (.int (0 + (k : Int))), some (.int m)] H2 Q'
      walk_at "rd2"
      rw [Int.zero_add]
      refine ⟨dvs _ _ (by omega) (by omega), by omega, ?_⟩
      refine ⟨by show 2 ≤ sizeLine; decide, fun p hp => hQ' _ _ (Same.new hp) ⟨p, rfl, fun z => ?_, upd_same⟩⟩
      rw [z, ez] at hp
      cases hp
    · intro H2 ys s2 ez hl hr2
      exact hQ a1 H2 s2 ⟨ys, ez, hl, fun k hk => by
        have hk' : k < ys.length := by omega
        obtain ⟨q, h1, _, h3⟩ := hr2 k ys[k] (by rw [List.getElem?_eq_getElem hk'])
        exact ⟨q, by rw [List.getElem?_eq_getElem hk', h1], h3⟩⟩
theorem ok_seat_at (T : Txt K mg t) : FnOk P w K mg base (CX1 P w) 1 t.a_seat_at t.d_seat_at ["spot", "n", "m"] (sp_seat_at K t.a_OffSheet) := by
  refine T.F_seat_at.okX sc_seat_at (fun vs H Q E h => ?_) (fun cdv A outer s H vs Q E hr h => ?_)
  · obtain ⟨q, x0, x1, x, n, m, rfl, _⟩ := h
    rfl
  · obtain ⟨q, x0, x1, x, n, m, rfl, hP, hx, hxl, ⟨n1, n6, m1, m6⟩, hE, hQ⟩ := h
    refine ⟨_, (pss_cons (ps_set (i := 3) sc_seat_at.nd rfl (Or.inl rfl) (pe_ix ix_B (pv 0) pe_int (fun _ _ => rfl)))
      (pss_cons (ps_set (i := 4) sc_seat_at.nd rfl (Or.inl rfl) (pe_op op_mulB (pe_ix ix_B (pe_ix ix_B (pv 0) pe_int (fun _ _ => rfl)) pe_int (fun _ _ => rfl)) (pv 1)))
      (pss_cons (ps_set (i := 5) sc_seat_at.nd rfl (Or.inl rfl) (pe_op op_mulB (pe_ix ix_B (pe_ix ix_B (pv 0) pe_int (fun _ _ => rfl)) pe_int (fun _ _ => rfl)) (pv 2)))
      (pss_cons (ps_if (PW.pt (pw_or (pt_cmpR op_neZ (pe_op op_modN (pv 4) (pv 3)) pe_int (nomark _)) (pw_or1 (pt_cmpR op_neZ (pe_op op_modN (pv 5) (pv 3)) pe_int (nomark _)))))
      (pss_one (ps_raise rfl landsN_def rfl T.m_OffSheet T.x_OffSheet PySem.F.excBase_ValueError (pa_cons pe_str pa_nil)))
      pss_nil)
      (pss_one (ps_ret (pe_tup (pa_cons (pe_op op_modN (pe_op op_fdivB (pv 4) (pv 3)) (pv 1)) (pa_cons (pe_op op_modN (pe_op op_fdivB (pv 5) (pv 3)) (pv 2)) pa_nil))))))))), ?_⟩
    show tSeq _ _ _ [some (.ref q), some (.int n), some (.int m), none, none, none] H
    refine st fun N1 e1 => ?_
    walk_at "rd2"
    refine place_ix1 hP ?_
    subst e1
    refine st fun N1 e1 => ?_
    walk_at "rd2"
    refine place_ix0 hP fun y hy => ⟨true, y, _, _, _, rfl, rfl, SqB.tup hy, rfl, ?_⟩
    walk_at "rd2"
    refine ⟨IntMulOk.of_right (intBits_le_iff.mpr (by omega)), ?_⟩
    subst e1
    refine st fun N1 e1 => ?_
    walk_at "rd2"
    refine place_ix0 hP fun y hy => ⟨true, y, _, _, _, rfl, rfl, SqB.tup hy, rfl, ?_⟩
    walk_at "rd2"
    refine ⟨IntMulOk.of_right (intBits_le_iff.mpr (by omega)), ?_⟩
    subst e1
    refine st fun N1 e1 => ?_
    walk_at "rd2"
    have hx0 : ¬ x = 0 := by omega
    refine ⟨hx0, ?_⟩
    by_cases z0 : (x0 * n).fmod x = 0
    · rw [decide_eq_true z0]
      refine iteF ⟨hx0, ?_⟩
      by_cases z1 : (x1 * m).fmod x = 0
      · rw [decide_eq_true z1]
        refine iteF ?_
        subst e1
        walk_at "rd2"
        refine ⟨⟨hx0, hxl⟩, by omega, ⟨hx0, hxl⟩, by omega, by show 2 ≤ sizeLine; decide, fun p hp => hQ (by simp [z0, z1]) p _ (Same.new hp) upd_same⟩
      · rw [decide_eq_false z1]
        refine iteT ?_
        simp only [tRaise]
        walk_at "rd2"
        exact ⟨by decide, hE (.inr z1)⟩
    · rw [decide_eq_false z0]
      refine iteT ?_
      simp only [tRaise]
      walk_at "rd2"
      exact ⟨by decide, hE (.inl z0)⟩
theorem ok_sign_at (T : Txt K mg t) : FnOk P w K mg base CX0 1 t.a_sign_at t.d_sign_at ["drawing", "seat"] sp_sign_at := by
  refine T.F_sign_at.ok sc_sign_at (fun vs H Q E h => ?_) (fun cdv A outer s H vs Q E hr h => ?_)
  · obtain ⟨dr, q, D, n, m, i, j, rfl, _⟩ := h
    rfl
  · obtain ⟨dr, q, D, n, m, i, j, rfl, ⟨hD, hl, hm⟩, hq, ⟨n1, n6, m1, m6⟩, i0, i1, j0, j1, hQ⟩ := h
    refine ⟨_, (pss_one (ps_ret (pe_ix ix_str (pe_ix ix_B (pv 0) (pe_ix ix_B (pv 1) pe_int (fun _ _ => rfl)) (fun _ _ => rfl)) (pe_ix ix_B (pv 1) pe_int (fun _ _ => rfl)) (fun _ _ => rfl)))), ?_⟩
    show tRet _ _ [some (.ref dr), some (.ref q)] H
    walk_at "rd2"
    refine ⟨true, q, _, _, _, rfl, rfl, SqB.tup hq, rfl, ?_⟩
    obtain ⟨k, rfl⟩ := Int.eq_ofNat_of_zero_le i0
    obtain ⟨l, rfl⟩ := Int.eq_ofNat_of_zero_le j0
    have hk : k < D.length := by omega
    refine ⟨true, dr, _, _, _, rfl, rfl, SqB.tup hD, atI_at (i := k) (by rw [List.getElem?_map, List.getElem?_eq_getElem hk]; rfl) rfl, ?_⟩
    refine ⟨true, q, _, _, _, rfl, rfl, SqB.tup hq, rfl, ?_⟩
    have hlen := hm _ (List.getElem_mem hk)
    have hl2 : l < D[k].cps.toList.length := by
      have : D[k].cps.toList.length = D[k].length := by simp [Str.length]
      omega
    refine ⟨_, l, D[k].cps.toList[l], rfl, rfl, Nat.le_of_lt (sizeBig (by omega)), atI_at (i := l) (by rw [List.getElem?_eq_getElem hl2]) rfl, ?_⟩
    have e : sgn D (k : Int) (l : Int) = D[k].cps.toList[l] := by
      unfold sgn
      have e0 : D.getD k "" = D[k] := by rw [List.getD_eq_getElem?_getD, List.getElem?_eq_getElem hk]; rfl
      rw [Int.toNat_natCast, Int.toNat_natCast, e0, List.getD_eq_getElem?_getD, List.getElem?_eq_getElem hl2]
      rfl
    rw [e] at hQ
    exact hQ
theorem PlaceAt.ne {H : Hp} {p a : Addr} {ns : List Int} {u : Int} {zs : List V} (h : PlaceAt H p ns u) (e : H a = some (.lst zs)) : ∃ q, p ≠ a ∧ q ≠ a ∧ H p = some (.tup [.ref q, .int u]) ∧ H q = some (.tup (ns.map V.int)) := by
  obtain ⟨q, h1, h2⟩ := h
  refine ⟨q, fun z => ?_, fun z => ?_, h1, h2⟩
  · rw [z, e] at h1; cases h1
  · rw [z, e] at h2; cases h2
theorem bits_small {n : Int} (h : n.natAbs ≤ 1000) : n.natAbs < 2 ^ 1000 := Nat.lt_of_le_of_lt h (by decide +kernel)
theorem redU_dvd {u : Int} {ns : List Int} (hu : u ≠ 0) : redU u ns ∣ u := ⟨cs u ns, (fdiv_exact (cs_ne ns hu) (cs_dvd (gl_u u ns))).symm⟩
theorem natAbs_fdiv {c t : Int} (hc : c ≠ 0) (h : c ∣ t) : (t.fdiv c).natAbs ≤ t.natAbs := by
  have e := fdiv_exact hc h
  have e2 : (t.fdiv c).natAbs * c.natAbs = t.natAbs := by rw [← Int.natAbs_mul, e]
  have : 1 ≤ c.natAbs := by omega
  calc (t.fdiv c).natAbs = (t.fdiv c).natAbs * 1 := (Nat.mul_one _).symm
    _ ≤ (t.fdiv c).natAbs * c.natAbs := Nat.mul_le_mul_left _ this
    _ = t.natAbs := e2
theorem red_bits {n m : Nat} {i j : Int} (i0 : 0 ≤ i) (i1 : i < n) (j0 : 0 ≤ j) (j1 : j < m) (n1 : 1 ≤ n) (n6 : n ≤ 6) (m1 : 1 ≤ m) (m6 : m ≤ 6) :
    BitsL 1000 (redT (n * m) [i * m, j * n]) ∧ 0 < redU (n * m) [i * m, j * n] ∧ redU (n * m) [i * m, j * n] ≤ 36 ∧ True := by
  have hnm : n * m ≤ 6 * 6 := Nat.mul_le_mul n6 m6
  have e : (n : Int) * m = ((n * m : Nat) : Int) := by rw [Int.natCast_mul]
  have pnm : (0 : Int) < (n : Int) * m := Int.mul_pos (by omega) (by omega)
  have hne : (n : Int) * m ≠ 0 := Int.ne_of_gt pnm
  have hu0 : 0 < redU (n * m) [i * m, j * n] := under_pos _ hne
  refine ⟨fun x hx => ?_, hu0, ?_, trivial⟩
  · obtain ⟨y, hy, rfl⟩ := List.mem_map.mp hx
    have hle := natAbs_fdiv (cs_ne [i * m, j * n] hne) (cs_dvd (gl_mem (u := n * m) hy))
    have hy2 : y.natAbs ≤ 1000 := by
      obtain ⟨a, rfl⟩ := Int.eq_ofNat_of_zero_le i0
      obtain ⟨c, rfl⟩ := Int.eq_ofNat_of_zero_le j0
      have ha : a * m ≤ 6 * 6 := Nat.mul_le_mul (by omega) m6
      have hc : c * n ≤ 6 * 6 := Nat.mul_le_mul (by omega) n6
      rcases List.mem_cons.mp hy with z | z
      · rw [z, ← Int.natCast_mul]; omega
      · rw [List.mem_singleton.mp z, ← Int.natCast_mul]; omega
    exact bits_small (Nat.le_trans hle hy2)
  · have := Int.le_of_dvd pnm (redU_dvd (ns := [i * m, j * n]) hne)
    omega
theorem ok_seats_reached (T : Txt K mg t) : FnOk P w K mg base (CX1 P w) 4 t.a_seats_reached t.d_seats_reached ["one", "n", "m"] (sp_seats_reached K t.a_OffSheet) := by
  have G_seats : FnOk P w K mg base CX0 1 t.a_seats t.d_seats ["n", "m"] sp_seats := ok_seats T
  have G_place : FnOk P w K mg base (CX1 P w) 2 t.a_place t.d_place ["tops", "under"] (sp_place K t.a_NoPlace) := ok_place T
  have G_moved : FnOk P w K mg base CX0 3 t.a_moved t.d_moved ["one", "spot"] (sp_moved K) := ok_moved T
  have G_seat_at : FnOk P w K mg base (CX1 P w) 1 t.a_seat_at t.d_seat_at ["spot", "n", "m"] (sp_seat_at K t.a_OffSheet) := ok_seat_at T
  refine T.F_seats_reached.okX sc_seats_reached (fun vs H Q E h => ?_) (fun cdv A outer s H vs Q E hr h => ?_)
  · obtain ⟨p, M, ts, u, n, m, d, rfl, _⟩ := h
    rfl
  · obtain ⟨p, M, ts, u, n, m, d, rfl, hD, fi, hd, ⟨n1, n6, m1, m6⟩, hE, hQ⟩ := h
    refine ⟨_, (pss_cons (ps_if (pt_cmpR op_neZ (pe_callB call_lenB rfl T.z_len (by decide +kernel) (pa_cons (pe_ix ix_B (pv 0) pe_int (fun _ _ => rfl)) pa_nil)) pe_int (nomark _))
      (pss_one (ps_raise rfl landsN_def rfl T.m_OffSheet T.x_OffSheet PySem.F.excBase_ValueError (pa_cons pe_str pa_nil)))
      pss_nil)
      (pss_cons (ps_setCG (i := 3) (xs := ["seat"]) (fr := [("n", 1), ("m", 2)]) (g := (gName 0)) (tt := (tEl (tCall (sp_place K t.a_NoPlace) [] E0 (tCons (tLst (tCons (tOp (rI (fun i j => IntMulOk i j) fun i j => .int (i * j)) (tOp (rIxB K) (tVar 0) (tC (.int 0))) (tVar 2)) (tCons (tOp (rI (fun i j => IntMulOk i j) fun i j => .int (i * j)) (tOp (rIxB K) (tVar 0) (tC (.int 1))) (tVar 1)) tNil))) (tCons (tOp (rI (fun i j => IntMulOk i j) fun i j => .int (i * j)) (tVar 1) (tVar 2)) tNil))))) (compG_ok (sc := defScope s_seats_reached) (N := N_seats_reached) rfl rfl (by decide +kernel)) rfl sc_seats_reached.nd rfl rfl (pi_seq (pe_call G_seats (hr.mono (by omega)) rfl T.m_seats T.F_seats.kp T.b_seats .nil pass0 (pa_cons (pv 1) (pa_cons (pv 2) pa_nil)))) (fun _ _ _ hE1 => (pg_own (N := ["seat", "n", "m"]) (i := 0) hE1 rfl (by decide +kernel))) (fun _ _ _ hE1 => (po_el (pe_call G_place (hr.mono (by omega)) rfl T.m_place T.F_place.kp T.b_place .nil passes1 (pa_cons (pe_lst (pa_cons (pe_op op_mulB (pe_ix ix_B (pv 0) pe_int (fun _ _ => rfl)) (pv 2)) (pa_cons (pe_op op_mulB (pe_ix ix_B (pv 0) pe_int (fun _ _ => rfl)) (pv 1)) pa_nil))) (pa_cons (pe_op op_mulB (pv 1) (pv 2)) pa_nil))))))
      (pss_one (ps_ret (pe_compX (xs := ["spot"]) (fr := [("one", 0), ("n", 1), ("m", 2)]) (g := (gName 0)) (compG_ok (sc := defScope s_seats_reached) (N := N_seats_reached) rfl rfl (by decide +kernel)) rfl landsH_def (pi_seq (pv 3)) (fun _ _ _ _ hE1 => (pg_own (N := ["spot", "one", "n", "m"]) (i := 0) hE1 rfl (by decide +kernel))) (fun _ _ _ _ hE1 hC => (po_el (pe_callXC G_seat_at (hr.mono (by omega)) rfl T.m_seat_at T.F_seat_at.kp T.b_seat_at .nil hC (pa_cons (pe_call G_moved (hr.mono (by omega)) rfl T.m_moved T.F_moved.kp T.b_moved .nil pass0 (pa_cons (pv 1) (pa_cons (pv 0) pa_nil))) (pa_cons (pv 2) (pa_cons (pv 3) pa_nil))))))))))), ?_⟩
    show tSeq _ _ _ [some (.ref p), some (.int n), some (.int m), none] H
    refine st fun N1 e1 => ?_
    walk_at "rd2"
    refine deed_ix0 hD fun x hx => mat_len hx ?_
    try walk_at "rd2"
    rw [fi.sq.1]
    rcases hd with rfl | rfl
    · refine iteF ?_
      subst e1
      refine st fun N1 e1 => ?_
      walk_at "rd2"
      refine compE_st fun B eB => ?_
      simp only [iSeq]
      walk_at "rd2"
      refine ⟨n, m, rfl, ⟨n1, n6, m1, m6⟩, fun l1 H1 s1 hl1 => ?_⟩
      obtain ⟨ys, ey, hyl, hy⟩ := hl1
      have hnm : n * m ≤ 6 * 6 := Nat.mul_le_mul n6 m6
      have pnm : (0 : Int) < (n : Int) * m := Int.mul_pos (by omega) (by omega)
      have smnm : small ((n : Int) * m) := by
        have e : (n : Int) * m = ((n * m : Nat) : Int) := by rw [Int.natCast_mul]
        have := big_gt
        unfold small
        rw [e]
        omega
      refine ⟨false, l1, rfl, ⟨_, SqB.lst ey⟩, fun a1 ha1 => ?_⟩
      refine cg_seq (fun k y H' => ∃ q q2, y = .ref q ∧ q ≠ a1 ∧ q2 ≠ a1 ∧ H' q = some (.tup [.ref q2, .int (redU (n * m) [si m k * m, sj m k * n])]) ∧ H' q2 = some (.tup ((redT (n * m) [si m k * m, sj m k * n]).map V.int))) ha1 (SqB.lst ey) (by omega)
        (fun i y H1 H2 ⟨q, q2, h1, h2, h3, h4, h5⟩ sx => ⟨q, q2, h1, h2, h3, sx _ _ h2 h4, sx _ _ h3 h5⟩) ?_ ?_
      · intro k x H2 zs ex s2 ez Q' hQ'
        have hkl : k < ys.length := (List.getElem?_eq_some_iff.mp ex).1
        obtain ⟨q, hq1, hq2⟩ := hy k (by omega)
        rw [ex] at hq1
        cases hq1
        subst eB
        show tCall _ _ _ _ [some (.ref q), some (.int n), some (.int m)] H2 Q'
        walk_at "rd2"
        have b := si_in (n := n) m1 (show k < n * m by omega)
        refine ⟨true, q, _, _, _, rfl, rfl, SqB.tup (s2 _ _ hq2), rfl, ?_⟩
        walk_at "rd2"
        refine ⟨IntMulOk.of_right (intBits_le_iff.mpr (by omega)), true, q, _, _, _, rfl, rfl, SqB.tup (s2 _ _ hq2), rfl, ?_⟩
        walk_at "rd2"
        refine ⟨IntMulOk.of_right (intBits_le_iff.mpr (by omega)), by show 2 ≤ sizeLine; decide, fun p2 hp2 => ⟨IntMulOk.of_right (intBits_le_iff.mpr (by omega)), ?_⟩⟩
        refine ⟨false, p2, [si m k * m, sj m k * n], (n : Int) * m, rfl, SqB.lst upd_same, (show 2 ≤ 100 by decide), smnm, fun z => ?_, fun _ _ p3 H3 s3 hP => ?_⟩
        · rcases z with z | z
          · exact absurd z (Int.ne_of_gt pnm)
          · cases z
        · have s3' : Same H2 H3 := (Same.new hp2).trans s3
          obtain ⟨q2, g1, g2, g3, g4⟩ := hP.ne (s3' _ _ ez)
          exact hQ' _ _ s3' ⟨p3, q2, rfl, g1, g2, g3, g4⟩
      · intro H2 zs s2 ez hlz hR
        subst e1
        walk_at "rd2"
        refine compE_st fun B eB => ?_
        simp only [iSeq]
        walk_at "rd2"
        refine ⟨false, ⟨_, SqB.lst ez⟩, fun a2 ha2 => ?_⟩
        refine cg_seq (fun k y H' => ¬ offK M ts u n m k ∧ ∃ q, y = .ref q ∧ q ≠ a2 ∧ H' q = some (.tup [.int (r0K M ts u n m k), .int (r1K M ts u n m k)])) ha2 (SqB.lst ez) (by omega)
          (fun i y H1 H2 ⟨h0, q, h1, h2, h3⟩ sx => ⟨h0, q, h1, h2, sx _ _ h2 h3⟩) ?_ ?_
        · intro k x H3 zs3 ex s3 ez3 Q' hQ'
          have hkl : k < zs.length := (List.getElem?_eq_some_iff.mp ex).1
          have hk : k < n * m := by omega
          obtain ⟨q, q2, rfl, _, _, g3, g4⟩ := hR k x ex
          subst eB
          show tCallX _ _ _ _ [some (.ref q), some (.ref p), some (.int n), some (.int m)] H3 Q'
          walk_at "rd2"
          have b := si_in (n := n) m1 hk
          have sH3 : Same H H3 := (s1.trans s2).trans s3
          obtain ⟨v1, v2, v3, v4⟩ := red_bits (i := si m k) (j := sj m k) b.1 b.2.1 b.2.2.1 b.2.2.2 n1 n6 m1 m6
          refine ⟨p, q, M, ts, _, u, _, 2, rfl, hD.up sH3, ⟨q2, s3 _ _ g3, s3 _ _ g4⟩, fi, by decide, by decide, rfl, v1, v2, Int.lt_of_le_of_lt v3 (by decide +kernel), fun r H4 s4 hP4 => ?_⟩
          obtain ⟨x0, x1, ex2, hxp, hA, hB⟩ := moved_far (i := si m k) (j := sj m k) fi.sq fi.len fi.pos (show (0 : Int) < n by omega) (show (0 : Int) < m by omega)
          rw [ex2] at hP4
          have hlog : (redU (u * redU (n * m) [si m k * m, sj m k * n]) (movT M ts u (redT (n * m) [si m k * m, sj m k * n]) (redU (n * m) [si m k * m, sj m k * n]))).natAbs.log2 < 9000 := by
            obtain ⟨sm, ps⟩ := small_prod fi.pos fi.bu v2 (Int.lt_of_le_of_lt v3 (by decide +kernel))
            exact small_log (small_dvd sm (Int.ne_of_gt ps) (redU_dvd (Int.ne_of_gt ps))) (Int.ne_of_gt hxp)
          generalize redU (u * redU (n * m) [si m k * m, sj m k * n]) (movT M ts u (redT (n * m) [si m k * m, sj m k * n]) (redU (n * m) [si m k * m, sj m k * n])) = x at *
          have hu := fi.pos
          obtain ⟨qa, qb⟩ := quot_eq hxp (Int.mul_pos (show (0 : Int) < m by omega) hu) hA
          obtain ⟨qc, qd⟩ := quot_eq hxp (Int.mul_pos (show (0 : Int) < n by omega) hu) hB
          have hoff : ((x0 * n).fmod x ≠ 0 ∨ (x1 * m).fmod x ≠ 0) ↔ offK M ts u n m k := by
            unfold offK offP
            rw [ne_eq, ne_eq, qb, qd]
          refine ⟨r, x0, x1, x, n, m, rfl, hP4, hxp, hlog, ⟨n1, n6, m1, m6⟩, fun z => hE (.inr ⟨k, hk, hoff.mp z⟩) _ (sH3.trans s4), fun z p5 H5 s5 h5 => ?_⟩
          refine hQ' _ _ (s4.trans s5) ⟨fun z2 => z (hoff.mpr z2), p5, rfl, fun z3 => ?_, ?_⟩
          · have := s5 _ _ (s4 _ _ ez3)
            rw [← z3, h5] at this
            cases this
          · rw [h5, qa, qc]
            rfl
        · intro H3 ws s3 ew hlw hR2
          have get : ∀ k, k < n * m → ¬ offK M ts u n m k ∧ ∃ q, ws[k]? = some (.ref q) ∧ H3 q = some (.tup [.int (r0K M ts u n m k), .int (r1K M ts u n m k)]) := fun k hk => by
            have hk' : k < ws.length := by omega
            obtain ⟨h0, q, h1, _, h3⟩ := hR2 k ws[k] (by rw [List.getElem?_eq_getElem hk'])
            exact ⟨h0, q, by rw [List.getElem?_eq_getElem hk', h1], h3⟩
          refine hQ (fun z => ?_) a2 H3 ((s1.trans s2).trans s3) ⟨ws, ew, by omega, fun k hk => (get k hk).2⟩
          rcases z with z | ⟨k, hk, z⟩
          · rw [fi.sq.1] at z; cases z
          · exact (get k hk).1 z
    · refine iteT ?_
      simp only [tRaise]
      walk_at "rd2"
      exact ⟨by decide, hE (.inl (by rw [fi.sq.1])) H (Same.refl _)⟩
theorem ok_lays (T : Txt K mg t) : FnOk P w K mg base (CX1 P w) 5 t.a_lays t.d_lays ["drawing", "one"] (sp_lays K t.a_OffSheet) := by
  have G_seats : FnOk P w K mg base CX0 1 t.a_seats t.d_seats ["n", "m"] sp_seats := ok_seats T
  have G_seats_reached : FnOk P w K mg base (CX1 P w) 4 t.a_seats_reached t.d_seats_reached ["one", "n", "m"] (sp_seats_reached K t.a_OffSheet) := ok_seats_reached T
  have G_sign_at : FnOk P w K mg base CX0 1 t.a_sign_at t.d_sign_at ["drawing", "seat"] sp_sign_at := ok_sign_at T
  refine T.F_lays.okX sc_lays (fun vs H Q E h => ?_) (fun cdv A outer s H vs Q E hr h => ?_)
  · obtain ⟨dr, p, D, M, ts, u, n, m, d, rfl, _⟩ := h
    rfl
  · obtain ⟨dr, p, D, M, ts, u, n, m, d, rfl, hDr, hD, fi, hd, hnm, hE, hQ1, hQ2⟩ := h
    have hnm' := hnm
    obtain ⟨n1, n6, m1, m6⟩ := hnm'
    obtain ⟨hd1, hd2, hd3⟩ := hDr
    refine ⟨_, (pss_cons (ps_set (i := 2) sc_lays.nd rfl (Or.inl rfl) (pe_callB call_lenB rfl T.z_len (by decide +kernel) (pa_cons (pv 0) pa_nil)))
      (pss_cons (ps_set (i := 3) sc_lays.nd rfl (Or.inl rfl) (pe_callB call_len_str rfl T.z_len (by decide +kernel) (pa_cons (pe_ix ix_B (pv 0) pe_int (fun _ _ => rfl)) pa_nil)))
      (pss_cons (ps_for PassesOwn.leaving rfl (pi_zip rfl T.z_zip (pa_cons (pe_call G_seats (hr.mono (by omega)) rfl T.m_seats T.F_seats.kp T.b_seats .nil pass0 (pa_cons (pv 2) (pa_cons (pv 3) pa_nil))) (pa_cons (pe_callX G_seats_reached (hr.mono (by omega)) rfl T.m_seats_reached T.F_seats_reached.kp T.b_seats_reached .nil lands_def (pa_cons (pv 1) (pa_cons (pv 2) (pa_cons (pv 3) pa_nil)))) pa_nil))) (pg_tup rfl (pgs_cons (pg_name (i := 4) sc_lays.nd rfl (Or.inl rfl)) (pgs_cons (pg_name (i := 5) sc_lays.nd rfl (Or.inl rfl)) pgs_nil)))
      (pss_one (ps_if (pt_cmpR op_ne (pe_call G_sign_at (hr.mono (by omega)) rfl T.m_sign_at T.F_sign_at.kp T.b_sign_at .nil pass0 (pa_cons (pv 0) (pa_cons (pv 4) pa_nil))) (pe_call G_sign_at (hr.mono (by omega)) rfl T.m_sign_at T.F_sign_at.kp T.b_sign_at .nil pass0 (pa_cons (pv 0) (pa_cons (pv 5) pa_nil))) (nomark _))
      (pss_one (ps_ret (pv 4)))
      pss_nil)))
      (pss_one (ps_ret pe_non))))), ?_⟩
    show tSeq _ _ _ [some (.ref dr), some (.ref p), none, none, none, none] H
    refine st fun N1 e1 => ?_
    walk_at "rd2"
    refine ⟨true, dr, _, rfl, SqB.tup hd1, ?_⟩
    rw [List.length_map, hd2]
    subst e1
    refine st fun N1 e1 => ?_
    walk_at "rd2"
    have h0 : 0 < D.length := by omega
    refine ⟨true, dr, _, _, _, rfl, rfl, SqB.tup hd1, atI_at (i := 0) (by rw [List.getElem?_map, List.getElem?_eq_getElem h0]; rfl) rfl, ?_⟩
    have hl0 := hd3 _ (List.getElem_mem h0)
    refine ⟨_, rfl, by rw [hl0]; exact Nat.le_of_lt (sizeBig (by omega)), ?_⟩
    rw [hl0]
    subst e1
    refine st fun N1 e1 => for_st fun B eB => ?_
    simp only [iZip]
    walk_at "rd2"
    refine ⟨n, m, rfl, hnm, fun l1 H1 s1 hl1 => ?_⟩
    refine ⟨p, M, ts, u, n, m, d, rfl, hD.up s1, fi, hd, hnm, fun off H2 s2 => hE off H2 (s1.trans s2), fun noff l2 H2 s2 hl2 => ?_⟩
    obtain ⟨ys, ey, hyl, hy⟩ := hl1.up s2
    obtain ⟨zs, ez, hzl, hz⟩ := hl2
    refine ⟨false, false, l1, rfl, l2, rfl, ⟨_, SqB.lst ey⟩, ⟨_, SqB.lst ez⟩, ?_⟩
    refine fr_zip (xs := ys) (ys := zs) (tb := B) (fun i σ H3 => ∃ v4 v5, σ = [some (.ref dr), some (.ref p), some (.int n), some (.int m), v4, v5] ∧ Same H2 H3 ∧ NoDif D M ts u n m i) ⟨none, none, rfl, Same.refl _, fun k hk => by omega⟩ (by omega)
      (fun i σ H3 _ ⟨_, _, _, s3, _⟩ => ⟨SqB.lst (s3 _ _ ey), SqB.lst (s3 _ _ ez)⟩) ?_ ?_
    · rintro i x y q σ H3 ex ey2 ⟨v4, v5, rfl, s3, nd⟩ hq
      have hi : i < n * m := by have := (List.getElem?_eq_some_iff.mp ex).1; omega
      obtain ⟨q1, g1, g2⟩ := hy i hi
      obtain ⟨q2, g3, g4⟩ := hz i hi
      rw [ex] at g1
      cases g1
      rw [ey2] at g3
      cases g3
      refine ⟨q, _, rfl, SqT.of upd_same, rfl, ?_⟩
      subst eB
      have s4 : Same H2 (upd H3 q (.tup [.ref q1, .ref q2])) := s3.trans (Same.new hq)
      generalize upd H3 q (.tup [.ref q1, .ref q2]) = H4 at s4
      refine ⟨_, _, rfl, ?_⟩
      refine ⟨_, _, rfl, ?_⟩
      refine ⟨rfl, ?_⟩
      show tIfS _ _ _ _ [some (.ref dr), some (.ref p), some (.int n), some (.int m), some (.ref q1), some (.ref q2)] H4
      walk_at "rd2"
      have b := si_in (n := n) m1 hi
      have b2 := rch_in (M := M) (ts := ts) (u := u) (i := si m i) (j := sj m i) n1 m1
      have sH4 : Same H H4 := (s1.trans s2).trans s4
      refine ⟨dr, q1, D, n, m, _, _, rfl, ⟨sH4 _ _ hd1, hd2, hd3⟩, s4 _ _ g2, hnm, b.1, b.2.1, b.2.2.1, b.2.2.2, ?_⟩
      refine ⟨dr, q2, D, n, m, _, _, rfl, ⟨sH4 _ _ hd1, hd2, hd3⟩, s4 _ _ g4, hnm, b2.1, b2.2.1, b2.2.2.1, b2.2.2.2, ?_⟩
      try walk_at "rd2"
      by_cases df : Dif D M ts u n m i
      · have e : decide (V.str (⟨#[sgn D (si m i) (sj m i)]⟩ : Str) = V.str ⟨#[sgn D (r0K M ts u n m i) (r1K M ts u n m i)]⟩) = false := decide_eq_false fun z => df (sgn_eq.mp z)
        refine ⟨rfl, _, rfl, ?_⟩
        rw [e]
        exact iteT (hQ2 noff i hi df nd q1 H4 sH4 (s4 _ _ g2))
      · have e : decide (V.str (⟨#[sgn D (si m i) (sj m i)]⟩ : Str) = V.str ⟨#[sgn D (r0K M ts u n m i) (r1K M ts u n m i)]⟩) = true := decide_eq_true (sgn_eq.mpr (Decidable.of_not_not df))
        refine ⟨rfl, _, rfl, ?_⟩
        rw [e]
        exact iteF ⟨s4, nd.step df⟩
    · rintro σ H3 ⟨v4, v5, rfl, s3, nd⟩
      rw [hyl] at nd
      subst e1
      walk_at "rd2"
      exact hQ1 noff nd H3 ((s1.trans s2).trans s3)
theorem ok_law_others (T : Txt K mg t) : FnOkA P w K mg base 1 t.a_law_others t.d_law_others ["_law_e"] (sp_law_others t.a_OffSheet) := by
  refine T.F_law_others.okA sc_law_others (fun vs H Q E h => ?_) (fun cdv A outer s H vs Q E hr h => ?_)
  · obtain ⟨e, rfl, _⟩ := h
    rfl
  · obtain ⟨e, rfl, he, q⟩ := h
    refine ⟨_, (pss_cons (ps_if (PW.pt (pw_or (pt_val (pe_callB call_isi rfl T.z_isinstance (by decide +kernel) (pa_cons (pv 0) (pa_cons (pe_glob (v := .ref t.a_NoPlace) rfl T.m_NoPlace rfl) pa_nil)))) (pw_or (pt_val (pe_callB call_isi rfl T.z_isinstance (by decide +kernel) (pa_cons (pv 0) (pa_cons (pe_glob (v := .ref t.a_NoNumber) rfl T.m_NoNumber rfl) pa_nil)))) (pw_or1 (pt_val (pe_callB call_isi rfl T.z_isinstance (by decide +kernel) (pa_cons (pv 0) (pa_cons (pe_glob (v := .ref t.a_TooMany) rfl T.m_TooMany rfl) pa_nil))))))))
      (pss_one (ps_ret pe_bl))
      pss_nil)
      (pss_cons (ps_if (PW.pt (pw_or (pt_val (pe_callB call_isi rfl T.z_isinstance (by decide +kernel) (pa_cons (pv 0) (pa_cons (pe_glob (v := .ref t.a_NoChange) rfl T.m_NoChange rfl) pa_nil)))) (pw_or (pt_val (pe_callB call_isi rfl T.z_isinstance (by decide +kernel) (pa_cons (pv 0) (pa_cons (pe_glob (v := .ref t.a_NotKept) rfl T.m_NotKept rfl) pa_nil)))) (pw_or1 (pt_val (pe_callB call_isi rfl T.z_isinstance (by decide +kernel) (pa_cons (pv 0) (pa_cons (pe_glob (v := .ref t.a_NoForm) rfl T.m_NoForm rfl) pa_nil))))))))
      (pss_one (ps_ret pe_bl))
      pss_nil)
      (pss_cons (ps_if (PW.pt (pw_or (pt_val (pe_callB call_isi rfl T.z_isinstance (by decide +kernel) (pa_cons (pv 0) (pa_cons (pe_glob (v := .ref t.a_NotWithin) rfl T.m_NotWithin rfl) pa_nil)))) (pw_or1 (pt_val (pe_callB call_isi rfl T.z_isinstance (by decide +kernel) (pa_cons (pv 0) (pa_cons (pe_glob (v := .ref t.a_NotLeast) rfl T.m_NotLeast rfl) pa_nil)))))))
      (pss_one (ps_ret pe_bl))
      pss_nil)
      (pss_one (ps_ret (pe_or (pe_callB call_isi rfl T.z_isinstance (by decide +kernel) (pa_cons (pv 0) (pa_cons (pe_glob (v := .ref t.a_NoRow) rfl T.m_NoRow rfl) pa_nil))) (pe_one (pe_callB call_isi rfl T.z_isinstance (by decide +kernel) (pa_cons (pv 0) (pa_cons (pe_glob (v := .ref t.a_NoName) rfl T.m_NoName rfl) pa_nil)))))))))), ?_⟩
    show tSeq _ _ _ [some (.ref e)] H
    have isi : ∀ (c : V) (b : Bool) (Q' : VK), isCls c = true → PySem.W.kitOne K (.ref t.a_OffSheet) (clsV c) = some b → Q' (.bl b) H → rIsi K [.ref e, c] H Q' := fun c b Q' h1 h2 h3 => ⟨_, _, _, _, rfl, .exc he (ecls T), h1, h2, h3⟩
    refine st fun N1 e1 => ?_
    walk_at "rd2"
    refine isi _ _ _ rfl T.i_NoPlace ⟨_, rfl, iteF (isi _ _ _ rfl T.i_NoNumber ⟨_, rfl, iteF (isi _ _ _ rfl T.i_TooMany ⟨_, rfl, iteF ?_⟩)⟩)⟩
    subst e1
    refine st fun N1 e1 => ?_
    walk_at "rd2"
    refine isi _ _ _ rfl T.i_NoChange ⟨_, rfl, iteF (isi _ _ _ rfl T.i_NotKept ⟨_, rfl, iteF (isi _ _ _ rfl T.i_NoForm ⟨_, rfl, iteF ?_⟩)⟩)⟩
    subst e1
    refine st fun N1 e1 => ?_
    walk_at "rd2"
    refine isi _ _ _ rfl T.i_NotWithin ⟨_, rfl, iteF (isi _ _ _ rfl T.i_NotLeast ⟨_, rfl, iteF ?_⟩)⟩
    subst e1
    walk_at "rd2"
    exact isi _ _ _ rfl T.i_NoRow ⟨_, rfl, iteF (isi _ _ _ rfl T.i_NoName q)⟩
theorem ok_law_only (T : Txt K mg t) : FnOkA P w K mg base 2 t.a_law_only t.d_law_only ["_law_e"] (sp_law_only t.a_OffSheet) := by
  have G_law_others : FnOkA P w K mg base 1 t.a_law_others t.d_law_others ["_law_e"] (sp_law_others t.a_OffSheet) := ok_law_others T
  refine T.F_law_only.okA sc_law_only (fun vs H Q E h => ?_) (fun cdv A outer s H vs Q E hrA h => ?_)
  · obtain ⟨e, rfl, _⟩ := h
    rfl
  · obtain ⟨e, rfl, he, q⟩ := h
    refine ⟨_, (pss_cons (ps_if (PW.pt (pw_or (pt_val (pe_callB call_isi rfl T.z_isinstance (by decide +kernel) (pa_cons (pv 0) (pa_cons (pe_glob (v := .ref t.a_NoDrawing) rfl T.m_NoDrawing rfl) pa_nil)))) (pw_or1 (pt_val (pe_callB call_isi rfl T.z_isinstance (by decide +kernel) (pa_cons (pv 0) (pa_cons (pe_glob (v := .ref t.a_NoSheet) rfl T.m_NoSheet rfl) pa_nil)))))))
      (pss_one (ps_ret pe_bl))
      pss_nil)
      (pss_cons (ps_if (PW.pt (pw_or (pt_val (pe_callB call_isi rfl T.z_isinstance (by decide +kernel) (pa_cons (pv 0) (pa_cons (pe_glob (v := .ref t.a_NoText) rfl T.m_NoText rfl) pa_nil)))) (pw_or1 (pt_val (pe_callB call_isi rfl T.z_isinstance (by decide +kernel) (pa_cons (pv 0) (pa_cons (pe_glob (v := .ref t.a_NoDeed) rfl T.m_NoDeed rfl) pa_nil)))))))
      (pss_one (ps_ret pe_bl))
      pss_nil)
      (pss_one (ps_ret (pe_and (pe_callB call_isi rfl T.z_isinstance (by decide +kernel) (pa_cons (pv 0) (pa_cons (pe_glob (v := .ref t.a_OffSheet) rfl T.m_OffSheet rfl) pa_nil))) (pe_and (pe_callB call_isi rfl T.z_isinstance (by decide +kernel) (pa_cons (pv 0) (pa_cons (pe_bltn (v := .ty "ValueError") rfl T.z_ValueError (by decide +kernel) rfl) pa_nil))) (pe_one (pe_not (pe_callA G_law_others (hrA.mono (by omega)) rfl T.m_law_others T.F_law_others.kp T.b_law_others .nil (pa_cons (pv 0) pa_nil)))))))))), ?_⟩
    show tSeq _ _ _ [some (.ref e)] H
    have isi : ∀ (c : V) (b : Bool) (Q' : VK), isCls c = true → PySem.W.kitOne K (.ref t.a_OffSheet) (clsV c) = some b → Q' (.bl b) H → rIsi K [.ref e, c] H Q' := fun c b Q' h1 h2 h3 => ⟨_, _, _, _, rfl, .exc he (ecls T), h1, h2, h3⟩
    refine st fun N1 e1 => ?_
    walk_at "rd2"
    refine isi _ _ _ rfl T.i_NoDrawing ⟨_, rfl, iteF (isi _ _ _ rfl T.i_NoSheet ⟨_, rfl, iteF ?_⟩)⟩
    subst e1
    refine st fun N1 e1 => ?_
    walk_at "rd2"
    refine isi _ _ _ rfl T.i_NoText ⟨_, rfl, iteF (isi _ _ _ rfl T.i_NoDeed ⟨_, rfl, iteF ?_⟩)⟩
    subst e1
    walk_at "rd2"
    refine isi _ _ _ rfl T.i_OffSheet ⟨_, rfl, iteT (isi _ _ _ rfl T.i_VE ⟨_, rfl, iteT ?_⟩)⟩
    exact ⟨e, rfl, he, _, rfl, q⟩
theorem mulS {a b : Int} (h : b.natAbs ≤ 1000000) : IntMulOk a b := IntMulOk.of_right (intBits_le_iff.mpr (by omega))
theorem MatS.app {H : Hp} {l : Addr} {xs : List Str} {x : Str} (h : H l = some (.lst (xs.map V.str))) : (upd H l (.lst (xs.map V.str ++ [.str x]))) l = some (.lst ((xs ++ [x]).map V.str)) := by
  rw [upd_same, List.map_append]; rfl
theorem ok_law_drawing (T : Txt K mg t) : FnOk P w K mg base CX0 1 t.a_law_drawing t.d_law_drawing ["_law_cells"] (sp_law_drawing K) := by
  refine T.F_law_drawing.ok sc_law_drawing (fun vs H Q E h => ?_) (fun cdv A outer s H vs Q E hr h => ?_)
  · obtain ⟨a, ns, rfl, _⟩ := h
    rfl
  · obtain ⟨a, ns, rfl, hS, hn, hb, hQ⟩ := h
    refine ⟨_, (pss_cons (ps_set (i := 1) sc_law_drawing.nd rfl (Or.inl rfl) (pe_op op_add pe_int (pe_op op_modN (pe_ix ix_B (pv 0) pe_int (fun _ _ => rfl)) pe_int)))
      (pss_cons (ps_set (i := 2) sc_law_drawing.nd rfl (Or.inl rfl) (pe_op op_add pe_int (pe_op op_modN (pe_op op_fdivB (pe_ix ix_B (pv 0) pe_int (fun _ _ => rfl)) pe_int) pe_int)))
      (pss_cons (ps_if (pt_cmpR op_eqZ (pe_op op_modN (pe_op op_fdivB (pe_ix ix_B (pv 0) pe_int (fun _ _ => rfl)) pe_int) pe_int) pe_int (nomark _))
      (pss_one (ps_set (i := 2) sc_law_drawing.nd rfl (Or.inl rfl) (pv 1)))
      pss_nil)
      (pss_cons (ps_set (i := 3) sc_law_drawing.nd rfl (Or.inl rfl) (pe_op op_modN (pe_op op_fdivB (pe_ix ix_B (pv 0) pe_int (fun _ _ => rfl)) pe_int) pe_int))
      (pss_cons (ps_set (i := 4) sc_law_drawing.nd rfl (Or.inl rfl) (pe_lst pa_nil))
      (pss_cons (ps_for PassesOwn.never rfl (pi_range1 rfl T.z_range (pa_cons (pv 1) pa_nil)) (pg_name (i := 5) sc_law_drawing.nd rfl (Or.inl rfl))
      (pss_cons (ps_set (i := 6) sc_law_drawing.nd rfl (Or.inl rfl) pe_str)
      (pss_cons (ps_for PassesOwn.never rfl (pi_range1 rfl T.z_range (pa_cons (pv 2) pa_nil)) (pg_name (i := 7) sc_law_drawing.nd rfl (Or.inl rfl))
      (pss_cons (ps_set (i := 8) sc_law_drawing.nd rfl (Or.inl rfl) (pe_ix ix_B (pe_lst (pa_cons pe_int (pa_cons (pv 5) (pa_cons (pv 7) (pa_cons (pe_op op_add (pv 5) (pv 7)) (pa_cons (pe_op op_add (pe_op op_fdivB (pe_ix ix_B (pv 0) pe_int (fun _ _ => rfl)) (pe_op op_add (pe_op op_add pe_int (pv 5)) (pe_op op_mulB pe_int (pv 7)))) (pe_op op_mulB (pe_op op_mulB (pe_ix ix_B (pv 0) pe_int (fun _ _ => rfl)) (pv 5)) (pv 7))) pa_nil)))))) (pv 3) (fun _ _ => rfl)))
      (pss_one (ps_set (i := 6) sc_law_drawing.nd rfl (Or.inl rfl) (pe_op op_add_str (pv 6) (pe_ix ix_str pe_str (pe_op op_modN (pe_op op_add (pe_op op_mulB (pv 8) (pe_op op_add pe_int (pe_op op_modN (pe_ix ix_B (pv 0) pe_int (fun _ _ => rfl)) pe_int))) (pe_ix ix_B (pv 0) pe_int (fun _ _ => rfl))) (pe_op op_add pe_int (pe_op op_modN (pe_ix ix_B (pv 0) pe_int (fun _ _ => rfl)) pe_int))) (fun _ _ => rfl)))))))
      (pss_one (ps_expr (pe_bm PySem.F.plainAttrs_list PySem.F.slot_list_append PySem.F.type_list_append mt_append (pv 4) (pa_cons (pv 6) pa_nil)))))))
      (pss_one (ps_ret (pe_callTy call_tupB rfl T.z_tuple (by decide +kernel) (pa_cons (pv 4) pa_nil)))))))))), ?_⟩
    show tSeq _ _ _ [some (.ref a), none, none, none, none, none, none, none, none] H
    have cix : ∀ (H' : Hp) (k : Nat) (Q' : VK), Same H H' → k < 8 → Q' (.int (ns.getD k 0)) H' → rIxB K (.ref a) (.int k) H' Q' := fun H' k Q' s' hk q => ⟨false, a, _, _, _, rfl, rfl, s'.seq hS, atI_at (int_at (getD_at (k := k) (by omega))) rfl, q⟩
    have f6 := fms (ns.getD 0 0) 6 (by decide)
    have f6' := fms ((ns.getD 0 0).fdiv 6) 6 (by decide)
    have f5 := fms ((ns.getD 0 0).fdiv 72) 5 (by decide)
    obtain ⟨n, hn1⟩ := Int.eq_ofNat_of_zero_le (show 0 ≤ 1 + (ns.getD 0 0).fmod 6 by omega)
    obtain ⟨m0, hm1⟩ := Int.eq_ofNat_of_zero_le (show 0 ≤ 1 + ((ns.getD 0 0).fdiv 6).fmod 6 by omega)
    obtain ⟨wy, hwy⟩ := Int.eq_ofNat_of_zero_le f5.1
    refine st fun N1 e1 => ?_
    walk_at "rd2"
    refine cix H 0 _ (Same.refl _) (by decide) ?_
    try walk_at "rd2"
    rw [hn1]
    refine ⟨by decide, ?_⟩
    subst e1
    refine st fun N1 e1 => ?_
    walk_at "rd2"
    refine cix H 0 _ (Same.refl _) (by decide) ?_
    try walk_at "rd2"
    rw [hm1]
    refine ⟨dvs _ 6 (by decide) (by decide), by decide, ?_⟩
    subst e1
    refine st fun N1 e1 => ?_
    have key : ∀ m : Nat, 1 ≤ m → m ≤ 6 → N1 [some (.ref a), some (.int n), some (.int m), none, none, none, none, none, none] H := by
      intro m ml mu
      subst e1
      refine st fun N1 e1 => ?_
      walk_at "rd2"
      refine cix H 0 _ (Same.refl _) (by decide) ?_
      try walk_at "rd2"
      rw [hwy]
      refine ⟨dvs _ 72 (by decide) (by decide), by decide, ?_⟩
      subst e1
      refine st fun N1 e1 => ?_
      walk_at "rd2"
      refine ⟨by show 0 ≤ sizeLine; decide, fun lf hlf => ?_⟩
      have s2 : Same H (upd H lf (.lst [])) := Same.new hlf
      have ef : (upd H lf (.lst [])) lf = some (.lst []) := upd_same
      generalize upd H lf (.lst []) = H2 at s2 ef
      subst e1
      refine st fun N1 e1 => for_st fun B eB => ?_
      simp only [iRng1]
      walk_at "rd2"
      refine ⟨by omega, by omega, ?_⟩
      rw [Int.toNat_natCast]
      refine fr_range (g := gName 5) (tb := B) (fun i σ H3 => ∃ (xs : List Str) (v5 v6 v7 v8 : Option V), σ = [some (.ref a), some (.int n), some (.int m), some (.int wy), some (.ref lf), v5, v6, v7, v8] ∧ Same H H3 ∧ H3 lf = some (.lst (xs.map V.str)) ∧ xs.length = i ∧ ∀ x ∈ xs, x.length = m)
        ⟨[], none, none, none, none, rfl, s2, ef, rfl, fun x hx => by simp at hx⟩ ?_ ?_
      · rintro i σ H3 hi ⟨xs, v5, v6, v7, v8, rfl, s3, ef3, hlx, hxs⟩
        subst eB
        show tSeq _ _ _ [some (.ref a), some (.int n), some (.int m), some (.int wy), some (.ref lf), some (.int (0 + (i : Int))), v6, v7, v8] H3
        refine st fun N2 e2 => ?_
        walk_at "rd2"
        subst e2
        refine st fun N2 e2 => for_st fun B2 eB2 => ?_
        simp only [iRng1]
        walk_at "rd2"
        refine ⟨by omega, by omega, ?_⟩
        rw [Int.toNat_natCast]
        refine fr_range (g := gName 7) (tb := B2) (fun j σ H4 => ∃ (row : Str) (v7 v8 : Option V), σ = [some (.ref a), some (.int n), some (.int m), some (.int wy), some (.ref lf), some (.int (0 + (i : Int))), some (.str row), v7, v8] ∧ Same H H4 ∧ H4 lf = some (.lst (xs.map V.str)) ∧ row.length = j)
          ⟨_, _, _, rfl, s3, ef3, by decide +kernel⟩ ?_ ?_
        · rintro j σ H4 hj ⟨row, v7', v8', rfl, s4, ef4, hrow⟩
          subst eB2
          show tSeq _ _ _ [some (.ref a), some (.int n), some (.int m), some (.int wy), some (.ref lf), some (.int (0 + (i : Int))), some (.str row), some (.int (0 + (j : Int))), v8'] H4
          refine st fun N3 e3 => ?_
          walk_at "rd2"
          refine cix H4 2 _ s4 (by decide) ?_
          try walk_at "rd2"
          refine ⟨IntMulOk.of_left (by decide), dvs _ _ (by omega) (by omega), ?_⟩
          refine cix H4 1 _ s4 (by decide) ?_
          try walk_at "rd2"
          refine ⟨mulS (by omega), mulS (by omega), by show 5 ≤ sizeLine; decide, fun p5 hp5 => ?_⟩
          have s5 : Same H4 (upd H4 p5 (.lst [V.int 0, V.int (0 + (i : Int)), V.int (0 + (j : Int)), V.int (0 + (i : Int) + (0 + (j : Int))), V.int ((ns.getD 2 0).fdiv (1 + (0 + (i : Int)) + 6 * (0 + (j : Int))) + ns.getD 1 0 * (0 + (i : Int)) * (0 + (j : Int)))])) := Same.new hp5
          have el5 : (upd H4 p5 (.lst [V.int 0, V.int (0 + (i : Int)), V.int (0 + (j : Int)), V.int (0 + (i : Int) + (0 + (j : Int))), V.int ((ns.getD 2 0).fdiv (1 + (0 + (i : Int)) + 6 * (0 + (j : Int))) + ns.getD 1 0 * (0 + (i : Int)) * (0 + (j : Int)))])) p5 = _ := upd_same
          generalize upd H4 p5 (.lst [V.int 0, V.int (0 + (i : Int)), V.int (0 + (j : Int)), V.int (0 + (i : Int) + (0 + (j : Int))), V.int ((ns.getD 2 0).fdiv (1 + (0 + (i : Int)) + 6 * (0 + (j : Int))) + ns.getD 1 0 * (0 + (i : Int)) * (0 + (j : Int)))]) = H5 at s5 el5
          have s05 := s4.trans s5
          have key2 : ∀ by0 : Int, N3 [some (.ref a), some (.int n), some (.int m), some (.int wy), some (.ref lf), some (.int (0 + (i : Int))), some (.str row), some (.int (0 + (j : Int))), some (.int by0)] H5 := by
            intro by0
            subst e3
            walk_at "rd2"
            have f2 := fms (ns.getD 1 0) 2 (by decide)
            have f4 := fms (ns.getD 2 0) 4 (by decide)
            refine cix H5 1 _ s05 (by decide) ?_
            try walk_at "rd2"
            refine ⟨by decide, mulS (by omega), cix H5 1 _ s05 (by decide) ?_⟩
            try walk_at "rd2"
            refine cix H5 2 _ s05 (by decide) ?_
            try walk_at "rd2"
            have fr := fms (by0 * (1 + (ns.getD 1 0).fmod 2) + ns.getD 1 0) (2 + (ns.getD 2 0).fmod 4) (by omega)
            obtain ⟨r, er⟩ := Int.eq_ofNat_of_zero_le fr.1
            rw [er]
            refine ⟨by decide, by omega, ?_⟩
            have hk : r < (Str.ofString "az.bq").cps.toList.length := by
              have : (Str.ofString "az.bq").cps.toList.length = 5 := by decide +kernel
              omega
            refine ⟨_, r, (Str.ofString "az.bq").cps.toList[r], rfl, rfl, Nat.le_of_lt (sizeBig (by decide +kernel)), atI_at (i := r) (by rw [List.getElem?_eq_getElem hk]) rfl, ?_⟩
            refine ⟨row, rfl, _, rfl, Nat.le_of_lt (sizeBig (by rw [one_len]; omega)), _, rfl, s05, s5 _ _ ef4, ?_⟩
            rw [len_app, one_len]
            omega
          rcases (show wy = 0 ∨ wy = 1 ∨ wy = 2 ∨ wy = 3 ∨ wy = 4 by omega) with rfl | rfl | rfl | rfl | rfl
          all_goals exact ⟨false, p5, _, _, _, rfl, rfl, SqB.lst el5, rfl, key2 _⟩
        · rintro σ H4 ⟨row, v7', v8', rfl, s4, ef4, hrow⟩
          subst e2
          walk_at "rd2"
          refine ⟨.inl ⟨rfl, _, SqL.of ef4⟩, lf, _, _, rfl, rfl, ef4, by rw [List.length_map]; exact small1000 (by omega), ?_⟩
          refine ⟨Same.over hlf s4, xs ++ [row], MatS.app ef4, by simp [hlx], fun x hx => ?_⟩
          rcases List.mem_append.mp hx with h | h
          · exact hxs x h
          · rw [List.mem_singleton.mp h]; omega
      · rintro σ H3 ⟨xs, v5, v6, v7, v8, rfl, s3, ef3, hlx, hxs⟩
        subst e1
        walk_at "rd2"
        refine ⟨lf, _, rfl, .inl ⟨SqL.of ef3, fun l hl => ?_⟩⟩
        exact hQ l xs n m _ (s3.trans (Same.new hl)) ⟨upd_same, hlx, hxs⟩ ⟨by omega, by omega, ml, mu⟩
    walk_at "rd2"
    refine cix H 0 _ (Same.refl _) (by decide) ?_
    try walk_at "rd2"
    refine ⟨dvs _ 36 (by decide) (by decide), by decide, ?_⟩
    split
    · exact key n (by omega) (by omega)
    · exact key m0 (by omega) (by omega)
theorem mul_sq2 {A B : List (List Int)} (sA : Sq 2 A) : Sq 2 (mulM 2 A B) := ⟨by simp [mulM, sA.1], fun r hr => by obtain ⟨x, _, rfl⟩ := List.mem_map.mp hr; simp⟩
theorem mul_bits {x y : Nat} {A B : List (List Int)} (sA : Sq 2 A) (hA : BitsM x A) (hB : BitsM y B) : BitsM (x + y + 2) (mulM 2 A B) := fun r hr z hz => by
  obtain ⟨r0, h0, rfl⟩ := List.mem_map.mp hr
  obtain ⟨k, _, rfl⟩ := List.mem_map.mp hz
  have := dot_abs r0 (colI k B) (hA r0 h0) (C := y) fun v hv => by
    obtain ⟨rb, h1, rfl⟩ := List.mem_map.mp hv
    by_cases h : k < rb.length
    · exact hB rb h1 _ (L2.getD_mem h)
    · show (rb.getD k 0).natAbs < 2 ^ y
      rw [List.getD_eq_getElem?_getD, List.getElem?_eq_none (by omega)]
      exact Nat.two_pow_pos y
  rw [sA.2 r0 h0] at this
  have e : 2 ^ (x + y + 2) = 4 * 2 ^ (x + y) := by rw [Nat.pow_add, Nat.mul_comm]
  have := Nat.two_pow_pos (x + y)
  omega
theorem ok_law_times (T : Txt K mg t) : FnOk P w K mg base CX0 1 t.a_law_times t.d_law_times ["_law_one", "_law_other"] (sp_law_times K) := by
  refine T.F_law_times.ok sc_law_times (fun vs H Q E h => ?_) (fun cdv A outer s H vs Q E hr h => ?_)
  · obtain ⟨b1, b2, b3, b4, a, b, MA, MB, x, y, rfl, _⟩ := h
    rfl
  · obtain ⟨b1, b2, b3, b4, a, b, MA, MB, x, y, rfl, hA, hB, sA, sB, hbA, hbB, hxy, q⟩ := h
    refine ⟨_, (pss_cons (ps_set (i := 2) sc_law_times.nd rfl (Or.inr rfl) (pe_callB call_lenB rfl T.z_len (by decide +kernel) (pa_cons (pv 0) pa_nil)))
      (pss_cons (ps_set (i := 3) sc_law_times.nd rfl (Or.inl rfl) (pe_lst pa_nil))
      (pss_cons (ps_for PassesOwn.never rfl (pi_range1 rfl T.z_range (pa_cons (pv 2) pa_nil)) (pg_name (i := 4) sc_law_times.nd rfl (Or.inr rfl))
      (pss_one (ps_expr (pe_bm PySem.F.plainAttrs_list PySem.F.slot_list_append PySem.F.type_list_append mt_append (pv 3) (pa_cons (pe_compG (xs := ["_law_k"]) (fr := [("_law_one", 0), ("_law_other", 1), ("_law_d", 2), ("_law_i", 4)]) (g := (gName 0)) (tt := (tEl (tCB (fun xs H Q => ∃ (p : Addr) (ns : List Int), xs = [.ref p] ∧ SqL K H p (ns.map V.int) ∧ Q (.int ns.sum) H) (tCons (tCompG (iRng1 (tCons (tVar 3) tNil)) (gName 0) (tEl (tOp (rI (fun i j => IntMulOk i j) fun i j => .int (i * j)) (tOp (rIxB K) (tOp (rIxB K) (tVar 2) (tVar 4)) (tVar 0)) (tOp (rIxB K) (tOp (rIxB K) (tVar 3) (tVar 0)) (tVar 1)))) 1 [("_law_k", 0), ("_law_one", 1), ("_law_other", 2), ("_law_i", 4)]) tNil)))) (compG_ok (sc := defScope s_law_times) (N := N_law_times) rfl rfl (by decide +kernel)) rfl (pi_range1 rfl T.z_range (pa_cons (pv 2) pa_nil)) (fun _ _ _ hE1 => (pg_ownC (N := ["_law_k", "_law_one", "_law_other", "_law_d", "_law_i"]) (i := 0) hE1 rfl (by decide +kernel) rfl)) (fun _ _ _ hE1 => (po_el (pe_callB (call_sum rfl) rfl T.z_sum (by decide +kernel) (pa_cons (pe_compG (xs := ["_law_j"]) (fr := [("_law_k", 0), ("_law_one", 1), ("_law_other", 2), ("_law_i", 4)]) (g := (gName 0)) (tt := (tEl (tOp (rI (fun i j => IntMulOk i j) fun i j => .int (i * j)) (tOp (rIxB K) (tOp (rIxB K) (tVar 2) (tVar 4)) (tVar 0)) (tOp (rIxB K) (tOp (rIxB K) (tVar 3) (tVar 0)) (tVar 1))))) (compG_ok (N := ["_law_k", "_law_one", "_law_other", "_law_d", "_law_i"]) hE1 rfl (by decide +kernel)) rfl (pi_range1 rfl T.z_range (pa_cons (pv 3) pa_nil)) (fun _ _ _ hE2 => (pg_own (N := ["_law_j", "_law_k", "_law_one", "_law_other", "_law_i"]) (i := 0) hE2 rfl (by decide +kernel))) (fun _ _ _ hE2 => (po_el (pe_op op_mulB (pe_ix ix_B (pe_ix ix_B (pv 2) (pv 4) (fun _ _ => rfl)) (pv 0) (fun _ _ => rfl)) (pe_ix ix_B (pe_ix ix_B (pv 3) (pv 0) (fun _ _ => rfl)) (pv 1) (fun _ _ => rfl)))))) pa_nil))))) pa_nil)))))
      (pss_one (ps_ret (pv 3)))))), ?_⟩
    show tSeq _ _ _ [some (.ref a), some (.ref b), none, none, none] H
    refine st fun N1 e1 => ?_
    walk_at "rd2"
    refine mat_len hA ?_
    try walk_at "rd2"
    rw [sA.1]
    subst e1
    refine st fun N1 e1 => ?_
    walk_at "rd2"
    refine ⟨Nat.zero_le _, fun m hm => ?_⟩
    subst e1
    refine st fun N1 e1 => for_st fun B0 eB => ?_
    simp only [iRng1]
    walk_at "rd2"
    have s0 : Same H (upd H m (.lst [])) := Same.new hm
    refine ⟨by decide, by decide, ?_⟩
    refine fr_range (n := 2) (g := gName 4) (tb := B0) (fun i σ H1 => ∃ v4, σ = [some (.ref a), some (.ref b), some (.int 2), some (.ref m), v4] ∧ Same H H1 ∧ MatL H1 m ((mulM 2 MA MB).take i)) ⟨_, rfl, s0, RefRows.mat upd_same RefRows.nil⟩ ?_ ?_
    · rintro i σ H1 hi ⟨v4, rfl, s1, hM⟩
      have er : MA[i]? = some (MA.getD i []) := by have := sA.1; simp [show i < MA.length by omega]
      have hrl : (MA.getD i []).length = 2 := sA.2 _ (List.mem_of_getElem? er)
      have eM := mulM_at (w := 2) (B := MB) er
      subst eB
      show tDrop _ _ [some (.ref a), some (.ref b), some (.int 2), some (.ref m), some (.int (0 + (i : Int)))] H1
      walk_at "rd2"
      obtain ⟨zs0, hm0, _⟩ := hM.refs
      refine ⟨.inl ⟨rfl, _, SqL.of hm0⟩, ?_⟩
      refine compE_st fun B0 eB => ?_
      simp only [iRng1]
      walk_at "rd2"
      refine ⟨by decide, by decide, fun a1 ha1 => ?_⟩
      refine cg_range (len := 2) (fun j y _ => j < 2 ∧ y = .int (dotI (MA.getD i []) (colI j MB))) ha1 (by omega) (fun _ _ _ _ r _ => r) ?_ ?_
      · intro j H2 zs hj s2 ez Q' hQ'
        subst eB
        show tCB _ _ [some (.int (0 + (j : Int))), some (.ref a), some (.ref b), some (.int 2), some (.int (0 + (i : Int)))] H2 Q'
        walk_at "rd2"
        refine compE_st fun B0 eB => ?_
        simp only [iRng1]
        walk_at "rd2"
        refine ⟨by decide, by decide, fun a2 ha2 => ?_⟩
        refine cg_range (len := 2) (fun k y _ => ∃ x, (List.zipWith (· * ·) (MA.getD i []) (colI j MB))[k]? = some x ∧ y = .int x) ha2 (by omega) (fun _ _ _ _ r _ => r) ?_ ?_
        · intro k H3 zs3 hk s3 ez3 Q2 hQ2
          have eb : MB[k]? = some (MB.getD k []) := by have := sB.1; simp [show k < MB.length by omega]
          have hbl : (MB.getD k []).length = 2 := sB.2 _ (List.mem_of_getElem? eb)
          have hkr : k < (MA.getD i []).length := by omega
          subst eB
          show tOp _ _ _ [some (.int (0 + (k : Int))), some (.int (0 + (j : Int))), some (.ref a), some (.ref b), some (.int (0 + (i : Int)))] H3 Q2
          walk_at "rd2"
          refine mat_ix (((hA.up s1).up s2).up s3) er (L2.getD_at hkr) (by omega) (by omega) ?_
          refine mat_ix (((hB.up s1).up s2).up s3) eb (getD_at (k := j) (by omega)) (by omega) (by omega) ?_
          walk_at "rd2"
          refine ⟨PyProof.Rows.mulOk_of_bits (bits_of (hbA _ (List.mem_of_getElem? er) _ (L2.getD_mem hkr))) (bits_of (hbB _ (List.mem_of_getElem? eb) _ (L2.getD_mem (by omega)))) (by omega), hQ2 _ _ (Same.refl _) ⟨_, ?_, rfl⟩⟩
          have ec : (colI j MB)[k]? = some ((MB.getD k []).getD j 0) := by unfold colI; rw [List.getElem?_map, eb]; rfl
          rw [List.getElem?_zipWith, L2.getD_at hkr, ec]
        · intro H3 ys s3 e3 hly hr3
          have ey : ys = (List.zipWith (· * ·) (MA.getD i []) (colI j MB)).map V.int := by
            refine list_is (by have := sB.1; simp only [List.length_map, List.length_zipWith, colI]; omega) fun k y e => ?_
            obtain ⟨x, ex, rfl⟩ := hr3 k y e
            exact ⟨x, ex, rfl⟩
          subst ey
          exact ⟨a2, rfl, _, SqL.of e3, hQ' _ _ s3 ⟨hj, rfl⟩⟩
      · intro H2 ys s2 e2 hly hr2
        have ey : ys = ((List.range 2).map fun k => dotI (MA.getD i []) (colI k MB)).map V.int := by
          refine list_is (by simpa using hly) fun j y e => ?_
          obtain ⟨hj, rfl⟩ := hr2 j y e
          exact ⟨_, by rw [List.getElem?_map, List.getElem?_range hj]; rfl, rfl⟩
        subst ey
        have ne : a1 ≠ m := Ne.symm (ne_of_none hm0 ha1)
        obtain ⟨zs, z1, z2, z3⟩ := (hM.up s2).app e2 ne
        refine ⟨m, zs, _, rfl, rfl, z1, small1000 (by rw [z2, List.length_take]; omega), ?_⟩
        have et : (mulM 2 MA MB).take (i + 1) = (mulM 2 MA MB).take i ++ [(List.range 2).map fun k => dotI (MA.getD i []) (colI k MB)] := by rw [List.take_add_one, eM]; rfl
        refine ⟨Same.over hm (s1.trans s2), ?_⟩
        rw [et]
        exact z3
    · rintro σ H1 ⟨v4, rfl, s1, hM⟩
      subst e1
      walk_at "rd2"
      have sM : Sq 2 (mulM 2 MA MB) := mul_sq2 sA
      rw [List.take_of_length_le (by rw [sM.1]; decide)] at hM
      refine q m _ H1 s1 hM.b sM (mul_bits sA hbA hbB)
@[irreducible] noncomputable def S_r (k : Nat) : Stmt := (defBody s_law_rows).getD k (.Pass ⟨0, 0, 0, 0⟩)
theorem PS_r {X : Cx} {k : Nat} {u : TS} (h : PS X ((defBody s_law_rows).getD k (.Pass ⟨0, 0, 0, 0⟩)) u) : PS X (S_r k) u := by unfold S_r; exact h
theorem B_rows : defBody s_law_rows = [S_r 0, S_r 1, S_r 2, S_r 3, S_r 4, S_r 5, S_r 6, S_r 7] := by unfold S_r; kernel_rfl
noncomputable def e0P : Expr := .Constant .none 0 ⟨0, 0, 0, 0⟩
noncomputable def ifT : Stmt → Expr | .If c _ _ _ => c | _ => e0P
noncomputable def ifB : Stmt → List Stmt | .If _ a _ _ => a | _ => []
noncomputable def ifP : Stmt → Pos | .If _ _ _ p => p | _ => ⟨0, 0, 0, 0⟩
noncomputable def retE : Stmt → Expr | .Return (some e) _ => e | _ => e0P
noncomputable def retP : Stmt → Pos | .Return _ p => p | _ => ⟨0, 0, 0, 0⟩
noncomputable def lstE : Expr → List Expr | .List es _ => es | _ => []
noncomputable def lstP : Expr → Pos | .List _ p => p | _ => ⟨0, 0, 0, 0⟩
noncomputable def cP : Expr → Pos | .Constant _ _ p => p | _ => ⟨0, 0, 0, 0⟩
@[irreducible] noncomputable def T6 : Expr := ifT ((defBody s_law_rows).getD 6 (.Pass ⟨0, 0, 0, 0⟩))
@[irreducible] noncomputable def R6 : Expr := retE ((ifB ((defBody s_law_rows).getD 6 (.Pass ⟨0, 0, 0, 0⟩))).getD 0 (.Pass ⟨0, 0, 0, 0⟩))
@[irreducible] noncomputable def P6 : Pos := ifP ((defBody s_law_rows).getD 6 (.Pass ⟨0, 0, 0, 0⟩))
@[irreducible] noncomputable def P6r : Pos := retP ((ifB ((defBody s_law_rows).getD 6 (.Pass ⟨0, 0, 0, 0⟩))).getD 0 (.Pass ⟨0, 0, 0, 0⟩))
theorem S6_is : S_r 6 = .If T6 [.Return (some R6) P6r] [] P6 := by unfold S_r T6 R6 P6 P6r; kernel_rfl
@[irreducible] noncomputable def L6 (k : Nat) : Expr := (lstE R6).getD k e0P
@[irreducible] noncomputable def P6l : Pos := lstP R6
theorem R6_is : R6 = .List [L6 0, L6 1, L6 2] P6l := by unfold L6 P6l R6; kernel_rfl
@[irreducible] noncomputable def C6 (k j : Nat) : Expr := (lstE (L6 k)).getD j e0P
@[irreducible] noncomputable def P6c (k : Nat) : Pos := lstP (L6 k)
theorem L6_0 : L6 0 = .List [C6 0 0, C6 0 1, C6 0 2] (P6c 0) := by unfold C6 P6c L6 R6; kernel_rfl
theorem L6_1 : L6 1 = .List [C6 1 0, C6 1 1, C6 1 2] (P6c 1) := by unfold C6 P6c L6 R6; kernel_rfl
theorem L6_2 : L6 2 = .List [C6 2 0, C6 2 1, C6 2 2] (P6c 2) := by unfold C6 P6c L6 R6; kernel_rfl
@[irreducible] noncomputable def Q6 (k j : Nat) : Pos := cP (C6 k j)
theorem C6_00 : C6 0 0 = .Constant (.int 0) 0 (Q6 0 0) := by unfold Q6 C6 L6 R6; kernel_rfl
theorem C6_01 : C6 0 1 = .Constant (.int 1) 0 (Q6 0 1) := by unfold Q6 C6 L6 R6; kernel_rfl
theorem C6_02 : C6 0 2 = .Constant (.int 0) 0 (Q6 0 2) := by unfold Q6 C6 L6 R6; kernel_rfl
theorem C6_10 : C6 1 0 = .Constant (.int 1) 0 (Q6 1 0) := by unfold Q6 C6 L6 R6; kernel_rfl
theorem C6_11 : C6 1 1 = .Constant (.int 0) 0 (Q6 1 1) := by unfold Q6 C6 L6 R6; kernel_rfl
theorem C6_12 : C6 1 2 = .Constant (.int 0) 0 (Q6 1 2) := by unfold Q6 C6 L6 R6; kernel_rfl
theorem C6_20 : C6 2 0 = .Constant (.int 0) 0 (Q6 2 0) := by unfold Q6 C6 L6 R6; kernel_rfl
theorem C6_21 : C6 2 1 = .Constant (.int 0) 0 (Q6 2 1) := by unfold Q6 C6 L6 R6; kernel_rfl
theorem pe_intE {X : Cx} {e : Expr} {i : Int} {k : Nat} {p : Pos} (h : e = .Constant (.int i) k p) : PE X e (tC (.int i)) := by rw [h]; exact pe_int
theorem starC {e : Expr} {es : List Expr} {env : Env} (h : ∀ x p, e ≠ .Starred x p) : starEach (e :: es) env = (false, eval e env) :: starEach es env := by
  cases e <;> first | rfl | exact absurd rfl (h _ _)
theorem PT_6 {X : Cx} {u : TT} (h : PT X (ifT ((defBody s_law_rows).getD 6 (.Pass ⟨0, 0, 0, 0⟩))) u) : PT X T6 u := by unfold T6; exact h
theorem PE_22 {X : Cx} {u : TE} (h : PE X ((lstE ((lstE (retE ((ifB ((defBody s_law_rows).getD 6 (.Pass ⟨0, 0, 0, 0⟩))).getD 0 (.Pass ⟨0, 0, 0, 0⟩)))).getD 2 e0P)).getD 2 e0P) u) : PE X (C6 2 2) u := by unfold C6 L6 R6; exact h
theorem pa_consN {X : Cx} {e : Expr} {es : List Expr} {te : TE} {u : TA} (h : ∀ x p, e ≠ .Starred x p) (ha : PE X e te) (hr : PA X es u) : PA X (e :: es) (tCons te u) := pa_cons ha hr (starC h)
theorem nsC {e : Expr} {c : Const} {k : Nat} {p : Pos} (h : e = .Constant c k p) : ∀ x q, e ≠ .Starred x q := fun x q z => by rw [h] at z; cases z
theorem nsL {e : Expr} {es : List Expr} {p : Pos} (h : e = .List es p) : ∀ x q, e ≠ .Starred x q := fun x q z => by rw [h] at z; cases z
noncomputable def isBin : Expr → Bool | .BinOp _ _ _ _ => true | _ => false
theorem C6_22 : isBin (C6 2 2) = true := by unfold C6 L6 R6; kernel_rfl
theorem nsB {e : Expr} (h : isBin e = true) : ∀ x q, e ≠ .Starred x q := fun x q z => by rw [z] at h; cases h
theorem pe_lstE {X : Cx} {e : Expr} {es : List Expr} {p : Pos} {u : TA} (h : e = .List es p) (ha : PA X es u) : PE X e (tLst u) := by rw [h]; exact pe_lst ha
theorem PS_cast {X : Cx} {a b : Stmt} {u : TS} (h : a = b) (p : PS X b u) : PS X a u := by rw [h]; exact p
theorem mat2 {H : Hp} {l p q : Addr} {r r' : List Int} (h : H l = some (.lst [.ref p, .ref q])) (h1 : SqB false K H p (r.map V.int)) (h2 : SqB false K H q (r'.map V.int)) : MatB false false K H l [r, r'] :=
  ⟨[p, q], SqB.lst h, rfl, fun i x y e1 e2 => by
    match i, e1, e2 with
    | 0, e1, e2 => cases e1; cases e2; exact h1
    | 1, e1, e2 => cases e1; cases e2; exact h2⟩
theorem mat3 {H : Hp} {l p q o : Addr} {r r' r'' : List Int} (h : H l = some (.lst [.ref p, .ref q, .ref o])) (h1 : SqB false K H p (r.map V.int)) (h2 : SqB false K H q (r'.map V.int)) (h3 : SqB false K H o (r''.map V.int)) : MatB false false K H l [r, r', r''] :=
  ⟨[p, q, o], SqB.lst h, rfl, fun i x y e1 e2 => by
    match i, e1, e2 with
    | 0, e1, e2 => cases e1; cases e2; exact h1
    | 1, e1, e2 => cases e1; cases e2; exact h2
    | 2, e1, e2 => cases e1; cases e2; exact h3⟩
/-- rows of two axes whose numbers have at most B bits lie at l -/
noncomputable def M2 (K : PySem.W.Frag) (H : Hp) (l : Addr) (B : Nat) : Prop := ∃ M, MatB false false K H l M ∧ Sq 2 M ∧ BitsM B M
theorem M2.up {H H' : Hp} {l : Addr} {B : Nat} (h : M2 K H l B) (s : Same H H') : M2 K H' l B := let ⟨M, h1, h2⟩ := h; ⟨M, h1.up s, h2⟩
theorem M2.le {H : Hp} {l : Addr} {B C : Nat} (h : M2 K H l B) (hc : B ≤ C) : M2 K H l C := let ⟨M, h1, h2, h3⟩ := h; ⟨M, h1, h2, fun r hr x hx => Nat.lt_of_lt_of_le (h3 r hr x hx) (Nat.pow_le_pow_right (by decide) hc)⟩
theorem sq22 {a b c e : Int} : Sq 2 [[a, b], [c, e]] := ⟨rfl, fun r hr => by simp at hr; rcases hr with rfl | rfl <;> rfl⟩
theorem bits22 {a b c e : Int} {B : Nat} (h1 : a.natAbs < 2 ^ B) (h2 : b.natAbs < 2 ^ B) (h3 : c.natAbs < 2 ^ B) (h4 : e.natAbs < 2 ^ B) : BitsM B [[a, b], [c, e]] := fun r hr x hx => by
  simp at hr
  rcases hr with rfl | rfl
  · simp at hx; rcases hx with rfl | rfl <;> assumption
  · simp at hx; rcases hx with rfl | rfl <;> assumption
theorem lit22 {H : Hp} {p1 p2 p3 : Addr} {a b c e : Int} (h1 : H p1 = none) (h2 : (upd H p1 (.lst [.int a, .int b])) p2 = none) (h3 : (upd (upd H p1 (.lst [.int a, .int b])) p2 (.lst [.int c, .int e])) p3 = none) :
    MatB false false K (upd (upd (upd H p1 (.lst [.int a, .int b])) p2 (.lst [.int c, .int e])) p3 (.lst [.ref p1, .ref p2])) p3 [[a, b], [c, e]] ∧ Same H (upd (upd (upd H p1 (.lst [.int a, .int b])) p2 (.lst [.int c, .int e])) p3 (.lst [.ref p1, .ref p2])) := by
  have s1 := Same.new (o := .lst [.int a, .int b]) h1
  have s2 := Same.new (o := .lst [.int c, .int e]) h2
  have s3 := Same.new (o := .lst [.ref p1, .ref p2]) h3
  exact ⟨mat2 upd_same (SqB.lst (s3 _ _ (s2 _ _ upd_same))) (SqB.lst (s3 _ _ upd_same)), (s1.trans s2).trans s3⟩
theorem swap22 {H : Hp} {l : Addr} {B : Nat} {Q : VK} (h : M2 K H l B) (q : ∀ p H', Same H H' → M2 K H' p B → Q (.ref p) H') :
    rIxB K (.ref l) (.int 1) H fun x H1 => rIxB K (.ref l) (.int 0) H1 fun y H2 => [x, y].length ≤ sizeLine ∧ ∀ p, H2 p = none → Q (.ref p) (upd H2 p (.lst [x, y])) := by
  obtain ⟨M, h1, h2, h3⟩ := h
  obtain ⟨a, b, c, e, rfl⟩ := two_of' h2
  refine mat_row h1 (i := 1) (r := [c, e]) rfl rfl fun p1 g1 => mat_row h1 (i := 0) (r := [a, b]) rfl rfl fun p0 g0 => ⟨by show 2 ≤ sizeLine; decide, fun p hp => ?_⟩
  refine q p _ (Same.new hp) ⟨_, mat2 upd_same (g1.up (Same.new hp)) (g0.up (Same.new hp)), sq22, fun r hr x hx => h3 r ?_ x hx⟩
  simp at hr ⊢
  rcases hr with rfl | rfl
  · exact .inr rfl
  · exact .inl rfl
theorem ok_law_rows (T : Txt K mg t) : FnOk P w K mg base CX0 2 t.a_law_rows t.d_law_rows ["_law_cell"] (sp_law_rows K) := by
  have G_law_times : FnOk P w K mg base CX0 1 t.a_law_times t.d_law_times ["_law_one", "_law_other"] (sp_law_times K) := ok_law_times T
  refine T.F_law_rows.ok sc_law_rows (fun vs H Q E h => ?_) (fun cdv A outer s H vs Q E hr h => ?_)
  · obtain ⟨c, rfl, _⟩ := h
    rfl
  · obtain ⟨c, rfl, hQ⟩ := h
    have Z0 := PS_r (X := (cxOf CX0 P w K mg base N_law_rows "_law_rows" (defScope s_law_rows) t.a_law_rows cdv A outer s H E).nox) (k := 0) (ps_set (i := 1) sc_law_rows.nd rfl (Or.inl rfl) (pe_op op_modN (pv 0) pe_int))
    have Z1 := PS_r (X := (cxOf CX0 P w K mg base N_law_rows "_law_rows" (defScope s_law_rows) t.a_law_rows cdv A outer s H E).nox) (k := 1) (ps_set (i := 0) sc_law_rows.nd rfl (Or.inl rfl) (pe_op op_fdivB (pv 0) pe_int))
    have Z2 := PS_r (X := (cxOf CX0 P w K mg base N_law_rows "_law_rows" (defScope s_law_rows) t.a_law_rows cdv A outer s H E).nox) (k := 2) (ps_set (i := 2) sc_law_rows.nd rfl (Or.inl rfl) (pe_lst (pa_cons (pe_lst (pa_cons pe_int (pa_cons pe_int pa_nil))) (pa_cons (pe_lst (pa_cons pe_int (pa_cons pe_int pa_nil))) pa_nil))))
    have Z3 := PS_r (X := (cxOf CX0 P w K mg base N_law_rows "_law_rows" (defScope s_law_rows) t.a_law_rows cdv A outer s H E).nox) (k := 3) (ps_if (pt_cmpR op_eqZ (pv 1) pe_int (nomark _))
      (pss_cons (ps_set (i := 2) sc_law_rows.nd rfl (Or.inl rfl) (pe_lst (pa_cons (pe_lst (pa_cons (pe_op op_sub pe_int (pe_op op_mulB pe_int (pe_op op_modN (pv 0) pe_int))) (pa_cons pe_int pa_nil))) (pa_cons (pe_lst (pa_cons pe_int (pa_cons (pe_op op_sub pe_int (pe_op op_mulB pe_int (pe_op op_modN (pe_op op_fdivB (pv 0) pe_int) pe_int))) pa_nil))) pa_nil))))
      (pss_one (ps_if (pt_cmpR op_eqZ (pe_op op_modN (pe_op op_fdivB (pv 0) pe_int) pe_int) pe_int (nomark _))
      (pss_one (ps_set (i := 2) sc_law_rows.nd rfl (Or.inl rfl) (pe_lst (pa_cons (pe_ix ix_B (pv 2) pe_int (fun _ _ => rfl)) (pa_cons (pe_ix ix_B (pv 2) pe_int (fun _ _ => rfl)) pa_nil)))))
      pss_nil)))
      pss_nil)
    have Z4 := PS_r (X := (cxOf CX0 P w K mg base N_law_rows "_law_rows" (defScope s_law_rows) t.a_law_rows cdv A outer s H E).nox) (k := 4) (ps_if (pt_cmpR op_eqZ (pv 1) pe_int (nomark _))
      (pss_cons (ps_for PassesOwn.never rfl (pi_range1 rfl T.z_range (pa_cons (pe_op op_modN (pv 0) pe_int) pa_nil)) (pg_name (i := 3) sc_law_rows.nd rfl (Or.inl rfl))
      (pss_one (ps_set (i := 2) sc_law_rows.nd rfl (Or.inl rfl) (pe_call G_law_times (hr.mono (by omega)) rfl T.m_law_times T.F_law_times.kp T.b_law_times .nil pass0 (pa_cons (pe_lst (pa_cons (pe_lst (pa_cons pe_int (pa_cons (pe_un un_neg pe_int) pa_nil))) (pa_cons (pe_lst (pa_cons pe_int (pa_cons pe_int pa_nil))) pa_nil))) (pa_cons (pv 2) pa_nil))))))
      (pss_one (ps_if (pt_cmpR op_eqZ (pe_op op_modN (pe_op op_fdivB (pv 0) pe_int) pe_int) pe_int (nomark _))
      (pss_one (ps_set (i := 2) sc_law_rows.nd rfl (Or.inl rfl) (pe_lst (pa_cons (pe_ix ix_B (pv 2) pe_int (fun _ _ => rfl)) (pa_cons (pe_ix ix_B (pv 2) pe_int (fun _ _ => rfl)) pa_nil)))))
      pss_nil)))
      pss_nil)
    have Z5 := PS_r (X := (cxOf CX0 P w K mg base N_law_rows "_law_rows" (defScope s_law_rows) t.a_law_rows cdv A outer s H E).nox) (k := 5) (ps_if (pt_cmpR op_eqZ (pv 1) pe_int (nomark _))
      (pss_one (ps_for PassesOwn.never rfl (pi_range1 rfl T.z_range (pa_cons pe_int pa_nil)) (pg_name (i := 3) sc_law_rows.nd rfl (Or.inl rfl))
      (pss_cons (ps_set (i := 4) sc_law_rows.nd rfl (Or.inl rfl) (pe_op op_sub (pe_op op_modN (pe_op op_add (pe_op op_fdivB (pv 0) pe_int) pe_int) pe_int) pe_int))
      (pss_cons (ps_if (pt_cmpR op_eqZ (pe_op op_modN (pv 0) pe_int) pe_int (nomark _))
      (pss_one (ps_set (i := 4) sc_law_rows.nd rfl (Or.inl rfl) (pe_op op_sub (pe_op op_modN (pe_op op_fdivB (pv 0) pe_int) (pe_op op_add (pe_op op_mulB pe_int (pe_op op_pow pe_int pe_int)) pe_int)) (pe_op op_pow pe_int pe_int))))
      pss_nil)
      (pss_cons (ps_set (i := 2) sc_law_rows.nd rfl (Or.inl rfl) (pe_call G_law_times (hr.mono (by omega)) rfl T.m_law_times T.F_law_times.kp T.b_law_times .nil pass0 (pa_cons (pe_ix ix_B (pe_lst (pa_cons (pe_lst (pa_cons (pe_lst (pa_cons pe_int (pa_cons (pv 4) pa_nil))) (pa_cons (pe_lst (pa_cons pe_int (pa_cons pe_int pa_nil))) pa_nil))) (pa_cons (pe_lst (pa_cons (pe_lst (pa_cons pe_int (pa_cons pe_int pa_nil))) (pa_cons (pe_lst (pa_cons (pv 4) (pa_cons pe_int pa_nil))) pa_nil))) pa_nil))) (pe_op op_modN (pv 3) pe_int) (fun _ _ => rfl)) (pa_cons (pv 2) pa_nil))))
      (pss_one (ps_set (i := 0) sc_law_rows.nd rfl (Or.inl rfl) (pe_op op_fdivB (pv 0) pe_int))))))))
      pss_nil)
    have Z7 := PS_r (X := (cxOf CX0 P w K mg base N_law_rows "_law_rows" (defScope s_law_rows) t.a_law_rows cdv A outer s H E).nox) (k := 7) (ps_ret (pv 2))
    have c22 : PE ((cxOf CX0 P w K mg base N_law_rows "_law_rows" (defScope s_law_rows) t.a_law_rows cdv A outer s H E).nox) (C6 2 2) _ := PE_22 (pe_op op_sub pe_int (pe_op op_mulB pe_int (pe_op op_modN (pe_op op_fdivB (pv 0) pe_int) pe_int)))
    have t6 : PT ((cxOf CX0 P w K mg base N_law_rows "_law_rows" (defScope s_law_rows) t.a_law_rows cdv A outer s H E).nox) T6 _ := PT_6 (PW.pt (pw_and (pt_cmpR op_eqZ (pv 1) pe_int (nomark _)) (pw_and1 (pt_cmpR op_eqZ (pe_op op_modN (pv 0) pe_int) pe_int (nomark _)))))
    have Z6 := PS_cast S6_is (ps_if t6 (pss_one (ps_ret (pe_lstE R6_is (pa_consN (nsL L6_0) (pe_lstE L6_0 (pa_consN (nsC C6_00) (pe_intE C6_00) (pa_consN (nsC C6_01) (pe_intE C6_01) (pa_consN (nsC C6_02) (pe_intE C6_02) pa_nil)))) (pa_consN (nsL L6_1) (pe_lstE L6_1 (pa_consN (nsC C6_10) (pe_intE C6_10) (pa_consN (nsC C6_11) (pe_intE C6_11) (pa_consN (nsC C6_12) (pe_intE C6_12) pa_nil)))) (pa_consN (nsL L6_2) (pe_lstE L6_2 (pa_consN (nsC C6_20) (pe_intE C6_20) (pa_consN (nsC C6_21) (pe_intE C6_21) (pa_consN (nsB C6_22) c22 pa_nil)))) pa_nil)))))) pss_nil)
    have ZZ := (pss_cons Z0 (pss_cons Z1 (pss_cons Z2 (pss_cons Z3 (pss_cons Z4 (pss_cons Z5 (pss_cons Z6 (pss_one Z7))))))))
    rw [B_rows]
    refine ⟨_, ZZ, ?_⟩
    clear Z0 Z1 Z2 Z3 Z4 Z5 Z6 Z7 ZZ c22 t6
    show tSeq _ _ _ [some (.int c), none, none, none, none] H
    have f4 := fms c 4 (by decide)
    refine st fun N1 e1 => ?_
    walk_at "rd2"
    refine ⟨by decide, ?_⟩
    generalize c.fmod 4 = so at f4
    subst e1
    refine st fun N1 e1 => ?_
    walk_at "rd2"
    refine ⟨dvs _ 4 (by decide) (by decide), ?_⟩
    generalize c.fdiv 4 = ce
    subst e1
    refine st fun N1 e1 => ?_
    walk_at "rd2"
    refine ⟨by show 2 ≤ sizeLine; decide, fun p1 h1 => ⟨by show 2 ≤ sizeLine; decide, fun p2 h2 => ⟨by show 2 ≤ sizeLine; decide, fun p3 h3 => ?_⟩⟩⟩
    obtain ⟨g1, s1⟩ := lit22 (K := K) h1 h2 h3
    have g2 : M2 K _ p3 1 := ⟨_, g1, sq22, bits22 (by decide) (by decide) (by decide) (by decide)⟩
    generalize upd (upd (upd H p1 _) p2 _) p3 _ = H1 at g1 s1 g2
    clear g1 h1 h2 h3
    subst e1
    refine st fun N1 e1 => ?_
    have k1 : ∀ (l : Addr) (H2 : Hp), Same H H2 → M2 K H2 l 1 → N1 [some (.int ce), some (.int so), some (.ref l), none, none] H2 := by
      intro l H2 s2 hM
      subst e1
      refine st fun N1 e1 => ?_
      have k2 : ∀ (l : Addr) (H2 : Hp) (v3 : Option V), Same H H2 → M2 K H2 l 40 → N1 [some (.int ce), some (.int so), some (.ref l), v3, none] H2 := by
        clear hM
        intro l H2 v3 s2 hM
        subst e1
        refine st fun N1 e1 => ?_
        have k3 : ∀ (ce : Int) (l : Addr) (H2 : Hp) (v3 v4 : Option V), Same H H2 → M2 K H2 l 180 → N1 [some (.int ce), some (.int so), some (.ref l), v3, v4] H2 := by
          clear hM
          intro ce l H2 v3 v4 s2 hM
          subst e1
          refine st fun N1 e1 => ?_
          have k4 : N1 [some (.int ce), some (.int so), some (.ref l), v3, v4] H2 := by
            subst e1
            walk_at "rd2"
            obtain ⟨M, h1, h2, h3⟩ := hM.le (show 180 ≤ 200 by decide)
            exact hQ l M 2 H2 s2 h1 (.inl rfl) h2 h3
          walk_at "rd2"
          by_cases z : so = 3
          · rw [decide_eq_true z]
            refine iteT ⟨by decide, ?_⟩
            by_cases z2 : ce.fmod 3 = 0
            · rw [decide_eq_true z2]
              have q2 := fms (ce.fdiv 3) 2 (by decide)
              refine iteT ⟨by show 3 ≤ sizeLine; decide, fun p1 h1 => ⟨by show 3 ≤ sizeLine; decide, fun p2 h2 => ⟨dvs _ 3 (by decide) (by decide), by decide, IntMulOk.of_left (by decide), by show 3 ≤ sizeLine; decide, fun p3 h3 => ⟨by show 3 ≤ sizeLine; decide, fun p4 h4 => ?_⟩⟩⟩⟩
              have w1 := Same.new (o := .lst [.int 0, .int 1, .int 0]) h1
              have w2 := Same.new (o := .lst [.int 1, .int 0, .int 0]) h2
              have w3 := Same.new (o := .lst [.int 0, .int 0, .int (1 - 2 * (ce.fdiv 3).fmod 2)]) h3
              have w4 := Same.new (o := .lst [.ref p1, .ref p2, .ref p3]) h4
              refine hQ p4 [[0, 1, 0], [1, 0, 0], [0, 0, 1 - 2 * (ce.fdiv 3).fmod 2]] 3 _ (s2.trans (w1.trans (w2.trans (w3.trans w4)))) (mat3 upd_same (SqB.lst (w4 _ _ (w3 _ _ (w2 _ _ upd_same)))) (SqB.lst (w4 _ _ (w3 _ _ upd_same))) (SqB.lst (w4 _ _ upd_same))) (.inr rfl) ?_ ?_
              · refine ⟨rfl, fun r hr => ?_⟩
                simp at hr
                rcases hr with rfl | rfl | rfl <;> rfl
              · have big : (2 : Nat) ≤ 2 ^ 200 := by decide +kernel
                intro r hr x hx
                simp at hr
                rcases hr with rfl | rfl | rfl
                all_goals (simp at hx; omega)
            · rw [decide_eq_false z2]
              exact iteF k4
          · rw [decide_eq_false z]
            exact iteF k4
        walk_at "rd2"
        by_cases z : so = 2
        · rw [decide_eq_true z]
          refine iteT ?_
          refine for_st fun B eB => ?_
          simp only [iRng1]
          walk_at "rd2"
          refine ⟨by decide, by decide, ?_⟩
          refine fr_range (n := 3) (g := gName 3) (tb := B) (fun i σ H3 => ∃ ce l v3 v4, σ = [some (.int ce), some (.int so), some (.ref l), v3, v4] ∧ Same H H3 ∧ M2 K H3 l (40 + 43 * i)) ⟨_, _, _, _, rfl, s2, hM⟩ ?_ ?_
          · rintro i σ H3 hi ⟨ce, l, v3, v4, rfl, s3, hM3⟩
            subst eB
            show tSeq _ _ _ [some (.int ce), some (.int so), some (.ref l), some (.int (0 + (i : Int))), v4] H3
            rw [Int.zero_add]
            refine st fun N2 e2 => ?_
            walk_at "rd2"
            refine ⟨dvs _ 3 (by decide) (by decide), by decide, ?_⟩
            subst e2
            refine st fun N2 e2 => ?_
            have kb : ∀ by0 : Int, by0.natAbs < 2 ^ 41 → N2 [some (.int ce), some (.int so), some (.ref l), some (.int i), some (.int by0)] H3 := by
              intro by0 hby
              subst e2
              refine st fun N2 e2 => ?_
              walk_at "rd2"
              refine ⟨by show 2 ≤ sizeLine; decide, fun p1 h1 => ⟨by show 2 ≤ sizeLine; decide, fun p2 h2 => ⟨by show 2 ≤ sizeLine; decide, fun p3 h3 => ?_⟩⟩⟩
              obtain ⟨g1, w1⟩ := lit22 (K := K) h1 h2 h3
              generalize upd (upd (upd H3 p1 _) p2 _) p3 _ = Ha at g1 w1 ⊢
              refine ⟨by show 2 ≤ sizeLine; decide, fun p4 h4 => ⟨by show 2 ≤ sizeLine; decide, fun p5 h5 => ⟨by show 2 ≤ sizeLine; decide, fun p6 h6 => ?_⟩⟩⟩
              obtain ⟨g2, w2⟩ := lit22 (K := K) h4 h5 h6
              generalize upd (upd (upd Ha p4 _) p5 _) p6 _ = Hb at g2 w2 ⊢
              refine ⟨by show 2 ≤ sizeLine; decide, fun p7 h7 => ?_⟩
              have w3 := Same.new (o := .lst [.ref p3, .ref p6]) h7
              have el7 : (upd Hb p7 (.lst [.ref p3, .ref p6])) p7 = some (.lst [.ref p3, .ref p6]) := upd_same
              have G1 := (g1.up w2).up w3
              have G2 := g2.up w3
              have sA : Same H3 (upd Hb p7 (.lst [.ref p3, .ref p6])) := w1.trans (w2.trans w3)
              generalize upd Hb p7 (.lst [.ref p3, .ref p6]) = Hc at G1 G2 sA el7 ⊢
              obtain ⟨M, m1, m2, m3⟩ := hM3.up sA
              have fin : ∀ (q : Addr) (A2 : List (List Int)), MatB false false K Hc q A2 → Sq 2 A2 → BitsM 41 A2 → sp_law_times K [.ref q, .ref l] Hc (fun v H4 => N2 [some (.int ce), some (.int so), some v, some (.int i), some (.int by0)] H4) E0 := by
                intro q A2 a1 a2 a3
                refine ⟨false, false, false, false, q, l, A2, M, 41, 40 + 43 * i, rfl, a1, m1, a2, m2, a3, m3, by omega, fun l2 C H4 s4 c1 c2 c3 => ?_⟩
                subst e2
                walk_at "rd2"
                refine ⟨dvs _ 16 (by decide) (by decide), (s3.trans sA).trans s4, C, c1, c2, ?_⟩
                have e : 41 + (40 + 43 * i) + 2 = 40 + 43 * (i + 1) := by omega
                rw [e] at c3
                exact c3
              have b1 : BitsM 41 [[1, by0], [0, 1]] := bits22 (by decide) hby (by decide) (by decide)
              have b2 : BitsM 41 [[1, 0], [by0, 1]] := bits22 (by decide) (by decide) hby (by decide)
              try walk_at "rd2"
              refine ⟨by decide, ?_⟩
              rcases (show i = 0 ∨ i = 1 ∨ i = 2 by omega) with rfl | rfl | rfl
              · exact ⟨false, p7, _, _, _, rfl, rfl, SqB.lst el7, rfl, fin p3 _ G1 sq22 b1⟩
              · exact ⟨false, p7, _, _, _, rfl, rfl, SqB.lst el7, rfl, fin p6 _ G2 sq22 b2⟩
              · exact ⟨false, p7, _, _, _, rfl, rfl, SqB.lst el7, rfl, fin p3 _ G1 sq22 b1⟩
            have f5 := fms (ce.fdiv 3 + 2) 5 (by decide)
            have e41 : (2 : Nat) ^ 41 = 2199023255552 := rfl
            walk_at "rd2"
            refine ⟨by decide, ?_⟩
            split
            · rw [show (10 : Int) ^ Int.toNat 12 = 1000000000000 from by decide]
              have f2 := fms (ce.fdiv 3) (2 * 1000000000000 + 1) (by decide)
              have p12 : CPow 10 12 := ⟨by decide, by decide, by decide⟩
              exact ⟨dvs _ 3 (by decide) (by decide), p12, IntMulOk.of_left (by decide), by decide, p12, kb _ (by omega)⟩
            · exact kb _ (by omega)
          · rintro σ H3 ⟨ce, l, v3, v4, rfl, s3, hM3⟩
            exact k3 ce l H3 v3 v4 s3 (hM3.le (by decide))
        · rw [decide_eq_false z]
          exact iteF (k3 ce l H2 v3 none s2 (hM.le (by decide)))
      walk_at "rd2"
      by_cases z : so = 1
      · rw [decide_eq_true z]
        refine iteT ?_
        refine for_st fun B eB => ?_
        simp only [iRng1]
        walk_at "rd2"
        have f6 := fms ce 6 (by decide)
        obtain ⟨n, hn⟩ := Int.eq_ofNat_of_zero_le f6.1
        rw [hn]
        refine ⟨by decide, by omega, by omega, ?_⟩
        rw [Int.toNat_natCast]
        refine fr_range (n := n) (g := gName 3) (tb := B) (fun i σ H3 => ∃ l v3, σ = [some (.int ce), some (.int so), some (.ref l), v3, none] ∧ Same H H3 ∧ M2 K H3 l (1 + 3 * i)) ⟨_, _, rfl, s2, hM⟩ ?_ ?_
        · rintro i σ H3 hi ⟨l, v3, rfl, s3, hM3⟩
          subst eB
          show tAsg _ _ _ [some (.int ce), some (.int so), some (.ref l), some (.int (0 + (i : Int))), none] H3
          walk_at "rd2"
          refine ⟨by show 2 ≤ sizeLine; decide, fun p1 h1 => ⟨by show 2 ≤ sizeLine; decide, fun p2 h2 => ⟨by show 2 ≤ sizeLine; decide, fun p3 h3 => ?_⟩⟩⟩
          obtain ⟨g1, s1⟩ := lit22 (K := K) h1 h2 h3
          obtain ⟨M, m1, m2, m3⟩ := hM3.up s1
          refine ⟨false, false, false, false, p3, l, _, M, 1, 1 + 3 * i, rfl, g1, m1, sq22, m2, bits22 (by decide) (by decide) (by decide) (by decide), m3, by omega, fun l2 C H4 s4 c1 c2 c3 => ?_⟩
          refine ⟨l2, rfl, (s3.trans s1).trans s4, C, c1, c2, ?_⟩
          have e : 1 + (1 + 3 * i) + 2 = 1 + 3 * (i + 1) := by omega
          rw [e] at c3
          exact c3
        · rintro σ H3 ⟨l, v3, rfl, s3, hM3⟩
          have hM4 := hM3.le (show 1 + 3 * n ≤ 40 by omega)
          try walk_at "rd2"
          refine ⟨dvs _ 6 (by decide) (by decide), by decide, ?_⟩
          split
          · exact swap22 (Q := fun v H => N1 [some (.int ce), some (.int so), some v, v3, none] H) hM4 fun p H' s' hM' => k2 p H' v3 (s3.trans s') hM'
          · exact k2 l H3 v3 s3 hM4
      · rw [decide_eq_false z]
        exact iteF (k2 l H2 none s2 (hM.le (by decide)))
    walk_at "rd2"
    by_cases z : so = 0
    · rw [decide_eq_true z]
      have q1 := fms ce 2 (by decide)
      have q2 := fms (ce.fdiv 2) 2 (by decide)
      refine iteT ⟨by decide, IntMulOk.of_left (by decide), by show 2 ≤ sizeLine; decide, fun p1 h1 => ⟨dvs _ 2 (by decide) (by decide), by decide, IntMulOk.of_left (by decide), by show 2 ≤ sizeLine; decide, fun p2 h2 => ⟨by show 2 ≤ sizeLine; decide, fun p3 h3 => ⟨dvs _ 4 (by decide) (by decide), by decide, ?_⟩⟩⟩⟩
      obtain ⟨g1, s2⟩ := lit22 (K := K) h1 h2 h3
      have g3 : M2 K _ p3 1 := ⟨_, g1, sq22, bits22 (by omega) (by decide) (by decide) (by omega)⟩
      generalize upd (upd (upd H1 p1 _) p2 _) p3 _ = H2 at g1 s2 g3
      split
      · exact swap22 (Q := fun v H => N1 [some (.int ce), some (.int so), some v, none, none] H) g3 fun p H' s' hM' => k1 p H' ((s1.trans s2).trans s') hM'
      · exact k1 p3 H2 (s1.trans s2) g3
    · rw [decide_eq_false z]
      exact iteF (k1 p3 H1 s1 g2)
theorem gcd3 {a b u : Int} (hu : 0 < u) : 0 < gcdI (gcdI a b) u ∧ gcdI (gcdI a b) u ≤ u ∧ gcdI (gcdI a b) u ∣ a ∧ gcdI (gcdI a b) u ∣ b ∧ gcdI (gcdI a b) u ∣ u := by
  have d1 : gcdI (gcdI a b) u ∣ gcdI a b := Int.gcd_dvd_left ..
  have d2 : gcdI (gcdI a b) u ∣ u := Int.gcd_dvd_right ..
  have d3 : gcdI a b ∣ a := Int.gcd_dvd_left ..
  have d4 : gcdI a b ∣ b := Int.gcd_dvd_right ..
  have h0 : 0 ≤ gcdI (gcdI a b) u := Int.natCast_nonneg _
  have hne : gcdI (gcdI a b) u ≠ 0 := fun z => by
    rw [z] at d2
    have := Int.zero_dvd.mp d2
    omega
  exact ⟨by omega, Int.le_of_dvd hu d2, Int.dvd_trans d1 d3, Int.dvd_trans d1 d4, d2⟩
theorem natAbs_fdiv' {c t : Int} (hc : c ≠ 0) (h : c ∣ t) : (t.fdiv c).natAbs ≤ t.natAbs := by
  have e := fdiv_exact hc h
  have e2 : (t.fdiv c).natAbs * c.natAbs = t.natAbs := by rw [← Int.natAbs_mul, e]
  have : 1 ≤ c.natAbs := by omega
  calc (t.fdiv c).natAbs = (t.fdiv c).natAbs * 1 := (Nat.mul_one _).symm
    _ ≤ (t.fdiv c).natAbs * c.natAbs := Nat.mul_le_mul_left _ this
    _ = t.natAbs := e2
theorem ok_law_deed (T : Txt K mg t) : FnOk P w K mg base CX0 3 t.a_law_deed t.d_law_deed ["_law_cells", "_law_n", "_law_m"] (sp_law_deed K) := by
  have G_law_rows : FnOk P w K mg base CX0 2 t.a_law_rows t.d_law_rows ["_law_cell"] (sp_law_rows K) := ok_law_rows T
  have G_law_common : FnOk P w K mg base CX0 1 t.a_law_common t.d_law_common ["_law_one", "_law_other"] sp_law_common := ok_law_common T
  refine T.F_law_deed.ok sc_law_deed (fun vs H Q E h => ?_) (fun cdv A outer s H vs Q E hr h => ?_)
  · obtain ⟨a, ns, n, m, rfl, _⟩ := h
    rfl
  · obtain ⟨a, ns, n, m, rfl, hS, hl8, ⟨n1, n6, m1, m6⟩, hQ⟩ := h
    refine ⟨_, (pss_cons (ps_set (i := 3) sc_law_deed.nd rfl (Or.inl rfl) (pe_call G_law_rows (hr.mono (by omega)) rfl T.m_law_rows T.F_law_rows.kp T.b_law_rows .nil pass0 (pa_cons (pe_ix ix_B (pv 0) pe_int (fun _ _ => rfl)) pa_nil)))
      (pss_cons (ps_set (i := 4) sc_law_deed.nd rfl (Or.inl rfl) (pe_lst (pa_cons (pe_op op_mulB (pe_op op_modN (pe_ix ix_B (pv 0) pe_int (fun _ _ => rfl)) pe_int) (pv 2)) (pa_cons (pe_op op_mulB (pe_op op_modN (pe_op op_fdivB (pe_ix ix_B (pv 0) pe_int (fun _ _ => rfl)) pe_int) pe_int) (pv 1)) pa_nil))))
      (pss_cons (ps_set (i := 5) sc_law_deed.nd rfl (Or.inl rfl) (pe_op op_mulB (pv 1) (pv 2)))
      (pss_cons (ps_if (pt_cmpR op_eqZ (pe_op op_modN (pe_ix ix_B (pv 0) pe_int (fun _ _ => rfl)) pe_int) pe_int (nomark _))
      (pss_one (ps_set (i := 4) sc_law_deed.nd rfl (Or.inl rfl) (pe_lst (pa_cons (pe_op op_add (pe_ix ix_B (pv 4) pe_int (fun _ _ => rfl)) (pe_op op_mulB (pv 5) (pe_op op_modN (pe_ix ix_B (pv 0) pe_int (fun _ _ => rfl)) (pe_op op_pow pe_int pe_int)))) (pa_cons (pe_op op_sub (pe_ix ix_B (pv 4) pe_int (fun _ _ => rfl)) (pe_op op_mulB (pv 5) (pe_op op_modN (pe_op op_fdivB (pe_ix ix_B (pv 0) pe_int (fun _ _ => rfl)) pe_int) (pe_op op_pow pe_int pe_int)))) pa_nil)))))
      pss_nil)
      (pss_cons (ps_if (pt_cmpR op_eqZ (pe_op op_modN (pe_ix ix_B (pv 0) pe_int (fun _ _ => rfl)) pe_int) pe_int (nomark _))
      (pss_one (ps_set (i := 5) sc_law_deed.nd rfl (Or.inl rfl) (pe_op op_mulB (pv 5) (pe_op op_add pe_int (pe_op op_modN (pe_ix ix_B (pv 0) pe_int (fun _ _ => rfl)) pe_int)))))
      pss_nil)
      (pss_cons (ps_set (i := 6) sc_law_deed.nd rfl (Or.inr rfl) (pe_call G_law_common (hr.mono (by omega)) rfl T.m_law_common T.F_law_common.kp T.b_law_common .nil pass0 (pa_cons (pe_call G_law_common (hr.mono (by omega)) rfl T.m_law_common T.F_law_common.kp T.b_law_common .nil pass0 (pa_cons (pe_ix ix_B (pv 4) pe_int (fun _ _ => rfl)) (pa_cons (pe_ix ix_B (pv 4) pe_int (fun _ _ => rfl)) pa_nil))) (pa_cons (pv 5) pa_nil))))
      (pss_cons (ps_setCG (i := 4) (xs := ["_law_top"]) (fr := [("_law_by", 6)]) (g := (gName 0)) (tt := (tEl (tOp (rI CDivB fun i j => .int (i.fdiv j)) (tVar 0) (tVar 1)))) (compG_ok (sc := defScope s_law_deed) (N := N_law_deed) rfl rfl (by decide +kernel)) rfl sc_law_deed.nd rfl rfl (pi_seq (pv 4)) (fun _ _ _ hE1 => (pg_own (N := ["_law_top", "_law_by"]) (i := 0) hE1 rfl (by decide +kernel))) (fun _ _ _ hE1 => (po_el (pe_op op_fdivB (pv 0) (pv 1)))))
      (pss_cons (ps_if (pt_cmpR op_eqZ (pe_callB call_lenB rfl T.z_len (by decide +kernel) (pa_cons (pv 3) pa_nil)) pe_int (nomark _))
      (pss_one (ps_expr (pe_bm PySem.F.plainAttrs_list PySem.F.slot_list_append PySem.F.type_list_append mt_append (pv 4) (pa_cons pe_int pa_nil))))
      pss_nil)
      (pss_one (ps_ret (pe_tup (pa_cons (pe_callTy call_tupB rfl T.z_tuple (by decide +kernel) (pa_cons (pe_compG (xs := ["_law_row"]) (fr := []) (g := (gName 0)) (tt := (tEl (tCB (rTupB K) (tCons (tVar 0) tNil)))) (compG_ok (sc := defScope s_law_deed) (N := N_law_deed) rfl rfl (by decide +kernel)) rfl (pi_seq (pv 3)) (fun _ _ _ hE1 => (pg_own (N := ["_law_row"]) (i := 0) hE1 rfl (by decide +kernel))) (fun _ _ _ hE1 => (po_el (pe_callTy call_tupB rfl T.z_tuple (by decide +kernel) (pa_cons (pv 0) pa_nil))))) pa_nil)) (pa_cons (pe_callTy call_tupB rfl T.z_tuple (by decide +kernel) (pa_cons (pv 4) pa_nil)) (pa_cons (pe_op op_fdivB (pv 5) (pv 6)) pa_nil)))))))))))))), ?_⟩
    show tSeq _ _ _ [some (.ref a), some (.int n), some (.int m), none, none, none, none] H
    have cix : ∀ (H' : Hp) (k : Nat) (Q' : VK), Same H H' → k < 8 → Q' (.int (ns.getD k 0)) H' → rIxB K (.ref a) (.int k) H' Q' := fun H' k Q' s' hk q => ⟨false, a, _, _, _, rfl, rfl, s'.seq hS, atI_at (int_at (getD_at (k := k) (by omega))) rfl, q⟩
    have hnm : n * m ≤ 6 * 6 := Nat.mul_le_mul n6 m6
    have hnm1 : 1 ≤ n * m := Nat.mul_pos n1 m1
    have enm : (n : Int) * (m : Int) = ((n * m : Nat) : Int) := by rw [Int.natCast_mul]
    refine st fun N1 e1 => ?_
    walk_at "rd2"
    refine cix H 3 _ (Same.refl _) (by decide) ?_
    refine ⟨_, rfl, fun l M d H1 s1 hM hd sq bt => ?_⟩
    subst e1
    refine st fun N1 e1 => ?_
    walk_at "rd2"
    refine cix H1 4 _ s1 (by decide) ?_
    try walk_at "rd2"
    have f1 := fms (ns.getD 4 0) 19 (by decide)
    have f2 := fms ((ns.getD 4 0).fdiv 19) 19 (by decide)
    refine ⟨by decide, IntMulOk.of_left (intBits_le_iff.mpr (by omega)), cix H1 4 _ s1 (by decide) ?_⟩
    try walk_at "rd2"
    refine ⟨dvs _ 19 (by decide) (by decide), by decide, IntMulOk.of_left (intBits_le_iff.mpr (by omega)), by show 2 ≤ sizeLine; decide, fun p1 hp1 => ?_⟩
    obtain ⟨x1, hx1⟩ := Int.eq_ofNat_of_zero_le f1.1
    obtain ⟨x2, hx2⟩ := Int.eq_ofNat_of_zero_le f2.1
    rw [hx1, hx2]
    have b1 : ((x1 : Int) * m).natAbs ≤ 108 := by
      rw [← Int.natCast_mul, Int.natAbs_natCast]
      exact Nat.le_trans (Nat.mul_le_mul (show x1 ≤ 18 by omega) m6) (by decide)
    have b2 : ((x2 : Int) * n).natAbs ≤ 108 := by
      rw [← Int.natCast_mul, Int.natAbs_natCast]
      exact Nat.le_trans (Nat.mul_le_mul (show x2 ≤ 18 by omega) n6) (by decide)
    generalize (x1 : Int) * m = t0 at b1 ⊢
    generalize (x2 : Int) * n = t1 at b2 ⊢
    have s2 : Same H1 (upd H1 p1 (.lst [.int t0, .int t1])) := Same.new hp1
    have el : (upd H1 p1 (.lst [.int t0, .int t1])) p1 = some (.lst [.int t0, .int t1]) := upd_same
    generalize upd H1 p1 (.lst [.int t0, .int t1]) = H2 at s2 el
    have s02 := s1.trans s2
    subst e1
    refine st fun N1 e1 => ?_
    walk_at "rd2"
    rw [enm]
    refine ⟨IntMulOk.of_left (intBits_le_iff.mpr (by omega)), ?_⟩
    subst e1
    refine st fun N1 e1 => ?_
    have k1 : ∀ (q : Addr) (y0 y1 : Int) (H3 : Hp), Same H1 H3 → H3 q = some (.lst [.int y0, .int y1]) → y0.natAbs < 2 ^ 80 → y1.natAbs < 2 ^ 80 → N1 [some (.ref a), some (.int n), some (.int m), some (.ref l), some (.ref q), some (.int ((n * m : Nat) : Int)), none] H3 := by
      intro q y0 y1 H3 s3 eq by0 by1
      subst e1
      refine st fun N1 e1 => ?_
      have k2 : ∀ U : Int, 0 < U → U ≤ 1000 → N1 [some (.ref a), some (.int n), some (.int m), some (.ref l), some (.ref q), some (.int U), none] H3 := by
        intro U u0 u1
        obtain ⟨g0, g1, g2, g3, g4⟩ := gcd3 (a := y0) (b := y1) u0
        subst e1
        refine st fun N1 e1 => ?_
        walk_at "rd2"
        refine ⟨false, q, _, _, _, rfl, rfl, SqB.lst eq, rfl, false, q, _, _, _, rfl, rfl, SqB.lst eq, rfl, ?_⟩
        refine ⟨_, _, rfl, _, _, rfl, ?_⟩
        generalize gcdI (gcdI y0 y1) U = g at *
        subst e1
        refine st fun N1 e1 => ?_
        walk_at "rd2"
        refine compE_st fun B eB => ?_
        simp only [iSeq]
        walk_at "rd2"
        refine ⟨false, ⟨_, SqB.lst eq⟩, fun a4 ha4 => ?_⟩
        refine cg_seq (fun j y _ => ∃ x, ([y0, y1] : List Int)[j]? = some x ∧ y = .int (x.fdiv g)) ha4 (SqB.lst eq) (show 2 ≤ 1000 by decide) (fun _ _ _ _ r _ => r) ?_ ?_
        · intro j x H4 zs ex s4 ez Q' hQ'
          obtain ⟨z, ez2, rfl⟩ : ∃ z, ([y0, y1] : List Int)[j]? = some z ∧ x = .int z := by
            match j, ex with
            | 0, ex => cases ex; exact ⟨y0, rfl, rfl⟩
            | 1, ex => cases ex; exact ⟨y1, rfl, rfl⟩
          subst eB
          show tOp _ _ _ [some (.int z), some (.int g)] H4 Q'
          walk_at "rd2"
          exact ⟨dvs _ _ (by omega) (by omega), hQ' _ _ (Same.refl _) ⟨z, ez2, rfl⟩⟩
        · intro H4 zs s4 ez hlz hR
          have ezs : zs = [.int (y0.fdiv g), .int (y1.fdiv g)] := by
            match zs, hlz with
            | [z0, z1], _ =>
              obtain ⟨x, h1, h2⟩ := hR 0 z0 rfl
              obtain ⟨x', h1', h2'⟩ := hR 1 z1 rfl
              cases h1
              cases h1'
              rw [h2, h2']
          subst ezs
          have c0 := natAbs_fdiv' (Int.ne_of_gt g0) g2
          have c1 := natAbs_fdiv' (Int.ne_of_gt g0) g3
          have U0 : 0 < U.fdiv g := by
            have e := fdiv_exact (Int.ne_of_gt g0) g4
            rcases Int.lt_trichotomy (U.fdiv g) 0 with z | z | z
            · have := Int.mul_neg_of_neg_of_pos z g0
              omega
            · rw [z] at e; omega
            · exact z
          have U1 := natAbs_fdiv' (Int.ne_of_gt g0) g4
          generalize y0.fdiv g = w0 at *
          generalize y1.fdiv g = w1 at *
          have hM4 := hM.up (s3.trans s4)
          subst e1
          refine st fun N1 e1 => ?_
          have k3 : ∀ (ts : List Int) (H5 : Hp), Same H1 H5 → H5 a4 = some (.lst (ts.map V.int)) → ts.length = d → (∀ x ∈ ts, x.natAbs < 2 ^ 80) → N1 [some (.ref a), some (.int n), some (.int m), some (.ref l), some (.ref a4), some (.int U), some (.int g)] H5 := by
            intro ts H5 s5 e5 hlt hbt
            subst e1
            walk_at "rd2"
            refine compE_st fun B eB => ?_
            simp only [iSeq]
            walk_at "rd2"
            have hM5 := hM.up s5
            obtain ⟨xs, x1, _⟩ := hM5.walk
            refine ⟨false, ⟨_, x1⟩, fun a6 ha6 => ?_⟩
            subst eB
            refine copy_tupB hM5 (by rw [sq.1]; omega) ha6 fun H6 zs s6 hz hB => ?_
            refine ⟨a6, _, rfl, .inl ⟨SqL.of hz, fun l7 hl7 => ?_⟩⟩
            have s7 : Same H5 (upd H6 l7 (.tup zs)) := s6.trans (Same.new hl7)
            replace hB := hB l7 hl7
            generalize upd H6 l7 (.tup zs) = H7 at s7 hB
            try walk_at "rd2"
            refine ⟨a4, _, rfl, .inl ⟨SqL.of (s7 _ _ e5), fun l8 hl8' => ?_⟩⟩
            try walk_at "rd2"
            refine ⟨dvs _ _ (by omega) (by omega), by show 3 ≤ sizeLine; decide, fun q9 hq9 => ?_⟩
            have s8 := Same.new (o := .tup (ts.map V.int)) hl8'
            have s9 := Same.new (o := .tup [.ref l7, .ref l8, .int (U.fdiv g)]) hq9
            refine hQ q9 M ts (U.fdiv g) d _ (s1.trans (s5.trans (s7.trans (s8.trans s9)))) ⟨l7, l8, upd_same, hB.up (s8.trans s9), s9 _ _ upd_same⟩ ⟨sq, hlt, U0, fun r hr x hx => Nat.lt_of_lt_of_le (bt r hr x hx) (Nat.pow_le_pow_right (by decide) (by decide)), fun x hx => Nat.lt_of_lt_of_le (hbt x hx) (Nat.pow_le_pow_right (by decide) (by decide)), ?_⟩ hd
            have : (1000 : Int) < 2 ^ 150 := by decide +kernel
            omega
          walk_at "rd2"
          refine mat_len hM4 ?_
          try walk_at "rd2"
          rw [sq.1]
          rcases hd with rfl | rfl
          · refine iteF (k3 [w0, w1] H4 (s3.trans s4) ez rfl ?_)
            intro x hx
            simp at hx
            omega
          · refine iteT ⟨.inl ⟨rfl, _, SqL.of ez⟩, ?_⟩
            refine ⟨a4, _, _, rfl, rfl, ez, small1000 (show 2 ≤ 1000 by decide), ?_⟩
            have n4 : H1 a4 = none := by
              cases w : H1 a4 with
              | none => rfl
              | some o => rw [s3 _ _ w] at ha4; cases ha4
            refine k3 [w0, w1, 0] _ (Same.over n4 (s3.trans s4)) upd_same rfl ?_
            intro x hx
            simp at hx
            have := Nat.two_pow_pos 80
            omega
      walk_at "rd2"
      refine cix H3 5 _ (s1.trans s3) (by decide) ?_
      try walk_at "rd2"
      refine ⟨by decide, ?_⟩
      split
      · refine cix H3 6 _ (s1.trans s3) (by decide) ?_
        try walk_at "rd2"
        have f12 := fms (ns.getD 6 0) 12 (by decide)
        obtain ⟨x, hx⟩ := Int.eq_ofNat_of_zero_le (show 0 ≤ 1 + (ns.getD 6 0).fmod 12 by omega)
        rw [hx]
        refine ⟨by decide, IntMulOk.of_left (intBits_le_iff.mpr (by omega)), k2 _ (Int.mul_pos (by omega) (by omega)) ?_⟩
        rw [← Int.natCast_mul]
        have := Nat.mul_le_mul (show n * m ≤ 36 by omega) (show x ≤ 12 by omega)
        omega
      · exact k2 _ (by omega) (by omega)
    walk_at "rd2"
    refine cix H2 5 _ s02 (by decide) ?_
    try walk_at "rd2"
    refine ⟨by decide, ?_⟩
    split
    · have p20 : CPow 10 20 := ⟨by decide, by decide, by decide⟩
      rw [show (10 : Int) ^ Int.toNat 20 = 100000000000000000000 from by decide +kernel]
      refine ⟨false, p1, _, _, _, rfl, rfl, SqB.lst el, rfl, cix H2 6 _ s02 (by decide) ?_⟩
      try walk_at "rd2"
      have q1 := fms (ns.getD 6 0) 100000000000000000000 (by decide)
      have q2 := fms ((ns.getD 6 0).fdiv 7) 100000000000000000000 (by decide)
      refine ⟨p20, by decide, IntMulOk.of_left (intBits_le_iff.mpr (by omega)), false, p1, _, _, _, rfl, rfl, SqB.lst el, rfl, cix H2 6 _ s02 (by decide) ?_⟩
      try walk_at "rd2"
      refine ⟨dvs _ 7 (by decide) (by decide), p20, by decide, IntMulOk.of_left (intBits_le_iff.mpr (by omega)), by show 2 ≤ sizeLine; decide, fun p2 hp2 => ?_⟩
      have bnd : ∀ x : Int, 0 ≤ x → x < 100000000000000000000 → (((n * m : Nat) : Int) * x).natAbs ≤ 3600000000000000000000 := fun x h0 h1 => by
        obtain ⟨k, rfl⟩ := Int.eq_ofNat_of_zero_le h0
        rw [← Int.natCast_mul, Int.natAbs_natCast]
        exact Nat.le_trans (Nat.mul_le_mul (show n * m ≤ 36 by omega) (show k ≤ 100000000000000000000 by omega)) (by decide)
      have z1 := bnd _ q1.1 q1.2
      have z2 := bnd _ q2.1 q2.2
      have e80 : (2 : Nat) ^ 80 = 1208925819614629174706176 := by decide +kernel
      refine k1 p2 _ _ _ (s2.trans (Same.new hp2)) upd_same ?_ ?_
      · rw [e80]; omega
      · rw [e80]; omega
    · exact k1 p1 t0 t1 H2 s2 el (Nat.lt_of_le_of_lt b1 (by decide)) (Nat.lt_of_le_of_lt b2 (by decide))
theorem natAbs_mul_lt {a b : Int} {x y : Nat} (h1 : a.natAbs < 2 ^ x) (h2 : b.natAbs < 2 ^ y) : (a * b).natAbs < 2 ^ (x + y) := by
  rw [Int.natAbs_mul, Nat.pow_add]
  exact Nat.mul_lt_mul'' h1 h2
theorem ok_law_reached (T : Txt K mg t) : FnOk P w K mg base CX0 1 t.a_law_reached t.d_law_reached ["_law_one", "_law_i", "_law_j", "_law_n", "_law_m"] (sp_law_reached K) := by
  refine T.F_law_reached.ok sc_law_reached (fun vs H Q E h => ?_) (fun cdv A outer s H vs Q E hr h => ?_)
  · obtain ⟨p, M, ts, u, i, j, n, m, rfl, _⟩ := h
    rfl
  · obtain ⟨p, M, ts, u, i, j, n, m, rfl, hD, fi, hnm, hi, hj, hQ1, hQ2⟩ := h
    obtain ⟨n1, n6, m1, m6⟩ := hnm
    obtain ⟨a, b, c, e, rfl⟩ := two_of' fi.sq
    obtain ⟨t0, t1, rfl⟩ := len2 fi.len
    have hu := fi.pos
    have hu2 := bits150 fi.pos fi.bu
    refine ⟨_, (pss_cons (ps_asg (pv 0) (pg_tup rfl (pgs_cons (pg_name (i := 5) sc_law_reached.nd rfl (Or.inl rfl)) (pgs_cons (pg_name (i := 6) sc_law_reached.nd rfl (Or.inl rfl)) (pgs_cons (pg_name (i := 7) sc_law_reached.nd rfl (Or.inl rfl)) pgs_nil)))))
      (pss_cons (ps_set (i := 8) sc_law_reached.nd rfl (Or.inl rfl) (pe_lst pa_nil))
      (pss_cons (ps_for PassesOwn.never rfl (pi_zip rfl T.z_zip (pa_cons (pv 5) (pa_cons (pv 6) pa_nil))) (pg_tup rfl (pgs_cons (pg_name (i := 9) sc_law_reached.nd rfl (Or.inl rfl)) (pgs_cons (pg_name (i := 10) sc_law_reached.nd rfl (Or.inl rfl)) pgs_nil)))
      (pss_cons (ps_set (i := 11) sc_law_reached.nd rfl (Or.inl rfl) (pe_op op_add (pe_op op_mulB (pe_op op_mulB (pe_ix ix_B (pv 9) pe_int (fun _ _ => rfl)) (pv 1)) (pv 4)) (pe_op op_mulB (pe_op op_mulB (pe_ix ix_B (pv 9) pe_int (fun _ _ => rfl)) (pv 2)) (pv 3))))
      (pss_one (ps_expr (pe_bm PySem.F.plainAttrs_list PySem.F.slot_list_append PySem.F.type_list_append mt_append (pv 8) (pa_cons (pe_op op_add (pe_op op_mulB (pv 11) (pv 7)) (pe_op op_mulB (pe_op op_mulB (pv 10) (pv 3)) (pv 4))) pa_nil))))))
      (pss_cons (ps_if (PW.pt (pw_or (pt_cmpR op_neZ (pe_op op_modN (pe_ix ix_B (pv 8) pe_int (fun _ _ => rfl)) (pe_op op_mulB (pv 4) (pv 7))) pe_int (nomark _)) (pw_or1 (pt_cmpR op_neZ (pe_op op_modN (pe_ix ix_B (pv 8) pe_int (fun _ _ => rfl)) (pe_op op_mulB (pv 3) (pv 7))) pe_int (nomark _)))))
      (pss_one (ps_ret pe_non))
      pss_nil)
      (pss_one (ps_ret (pe_tup (pa_cons (pe_op op_modN (pe_op op_fdivB (pe_ix ix_B (pv 8) pe_int (fun _ _ => rfl)) (pe_op op_mulB (pv 4) (pv 7))) (pv 3)) (pa_cons (pe_op op_modN (pe_op op_fdivB (pe_ix ix_B (pv 8) pe_int (fun _ _ => rfl)) (pe_op op_mulB (pv 3) (pv 7))) (pv 4)) pa_nil))))))))), ?_⟩
    show tSeq _ _ _ [some (.ref p), some (.int i), some (.int j), some (.int n), some (.int m), none, none, none, none, none, none, none] H
    refine st fun N1 e1 => ?_
    obtain ⟨pr, pt, hp1, hp2, hp3⟩ := hD
    refine ⟨_, rfl, p, _, rfl, SqT.of hp1, rfl, _, _, rfl, _, _, rfl, _, _, rfl, rfl, ?_⟩
    show N1 [some (.ref p), some (.int i), some (.int j), some (.int n), some (.int m), some (.ref pr), some (.ref pt), some (.int u), none, none, none, none] H
    subst e1
    refine st fun N1 e1 => ?_
    walk_at "rd2"
    refine ⟨Nat.zero_le _, fun l hl => ?_⟩
    have s1 : Same H (upd H l (.lst [])) := Same.new hl
    have el : (upd H l (.lst [])) l = some (.lst []) := upd_same
    generalize upd H l (.lst []) = H1 at s1 el
    subst e1
    refine st fun N1 e1 => for_st fun B eB => ?_
    simp only [iZip]
    walk_at "rd2"
    obtain ⟨xs, x1, x2, x3⟩ := hp2.walk
    refine ⟨true, ⟨_, x1.up s1⟩, true, ⟨_, SqB.tup (s1 _ _ hp3)⟩, ?_⟩
    refine fr_zip (xs := xs) (ys := [.int t0, .int t1]) (tb := B) (fun k σ H3 => ∃ v9 v10 v11, σ = [some (.ref p), some (.int i), some (.int j), some (.int n), some (.int m), some (.ref pr), some (.ref pt), some (.int u), some (.ref l), v9, v10, v11] ∧ Same H H3 ∧
      H3 l = some (.lst (([far [[a, b], [c, e]] [t0, t1] u n m i j 0, far [[a, b], [c, e]] [t0, t1] u n m i j 1].take k).map V.int))) ⟨none, none, none, rfl, s1, el⟩ (by rw [x2]; rfl)
      (fun k σ H3 _ ⟨_, _, _, _, s3, _⟩ => ⟨x1.up s3, SqB.tup (s3 _ _ hp3)⟩) ?_ ?_
    · rintro k x y q σ H3 ex ey ⟨v9, v10, v11, rfl, s3, el3⟩ hq
      obtain ⟨pp, r, rfl, er, hpp⟩ := x3 k x ex
      have hk : k < 2 := (List.getElem?_eq_some_iff.mp ey).1
      refine ⟨q, _, rfl, SqT.of upd_same, rfl, _, _, rfl, _, _, rfl, rfl, ?_⟩
      subst eB
      have s4 : Same H (upd H3 q (.tup [.ref pp, y])) := s3.trans (Same.new hq)
      have nl : l ≠ q := fun z => by rw [z, hq] at el3; cases el3
      have el4 : (upd H3 q (.tup [.ref pp, y])) l = _ := (upd_ne nl).trans el3
      generalize upd H3 q (.tup [.ref pp, y]) = H4 at s4 el4
      obtain ⟨r0, r1, tk, rfl, rfl, hb0, hb1, hbt, hf⟩ : ∃ r0 r1 tk : Int, r = [r0, r1] ∧ y = .int tk ∧ r0.natAbs < 2 ^ 1000 ∧ r1.natAbs < 2 ^ 1000 ∧ tk.natAbs < 2 ^ 1000 ∧ [far [[a, b], [c, e]] [t0, t1] u n m i j 0, far [[a, b], [c, e]] [t0, t1] u n m i j 1].take (k + 1) = [far [[a, b], [c, e]] [t0, t1] u n m i j 0, far [[a, b], [c, e]] [t0, t1] u n m i j 1].take k ++ [(r0 * i * m + r1 * j * n) * u + tk * n * m] := by
        rcases (show k = 0 ∨ k = 1 by omega) with rfl | rfl
        · cases er; cases ey
          exact ⟨a, b, t0, rfl, rfl, fi.bm [a, b] (by simp) a (by simp), fi.bm [a, b] (by simp) b (by simp), fi.bt t0 (by simp), rfl⟩
        · cases er; cases ey
          exact ⟨c, e, t1, rfl, rfl, fi.bm [c, e] (by simp) c (by simp), fi.bm [c, e] (by simp) e (by simp), fi.bt t1 (by simp), rfl⟩
      show tSeq _ _ _ [some (.ref p), some (.int i), some (.int j), some (.int n), some (.int m), some (.ref pr), some (.ref pt), some (.int u), some (.ref l), some (.ref pp), some (.int tk), v11] H4
      have hpp4 := hpp.up s4
      refine st fun N2 e2 => ?_
      walk_at "rd2"
      refine ⟨true, pp, _, _, _, rfl, rfl, hpp4, rfl, ?_⟩
      walk_at "rd2"
      refine ⟨mulS (by omega), mulS (by omega), true, pp, _, _, _, rfl, rfl, hpp4, rfl, ?_⟩
      walk_at "rd2"
      refine ⟨mulS (by omega), mulS (by omega), ?_⟩
      have hbig : (r0 * i * m + r1 * j * n).natAbs < 2 ^ 1020 := by
        have k1 : (r0 * i * m).natAbs ≤ r0.natAbs * 6 * 6 := by
          rw [Int.natAbs_mul, Int.natAbs_mul, Int.natAbs_natCast, Int.natAbs_natCast]
          exact Nat.mul_le_mul (Nat.mul_le_mul_left _ (by omega)) m6
        have k2 : (r1 * j * n).natAbs ≤ r1.natAbs * 6 * 6 := by
          rw [Int.natAbs_mul, Int.natAbs_mul, Int.natAbs_natCast, Int.natAbs_natCast]
          exact Nat.mul_le_mul (Nat.mul_le_mul_left _ (by omega)) n6
        have k3 := Int.natAbs_add_le (r0 * i * m) (r1 * j * n)
        have k4 : (2 : Nat) ^ 1020 = 1048576 * 2 ^ 1000 := by decide +kernel
        have k5 := Nat.two_pow_pos 1000
        generalize (2 : Nat) ^ 1000 = W at *
        omega
      subst e2
      walk_at "rd2"
      refine ⟨.inl ⟨rfl, _, SqL.of el4⟩, PyProof.Rows.mulOk_of_bits (bits_of hbig) (bits_of hu2) (by decide), mulS (by omega), mulS (by omega), ?_⟩
      refine ⟨l, _, _, rfl, rfl, el4, small1000 (by rw [List.length_map, List.length_take]; omega), Same.over hl s4, ?_⟩
      rw [hf, List.map_append]
      exact upd_same
    · rintro σ H3 ⟨v9, v10, v11, rfl, s3, el3⟩
      have hx2 : xs.length = 2 := x2
      rw [hx2] at el3
      subst e1
      refine st fun N1 e1 => ?_
      walk_at "rd2"
      have el5 : H3 l = some (.lst [.int (far [[a, b], [c, e]] [t0, t1] u n m i j 0), .int (far [[a, b], [c, e]] [t0, t1] u n m i j 1)]) := el3
      have hoff : offP [[a, b], [c, e]] [t0, t1] u n m i j ↔ ((far [[a, b], [c, e]] [t0, t1] u n m i j 0).fmod (m * u) ≠ 0 ∨ (far [[a, b], [c, e]] [t0, t1] u n m i j 1).fmod (n * u) ≠ 0) := Iff.rfl
      have hr0 : rch0 [[a, b], [c, e]] [t0, t1] u n m i j = ((far [[a, b], [c, e]] [t0, t1] u n m i j 0).fdiv (m * u)).fmod n := rfl
      have hr1 : rch1 [[a, b], [c, e]] [t0, t1] u n m i j = ((far [[a, b], [c, e]] [t0, t1] u n m i j 1).fdiv (n * u)).fmod m := rfl
      rw [hoff] at hQ1 hQ2
      rw [hr0, hr1] at hQ2
      generalize far [[a, b], [c, e]] [t0, t1] u n m i j 0 = f0 at *
      generalize far [[a, b], [c, e]] [t0, t1] u n m i j 1 = f1 at *
      have mu : ((m : Int) * u) ≠ 0 := Int.ne_of_gt (Int.mul_pos (by omega) hu)
      have nu : ((n : Int) * u) ≠ 0 := Int.ne_of_gt (Int.mul_pos (by omega) hu)
      have mu2 : ((m : Int) * u).natAbs < 2 ^ (3 + 150) := natAbs_mul_lt (show (m : Int).natAbs < 2 ^ 3 by omega) hu2
      have nu2 : ((n : Int) * u).natAbs < 2 ^ (3 + 150) := natAbs_mul_lt (show (n : Int).natAbs < 2 ^ 3 by omega) hu2
      have dm : CDivB f0 ((m : Int) * u) := ⟨mu, Nat.lt_of_lt_of_le ((Nat.log2_lt (by omega)).mpr mu2) (by decide)⟩
      have dn : CDivB f1 ((n : Int) * u) := ⟨nu, Nat.lt_of_lt_of_le ((Nat.log2_lt (by omega)).mpr nu2) (by decide)⟩
      have mlm : IntMulOk (m : Int) u := IntMulOk.of_left (intBits_le_iff.mpr (by omega))
      have mln : IntMulOk (n : Int) u := IntMulOk.of_left (intBits_le_iff.mpr (by omega))
      refine ⟨false, l, _, _, _, rfl, rfl, SqB.lst el5, rfl, mlm, ?_⟩
      walk_at "rd2"
      refine ⟨mu, ?_⟩
      by_cases z0 : f0.fmod (m * u) = 0
      · rw [decide_eq_true z0]
        refine iteF ?_
        refine ⟨false, l, _, _, _, rfl, rfl, SqB.lst el5, rfl, mln, ?_⟩
        walk_at "rd2"
        refine ⟨nu, ?_⟩
        by_cases z1 : f1.fmod (n * u) = 0
        · rw [decide_eq_true z1]
          refine iteF ?_
          subst e1
          walk_at "rd2"
          refine ⟨false, l, _, _, _, rfl, rfl, SqB.lst el5, rfl, mlm, ?_⟩
          walk_at "rd2"
          refine ⟨dm, by omega, false, l, _, _, _, rfl, rfl, SqB.lst el5, rfl, mln, ?_⟩
          walk_at "rd2"
          refine ⟨dn, by omega, by show 2 ≤ sizeLine; decide, fun q hq => ?_⟩
          exact hQ2 (by simp [z0, z1]) q _ (s3.trans (Same.new hq)) upd_same
        · rw [decide_eq_false z1]
          exact iteT (hQ1 (.inr z1) _ s3)
      · rw [decide_eq_false z0]
        exact iteT (hQ1 (.inl z0) _ s3)
theorem ok_law_due (T : Txt K mg t) : FnOk P w K mg base CX0 2 t.a_law_due t.d_law_due ["_law_drawing_here", "_law_one"] (sp_law_due K) := by
  have G_law_reached : FnOk P w K mg base CX0 1 t.a_law_reached t.d_law_reached ["_law_one", "_law_i", "_law_j", "_law_n", "_law_m"] (sp_law_reached K) := ok_law_reached T
  refine T.F_law_due.ok sc_law_due (fun vs H Q E h => ?_) (fun cdv A outer s H vs Q E hr h => ?_)
  · obtain ⟨dr, p, D, M, ts, u, n, m, d, rfl, _⟩ := h
    rfl
  · obtain ⟨dr, p, D, M, ts, u, n, m, d, rfl, hDr, hD, fi, hd, hnm, hQ0, hQ1, hQ2⟩ := h
    have hnm' := hnm
    obtain ⟨n1, n6, m1, m6⟩ := hnm'
    refine ⟨_, (pss_cons (ps_set (i := 2) sc_law_due.nd rfl (Or.inl rfl) pe_non)
      (pss_cons (ps_set (i := 3) sc_law_due.nd rfl (Or.inl rfl) (pe_callB call_lenB rfl T.z_len (by decide +kernel) (pa_cons (pv 0) pa_nil)))
      (pss_cons (ps_set (i := 4) sc_law_due.nd rfl (Or.inl rfl) (pe_callB call_len_str rfl T.z_len (by decide +kernel) (pa_cons (pe_ix ix_B (pv 0) pe_int (fun _ _ => rfl)) pa_nil)))
      (pss_cons (ps_if (pt_cmpR op_eqZ (pe_callB call_lenB rfl T.z_len (by decide +kernel) (pa_cons (pe_ix ix_B (pv 1) pe_int (fun _ _ => rfl)) pa_nil)) pe_int (nomark _))
      (pss_one (ps_ret pe_str))
      pss_nil)
      (pss_cons (ps_for PassesOwn.never rfl (pi_range1 rfl T.z_range (pa_cons (pv 3) pa_nil)) (pg_name (i := 5) sc_law_due.nd rfl (Or.inl rfl))
      (pss_one (ps_for PassesOwn.never rfl (pi_range1 rfl T.z_range (pa_cons (pv 4) pa_nil)) (pg_name (i := 6) sc_law_due.nd rfl (Or.inl rfl))
      (pss_cons (ps_set (i := 7) sc_law_due.nd rfl (Or.inl rfl) (pe_call G_law_reached (hr.mono (by omega)) rfl T.m_law_reached T.F_law_reached.kp T.b_law_reached .nil pass0 (pa_cons (pv 1) (pa_cons (pv 5) (pa_cons (pv 6) (pa_cons (pv 3) (pa_cons (pv 4) pa_nil)))))))
      (pss_cons (ps_if (pt_cmpR op_isN (pv 7) pe_non (nomark _))
      (pss_one (ps_ret pe_str))
      pss_nil)
      (pss_one (ps_if (PW.pt (pw_and (pt_cmpR op_isN (pv 2) pe_non (nomark _)) (pw_and1 (pt_cmpR op_ne (pe_ix ix_str (pe_ix ix_B (pv 0) (pe_ix ix_B (pv 7) pe_int (fun _ _ => rfl)) (fun _ _ => rfl)) (pe_ix ix_B (pv 7) pe_int (fun _ _ => rfl)) (fun _ _ => rfl)) (pe_ix ix_str (pe_ix ix_B (pv 0) (pv 5) (fun _ _ => rfl)) (pv 6) (fun _ _ => rfl)) (nomark _)))))
      (pss_one (ps_set (i := 2) sc_law_due.nd rfl (Or.inl rfl) (pe_tup (pa_cons (pv 5) (pa_cons (pv 6) pa_nil)))))
      pss_nil)))))))
      (pss_one (ps_ret (pv 2)))))))), ?_⟩
    show tSeq _ _ _ [some (.ref dr), some (.ref p), none, none, none, none, none, none] H
    refine st fun N1 e1 => ?_
    walk_at "rd2"
    subst e1
    refine st fun N1 e1 => ?_
    walk_at "rd2"
    refine draw_len hDr ?_
    subst e1
    refine st fun N1 e1 => ?_
    walk_at "rd2"
    refine draw_row hDr (by decide) (by omega) ?_
    have hl0 : (D.getD (0 : Int).toNat "").length = m := by
      have h0 : 0 < D.length := by have := hDr.2.1; omega
      have e0 : D.getD 0 "" = D[0] := by rw [List.getD_eq_getElem?_getD, List.getElem?_eq_getElem h0]; rfl
      show (D.getD 0 "").length = m
      rw [e0]
      exact hDr.2.2 _ (List.getElem_mem h0)
    refine ⟨_, rfl, by rw [hl0]; exact Nat.le_of_lt (sizeBig (by omega)), ?_⟩
    rw [hl0]
    subst e1
    refine st fun N1 e1 => ?_
    walk_at "rd2"
    refine deed_ix1 hD fun y hy => ?_
    refine ints_len (b := true) (SqB.tup hy) ?_
    walk_at "rd2"
    rw [fi.len]
    rcases hd with rfl | rfl
    · refine iteF ?_
      subst e1
      refine st fun N1 e1 => for_st fun B eB => ?_
      simp only [iRng1]
      walk_at "rd2"
      refine ⟨by omega, by omega, ?_⟩
      rw [Int.toNat_natCast]
      refine fr_range (g := gName 5) (tb := B) (fun i σ H3 => ∃ v v5 v6 v7, σ = [some (.ref dr), some (.ref p), some v, some (.int n), some (.int m), v5, v6, v7] ∧ Same H H3 ∧ FirstV H3 v D M ts u n m (i * m) ∧ ∀ k < i * m, ¬ offK M ts u n m k) ⟨.non, none, none, none, rfl, Same.refl _, .inl ⟨rfl, fun k hk => by omega⟩, fun k hk => by omega⟩ ?_ ?_
      · rintro i σ H3 hi ⟨v, v5, v6, v7, rfl, s3, fv, no⟩
        subst eB
        show tFor _ _ _ _ [some (.ref dr), some (.ref p), some v, some (.int n), some (.int m), some (.int (0 + (i : Int))), v6, v7] H3
        rw [Int.zero_add]
        refine for_st fun B2 eB2 => ?_
        simp only [iRng1]
        walk_at "rd2"
        refine ⟨by omega, by omega, ?_⟩
        rw [Int.toNat_natCast]
        refine fr_range (g := gName 6) (tb := B2) (fun j σ H4 => ∃ v v6 v7, σ = [some (.ref dr), some (.ref p), some v, some (.int n), some (.int m), some (.int i), v6, v7] ∧ Same H H4 ∧ FirstV H4 v D M ts u n m (i * m + j) ∧ ∀ k < i * m + j, ¬ offK M ts u n m k) ⟨v, v6, v7, rfl, s3, fv, no⟩ ?_ ?_
        · clear fv no
          rintro j σ H4 hj ⟨v, v6, v7, rfl, s4, fv, no⟩
          subst eB2
          show tSeq _ _ _ [some (.ref dr), some (.ref p), some v, some (.int n), some (.int m), some (.int i), some (.int (0 + (j : Int))), v7] H4
          rw [Int.zero_add]
          obtain ⟨es, et⟩ := si_of (m := m) (i := i) hj
          have hk : i * m + j < n * m := by
            have : (i + 1) * m ≤ n * m := Nat.mul_le_mul_right _ hi
            rw [Nat.succ_mul] at this
            omega
          have hoff : offK M ts u n m (i * m + j) ↔ offP M ts u n m i j := by unfold offK; rw [es, et]
          have hr0 : r0K M ts u n m (i * m + j) = rch0 M ts u n m i j := by unfold r0K; rw [es, et]
          have hr1 : r1K M ts u n m (i * m + j) = rch1 M ts u n m i j := by unfold r1K; rw [es, et]
          refine st fun N2 e2 => ?_
          walk_at "rd2"
          refine ⟨p, M, ts, u, i, j, n, m, rfl, hD.up s4, fi, hnm, hi, hj, fun off H5 s5 => ?_, fun noff q H5 s5 eq => ?_⟩
          · subst e2
            refine st fun N2 e2 => ?_
            walk_at "rd2"
            exact hQ0 (.inr ⟨_, hk, hoff.mpr off⟩) H5 (s4.trans s5)
          · subst e2
            refine st fun N2 e2 => ?_
            walk_at "rd2"
            have eq0 : decide (V.ref q = V.non) = false := decide_eq_false (fun h => by cases h)
            try rw [eq0]
            try refine iteF ?_
            subst e2
            have no' : ∀ k < i * m + (j + 1), ¬ offK M ts u n m k := fun k hk2 => by
              rcases (show k < i * m + j ∨ k = i * m + j by omega) with z | z
              · exact no k z
              · rw [z, hoff]; exact noff
            walk_at "rd2"
            rcases fv with ⟨rfl, nd⟩ | ⟨k, q1, g1, g2, g3, rfl, g5⟩
            · rw [decide_eq_true rfl]
              refine iteT ?_
              have hDr5 := hDr.up (s4.trans s5)
              have b2 := rch_in (M := M) (ts := ts) (u := u) (i := (i : Int)) (j := (j : Int)) n1 m1
              refine ⟨true, q, _, _, _, rfl, rfl, SqB.tup eq, rfl, draw_row hDr5 b2.1 b2.2.1 ⟨true, q, _, _, _, rfl, rfl, SqB.tup eq, rfl, draw_sgn hDr5 m6 b2.1 b2.2.1 b2.2.2.1 b2.2.2.2 ?_⟩⟩
              refine draw_row hDr5 (by omega) (by omega) (draw_sgn hDr5 m6 (by omega) (by omega) (by omega) (by omega) ?_)
              by_cases df : Dif D M ts u n m (i * m + j)
              · have e : decide (V.str (⟨#[sgn D (rch0 M ts u n m i j) (rch1 M ts u n m i j)]⟩ : Str) = V.str ⟨#[sgn D i j]⟩) = false := decide_eq_false fun z => df (by
                  rw [hr0, hr1, es, et]
                  exact (sgn_eq.mp z).symm)
                refine ⟨rfl, _, rfl, ?_⟩
                rw [e]
                refine iteT ⟨by show 2 ≤ sizeLine; decide, fun p5 hp5 => ⟨(s4.trans s5).trans (Same.new hp5), .inr ⟨i * m + j, p5, by omega, df, nd, rfl, ?_⟩, no'⟩⟩
                rw [es, et]
                exact upd_same
              · have e : decide (V.str (⟨#[sgn D (rch0 M ts u n m i j) (rch1 M ts u n m i j)]⟩ : Str) = V.str ⟨#[sgn D i j]⟩) = true := decide_eq_true (sgn_eq.mpr (by
                  have := Decidable.of_not_not df
                  rw [hr0, hr1, es, et] at this
                  exact this.symm))
                refine ⟨rfl, _, rfl, ?_⟩
                rw [e]
                exact iteF ⟨s4.trans s5, .inl ⟨rfl, nd.step df⟩, no'⟩
            · have e : decide (V.ref q1 = V.non) = false := decide_eq_false (fun h => by cases h)
              rw [e]
              exact iteF ⟨s4.trans s5, .inr ⟨k, q1, by omega, g2, g3, rfl, s5 _ _ g5⟩, no'⟩
        · rintro σ H4 ⟨v, v6, v7, rfl, s4, fv, no⟩
          have e : i * m + m = (i + 1) * m := by rw [Nat.succ_mul]
          rw [e] at fv no
          exact ⟨v, _, v6, v7, rfl, s4, fv, no⟩
      · rintro σ H3 ⟨v, v5, v6, v7, rfl, s3, fv, no⟩
        subst e1
        walk_at "rd2"
        have noff : ¬ Off M ts u n m := fun z => by
          rcases z with z | ⟨k, hk, z⟩
          · rw [fi.sq.1] at z; cases z
          · exact no k hk z
        rcases fv with ⟨rfl, nd⟩ | ⟨k, q1, g1, g2, g3, rfl, g5⟩
        · exact hQ1 noff nd H3 s3
        · exact hQ2 noff k g1 g2 g3 q1 H3 s3 g5
    · refine iteT ?_
      exact hQ0 (.inl (by rw [fi.sq.1])) H (Same.refl _)
theorem ok_law_right (T : Txt K mg t) : FnOk P w K mg base CX0 6 t.a_law_right t.d_law_right ["_law_drawing_here", "_law_one", "_law_due_here"] (sp_law_right K) := by
  have G_lays : FnOk P w K mg base (CX1 P w) 5 t.a_lays t.d_lays ["drawing", "one"] (sp_lays K t.a_OffSheet) := ok_lays T
  have G_law_only : FnOkA P w K mg base 2 t.a_law_only t.d_law_only ["_law_e"] (sp_law_only t.a_OffSheet) := ok_law_only T
  have G_law_whole : FnOk P w K mg base CX0 1 t.a_law_whole t.d_law_whole ["_law_found"] sp_law_whole := ok_law_whole T
  refine T.F_law_right.ok sc_law_right (fun vs H Q E h => ?_) (fun cdv A outer s H vs Q E hr h => ?_)
  · obtain ⟨dr, p, v, D, M, ts, u, n, m, d, rfl, _⟩ := h
    rfl
  · obtain ⟨dr, p, v, D, M, ts, u, n, m, d, rfl, hDr, hD, fi, hd, hnm, hdue, hQ⟩ := h
    have hu := hr.units
    refine ⟨_, (pss_cons (ps_set (i := 3) sc_law_right.nd rfl (Or.inl rfl) pe_bl)
      (pss_cons (ps_set (i := 4) sc_law_right.nd rfl (Or.inl rfl) pe_bl)
      (pss_cons (ps_set (i := 5) sc_law_right.nd rfl (Or.inl rfl) pe_non)
      (pss_cons (ps_try (i := 6) rfl rfl rfl sc_law_right.nd rfl rfl rfl T.m_CrystalError (fun _ _ _ hL =>
      (pss_one (ps_set (i := 5) sc_law_right.nd rfl (Or.inl rfl) (pe_callX G_lays (hr.mono (by omega)) rfl T.m_lays T.F_lays.kp T.b_lays .nil hL (pa_cons (pv 0) (pa_cons (pv 1) pa_nil)))))) (fun _ =>
      (pss_cons (ps_set (i := 3) sc_law_right.nd rfl (Or.inl rfl) pe_bl)
      (pss_one (ps_set (i := 4) sc_law_right.nd rfl (Or.inl rfl) (pe_callA G_law_only ((hr.a.mark _).mono (by omega)) rfl T.m_law_only T.F_law_only.kp T.b_law_only .nil (pa_cons (pv 6) pa_nil)))))))
      (pss_cons (ps_if (pt_cmpR (op_eqD hu) (pv 2) pe_str (nomark _))
      (pss_one (ps_ret (pe_and (pv 3) (pe_one (pv 4)))))
      pss_nil)
      (pss_cons (ps_if (PW.pt (pw_or (pt_val (pv 3)) (pw_or1 (pt_cmpR op_isN (pv 2) pe_non (nomark _)))))
      (pss_one (ps_ret (pe_and (pe_not (pv 3)) (pe_one (pe_cmpR op_isN (pv 5) pe_non (nomark _))))))
      pss_nil)
      (pss_cons (ps_if (PW.pt (pw_or (pt_not (pt_val (pe_callB call_isi rfl T.z_isinstance (by decide +kernel) (pa_cons (pv 5) (pa_cons (pe_bltn (v := .ty "tuple") rfl T.z_tuple (by decide +kernel) rfl) pa_nil))))) (pw_or1 (pt_cmpR op_neZ (pe_callB call_lenB rfl T.z_len (by decide +kernel) (pa_cons (pv 5) pa_nil)) pe_int (nomark _)))))
      (pss_one (ps_ret pe_bl))
      pss_nil)
      (pss_one (ps_ret (pe_and (pe_call G_law_whole (hr.mono (by omega)) rfl T.m_law_whole T.F_law_whole.kp T.b_law_whole .nil pass0 (pa_cons (pe_ix ix_B (pv 5) pe_int (fun _ _ => rfl)) pa_nil)) (pe_and (pe_call G_law_whole (hr.mono (by omega)) rfl T.m_law_whole T.F_law_whole.kp T.b_law_whole .nil pass0 (pa_cons (pe_ix ix_B (pv 5) pe_int (fun _ _ => rfl)) pa_nil)) (pe_one (pe_cmpR (op_eqD hu) (pv 5) (pv 2) (nomark _)))))))))))))), ?_⟩
    show tSeq _ _ _ [some (.ref dr), some (.ref p), some v, none, none, none, none] H
    refine st fun N1 e1 => ?_
    walk_at "rd2"
    subst e1
    refine st fun N1 e1 => ?_
    walk_at "rd2"
    subst e1
    refine st fun N1 e1 => ?_
    walk_at "rd2"
    subst e1
    refine st fun N1 e1 => ?_
    have keyR : ∀ (H4 : Hp), Same H H4 → v = .str "off" → N1 [some (.ref dr), some (.ref p), some v, some (.bl true), some (.bl true), some .non, none] H4 := by
      intro H4 s4 ev
      subst ev
      subst e1
      refine st fun N1 e1 => ?_
      walk_at "rd2"
      have es : PySem.Spec.same (PyData.str "off") (PyData.str "off") = true := by simp [PySem.Spec.same]
      refine ⟨.str "off", .str "off", .str _, .str _, by decide +kernel, by decide +kernel, by simp [SeqAt.noMix], _, rfl, ?_⟩
      rw [es]
      exact iteT (hQ H4 s4)
    have keyN : ∀ (H4 : Hp), Same H H4 → v = .non → N1 [some (.ref dr), some (.ref p), some v, some (.bl false), some (.bl false), some .non, none] H4 := by
      intro H4 s4 ev
      subst ev
      subst e1
      refine st fun N1 e1 => ?_
      walk_at "rd2"
      have es : PySem.Spec.same PyData.none (PyData.str "off") = false := by simp [PySem.Spec.same]
      refine ⟨.none, .str "off", .non, .str _, by decide +kernel, by decide +kernel, by simp [SeqAt.noMix], _, rfl, ?_⟩
      rw [es]
      refine iteF ?_
      subst e1
      refine st fun N1 e1 => ?_
      walk_at "rd2"
      exact hQ H4 s4
    have keyF : ∀ (H4 : Hp) (q1 q2 : Addr) (x y : Int), Same H H4 → v = .ref q1 → H4 q1 = some (.tup [.int x, .int y]) → H4 q2 = some (.tup [.int x, .int y]) → N1 [some (.ref dr), some (.ref p), some v, some (.bl false), some (.bl false), some (.ref q2), none] H4 := by
      intro H4 q1 q2 x y s4 ev eq1 eq2
      subst ev
      subst e1
      refine st fun N1 e1 => ?_
      walk_at "rd2"
      have es : PySem.Spec.same (PyData.tuple [.int x, .int y]) (PyData.str "off") = false := by simp [PySem.Spec.same]
      have ti : iT 1 (PyData.tuple [.int x, .int y]) = true := rfl
      have d1 : Dt K H4 (.ref q1) (.tuple [.int x, .int y]) := .tup (SqT.of eq1) (.cons (.int x) (.cons (.int y) .nil))
      have d2 : Dt K H4 (.ref q2) (.tuple [.int x, .int y]) := .tup (SqT.of eq2) (.cons (.int x) (.cons (.int y) .nil))
      refine ⟨.tuple [.int x, .int y], .str "off", d1, .str _, iT_shaped (by decide) ti, by decide +kernel, by simp [SeqAt.noMix], _, rfl, ?_⟩
      rw [es]
      refine iteF ?_
      subst e1
      refine st fun N1 e1 => ?_
      walk_at "rd2"
      have e0 : decide (V.ref q1 = V.non) = false := decide_eq_false (fun h => by cases h)
      try rw [e0]
      try refine iteF ?_
      subst e1
      refine st fun N1 e1 => ?_
      walk_at "rd2"
      refine ⟨_, _, _, _, rfl, .tupS (SqB.tup eq2), rfl, T.k_tt, ?_⟩
      walk_at "rd2"
      refine ⟨true, q2, _, rfl, SqB.tup eq2, ?_⟩
      walk_at "rd2"
      subst e1
      walk_at "rd2"
      have el2 : decide ((([V.int x, V.int y].length : Nat) : Int) = 2) = true := rfl
      rw [el2]
      refine iteF ⟨true, q2, _, _, _, rfl, rfl, SqB.tup eq2, rfl, x, rfl, _, rfl, iteT ⟨true, q2, _, _, _, rfl, rfl, SqB.tup eq2, rfl, y, rfl, _, rfl, iteT ?_⟩⟩
      exact eqD_of 1 (by decide) d2 d1 ti ti (b := true) (by simp) (hQ H4 s4)
    simp only [tTry]
    walk_at "rd2"
    refine ⟨dr, p, D, M, ts, u, n, m, d, rfl, hDr, hD, fi, hd, hnm, fun off H4 s4 => ⟨T.xm, fun e he => ⟨e, rfl, upd_same, ?_⟩⟩, fun noff nd H4 s4 => ?_, fun noff k hk df nd q H4 s4 eq => ?_⟩
    · refine keyR _ (s4.trans (Same.new he)) ?_
      rcases hdue with ⟨_, e⟩ | ⟨no, _⟩ | ⟨no, _⟩
      · exact e
      · exact absurd off no
      · exact absurd off no
    · refine keyN _ s4 ?_
      rcases hdue with ⟨off, _⟩ | ⟨_, _, e⟩ | ⟨_, k, q, h1, h2, _⟩
      · exact absurd off noff
      · exact e
      · exact absurd h2 (nd k h1)
    · rcases hdue with ⟨off, _⟩ | ⟨_, nd2, e⟩ | ⟨_, k2, q2, h1, h2, h3, e, h5⟩
      · exact absurd off noff
      · exact absurd df (nd2 k hk)
      · have ek : k2 = k := by
          rcases Nat.lt_trichotomy k2 k with z | z | z
          · exact absurd h2 (nd k2 z)
          · exact z
          · exact absurd df (h3 k z)
        subst ek
        exact keyF H4 q2 q _ _ s4 e (s4 _ _ h5) eq
theorem DueV.rest {H : Hp} {v : V} {D : List Str} {M : List (List Int)} {ts : List Int} {u : Int} {n m d : Nat} (hM : Sq d M) (ht : ts.length = d) (hd : d = 2 ∨ d = 3) (hu : 0 < u) (hn : 1 ≤ n) (hm : 1 ≤ m) (h : DueV H v D M ts u n m) : DueV H v D M (ts.map fun x => x.fmod u) u n m := by
  have ho := rest_Off (M := M) (ts := ts) (u := u) (n := n) (m := m) (by rw [ht]; exact hM) (by rw [ht]; exact hd) hu hn hm
  have hdif : ¬ Off M ts u n m → ∀ k, Dif D M (ts.map fun x => x.fmod u) u n m k ↔ Dif D M ts u n m k := fun no k => by
    rcases hd with z | z
    · exact rest_Dif (by rw [ht, z]) hu hn hm
    · exact absurd (.inl (by rw [hM.1, z])) no
  rcases h with ⟨h1, h2⟩ | ⟨h1, h2, h3⟩ | ⟨h1, k, q, h2, h3, h4, h5⟩
  · exact .inl ⟨ho.mpr h1, h2⟩
  · exact .inr (.inl ⟨fun z => h1 (ho.mp z), fun k hk z => h2 k hk ((hdif h1 k).mp z), h3⟩)
  · exact .inr (.inr ⟨fun z => h1 (ho.mp z), k, q, h2, (hdif h1 k).mpr h3, fun k' hk z => h4 k' hk ((hdif h1 k').mp z), h5⟩)
theorem DueV.up {H H' : Hp} {v : V} {D : List Str} {M : List (List Int)} {ts : List Int} {u : Int} {n m : Nat} (h : DueV H v D M ts u n m) (s : Same H H') : DueV H' v D M ts u n m := by
  rcases h with h | h | ⟨h1, k, q, h2, h3, h4, h5, h6⟩
  · exact .inl h
  · exact .inr (.inl h)
  · exact .inr (.inr ⟨h1, k, q, h2, h3, h4, h5, s _ _ h6⟩)
theorem ok_law (T : Txt K mg t) : FnOk P w K mg base CX0 7 t.a_law t.d_law ["_law_script"] (spLaw K) := by
  have G_law_cell_at : FnOk P w K mg base CX0 1 t.a_law_cell_at t.d_law_cell_at ["_law_script", "_law_k"] (sp_law_cell_at K) := ok_law_cell_at T
  have G_law_drawing : FnOk P w K mg base CX0 1 t.a_law_drawing t.d_law_drawing ["_law_cells"] (sp_law_drawing K) := ok_law_drawing T
  have G_law_deed : FnOk P w K mg base CX0 3 t.a_law_deed t.d_law_deed ["_law_cells", "_law_n", "_law_m"] (sp_law_deed K) := ok_law_deed T
  have G_law_due : FnOk P w K mg base CX0 2 t.a_law_due t.d_law_due ["_law_drawing_here", "_law_one"] (sp_law_due K) := ok_law_due T
  have G_law_right : FnOk P w K mg base CX0 6 t.a_law_right t.d_law_right ["_law_drawing_here", "_law_one", "_law_due_here"] (sp_law_right K) := ok_law_right T
  refine T.F_law.ok sc_law (fun vs H Q E h => ?_) (fun cdv A outer s H vs Q E hr h => ?_)
  · obtain ⟨a, ns, rfl, _⟩ := h
    rfl
  · obtain ⟨a, ns, rfl, hS, hlen, hbits, hQ⟩ := h
    refine ⟨_, (pss_cons (ps_for PassesOwn.never rfl (pi_range3 rfl T.z_range (pa_cons pe_int (pa_cons (pe_callB (call_max2 rfl) rfl T.z_max (by decide +kernel) (pa_cons pe_int (pa_cons (pe_callB call_lenB rfl T.z_len (by decide +kernel) (pa_cons (pv 0) pa_nil)) pa_nil))) (pa_cons pe_int pa_nil)))) (pg_name (i := 1) sc_law.nd rfl (Or.inr rfl))
      (pss_cons (ps_setCG (i := 2) (xs := ["_law_k"]) (fr := [("_law_script", 0), ("_law_at", 1)]) (g := (gName 0)) (tt := (tEl (tCall (sp_law_cell_at K) [] E0 (tCons (tVar 1) (tCons (tOp (rI0 fun i j => .int (i + j)) (tVar 2) (tVar 0)) tNil))))) (compG_ok (sc := defScope s_law) (N := N_law) rfl rfl (by decide +kernel)) rfl sc_law.nd rfl rfl (pi_range1 rfl T.z_range (pa_cons pe_int pa_nil)) (fun _ _ _ hE1 => (pg_own (N := ["_law_k", "_law_script", "_law_at"]) (i := 0) hE1 rfl (by decide +kernel))) (fun _ _ _ hE1 => (po_el (pe_call G_law_cell_at (hr.mono (by omega)) rfl T.m_law_cell_at T.F_law_cell_at.kp T.b_law_cell_at .nil pass0 (pa_cons (pv 1) (pa_cons (pe_op op_add (pv 2) (pv 0)) pa_nil))))))
      (pss_cons (ps_set (i := 3) sc_law.nd rfl (Or.inl rfl) (pe_call G_law_drawing (hr.mono (by omega)) rfl T.m_law_drawing T.F_law_drawing.kp T.b_law_drawing .nil pass0 (pa_cons (pv 2) pa_nil)))
      (pss_cons (ps_set (i := 4) sc_law.nd rfl (Or.inr rfl) (pe_call G_law_deed (hr.mono (by omega)) rfl T.m_law_deed T.F_law_deed.kp T.b_law_deed .nil pass0 (pa_cons (pv 2) (pa_cons (pe_callB call_lenB rfl T.z_len (by decide +kernel) (pa_cons (pv 3) pa_nil)) (pa_cons (pe_callB call_len_str rfl T.z_len (by decide +kernel) (pa_cons (pe_ix ix_B (pv 3) pe_int (fun _ _ => rfl)) pa_nil)) pa_nil)))))
      (pss_cons (ps_set (i := 5) sc_law.nd rfl (Or.inl rfl) (pe_call G_law_due (hr.mono (by omega)) rfl T.m_law_due T.F_law_due.kp T.b_law_due .nil pass0 (pa_cons (pv 3) (pa_cons (pv 4) pa_nil))))
      (pss_cons (ps_set (i := 6) sc_law.nd rfl (Or.inl rfl) (pe_tup (pa_cons (pe_ix ix_B (pv 4) pe_int (fun _ _ => rfl)) (pa_cons (pe_callTy call_tupB rfl T.z_tuple (by decide +kernel) (pa_cons (pe_compG (xs := ["_law_top"]) (fr := [("_law_one", 4)]) (g := (gName 0)) (tt := (tEl (tOp (rI (fun _ j => j ≠ 0) fun i j => .int (i.fmod j)) (tVar 0) (tOp (rIxB K) (tVar 1) (tC (.int 2)))))) (compG_ok (sc := defScope s_law) (N := N_law) rfl rfl (by decide +kernel)) rfl (pi_seq (pe_ix ix_B (pv 4) pe_int (fun _ _ => rfl))) (fun _ _ _ hE1 => (pg_own (N := ["_law_top", "_law_one"]) (i := 0) hE1 rfl (by decide +kernel))) (fun _ _ _ hE1 => (po_el (pe_op op_modN (pv 0) (pe_ix ix_B (pv 1) pe_int (fun _ _ => rfl)))))) pa_nil)) (pa_cons (pe_ix ix_B (pv 4) pe_int (fun _ _ => rfl)) pa_nil)))))
      (pss_one (ps_for PassesOwn.never rfl (pi_seq (pe_lst (pa_cons (pv 4) (pa_cons (pv 6) (pa_cons (pv 4) pa_nil))))) (pg_name (i := 7) sc_law.nd rfl (Or.inl rfl))
      (pss_one (ps_if (pt_not (pt_val (pe_call G_law_right (hr.mono (by omega)) rfl T.m_law_right T.F_law_right.kp T.b_law_right .nil pass0 (pa_cons (pv 3) (pa_cons (pv 7) (pa_cons (pv 5) pa_nil))))))
      (pss_one (ps_ret pe_bl))
      pss_nil))))))))))
      (pss_one (ps_ret pe_bl))), ?_⟩
    show tSeq _ _ _ [some (.ref a), none, none, none, none, none, none, none] H
    refine st fun N1 e1 => for_st fun B eB => ?_
    simp only [iRng3]
    walk_at "rd2"
    refine ints_len (b := false) hS ⟨_, rfl, by decide, by decide, by split <;> omega, by split <;> omega, by decide, by decide, ?_⟩
    refine fr_step (g := gName 1) (tb := B) (fun i σ H1 => ∃ (v1 v2 v3 v4 v5 v6 v7 : Option V), σ = [some (.ref a), v1, v2, v3, v4, v5, v6, v7] ∧ Same H H1) ⟨none, none, none, none, none, none, none, rfl, Same.refl _⟩ ?_ ?_
    · rintro i σ H1 hi ⟨v1, v2, v3, v4, v5, v6, v7, rfl, s1⟩
      subst eB
      show tSeq _ _ _ [some (.ref a), some (.int (0 + (i : Int) * 8)), v2, v3, v4, v5, v6, v7] H1
      refine st fun N2 e2 => ?_
      walk_at "rd2"
      refine compE_st fun C eC => ?_
      simp only [iRng1]
      walk_at "rd2"
      refine ⟨by decide, by decide, fun a1 ha1 => ?_⟩
      refine cg_range (len := 8) (fun k y _ => k < 8 ∧ y = .int (ns.getD (0 + (i : Int) * 8 + (0 + (k : Int))).toNat 0)) ha1 (by decide) (fun _ _ _ _ r _ => r) ?_ ?_
      · intro k H2 zs hk s2 ez Q' hQ'
        subst eC
        show tCall _ _ _ _ [some (.int (0 + (k : Int))), some (.ref a), some (.int (0 + (i : Int) * 8))] H2 Q'
        walk_at "rd2"
        exact ⟨a, ns, _, rfl, (s1.trans s2).seq hS, by omega, hQ' _ _ (Same.refl _) ⟨hk, rfl⟩⟩
      · intro H2 ys s2 e2' hly hr2
        have ey : ys = ((List.range 8).map fun (k : Nat) => ns.getD (0 + (i : Int) * 8 + (0 + (k : Int))).toNat 0).map V.int := by
          refine list_is (by simpa using hly) fun k z e => ?_
          obtain ⟨hk, rfl⟩ := hr2 k z e
          exact ⟨_, by rw [List.getElem?_map, List.getElem?_range hk]; rfl, rfl⟩
        subst ey
        have hcb : ∀ m ∈ (List.range 8).map fun (k : Nat) => ns.getD (0 + (i : Int) * 8 + (0 + ((k : Nat) : Int))).toNat 0, Builtin.Int.intBits m ≤ 1048576 := fun m hm => by
          obtain ⟨k, _, rfl⟩ := List.mem_map.mp hm
          by_cases hk : (0 + (i : Int) * 8 + (0 + (k : Int))).toNat < ns.length
          · exact hbits _ (L2.getD_mem hk)
          · rw [List.getD_eq_getElem?_getD, List.getElem?_eq_none (by omega)]
            exact intBits_le_iff.mpr (Nat.two_pow_pos _)
        have hcl : ((List.range 8).map fun (k : Nat) => ns.getD (0 + (i : Int) * 8 + (0 + ((k : Nat) : Int))).toNat 0).length = 8 := by simp
        generalize ((List.range 8).map fun (k : Nat) => ns.getD (0 + (i : Int) * 8 + (0 + ((k : Nat) : Int))).toNat 0) = cs at *
        have s02 := s1.trans s2
        subst e2
        refine st fun N2 e2 => ?_
        walk_at "rd2"
        refine ⟨a1, cs, rfl, SqL.of e2', hcl, hcb, fun dr D n m H3 s3 hDr hnm => ?_⟩
        have hnm' := hnm
        obtain ⟨n1, n6, m1, m6⟩ := hnm'
        subst e2
        refine st fun N2 e2 => ?_
        walk_at "rd2"
        refine draw_len hDr ?_
        refine draw_row hDr (by decide) (by omega) ?_
        have hl0 : (D.getD (0 : Int).toNat "").length = m := by
          have h0 : 0 < D.length := by have := hDr.2.1; omega
          have e0 : D.getD 0 "" = D[0] := by rw [List.getD_eq_getElem?_getD, List.getElem?_eq_getElem h0]; rfl
          show (D.getD 0 "").length = m
          rw [e0]
          exact hDr.2.2 _ (List.getElem_mem h0)
        refine ⟨_, rfl, by rw [hl0]; exact Nat.le_of_lt (sizeBig (by omega)), ?_⟩
        rw [hl0]
        refine ⟨a1, cs, n, m, rfl, SqL.of (s3 _ _ e2'), hcl, hnm, fun p M ts u d H4 s4 hD fi hd => ?_⟩
        subst e2
        refine st fun N2 e2 => ?_
        have key : ∀ (v : V) (H5 : Hp), Same H4 H5 → DueV H5 v D M ts u n m → N2 [some (.ref a), some (.int (0 + (i : Int) * 8)), some (.ref a1), some (.ref dr), some (.ref p), some v, v6, v7] H5 := by
          intro v H5 s5 hv
          have hD5 := hD.up s5
          subst e2
          refine st fun N2 e2 => ?_
          walk_at "rd2"
          refine deed_ix0 hD5 fun x hx => ?_
          refine compE_st fun C eC => ?_
          simp only [iSeq]
          walk_at "rd2"
          refine deed_ix1 hD5 fun y hy => ?_
          try walk_at "rd2"
          refine ⟨true, ⟨_, SqB.tup hy⟩, fun a6 ha6 => ?_⟩
          have hu := fi.pos
          refine cg_seq (fun j y _ => ∃ z, ts[j]? = some z ∧ y = .int (z.fmod u)) ha6 (SqB.tup hy) (by rw [List.length_map, fi.len]; omega) (fun _ _ _ _ r _ => r) ?_ ?_
          · intro j z H6 zs ez s6 ez6 Q' hQ'
            obtain ⟨tt, et2, rfl⟩ := ints_at ez
            subst eC
            show tOp _ _ _ [some (.int tt), some (.ref p)] H6 Q'
            walk_at "rd2"
            refine deed_ix2 (hD5.up s6) ?_
            walk_at "rd2"
            exact ⟨by omega, hQ' _ _ (Same.refl _) ⟨tt, et2, rfl⟩⟩
          · intro H6 zs s6 ez6 hlz hR
            have ezs : zs = (ts.map fun x => x.fmod u).map V.int := by
              refine list_is (by simpa using hlz) fun j y e => ?_
              obtain ⟨z, h1, rfl⟩ := hR j y e
              exact ⟨z.fmod u, by rw [List.getElem?_map, h1]; rfl, rfl⟩
            subst ezs
            try walk_at "rd2"
            refine ⟨a6, _, rfl, .inl ⟨SqL.of ez6, fun l7 hl7 => ?_⟩⟩
            have s7 : Same H6 (upd H6 l7 (.tup ((ts.map fun x => x.fmod u).map V.int))) := Same.new hl7
            have e7 : (upd H6 l7 (.tup ((ts.map fun x => x.fmod u).map V.int))) l7 = some (.tup ((ts.map fun x => x.fmod u).map V.int)) := upd_same
            generalize upd H6 l7 (.tup ((ts.map fun x => x.fmod u).map V.int)) = H7 at s7 e7
            have s57 := s6.trans s7
            refine deed_ix2 (hD5.up s57) ?_
            try walk_at "rd2"
            refine ⟨by show 3 ≤ sizeLine; decide, fun q8 hq8 => ?_⟩
            have s8 := Same.new (o := .tup [.ref x, .ref l7, .int u]) hq8
            have hD8 : DeedAt K (upd H7 q8 (.tup [.ref x, .ref l7, .int u])) q8 M (ts.map fun x => x.fmod u) u := ⟨x, l7, upd_same, (hx.up s57).up s8, s8 _ _ e7⟩
            generalize upd H7 q8 (.tup [.ref x, .ref l7, .int u]) = H8 at s8 hD8
            have s58 := s57.trans s8
            subst e2
            refine for_st fun B2 eB2 => ?_
            simp only [iSeq]
            walk_at "rd2"
            refine ⟨by show 3 ≤ sizeLine; decide, fun p9 hp9 => ?_⟩
            have s9 := Same.new (o := .lst [.ref p, .ref q8, .ref p]) hp9
            have e9 : (upd H8 p9 (.lst [.ref p, .ref q8, .ref p])) p9 = some (.lst [.ref p, .ref q8, .ref p]) := upd_same
            generalize upd H8 p9 (.lst [.ref p, .ref q8, .ref p]) = H9 at s9 e9
            have s59 := s58.trans s9
            try walk_at "rd2"
            refine ⟨false, ⟨_, SqB.lst e9⟩, ?_⟩
            refine fr_seq (g := gName 7) (tb := B2) (fun j σ H10 => ∃ v7, σ = [some (.ref a), some (.int (0 + (i : Int) * 8)), some (.ref a1), some (.ref dr), some (.ref p), some v, some (.ref q8), v7] ∧ Same H9 H10) ⟨v7, rfl, Same.refl _⟩ (fun j σ H10 _ ⟨_, _, s10⟩ => SqB.lst (s10 _ _ e9)) ?_ ?_
            · rintro j z σ H10 ez ⟨v7, rfl, s10⟩
              subst eB2
              have sA : Same H5 H10 := s59.trans s10
              have hf : Fine d M (ts.map fun x => x.fmod u) u := ⟨fi.sq, by rw [List.length_map]; exact fi.len, hu, fi.bm, fun x hx => by
                obtain ⟨y, _, rfl⟩ := List.mem_map.mp hx
                have := fms y u hu
                have h2 := bits150 hu fi.bu
                have h3 : (2 : Nat) ^ 150 ≤ 2 ^ 1000 := Nat.pow_le_pow_right (by decide) (by decide)
                omega, fi.bu⟩
              have go : ∀ (r : Addr) (ts' : List Int) (bk ct : St → Hp → Prop), DeedAt K H10 r M ts' u → Fine d M ts' u → DueV H10 v D M ts' u n m → tIfS (tNot (tB (tCall (sp_law_right K) [] E0 (tCons (tVar 3) (tCons (tVar 7) (tCons (tVar 5) tNil)))))) (tRet (tC (.bl false))) tNext { nx := fun σ H11 => ∃ v7, σ = [some (.ref a), some (.int (0 + (i : Int) * 8)), some (.ref a1), some (.ref dr), some (.ref p), some v, some (.ref q8), v7] ∧ Same H9 H11, rt := Q, bk := bk, ct := ct } [some (.ref a), some (.int (0 + (i : Int) * 8)), some (.ref a1), some (.ref dr), some (.ref p), some v, some (.ref q8), some (.ref r)] H10 := by
                intro r ts' bk ct g1 g2 g3
                walk_at "rd2"
                exact ⟨dr, r, v, D, M, ts', u, n, m, d, rfl, hDr.up (s4.trans (s5.trans sA)), g1, g2, hd, hnm, g3, fun H11 s11 => ⟨_, rfl, iteF (s10.trans s11)⟩⟩
              have hz : z = .ref p ∨ z = .ref q8 := by
                match j, ez with
                | 0, ez => cases ez; exact .inl rfl
                | 1, ez => cases ez; exact .inr rfl
                | 2, ez => cases ez; exact .inl rfl
              rcases hz with rfl | rfl
              · exact go p ts _ _ (hD5.up sA) fi (hv.up sA)
              · exact go q8 _ _ _ (hD8.up (s9.trans s10)) hf ((hv.up sA).rest fi.sq fi.len hd hu n1 m1)
            · rintro σ H10 ⟨v7, rfl, s10⟩
              exact ⟨_, _, _, _, _, _, _, rfl, (((s02.trans s3).trans s4).trans s5).trans (s59.trans s10)⟩
        walk_at "rd2"
        refine ⟨dr, p, D, M, ts, u, n, m, d, rfl, hDr.up s4, hD, fi, hd, hnm, fun off H5 s5 => key _ H5 s5 (.inl ⟨off, rfl⟩), fun no nd H5 s5 => key _ H5 s5 (.inr (.inl ⟨no, nd, rfl⟩)), fun no k hk df nd q H5 s5 eq => key _ H5 s5 (.inr (.inr ⟨no, k, q, hk, df, nd, rfl, eq⟩))⟩
    · rintro σ H1 ⟨v1, v2, v3, v4, v5, v6, v7, rfl, s1⟩
      subst e1
      walk_at "rd2"
      exact hQ _

end
theorem txt_mk {K : PySem.W.Frag} {h : Heap} {mg : Str → Option Value} (X : K.In h) (G : h.Ns mainGlobals mg)
    {f_divisor : Addr} {od_divisor an_divisor : Option Addr} {sl_divisor : Array (Option Value)} {oc_divisor kV_divisor dc_divisor pm_divisor cd_divisor ct_divisor : Value}
    {f_place : Addr} {od_place an_place : Option Addr} {sl_place : Array (Option Value)} {oc_place kV_place dc_place pm_place cd_place ct_place : Value}
    {f_dot : Addr} {od_dot an_dot : Option Addr} {sl_dot : Array (Option Value)} {oc_dot kV_dot dc_dot pm_dot cd_dot ct_dot : Value}
    {f_moved : Addr} {od_moved an_moved : Option Addr} {sl_moved : Array (Option Value)} {oc_moved kV_moved dc_moved pm_moved cd_moved ct_moved : Value}
    {f_seats : Addr} {od_seats an_seats : Option Addr} {sl_seats : Array (Option Value)} {oc_seats kV_seats dc_seats pm_seats cd_seats ct_seats : Value}
    {f_seat_at : Addr} {od_seat_at an_seat_at : Option Addr} {sl_seat_at : Array (Option Value)} {oc_seat_at kV_seat_at dc_seat_at pm_seat_at cd_seat_at ct_seat_at : Value}
    {f_seats_reached : Addr} {od_seats_reached an_seats_reached : Option Addr} {sl_seats_reached : Array (Option Value)} {oc_seats_reached kV_seats_reached dc_seats_reached pm_seats_reached cd_seats_reached ct_seats_reached : Value}
    {f_sign_at : Addr} {od_sign_at an_sign_at : Option Addr} {sl_sign_at : Array (Option Value)} {oc_sign_at kV_sign_at dc_sign_at pm_sign_at cd_sign_at ct_sign_at : Value}
    {f_lays : Addr} {od_lays an_lays : Option Addr} {sl_lays : Array (Option Value)} {oc_lays kV_lays dc_lays pm_lays cd_lays ct_lays : Value}
    {f_law_cell_at : Addr} {od_law_cell_at an_law_cell_at : Option Addr} {sl_law_cell_at : Array (Option Value)} {oc_law_cell_at kV_law_cell_at dc_law_cell_at pm_law_cell_at cd_law_cell_at ct_law_cell_at : Value}
    {f_law_whole : Addr} {od_law_whole an_law_whole : Option Addr} {sl_law_whole : Array (Option Value)} {oc_law_whole kV_law_whole dc_law_whole pm_law_whole cd_law_whole ct_law_whole : Value}
    {f_law_common : Addr} {od_law_common an_law_common : Option Addr} {sl_law_common : Array (Option Value)} {oc_law_common kV_law_common dc_law_common pm_law_common cd_law_common ct_law_common : Value}
    {f_law_drawing : Addr} {od_law_drawing an_law_drawing : Option Addr} {sl_law_drawing : Array (Option Value)} {oc_law_drawing kV_law_drawing dc_law_drawing pm_law_drawing cd_law_drawing ct_law_drawing : Value}
    {f_law_times : Addr} {od_law_times an_law_times : Option Addr} {sl_law_times : Array (Option Value)} {oc_law_times kV_law_times dc_law_times pm_law_times cd_law_times ct_law_times : Value}
    {f_law_rows : Addr} {od_law_rows an_law_rows : Option Addr} {sl_law_rows : Array (Option Value)} {oc_law_rows kV_law_rows dc_law_rows pm_law_rows cd_law_rows ct_law_rows : Value}
    {f_law_deed : Addr} {od_law_deed an_law_deed : Option Addr} {sl_law_deed : Array (Option Value)} {oc_law_deed kV_law_deed dc_law_deed pm_law_deed cd_law_deed ct_law_deed : Value}
    {f_law_reached : Addr} {od_law_reached an_law_reached : Option Addr} {sl_law_reached : Array (Option Value)} {oc_law_reached kV_law_reached dc_law_reached pm_law_reached cd_law_reached ct_law_reached : Value}
    {f_law_due : Addr} {od_law_due an_law_due : Option Addr} {sl_law_due : Array (Option Value)} {oc_law_due kV_law_due dc_law_due pm_law_due cd_law_due ct_law_due : Value}
    {f_law_others : Addr} {od_law_others an_law_others : Option Addr} {sl_law_others : Array (Option Value)} {oc_law_others kV_law_others dc_law_others pm_law_others cd_law_others ct_law_others : Value}
    {f_law_only : Addr} {od_law_only an_law_only : Option Addr} {sl_law_only : Array (Option Value)} {oc_law_only kV_law_only dc_law_only pm_law_only cd_law_only ct_law_only : Value}
    {f_law_right : Addr} {od_law_right an_law_right : Option Addr} {sl_law_right : Array (Option Value)} {oc_law_right kV_law_right dc_law_right pm_law_right cd_law_right ct_law_right : Value}
    {f_law : Addr} {od_law an_law : Option Addr} {sl_law : Array (Option Value)} {oc_law kV_law dc_law pm_law cd_law ct_law : Value}
    {C_CrystalError : Addr}
    {C_NoPlace : Addr}
    {C_NoDeed : Addr}
    {C_NoNumber : Addr}
    {C_NoText : Addr}
    {C_TooMany : Addr}
    {C_NoChange : Addr}
    {C_NotKept : Addr}
    {C_NoForm : Addr}
    {C_NotWithin : Addr}
    {C_NotLeast : Addr}
    {C_NoDrawing : Addr}
    {C_OffSheet : Addr}
    {C_NoSheet : Addr}
    {C_NoRow : Addr}
    {C_NoName : Addr}
    (n_divisor : PySem.W.nsIn K mainGlobals "divisor" = some (some (.ref f_divisor)))
    (l_divisor : K.lookup f_divisor = some ⟨oc_divisor, od_divisor, .func (PySem.W.fnOf "divisor" "divisor" (defArgs s_divisor) (defBody s_divisor) (defScope s_divisor) .none kV_divisor dc_divisor pm_divisor an_divisor cd_divisor ct_divisor), sl_divisor⟩)
    (c_divisor : PySem.W.codeIn K cd_divisor "divisor" = true)
    (k_divisor : PySem.W.keepIn K (.ref f_divisor) = true)
    (n_place : PySem.W.nsIn K mainGlobals "place" = some (some (.ref f_place)))
    (l_place : K.lookup f_place = some ⟨oc_place, od_place, .func (PySem.W.fnOf "place" "place" (defArgs s_place) (defBody s_place) (defScope s_place) .none kV_place dc_place pm_place an_place cd_place ct_place), sl_place⟩)
    (c_place : PySem.W.codeIn K cd_place "place" = true)
    (k_place : PySem.W.keepIn K (.ref f_place) = true)
    (n_dot : PySem.W.nsIn K mainGlobals "dot" = some (some (.ref f_dot)))
    (l_dot : K.lookup f_dot = some ⟨oc_dot, od_dot, .func (PySem.W.fnOf "dot" "dot" (defArgs s_dot) (defBody s_dot) (defScope s_dot) .none kV_dot dc_dot pm_dot an_dot cd_dot ct_dot), sl_dot⟩)
    (c_dot : PySem.W.codeIn K cd_dot "dot" = true)
    (k_dot : PySem.W.keepIn K (.ref f_dot) = true)
    (n_moved : PySem.W.nsIn K mainGlobals "moved" = some (some (.ref f_moved)))
    (l_moved : K.lookup f_moved = some ⟨oc_moved, od_moved, .func (PySem.W.fnOf "moved" "moved" (defArgs s_moved) (defBody s_moved) (defScope s_moved) .none kV_moved dc_moved pm_moved an_moved cd_moved ct_moved), sl_moved⟩)
    (c_moved : PySem.W.codeIn K cd_moved "moved" = true)
    (k_moved : PySem.W.keepIn K (.ref f_moved) = true)
    (n_seats : PySem.W.nsIn K mainGlobals "seats" = some (some (.ref f_seats)))
    (l_seats : K.lookup f_seats = some ⟨oc_seats, od_seats, .func (PySem.W.fnOf "seats" "seats" (defArgs s_seats) (defBody s_seats) (defScope s_seats) .none kV_seats dc_seats pm_seats an_seats cd_seats ct_seats), sl_seats⟩)
    (c_seats : PySem.W.codeIn K cd_seats "seats" = true)
    (k_seats : PySem.W.keepIn K (.ref f_seats) = true)
    (n_seat_at : PySem.W.nsIn K mainGlobals "seat_at" = some (some (.ref f_seat_at)))
    (l_seat_at : K.lookup f_seat_at = some ⟨oc_seat_at, od_seat_at, .func (PySem.W.fnOf "seat_at" "seat_at" (defArgs s_seat_at) (defBody s_seat_at) (defScope s_seat_at) .none kV_seat_at dc_seat_at pm_seat_at an_seat_at cd_seat_at ct_seat_at), sl_seat_at⟩)
    (c_seat_at : PySem.W.codeIn K cd_seat_at "seat_at" = true)
    (k_seat_at : PySem.W.keepIn K (.ref f_seat_at) = true)
    (n_seats_reached : PySem.W.nsIn K mainGlobals "seats_reached" = some (some (.ref f_seats_reached)))
    (l_seats_reached : K.lookup f_seats_reached = some ⟨oc_seats_reached, od_seats_reached, .func (PySem.W.fnOf "seats_reached" "seats_reached" (defArgs s_seats_reached) (defBody s_seats_reached) (defScope s_seats_reached) .none kV_seats_reached dc_seats_reached pm_seats_reached an_seats_reached cd_seats_reached ct_seats_reached), sl_seats_reached⟩)
    (c_seats_reached : PySem.W.codeIn K cd_seats_reached "seats_reached" = true)
    (k_seats_reached : PySem.W.keepIn K (.ref f_seats_reached) = true)
    (n_sign_at : PySem.W.nsIn K mainGlobals "sign_at" = some (some (.ref f_sign_at)))
    (l_sign_at : K.lookup f_sign_at = some ⟨oc_sign_at, od_sign_at, .func (PySem.W.fnOf "sign_at" "sign_at" (defArgs s_sign_at) (defBody s_sign_at) (defScope s_sign_at) .none kV_sign_at dc_sign_at pm_sign_at an_sign_at cd_sign_at ct_sign_at), sl_sign_at⟩)
    (c_sign_at : PySem.W.codeIn K cd_sign_at "sign_at" = true)
    (k_sign_at : PySem.W.keepIn K (.ref f_sign_at) = true)
    (n_lays : PySem.W.nsIn K mainGlobals "lays" = some (some (.ref f_lays)))
    (l_lays : K.lookup f_lays = some ⟨oc_lays, od_lays, .func (PySem.W.fnOf "lays" "lays" (defArgs s_lays) (defBody s_lays) (defScope s_lays) .none kV_lays dc_lays pm_lays an_lays cd_lays ct_lays), sl_lays⟩)
    (c_lays : PySem.W.codeIn K cd_lays "lays" = true)
    (k_lays : PySem.W.keepIn K (.ref f_lays) = true)
    (n_law_cell_at : PySem.W.nsIn K mainGlobals "_law_cell_at" = some (some (.ref f_law_cell_at)))
    (l_law_cell_at : K.lookup f_law_cell_at = some ⟨oc_law_cell_at, od_law_cell_at, .func (PySem.W.fnOf "_law_cell_at" "_law_cell_at" (defArgs s_law_cell_at) (defBody s_law_cell_at) (defScope s_law_cell_at) .none kV_law_cell_at dc_law_cell_at pm_law_cell_at an_law_cell_at cd_law_cell_at ct_law_cell_at), sl_law_cell_at⟩)
    (c_law_cell_at : PySem.W.codeIn K cd_law_cell_at "_law_cell_at" = true)
    (k_law_cell_at : PySem.W.keepIn K (.ref f_law_cell_at) = true)
    (n_law_whole : PySem.W.nsIn K mainGlobals "_law_whole" = some (some (.ref f_law_whole)))
    (l_law_whole : K.lookup f_law_whole = some ⟨oc_law_whole, od_law_whole, .func (PySem.W.fnOf "_law_whole" "_law_whole" (defArgs s_law_whole) (defBody s_law_whole) (defScope s_law_whole) .none kV_law_whole dc_law_whole pm_law_whole an_law_whole cd_law_whole ct_law_whole), sl_law_whole⟩)
    (c_law_whole : PySem.W.codeIn K cd_law_whole "_law_whole" = true)
    (k_law_whole : PySem.W.keepIn K (.ref f_law_whole) = true)
    (n_law_common : PySem.W.nsIn K mainGlobals "_law_common" = some (some (.ref f_law_common)))
    (l_law_common : K.lookup f_law_common = some ⟨oc_law_common, od_law_common, .func (PySem.W.fnOf "_law_common" "_law_common" (defArgs s_law_common) (defBody s_law_common) (defScope s_law_common) .none kV_law_common dc_law_common pm_law_common an_law_common cd_law_common ct_law_common), sl_law_common⟩)
    (c_law_common : PySem.W.codeIn K cd_law_common "_law_common" = true)
    (k_law_common : PySem.W.keepIn K (.ref f_law_common) = true)
    (n_law_drawing : PySem.W.nsIn K mainGlobals "_law_drawing" = some (some (.ref f_law_drawing)))
    (l_law_drawing : K.lookup f_law_drawing = some ⟨oc_law_drawing, od_law_drawing, .func (PySem.W.fnOf "_law_drawing" "_law_drawing" (defArgs s_law_drawing) (defBody s_law_drawing) (defScope s_law_drawing) .none kV_law_drawing dc_law_drawing pm_law_drawing an_law_drawing cd_law_drawing ct_law_drawing), sl_law_drawing⟩)
    (c_law_drawing : PySem.W.codeIn K cd_law_drawing "_law_drawing" = true)
    (k_law_drawing : PySem.W.keepIn K (.ref f_law_drawing) = true)
    (n_law_times : PySem.W.nsIn K mainGlobals "_law_times" = some (some (.ref f_law_times)))
    (l_law_times : K.lookup f_law_times = some ⟨oc_law_times, od_law_times, .func (PySem.W.fnOf "_law_times" "_law_times" (defArgs s_law_times) (defBody s_law_times) (defScope s_law_times) .none kV_law_times dc_law_times pm_law_times an_law_times cd_law_times ct_law_times), sl_law_times⟩)
    (c_law_times : PySem.W.codeIn K cd_law_times "_law_times" = true)
    (k_law_times : PySem.W.keepIn K (.ref f_law_times) = true)
    (n_law_rows : PySem.W.nsIn K mainGlobals "_law_rows" = some (some (.ref f_law_rows)))
    (l_law_rows : K.lookup f_law_rows = some ⟨oc_law_rows, od_law_rows, .func (PySem.W.fnOf "_law_rows" "_law_rows" (defArgs s_law_rows) (defBody s_law_rows) (defScope s_law_rows) .none kV_law_rows dc_law_rows pm_law_rows an_law_rows cd_law_rows ct_law_rows), sl_law_rows⟩)
    (c_law_rows : PySem.W.codeIn K cd_law_rows "_law_rows" = true)
    (k_law_rows : PySem.W.keepIn K (.ref f_law_rows) = true)
    (n_law_deed : PySem.W.nsIn K mainGlobals "_law_deed" = some (some (.ref f_law_deed)))
    (l_law_deed : K.lookup f_law_deed = some ⟨oc_law_deed, od_law_deed, .func (PySem.W.fnOf "_law_deed" "_law_deed" (defArgs s_law_deed) (defBody s_law_deed) (defScope s_law_deed) .none kV_law_deed dc_law_deed pm_law_deed an_law_deed cd_law_deed ct_law_deed), sl_law_deed⟩)
    (c_law_deed : PySem.W.codeIn K cd_law_deed "_law_deed" = true)
    (k_law_deed : PySem.W.keepIn K (.ref f_law_deed) = true)
    (n_law_reached : PySem.W.nsIn K mainGlobals "_law_reached" = some (some (.ref f_law_reached)))
    (l_law_reached : K.lookup f_law_reached = some ⟨oc_law_reached, od_law_reached, .func (PySem.W.fnOf "_law_reached" "_law_reached" (defArgs s_law_reached) (defBody s_law_reached) (defScope s_law_reached) .none kV_law_reached dc_law_reached pm_law_reached an_law_reached cd_law_reached ct_law_reached), sl_law_reached⟩)
    (c_law_reached : PySem.W.codeIn K cd_law_reached "_law_reached" = true)
    (k_law_reached : PySem.W.keepIn K (.ref f_law_reached) = true)
    (n_law_due : PySem.W.nsIn K mainGlobals "_law_due" = some (some (.ref f_law_due)))
    (l_law_due : K.lookup f_law_due = some ⟨oc_law_due, od_law_due, .func (PySem.W.fnOf "_law_due" "_law_due" (defArgs s_law_due) (defBody s_law_due) (defScope s_law_due) .none kV_law_due dc_law_due pm_law_due an_law_due cd_law_due ct_law_due), sl_law_due⟩)
    (c_law_due : PySem.W.codeIn K cd_law_due "_law_due" = true)
    (k_law_due : PySem.W.keepIn K (.ref f_law_due) = true)
    (n_law_others : PySem.W.nsIn K mainGlobals "_law_others" = some (some (.ref f_law_others)))
    (l_law_others : K.lookup f_law_others = some ⟨oc_law_others, od_law_others, .func (PySem.W.fnOf "_law_others" "_law_others" (defArgs s_law_others) (defBody s_law_others) (defScope s_law_others) .none kV_law_others dc_law_others pm_law_others an_law_others cd_law_others ct_law_others), sl_law_others⟩)
    (c_law_others : PySem.W.codeIn K cd_law_others "_law_others" = true)
    (k_law_others : PySem.W.keepIn K (.ref f_law_others) = true)
    (n_law_only : PySem.W.nsIn K mainGlobals "_law_only" = some (some (.ref f_law_only)))
    (l_law_only : K.lookup f_law_only = some ⟨oc_law_only, od_law_only, .func (PySem.W.fnOf "_law_only" "_law_only" (defArgs s_law_only) (defBody s_law_only) (defScope s_law_only) .none kV_law_only dc_law_only pm_law_only an_law_only cd_law_only ct_law_only), sl_law_only⟩)
    (c_law_only : PySem.W.codeIn K cd_law_only "_law_only" = true)
    (k_law_only : PySem.W.keepIn K (.ref f_law_only) = true)
    (n_law_right : PySem.W.nsIn K mainGlobals "_law_right" = some (some (.ref f_law_right)))
    (l_law_right : K.lookup f_law_right = some ⟨oc_law_right, od_law_right, .func (PySem.W.fnOf "_law_right" "_law_right" (defArgs s_law_right) (defBody s_law_right) (defScope s_law_right) .none kV_law_right dc_law_right pm_law_right an_law_right cd_law_right ct_law_right), sl_law_right⟩)
    (c_law_right : PySem.W.codeIn K cd_law_right "_law_right" = true)
    (k_law_right : PySem.W.keepIn K (.ref f_law_right) = true)
    (n_law : PySem.W.nsIn K mainGlobals "law" = some (some (.ref f_law)))
    (l_law : K.lookup f_law = some ⟨oc_law, od_law, .func (PySem.W.fnOf "law" "law" (defArgs s_law) (defBody s_law) (defScope s_law) .none kV_law dc_law pm_law an_law cd_law ct_law), sl_law⟩)
    (c_law : PySem.W.codeIn K cd_law "law" = true)
    (k_law : PySem.W.keepIn K (.ref f_law) = true)
    (n_CrystalError : PySem.W.nsIn K mainGlobals "CrystalError" = some (some (.ref C_CrystalError)))
    (n_NoPlace : PySem.W.nsIn K mainGlobals "NoPlace" = some (some (.ref C_NoPlace)))
    (n_NoDeed : PySem.W.nsIn K mainGlobals "NoDeed" = some (some (.ref C_NoDeed)))
    (n_NoNumber : PySem.W.nsIn K mainGlobals "NoNumber" = some (some (.ref C_NoNumber)))
    (n_NoText : PySem.W.nsIn K mainGlobals "NoText" = some (some (.ref C_NoText)))
    (n_TooMany : PySem.W.nsIn K mainGlobals "TooMany" = some (some (.ref C_TooMany)))
    (n_NoChange : PySem.W.nsIn K mainGlobals "NoChange" = some (some (.ref C_NoChange)))
    (n_NotKept : PySem.W.nsIn K mainGlobals "NotKept" = some (some (.ref C_NotKept)))
    (n_NoForm : PySem.W.nsIn K mainGlobals "NoForm" = some (some (.ref C_NoForm)))
    (n_NotWithin : PySem.W.nsIn K mainGlobals "NotWithin" = some (some (.ref C_NotWithin)))
    (n_NotLeast : PySem.W.nsIn K mainGlobals "NotLeast" = some (some (.ref C_NotLeast)))
    (n_NoDrawing : PySem.W.nsIn K mainGlobals "NoDrawing" = some (some (.ref C_NoDrawing)))
    (n_OffSheet : PySem.W.nsIn K mainGlobals "OffSheet" = some (some (.ref C_OffSheet)))
    (n_NoSheet : PySem.W.nsIn K mainGlobals "NoSheet" = some (some (.ref C_NoSheet)))
    (n_NoRow : PySem.W.nsIn K mainGlobals "NoRow" = some (some (.ref C_NoRow)))
    (n_NoName : PySem.W.nsIn K mainGlobals "NoName" = some (some (.ref C_NoName)))
    (y_range : PySem.W.nsIn K mainGlobals "range" = some none)
    (y_len : PySem.W.nsIn K mainGlobals "len" = some none)
    (y_isinstance : PySem.W.nsIn K mainGlobals "isinstance" = some none)
    (y_tuple : PySem.W.nsIn K mainGlobals "tuple" = some none)
    (y_max : PySem.W.nsIn K mainGlobals "max" = some none)
    (y_sum : PySem.W.nsIn K mainGlobals "sum" = some none)
    (y_zip : PySem.W.nsIn K mainGlobals "zip" = some none)
    (y_abs : PySem.W.nsIn K mainGlobals "abs" = some none)
    (y_int : PySem.W.nsIn K mainGlobals "int" = some none)
    (y_bool : PySem.W.nsIn K mainGlobals "bool" = some none)
    (y_ValueError : PySem.W.nsIn K mainGlobals "ValueError" = some none)
    (q_k_int : PySem.W.kitOne K (.type "int") (.type "int") = some true)
    (q_k_ib : PySem.W.kitOne K (.type "int") (.type "bool") = some false)
    (q_k_tt : PySem.W.kitOne K (.type "tuple") (.type "tuple") = some true)
    (q_xm : PySem.W.exmOne K (.ref C_OffSheet) (.ref C_CrystalError) = some true)
    (q_e_ga : PySem.W.findIn K (.ref C_OffSheet) "__getattribute__" = some (some (.builtin "BaseException.__getattribute__")))
    (q_e_gt : PySem.W.findIn K (.ref C_OffSheet) "__getattr__" = some none)
    (q_e_ca : PySem.W.findIn K (.ref C_OffSheet) "__class__" = some (some (.builtin "object.__class__")))
    (q_e_cg : PySem.W.specialIn K (.builtin "object.__class__") "__get__" = some (some (.builtin "getset_descriptor.__get__")))
    (q_e_tk : PySem.W.takesIn K (.builtin "object.__class__") = some true)
    (q_e_ob : PySem.W.mroIn K C_OffSheet (.type "object") = some true)
    (q_e_bx : PySem.W.mroIn K C_OffSheet (.type "BaseException") = some true)
    (q_i_NoPlace : PySem.W.kitOne K (.ref C_OffSheet) (.ref C_NoPlace) = some false)
    (q_i_NoDeed : PySem.W.kitOne K (.ref C_OffSheet) (.ref C_NoDeed) = some false)
    (q_i_NoNumber : PySem.W.kitOne K (.ref C_OffSheet) (.ref C_NoNumber) = some false)
    (q_i_NoText : PySem.W.kitOne K (.ref C_OffSheet) (.ref C_NoText) = some false)
    (q_i_TooMany : PySem.W.kitOne K (.ref C_OffSheet) (.ref C_TooMany) = some false)
    (q_i_NoChange : PySem.W.kitOne K (.ref C_OffSheet) (.ref C_NoChange) = some false)
    (q_i_NotKept : PySem.W.kitOne K (.ref C_OffSheet) (.ref C_NotKept) = some false)
    (q_i_NoForm : PySem.W.kitOne K (.ref C_OffSheet) (.ref C_NoForm) = some false)
    (q_i_NotWithin : PySem.W.kitOne K (.ref C_OffSheet) (.ref C_NotWithin) = some false)
    (q_i_NotLeast : PySem.W.kitOne K (.ref C_OffSheet) (.ref C_NotLeast) = some false)
    (q_i_NoDrawing : PySem.W.kitOne K (.ref C_OffSheet) (.ref C_NoDrawing) = some false)
    (q_i_OffSheet : PySem.W.kitOne K (.ref C_OffSheet) (.ref C_OffSheet) = some true)
    (q_i_NoSheet : PySem.W.kitOne K (.ref C_OffSheet) (.ref C_NoSheet) = some false)
    (q_i_NoRow : PySem.W.kitOne K (.ref C_OffSheet) (.ref C_NoRow) = some false)
    (q_i_NoName : PySem.W.kitOne K (.ref C_OffSheet) (.ref C_NoName) = some false)
    (q_i_VE : PySem.W.kitOne K (.ref C_OffSheet) (.type "ValueError") = some true)
    (q_x_OffSheet : PySem.W.excIn K C_OffSheet [.type "ValueError", .type "Exception", .type "BaseException", .type "object"] "ValueError.__new__" = true)
    (q_x_NoPlace : PySem.W.excIn K C_NoPlace [.type "ValueError", .type "Exception", .type "BaseException", .type "object"] "ValueError.__new__" = true)
    : ∃ t, Txt K mg t := by
  have F_divisor := fun_mk (st := s_divisor) l_divisor c_divisor k_divisor
  have b_divisor := F_divisor.binds (ps := ["one", "other"]) fun _ _ _ _ _ _ us hl => match us, hl with | [_, _], _ => rfl
  have F_place := fun_mk (st := s_place) l_place c_place k_place
  have b_place := F_place.binds (ps := ["tops", "under"]) fun _ _ _ _ _ _ us hl => match us, hl with | [_, _], _ => rfl
  have F_dot := fun_mk (st := s_dot) l_dot c_dot k_dot
  have b_dot := F_dot.binds (ps := ["one", "other"]) fun _ _ _ _ _ _ us hl => match us, hl with | [_, _], _ => rfl
  have F_moved := fun_mk (st := s_moved) l_moved c_moved k_moved
  have b_moved := F_moved.binds (ps := ["one", "spot"]) fun _ _ _ _ _ _ us hl => match us, hl with | [_, _], _ => rfl
  have F_seats := fun_mk (st := s_seats) l_seats c_seats k_seats
  have b_seats := F_seats.binds (ps := ["n", "m"]) fun _ _ _ _ _ _ us hl => match us, hl with | [_, _], _ => rfl
  have F_seat_at := fun_mk (st := s_seat_at) l_seat_at c_seat_at k_seat_at
  have b_seat_at := F_seat_at.binds (ps := ["spot", "n", "m"]) fun _ _ _ _ _ _ us hl => match us, hl with | [_, _, _], _ => rfl
  have F_seats_reached := fun_mk (st := s_seats_reached) l_seats_reached c_seats_reached k_seats_reached
  have b_seats_reached := F_seats_reached.binds (ps := ["one", "n", "m"]) fun _ _ _ _ _ _ us hl => match us, hl with | [_, _, _], _ => rfl
  have F_sign_at := fun_mk (st := s_sign_at) l_sign_at c_sign_at k_sign_at
  have b_sign_at := F_sign_at.binds (ps := ["drawing", "seat"]) fun _ _ _ _ _ _ us hl => match us, hl with | [_, _], _ => rfl
  have F_lays := fun_mk (st := s_lays) l_lays c_lays k_lays
  have b_lays := F_lays.binds (ps := ["drawing", "one"]) fun _ _ _ _ _ _ us hl => match us, hl with | [_, _], _ => rfl
  have F_law_cell_at := fun_mk (st := s_law_cell_at) l_law_cell_at c_law_cell_at k_law_cell_at
  have b_law_cell_at := F_law_cell_at.binds (ps := ["_law_script", "_law_k"]) fun _ _ _ _ _ _ us hl => match us, hl with | [_, _], _ => rfl
  have F_law_whole := fun_mk (st := s_law_whole) l_law_whole c_law_whole k_law_whole
  have b_law_whole := F_law_whole.binds (ps := ["_law_found"]) fun _ _ _ _ _ _ us hl => match us, hl with | [_], _ => rfl
  have F_law_common := fun_mk (st := s_law_common) l_law_common c_law_common k_law_common
  have b_law_common := F_law_common.binds (ps := ["_law_one", "_law_other"]) fun _ _ _ _ _ _ us hl => match us, hl with | [_, _], _ => rfl
  have F_law_drawing := fun_mk (st := s_law_drawing) l_law_drawing c_law_drawing k_law_drawing
  have b_law_drawing := F_law_drawing.binds (ps := ["_law_cells"]) fun _ _ _ _ _ _ us hl => match us, hl with | [_], _ => rfl
  have F_law_times := fun_mk (st := s_law_times) l_law_times c_law_times k_law_times
  have b_law_times := F_law_times.binds (ps := ["_law_one", "_law_other"]) fun _ _ _ _ _ _ us hl => match us, hl with | [_, _], _ => rfl
  have F_law_rows := fun_mk (st := s_law_rows) l_law_rows c_law_rows k_law_rows
  have b_law_rows := F_law_rows.binds (ps := ["_law_cell"]) fun _ _ _ _ _ _ us hl => match us, hl with | [_], _ => rfl
  have F_law_deed := fun_mk (st := s_law_deed) l_law_deed c_law_deed k_law_deed
  have b_law_deed := F_law_deed.binds (ps := ["_law_cells", "_law_n", "_law_m"]) fun _ _ _ _ _ _ us hl => match us, hl with | [_, _, _], _ => rfl
  have F_law_reached := fun_mk (st := s_law_reached) l_law_reached c_law_reached k_law_reached
  have b_law_reached := F_law_reached.binds (ps := ["_law_one", "_law_i", "_law_j", "_law_n", "_law_m"]) fun _ _ _ _ _ _ us hl => match us, hl with | [_, _, _, _, _], _ => rfl
  have F_law_due := fun_mk (st := s_law_due) l_law_due c_law_due k_law_due
  have b_law_due := F_law_due.binds (ps := ["_law_drawing_here", "_law_one"]) fun _ _ _ _ _ _ us hl => match us, hl with | [_, _], _ => rfl
  have F_law_others := fun_mk (st := s_law_others) l_law_others c_law_others k_law_others
  have b_law_others := F_law_others.binds (ps := ["_law_e"]) fun _ _ _ _ _ _ us hl => match us, hl with | [_], _ => rfl
  have F_law_only := fun_mk (st := s_law_only) l_law_only c_law_only k_law_only
  have b_law_only := F_law_only.binds (ps := ["_law_e"]) fun _ _ _ _ _ _ us hl => match us, hl with | [_], _ => rfl
  have F_law_right := fun_mk (st := s_law_right) l_law_right c_law_right k_law_right
  have b_law_right := F_law_right.binds (ps := ["_law_drawing_here", "_law_one", "_law_due_here"]) fun _ _ _ _ _ _ us hl => match us, hl with | [_, _, _], _ => rfl
  have F_law := fun_mk (st := s_law) l_law c_law k_law
  have b_law := F_law.binds (ps := ["_law_script"]) fun _ _ _ _ _ _ us hl => match us, hl with | [_], _ => rfl
  exact ⟨⟨f_divisor, _, f_place, _, f_dot, _, f_moved, _, f_seats, _, f_seat_at, _, f_seats_reached, _, f_sign_at, _, f_lays, _, f_law_cell_at, _, f_law_whole, _, f_law_common, _, f_law_drawing, _, f_law_times, _, f_law_rows, _, f_law_deed, _, f_law_reached, _, f_law_due, _, f_law_others, _, f_law_only, _, f_law_right, _, f_law, _, C_CrystalError, C_NoPlace, C_NoDeed, C_NoNumber, C_NoText, C_TooMany, C_NoChange, C_NotKept, C_NoForm, C_NotWithin, C_NotLeast, C_NoDrawing, C_OffSheet, C_NoSheet, C_NoRow, C_NoName⟩, ⟨F_divisor, PySem.W.mg_of X G n_divisor, b_divisor, F_place, PySem.W.mg_of X G n_place, b_place, F_dot, PySem.W.mg_of X G n_dot, b_dot, F_moved, PySem.W.mg_of X G n_moved, b_moved, F_seats, PySem.W.mg_of X G n_seats, b_seats, F_seat_at, PySem.W.mg_of X G n_seat_at, b_seat_at, F_seats_reached, PySem.W.mg_of X G n_seats_reached, b_seats_reached, F_sign_at, PySem.W.mg_of X G n_sign_at, b_sign_at, F_lays, PySem.W.mg_of X G n_lays, b_lays, F_law_cell_at, PySem.W.mg_of X G n_law_cell_at, b_law_cell_at, F_law_whole, PySem.W.mg_of X G n_law_whole, b_law_whole, F_law_common, PySem.W.mg_of X G n_law_common, b_law_common, F_law_drawing, PySem.W.mg_of X G n_law_drawing, b_law_drawing, F_law_times, PySem.W.mg_of X G n_law_times, b_law_times, F_law_rows, PySem.W.mg_of X G n_law_rows, b_law_rows, F_law_deed, PySem.W.mg_of X G n_law_deed, b_law_deed, F_law_reached, PySem.W.mg_of X G n_law_reached, b_law_reached, F_law_due, PySem.W.mg_of X G n_law_due, b_law_due, F_law_others, PySem.W.mg_of X G n_law_others, b_law_others, F_law_only, PySem.W.mg_of X G n_law_only, b_law_only, F_law_right, PySem.W.mg_of X G n_law_right, b_law_right, F_law, PySem.W.mg_of X G n_law, b_law, PySem.W.mg_none_of X G y_range, PySem.W.mg_none_of X G y_len, PySem.W.mg_none_of X G y_isinstance, PySem.W.mg_none_of X G y_tuple, PySem.W.mg_none_of X G y_max, PySem.W.mg_none_of X G y_sum, PySem.W.mg_none_of X G y_zip, PySem.W.mg_none_of X G y_abs, PySem.W.mg_none_of X G y_int, PySem.W.mg_none_of X G y_bool, PySem.W.mg_none_of X G y_ValueError, PySem.W.mg_of X G n_CrystalError, PySem.W.mg_of X G n_NoPlace, PySem.W.mg_of X G n_NoDeed, PySem.W.mg_of X G n_NoNumber, PySem.W.mg_of X G n_NoText, PySem.W.mg_of X G n_TooMany, PySem.W.mg_of X G n_NoChange, PySem.W.mg_of X G n_NotKept, PySem.W.mg_of X G n_NoForm, PySem.W.mg_of X G n_NotWithin, PySem.W.mg_of X G n_NotLeast, PySem.W.mg_of X G n_NoDrawing, PySem.W.mg_of X G n_OffSheet, PySem.W.mg_of X G n_NoSheet, PySem.W.mg_of X G n_NoRow, PySem.W.mg_of X G n_NoName, q_k_int, q_k_ib, q_k_tt, q_xm, q_e_ga, q_e_gt, q_e_ca, q_e_cg, q_e_tk, q_e_ob, q_e_bx, q_i_NoPlace, q_i_NoDeed, q_i_NoNumber, q_i_NoText, q_i_TooMany, q_i_NoChange, q_i_NotKept, q_i_NoForm, q_i_NotWithin, q_i_NotLeast, q_i_NoDrawing, q_i_OffSheet, q_i_NoSheet, q_i_NoRow, q_i_NoName, q_i_VE, q_x_OffSheet, q_x_NoPlace, fun s v => .of_eq rfl⟩⟩
end Cw
open PySem PySem.W PyProof.Rows
set_option maxRecDepth 100000 in
set_option maxHeartbeats 0 in
/-! Names that the head would else lay equations under (of whole heaps and of their trees): the proof wants none of them. -/
noncomputable def PySem.W.Fast.tw17109617023806378152 : Unit := ()
noncomputable def PySem.W.Fast.tw5733778300169612029 : Unit := ()
noncomputable def PySem.W.Fast.tw12353569743739648711 : Unit := ()
noncomputable def PySem.W.Fast.tw3264723599626841528 : Unit := ()
noncomputable def PySem.W.Fast.tw13495662350266504792 : Unit := ()
noncomputable def PySem.W.Fast.tw6680633071314244984 : Unit := ()
noncomputable def PySem.W.Fast.tw9350456377427649813 : Unit := ()
noncomputable def PySem.W.Fast.tw10490470549677290118 : Unit := ()
noncomputable def PySem.W.Fast.tw5978350168276871404 : Unit := ()
noncomputable def PySem.W.Fast.tw18383401514406875633 : Unit := ()
noncomputable def PySem.W.Fast.tw2534421690071346591 : Unit := ()
noncomputable def PySem.W.Fast.tw6806856163155060200 : Unit := ()
noncomputable def PySem.W.Fast.tw19899948151997820 : Unit := ()
noncomputable def PySem.W.Fast.tw11256497912305418081 : Unit := ()
theorem PySem.Challenge.cw_crystalwords_k82_lays_holds : PySem.Challenge.rw_crystalwords_k82_lays.Holds := by
  w_on; o_law; k_head; (case hw => w_witness2)
  k_fill
  refine L2.walkB (l := PySem.Challenge.rw_crystalwords_k82_lays) (k := 7) (x := "_law_script") rfl rfl ⟨rfl, by decide, by decide⟩ (fun w h Y => PySem.W.kIn_of Y) ?F
  case F =>
    intro w mg fa h KX G hmg
    have T : ∃ t, Cw.Txt (L2.KOf KX) mg t := by
      dsimp only [L2.KOf]
      refine' Cw.txt_mk KX G ?n_divisor ?l_divisor ?c_divisor ?k_divisor ?n_place ?l_place ?c_place ?k_place ?n_dot ?l_dot ?c_dot ?k_dot ?n_moved ?l_moved ?c_moved ?k_moved ?n_seats ?l_seats ?c_seats ?k_seats ?n_seat_at ?l_seat_at ?c_seat_at ?k_seat_at ?n_seats_reached ?l_seats_reached ?c_seats_reached ?k_seats_reached ?n_sign_at ?l_sign_at ?c_sign_at ?k_sign_at ?n_lays ?l_lays ?c_lays ?k_lays ?n_law_cell_at ?l_law_cell_at ?c_law_cell_at ?k_law_cell_at ?n_law_whole ?l_law_whole ?c_law_whole ?k_law_whole ?n_law_common ?l_law_common ?c_law_common ?k_law_common ?n_law_drawing ?l_law_drawing ?c_law_drawing ?k_law_drawing ?n_law_times ?l_law_times ?c_law_times ?k_law_times ?n_law_rows ?l_law_rows ?c_law_rows ?k_law_rows ?n_law_deed ?l_law_deed ?c_law_deed ?k_law_deed ?n_law_reached ?l_law_reached ?c_law_reached ?k_law_reached ?n_law_due ?l_law_due ?c_law_due ?k_law_due ?n_law_others ?l_law_others ?c_law_others ?k_law_others ?n_law_only ?l_law_only ?c_law_only ?k_law_only ?n_law_right ?l_law_right ?c_law_right ?k_law_right ?n_law ?l_law ?c_law ?k_law ?n_CrystalError ?n_NoPlace ?n_NoDeed ?n_NoNumber ?n_NoText ?n_TooMany ?n_NoChange ?n_NotKept ?n_NoForm ?n_NotWithin ?n_NotLeast ?n_NoDrawing ?n_OffSheet ?n_NoSheet ?n_NoRow ?n_NoName ?y_range ?y_len ?y_isinstance ?y_tuple ?y_max ?y_sum ?y_zip ?y_abs ?y_int ?y_bool ?y_ValueError ?q_k_int ?q_k_ib ?q_k_tt ?q_xm ?q_e_ga ?q_e_gt ?q_e_ca ?q_e_cg ?q_e_tk ?q_e_ob ?q_e_bx ?q_i_NoPlace ?q_i_NoDeed ?q_i_NoNumber ?q_i_NoText ?q_i_TooMany ?q_i_NoChange ?q_i_NotKept ?q_i_NoForm ?q_i_NotWithin ?q_i_NotLeast ?q_i_NoDrawing ?q_i_OffSheet ?q_i_NoSheet ?q_i_NoRow ?q_i_NoName ?q_i_VE ?q_x_OffSheet ?q_x_NoPlace
      (case n_divisor => k_is)
      (case l_divisor => k_is)
      (case c_divisor => k_is)
      (case k_divisor => k_is)
      (case n_place => k_is)
      (case l_place => k_is)
      (case c_place => k_is)
      (case k_place => k_is)
      (case n_dot => k_is)
      (case l_dot => k_is)
      (case c_dot => k_is)
      (case k_dot => k_is)
      (case n_moved => k_is)
      (case l_moved => k_is)
      (case c_moved => k_is)
      (case k_moved => k_is)
      (case n_seats => k_is)
      (case l_seats => k_is)
      (case c_seats => k_is)
      (case k_seats => k_is)
      (case n_seat_at => k_is)
      (case l_seat_at => k_is)
      (case c_seat_at => k_is)
      (case k_seat_at => k_is)
      (case n_seats_reached => k_is)
      (case l_seats_reached => k_is)
      (case c_seats_reached => k_is)
      (case k_seats_reached => k_is)
      (case n_sign_at => k_is)
      (case l_sign_at => k_is)
      (case c_sign_at => k_is)
      (case k_sign_at => k_is)
      (case n_lays => k_is)
      (case l_lays => k_is)
      (case c_lays => k_is)
      (case k_lays => k_is)
      (case n_law_cell_at => k_is)
      (case l_law_cell_at => k_is)
      (case c_law_cell_at => k_is)
      (case k_law_cell_at => k_is)
      (case n_law_whole => k_is)
      (case l_law_whole => k_is)
      (case c_law_whole => k_is)
      (case k_law_whole => k_is)
      (case n_law_common => k_is)
      (case l_law_common => k_is)
      (case c_law_common => k_is)
      (case k_law_common => k_is)
      (case n_law_drawing => k_is)
      (case l_law_drawing => k_is)
      (case c_law_drawing => k_is)
      (case k_law_drawing => k_is)
      (case n_law_times => k_is)
      (case l_law_times => k_is)
      (case c_law_times => k_is)
      (case k_law_times => k_is)
      (case n_law_rows => k_is)
      (case l_law_rows => k_is)
      (case c_law_rows => k_is)
      (case k_law_rows => k_is)
      (case n_law_deed => k_is)
      (case l_law_deed => k_is)
      (case c_law_deed => k_is)
      (case k_law_deed => k_is)
      (case n_law_reached => k_is)
      (case l_law_reached => k_is)
      (case c_law_reached => k_is)
      (case k_law_reached => k_is)
      (case n_law_due => k_is)
      (case l_law_due => k_is)
      (case c_law_due => k_is)
      (case k_law_due => k_is)
      (case n_law_others => k_is)
      (case l_law_others => k_is)
      (case c_law_others => k_is)
      (case k_law_others => k_is)
      (case n_law_only => k_is)
      (case l_law_only => k_is)
      (case c_law_only => k_is)
      (case k_law_only => k_is)
      (case n_law_right => k_is)
      (case l_law_right => k_is)
      (case c_law_right => k_is)
      (case k_law_right => k_is)
      (case n_law => k_is)
      (case l_law => k_is)
      (case c_law => k_is)
      (case k_law => k_is)
      (case n_CrystalError => k_is)
      (case n_NoPlace => k_is)
      (case n_NoDeed => k_is)
      (case n_NoNumber => k_is)
      (case n_NoText => k_is)
      (case n_TooMany => k_is)
      (case n_NoChange => k_is)
      (case n_NotKept => k_is)
      (case n_NoForm => k_is)
      (case n_NotWithin => k_is)
      (case n_NotLeast => k_is)
      (case n_NoDrawing => k_is)
      (case n_OffSheet => k_is)
      (case n_NoSheet => k_is)
      (case n_NoRow => k_is)
      (case n_NoName => k_is)
      (case y_range => k_is)
      (case y_len => k_is)
      (case y_isinstance => k_is)
      (case y_tuple => k_is)
      (case y_max => k_is)
      (case y_sum => k_is)
      (case y_zip => k_is)
      (case y_abs => k_is)
      (case y_int => k_is)
      (case y_bool => k_is)
      (case y_ValueError => k_is)
      (case q_k_int => kit_is)
      (case q_k_ib => kit_is)
      (case q_k_tt => kit_is)
      (case q_xm => kts_exm)
      (case q_e_ga => k_is)
      (case q_e_gt => k_is)
      (case q_e_ca => k_is)
      (case q_e_cg => k_is)
      (case q_e_tk => k_is)
      (case q_e_ob => k_is)
      (case q_e_bx => k_is)
      (case q_i_NoPlace => kit_is)
      (case q_i_NoDeed => kit_is)
      (case q_i_NoNumber => kit_is)
      (case q_i_NoText => kit_is)
      (case q_i_TooMany => kit_is)
      (case q_i_NoChange => kit_is)
      (case q_i_NotKept => kit_is)
      (case q_i_NoForm => kit_is)
      (case q_i_NotWithin => kit_is)
      (case q_i_NotLeast => kit_is)
      (case q_i_NoDrawing => kit_is)
      (case q_i_OffSheet => kit_is)
      (case q_i_NoSheet => kit_is)
      (case q_i_NoRow => kit_is)
      (case q_i_NoName => kit_is)
      (case q_i_VE => kit_is)
      (case q_x_OffSheet => k_exc)
      (case q_x_NoPlace => k_exc)
    obtain ⟨t, T⟩ := T
    have e0 := hmg.symm.trans T.m_law
    cases e0
    exact ⟨t.d_law, T.bl, fun base kb nb => Cw.ok_law T⟩
#print axioms PySem.Challenge.cw_crystalwords_k82_lays_holds
