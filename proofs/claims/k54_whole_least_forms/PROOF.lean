import PyProof.Rows.All
import Wide.All
import OpenK.AllK
import Wide.FinOn
import Lean
import PyProof.EqAt
import PyProof.EqKinds
import PyProof.TupleCall
import PySem.Challenge.RW_crystalwords_k54_whole_least_forms
set_option Elab.async false
set_option linter.all false
set_option maxRecDepth 100000
/-! THE HAND LAYER, for ints, bools, texts, own classes, LISTS and tuples (index, slices, in, append, pop ..), calls, loops. Paste it whole ahead of your own text; what your proof does not reach may be deleted. -/
namespace L2
open PySem PySem.Spec PyProof.Rows

/-- a key: an int or a str -/
noncomputable abbrev Key := Sum Int Str
noncomputable def keyIs : Key → Value → Bool
  | .inl k, v => Value.isInt k v
  | .inr x, v => Value.isStrOf x v
noncomputable def keyH (w : World) : Key → Int
  | .inl k => hashInt k
  | .inr x => hashStr w x
theorem keyIs_shape : ∀ {k : Key} {v : Value}, keyIs k v = true → (∃ i t, k = Sum.inl i ∧ v = Value.int i t) ∨ (∃ x t, k = Sum.inr x ∧ v = Value.str x t)
  | .inl i, v, h => by
    obtain ⟨t, e⟩ := Value.isInt_shape (k := i) (v := v) h
    exact .inl ⟨i, t, rfl, e⟩
  | .inr x, v, h => by
    obtain ⟨t, e⟩ := Value.isStrOf_shape (x := x) (v := v) h
    exact .inr ⟨x, t, rfl, e⟩
theorem key_ll (a b : Int) : decide ((Sum.inl a : Key) = Sum.inl b) = (a == b) := by
  by_cases e : a = b
  · subst e; simp
  · have h : ¬ (Sum.inl a : Key) = Sum.inl b := fun q => e (Sum.inl.inj q)
    rw [decide_eq_false h]
    exact (beq_eq_false_iff_ne.mpr e).symm
theorem key_rr (a b : Str) : decide ((Sum.inr a : Key) = Sum.inr b) = decide (a = b) := by
  by_cases e : a = b
  · subst e; simp
  · have h : ¬ (Sum.inr a : Key) = Sum.inr b := fun q => e (Sum.inr.inj q)
    rw [decide_eq_false h, decide_eq_false e]
theorem key_lr (a : Int) (b : Str) : decide ((Sum.inl a : Key) = Sum.inr b) = false := decide_eq_false (fun q => nomatch q)
theorem key_rl (a : Str) (b : Int) : decide ((Sum.inr a : Key) = Sum.inl b) = false := decide_eq_false (fun q => nomatch q)

noncomputable def mixKind (prog : Program) (w : World) : PySem.KeyKind prog w Key where
  is := keyIs
  hash := keyH w
  inj := fun v a b ha hb => by
    rcases keyIs_shape ha with ⟨i, t, rfl, rfl⟩ | ⟨x, t, rfl, rfl⟩
    · rcases keyIs_shape hb with ⟨j, u, rfl, e⟩ | ⟨y, u, rfl, e⟩
      · injection e with e1 _; rw [e1]
      · exact nomatch e
    · rcases keyIs_shape hb with ⟨j, u, rfl, e⟩ | ⟨y, u, rfl, e⟩
      · exact nomatch e
      · injection e with e1 _; rw [e1]
  byValue := fun k v h => by
    rcases keyIs_shape h with ⟨i, t, rfl, rfl⟩ | ⟨x, t, rfl, rfl⟩ <;> rfl
  pyHash := fun hv h => by
    rcases keyIs_shape hv with ⟨i, t, rfl, rfl⟩ | ⟨x, t, rfl, rfl⟩
    · exact wpAny_pyHash_int h
    · exact wpAny_pyHash_str h
  eqBool := fun hu hv h => by
    rcases keyIs_shape hu with ⟨i, t, rfl, rfl⟩ | ⟨x, t, rfl, rfl⟩
    · rcases keyIs_shape hv with ⟨j, u, rfl, rfl⟩ | ⟨y, u, rfl, rfl⟩
      · rw [key_ll] at h; exact wpAny_eqBool_int h
      · rw [key_lr] at h; exact SeqAt.EqAt.int_str i t y u _ _ _ _ h
    · rcases keyIs_shape hv with ⟨j, u, rfl, rfl⟩ | ⟨y, u, rfl, rfl⟩
      · rw [key_rl] at h; exact SeqAt.EqAt.str_int x t j u _ _ _ _ h
      · rw [key_rr] at h; exact wpAny_eqBool_str h
  «strs» := fun k x t v h => by
    rcases keyIs_shape h with ⟨i, u, rfl, e⟩ | ⟨y, u, rfl, e⟩
    · exact nomatch e
    · injection e with e1 _
      subst e1
      cases v <;> rfl

end L2

namespace L2
open PySem PySem.Spec PyProof.Rows

/-- a value, without the heap -/
inductive V where
  | non | bl (b : Bool) | int (i : Int) | str (x : Str) | byt (b : Array UInt8) | flt (b : UInt64) | ref (a : Addr) | ty (n : String)
  deriving DecidableEq

noncomputable def RelV : V → Value → Prop
  | .non, u => u = Value.none
  | .bl b, u => u = Value.bool b
  | .int i, u => ∃ t, u = Value.int i t
  | .str x, u => ∃ t, u = Value.str x t
  | .byt b, u => ∃ t, u = Value.bytes b t
  | .flt b, u => ∃ t, u = Value.float b t
  | .ref a, u => u = Value.ref a
  | .ty n, u => u = Value.type n

noncomputable abbrev Vals : List V → List Value → Prop := Paired RelV
theorem Vals.length {xs : List V} {us : List Value} (r : Vals xs us) : xs.length = us.length := Paired.length r
theorem Vals.get : ∀ {xs : List V} {us : List Value} {i : Nat} {x : V}, Vals xs us → xs[i]? = some x → ∃ u, us[i]? = some u ∧ RelV x u
  | _, _, _, _, .nil, e => by simp at e
  | _, _, 0, _, .cons r _, e => by simp at e; subst e; exact ⟨_, rfl, r⟩
  | _, _, i + 1, x, .cons _ t, e => by
    obtain ⟨u, h1, h2⟩ := Vals.get (i := i) (x := x) t (by simpa using e)
    exact ⟨u, by simpa using h1, h2⟩
theorem Vals.set {x : V} {u : Value} (r : RelV x u) : ∀ {xs : List V} {us : List Value} (i : Nat), Vals xs us → Vals (xs.set i x) (us.set i u)
  | _, _, _, .nil => .nil
  | _, _, 0, .cons _ t => .cons r t
  | _, _, i + 1, .cons q t => .cons q (Vals.set r i t)
theorem Vals.append : ∀ {xs ys : List V} {us ws : List Value}, Vals xs us → Vals ys ws → Vals (xs ++ ys) (us ++ ws)
  | _, _, _, _, .nil, s => s
  | _, _, _, _, .cons r t, s => .cons r (Vals.append t s)
theorem Vals.take : ∀ {xs : List V} {us : List Value} (n : Nat), Vals xs us → Vals (xs.take n) (us.take n)
  | _, _, 0, _ => .nil
  | _, _, _ + 1, .nil => .nil
  | _, _, n + 1, .cons r t => .cons r (Vals.take n t)
theorem Vals.drop : ∀ {xs : List V} {us : List Value} (n : Nat), Vals xs us → Vals (xs.drop n) (us.drop n)
  | _, _, 0, r => r
  | _, _, _ + 1, .nil => .nil
  | _, _, n + 1, .cons _ t => Vals.drop n t
theorem Vals.none_of : ∀ {xs : List V} {us : List Value} {i : Nat}, Vals xs us → xs[i]? = none → us[i]? = none := fun {xs us i} r e => by
  have h1 := r.length
  have h2 : xs.length ≤ i := List.getElem?_eq_none_iff.mp e
  exact List.getElem?_eq_none_iff.mpr (by omega)

noncomputable def RelO : Option V → Option Value → Prop
  | some v, some u => RelV v u
  | none, none => True
  | _, _ => False
noncomputable def KV {κ : Type} : List (κ × V) → List (κ × Value) → Prop := Paired fun (p : κ × V) (q : κ × Value) => p.1 = q.1 ∧ RelV p.2 q.2

/-- a key of a dict (00_mix): an int or a text -/
noncomputable def kV : Key → V
  | .inl i => .int i
  | .inr x => .str x

/-- what stands at a tracked address -/
inductive HO where
  /-- a list -/
  | lst (xs : List V)
  /-- a tuple (never changes) -/
  | tup (xs : List V)
  /-- a dict whose keys are ints and texts; one whose keys are tuples of ints and texts (the empty one is both) -/
  | dK (kvs : List (Key × V)) | dT (kvs : List (List Key × V))
  /-- a set of ints: its members, its size -/
  | set (S : Int → Bool) (n : Nat)
  /-- an instance of the class at C, its dict at dx, its attributes -/
  | ins (C dx : Addr) (fs : List (Str × V))
  /-- the dict of the instance at x -/
  | own (x : Addr)
  /-- the dict of an exception -/
  | xd (fs : List (Str × V))
  /-- a bound method, f of x -/
  | met (f x : Addr)
  /-- a range object lo, lo + 1, .. below hi -/
  | rng (lo hi : Int)
  /-- a thing that is known to the object (the script; a dict while a loop walks it): read, never written while it is so -/
  | frz (o : Obj) (u : HO)
  /-- a code object's table -/
  | tbl (ps : Array Value)
  /-- any other thing, by what is true of its one object (a def of one's own: SetO a S n := HO.ext fun h => ..) -/
  | ext (φ : Heap → Prop)

noncomputable abbrev Hp := Addr → Option HO
noncomputable def upd (H : Hp) (a : Addr) (o : HO) : Hp := fun b => if b = a then some o else H b
theorem upd_same {H : Hp} {a : Addr} {o : HO} : upd H a o a = some o := by unfold upd; rw [if_pos rfl]
theorem upd_ne {H : Hp} {a b : Addr} {o : HO} (h : b ≠ a) : upd H a o b = H b := by unfold upd; rw [if_neg h]
theorem ne_of_none {H : Hp} {a b : Addr} {o : HO} (h : H a = some o) (h' : H b = none) : a ≠ b := by
  intro e; subst e; rw [h] at h'; cases h'

section
variable (P : Program) (w : World)
noncomputable def ObjOk (H : Hp) (h : Heap) (a : Addr) : HO → Prop
  | .lst xs => xs.length ≤ sizeLine ∧ ∃ (its : List Value) (n : Nat), Vals xs its ∧ h.get? a = some { cls := .type "list", data := .seq its.toArray n }
  | .tup xs => xs.length ≤ sizeLine ∧ ∃ its : List Value, Vals xs its ∧ IsTup h a its.toArray
  | .dK kvs => kvs.length ≤ sizeLine ∧ (a == sysModules) = false ∧ ∃ vs, KV kvs vs ∧ h.DictOf (mixKind P w) a vs
  | .dT kvs => kvs.length ≤ sizeLine ∧ (a == sysModules) = false ∧ ∃ xs : List (List Key × Addr × Value),
      Paired (fun (p : List Key × V) (q : List Key × Addr × Value) => p.1 = q.1 ∧ H q.2.1 = some (.tup (p.1.map kV)) ∧ RelV p.2 q.2.2) kvs xs ∧
      ∃ o es ep, h.get? a = some o ∧ o.ExactDict ∧ o.data = .dict es ep ∧ es.toList = xs.map (entryOfKey (tupleKind (mixKind P w))) ∧ (xs.map (·.1)).Nodup
  | .set S n => h.SetOf (intKind P w) a S n
  | .ins C dx fs => H dx = some (.own a) ∧ fs.length ≤ 1000 ∧ dx ≠ a ∧ h.get? a = some (PySem.W.instObj C dx) ∧
      ∃ mA, h.Ns1 dx mA ∧ (∀ f, RelO (fs.lookup f) (mA f)) ∧ PySem.Within mA (fs.map (·.1))
  | .own _ => ∃ o, h.get? a = some o
  | .xd fs => ∃ mA, h.Ns1 a mA ∧ ∀ f, RelO (fs.lookup f) (mA f)
  | .rng lo hi => ∃ t u v, h.get? a = some { cls := .type "range", data := .fields #[.int lo t, .int hi u, .int 1 v] }
  | .frz o u => h.get? a = some o ∧ ObjOk H h a u
  | .tbl ps => h.get? a = some { cls := .none, data := .fields ps }
  | .met f x => h.get? a = some (PySem.W.methodObj (.ref f) (.ref x))
  | .ext φ => φ h ∧ (∃ o, h.get? a = some o) ∧ ∀ h1 h2 : Heap, φ h1 → (∀ o, h1.get? a = some o → h2.get? a = some o) → φ h2
/-- the abstract heap is held -/
noncomputable def HOk (H : Hp) (h : Heap) : Prop := ∀ a o, H a = some o → ObjOk P w H h a o
end

section
variable {P : Program} {w : World} {H H' : Hp} {h h' : Heap} {a : Addr} {o : HO}
theorem ObjOk.lt (x : ObjOk P w H h a o) : a < h.objs.size := by
  cases o with
  | lst xs => obtain ⟨_, _, _, _, e⟩ := x; exact Heap.lt_size e
  | tup xs => obtain ⟨_, _, _, p⟩ := x; exact p.lt
  | dK kvs => obtain ⟨_, _, _, _, o, _, _, e, _⟩ := x; exact Heap.lt_size e
  | dT kvs => obtain ⟨_, _, _, _, o, _, _, e, _⟩ := x; exact Heap.lt_size e
  | set S n => obtain ⟨o, _, _, _, e, _⟩ := x; exact Heap.lt_size e
  | ins C dx fs => obtain ⟨_, _, _, e, _⟩ := x; exact Heap.lt_size e
  | own y => obtain ⟨_, e⟩ := x; exact Heap.lt_size e
  | xd fs => obtain ⟨_, ⟨_, _, _, e, _⟩, _⟩ := x; exact Heap.lt_size e
  | rng lo hi => obtain ⟨_, _, _, e⟩ := x; exact Heap.lt_size e
  | frz ob u => obtain ⟨e, _⟩ := x; exact Heap.lt_size e
  | tbl ps => exact Heap.lt_size (show h.get? a = some _ from x)
  | met f y => exact Heap.lt_size (show h.get? a = some _ from x)
  | ext φ => obtain ⟨_, ⟨_, e⟩, _⟩ := x; exact Heap.lt_size e
theorem Paired.mapP {α β : Type} {F G : α → β → Prop} : ∀ {l₁ : List α} {l₂ : List β}, Paired F l₁ l₂ → (∀ a b, F a b → G a b) → Paired G l₁ l₂
  | _, _, .nil, _ => .nil
  | _, _, .cons r t, f => .cons (f _ _ r) (Paired.mapP t f)
/-- what an object's description leans on: its own object, its own dict, the tuples -/
theorem ObjOk.stay (x : ObjOk P w H h a o) (k : ∀ b u, (b = a ∨ H b = some (.own a)) → h.get? b = some u → h'.get? b = some u)
    (ho : ∀ b, H b = some (.own a) → H' b = some (.own a)) (ht : ∀ b xs, H b = some (.tup xs) → H' b = some (.tup xs)) : ObjOk P w H' h' a o := by
  induction o with
  | lst xs => obtain ⟨z, its, n, r, e⟩ := x; exact ⟨z, its, n, r, k _ _ (.inl rfl) e⟩
  | tup xs => obtain ⟨z, its, r, ob, e, c⟩ := x; exact ⟨z, its, r, ob, k _ _ (.inl rfl) e, c⟩
  | dK kvs => obtain ⟨z, y, vs, r, ob, es, ep, e, c⟩ := x; exact ⟨z, y, vs, r, ob, es, ep, k _ _ (.inl rfl) e, c⟩
  | dT kvs =>
    obtain ⟨z, y, xs, r, ob, es, ep, e, c⟩ := x
    exact ⟨z, y, xs, Paired.mapP r fun p q z => ⟨z.1, ht _ _ z.2.1, z.2.2⟩, ob, es, ep, k _ _ (.inl rfl) e, c⟩
  | set S n => obtain ⟨ob, es, ep, t, e, c⟩ := x; exact ⟨ob, es, ep, t, k _ _ (.inl rfl) e, c⟩
  | ins C dx fs =>
    obtain ⟨d, z, ne, e, mA, ⟨od, es, ep, e2, c⟩, r⟩ := x
    exact ⟨ho _ d, z, ne, k _ _ (.inl rfl) e, mA, ⟨od, es, ep, k _ _ (.inr d) e2, c⟩, r⟩
  | own y => obtain ⟨ob, e⟩ := x; exact ⟨ob, k _ _ (.inl rfl) e⟩
  | xd fs => obtain ⟨mA, ⟨od, es, ep, e, c⟩, r⟩ := x; exact ⟨mA, ⟨od, es, ep, k _ _ (.inl rfl) e, c⟩, r⟩
  | rng lo hi => obtain ⟨t, u, v, e⟩ := x; exact ⟨t, u, v, k _ _ (.inl rfl) e⟩
  | frz ob u ih => obtain ⟨e, q⟩ := x; exact ⟨k _ _ (.inl rfl) e, ih q⟩
  | tbl ps =>
    have e : h.get? a = some { cls := .none, data := .fields ps } := x
    show h'.get? a = some { cls := .none, data := .fields ps }
    exact k a _ (.inl rfl) e
  | met f y =>
    have e : h.get? a = some (PySem.W.methodObj (.ref f) (.ref y)) := x
    show h'.get? a = some (PySem.W.methodObj (.ref f) (.ref y))
    exact k a _ (.inl rfl) e
  | ext φ => obtain ⟨p, ⟨o, e⟩, st⟩ := x; exact ⟨st _ _ p fun o q => k _ _ (.inl rfl) q, ⟨o, k _ _ (.inl rfl) e⟩, st⟩
theorem HOk.lt (x : HOk P w H h) (e : H a = some o) : a < h.objs.size := (x a o e).lt
theorem HOk.fresh (x : HOk P w H h) (e : h.objs.size ≤ a) : H a = none := by
  cases q : H a with
  | none => rfl
  | some u => exact absurd (Nat.lt_of_lt_of_le (x.lt q) e) (Nat.lt_irrefl _)
/-- every object of the heap is kept -/
theorem HOk.kept (x : HOk P w H h) (k : ∀ b u, h.get? b = some u → h'.get? b = some u) : HOk P w H h' := fun a o e =>
  (x a o e).stay (fun b u _ q => k b u q) (fun _ q => q) fun _ _ q => q
/-- a new object is laid and tracked -/
theorem HOk.laid (x : HOk P w H h) (k : ∀ b u, h.get? b = some u → h'.get? b = some u) (hp : h.objs.size ≤ a) (new : ObjOk P w (upd H a o) h' a o) : HOk P w (upd H a o) h' := fun b u e => by
  have hn := x.fresh hp
  by_cases hb : b = a
  · subst hb; rw [upd_same] at e; cases e; exact new
  · rw [upd_ne hb] at e
    exact (x b u e).stay (fun c v _ q => k c v q) (fun c q => by rw [upd_ne (ne_of_none q hn)]; exact q) fun c xs q => by rw [upd_ne (ne_of_none q hn)]; exact q
end

/-- what may be read as u: it is u, or a known u -/
noncomputable def Rd (H : Hp) (a : Addr) (u : HO) : Prop := H a = some u ∨ ∃ o, H a = some (.frz o u)
theorem Rd.of {H : Hp} {a : Addr} {u : HO} (h : H a = some u) : Rd H a u := .inl h
theorem Rd.ok {P : Program} {w : World} {H : Hp} {h : Heap} {a : Addr} {u : HO} (r : Rd H a u) (x : HOk P w H h) : ObjOk P w H h a u := by
  rcases r with r | ⟨o, r⟩
  · exact x a u r
  · obtain ⟨_, q⟩ := x a _ r
    exact q
/-- what may be written -/
noncomputable def Mut : Option HO → Prop
  | some (.lst _) => True
  | some (.dK _) => True
  | some (.dT _) => True
  | some (.set _ _) => True
  | some (.ins _ _ _) => True
  | some (.ext _) => True
  | _ => False
section
variable {P : Program} {w : World} {H : Hp} {h h' : Heap} {x e : Addr} {o' : HO}
/-- the object at e is changed: x itself, or the dict of the instance x -/
theorem HOk.write (ok : HOk P w H h) (mu : Mut (H x)) (he : e = x ∨ H e = some (.own x)) (k : ∀ b u, b ≠ e → h.get? b = some u → h'.get? b = some u) (heo : ∃ u, h'.get? e = some u)
    (new : ObjOk P w (upd H x o') h' x o') : HOk P w (upd H x o') h' := fun b u q => by
  have nown : ∀ c y, H c = some (.own y) → c ≠ x := fun c y r z => by subst z; rw [r] at mu; exact mu
  have ntup : ∀ c xs, H c = some (.tup xs) → c ≠ x := fun c xs r z => by subst z; rw [r] at mu; exact mu
  by_cases hb : b = x
  · subst hb; rw [upd_same] at q; cases q; exact new
  · rw [upd_ne hb] at q
    by_cases hbe : b = e
    · have q' : H b = some (.own x) := by
        rcases he with z | z
        · exact absurd (hbe.trans z) hb
        · rw [hbe]; exact z
      rw [q] at q'; cases q'
      obtain ⟨v, hv⟩ := heo
      exact ⟨v, by rw [hbe]; exact hv⟩
    · refine (ok b u q).stay (fun c v hc r => k c v ?_ r) (fun c r => by rw [upd_ne (nown c b r)]; exact r) fun c xs r => by rw [upd_ne (ntup c xs r)]; exact r
      rcases hc with rfl | hc
      · exact hbe
      · rintro rfl
        rcases he with z | z
        · exact nown c b hc z
        · rw [hc] at z; cases z; exact hb rfl
end

/-! ### kept unless tracked; of the frames at fs (the callers') the slots may change (an exception that passes writes there); of the records at ex (iterators) nothing is said -/
structure Un (fs ex : List Addr) (H H' : Hp) (h h' : Heap) : Prop where
  keep : ∀ b o, h.get? b = some o → H b = none → b ∉ fs → b ∉ ex → h'.get? b = some o
  slot : ∀ b o, h.get? b = some o → H b = none → b ∈ fs → b ∉ ex → ∃ sl, h'.get? b = some { o with slots := sl }
  free : ∀ b o, h.get? b = some o → H b = none → b ∉ ex → H' b = none
  there : ∀ b o, h.get? b = some o → b ∉ ex → ∃ o', h'.get? b = some o'
  tups : ∀ b xs, H b = some (.tup xs) → H' b = some (.tup xs)
  frzs : ∀ b o u, H b = some (.frz o u) → H' b = some (.frz o u)
  tbls : ∀ b ps, H b = some (.tbl ps) → ∃ more, H' b = some (.tbl (ps ++ more))
section
variable {fs fs' ex ex' : List Addr} {H H1 H2 : Hp} {h h1 h2 h' : Heap} {a x e : Addr} {o : HO}
theorem Un.any (u : Un fs ex H H1 h h1) {b : Addr} {ob : Obj} (q : h.get? b = some ob) (n : H b = none) (hx : b ∉ ex) : ∃ sl, h1.get? b = some { ob with slots := sl } := by
  by_cases hb : b ∈ fs
  · exact u.slot b ob q n hb hx
  · exact ⟨ob.slots, u.keep b ob q n hb hx⟩
theorem Un.trans (a : Un fs ex H H1 h h1) (b : Un fs ex H1 H2 h1 h2) : Un fs ex H H2 h h2 where
  keep := fun c ob q n hc hx => b.keep c ob (a.keep c ob q n hc hx) (a.free c ob q n hx) hc hx
  slot := fun c ob q n hc hx => by
    obtain ⟨sl, e1⟩ := a.slot c ob q n hc hx
    obtain ⟨sl', e2⟩ := b.slot c _ e1 (a.free c ob q n hx) hc hx
    exact ⟨sl', e2⟩
  free := fun c ob q n hx => by
    obtain ⟨o', e1⟩ := a.there c ob q hx
    exact b.free c o' e1 (a.free c ob q n hx) hx
  there := fun c ob q hx => by
    obtain ⟨o', e1⟩ := a.there c ob q hx
    exact b.there c o' e1 hx
  tups := fun c xs q => b.tups c xs (a.tups c xs q)
  frzs := fun c ob xs q => b.frzs c ob xs (a.frzs c ob xs q)
  tbls := fun c ps q => by
    obtain ⟨m1, e1⟩ := a.tbls c ps q
    obtain ⟨m2, e2⟩ := b.tbls c _ e1
    exact ⟨m1 ++ m2, by rw [e2, Array.append_assoc]⟩
theorem Un.kept (k : ∀ b u, h.get? b = some u → h'.get? b = some u) : Un fs ex H H h h' :=
  ⟨fun b ob q _ _ _ => k b ob q, fun b ob q _ _ _ => ⟨ob.slots, k b ob q⟩, fun _ _ _ n _ => n, fun b ob q _ => ⟨ob, k b ob q⟩, fun _ _ q => q, fun _ _ _ q => q, fun _ ps q => ⟨#[], by rw [q]; simp⟩⟩
theorem Un.refl : Un fs ex H H h h := Un.kept fun _ _ q => q
theorem Un.laid (k : ∀ b u, h.get? b = some u → h'.get? b = some u) (hp : h.objs.size ≤ a) (hn : H a = none) : Un fs ex H (upd H a o) h h' where
  keep := fun b u q _ _ _ => k b u q
  slot := fun b u q _ _ _ => ⟨u.slots, k b u q⟩
  free := fun b u q n _ => by rw [upd_ne (Nat.ne_of_lt (Nat.lt_of_lt_of_le (Heap.lt_size q) hp))]; exact n
  there := fun b u q _ => ⟨u, k b u q⟩
  tups := fun b xs q => by rw [upd_ne (ne_of_none q hn)]; exact q
  frzs := fun b u xs q => by rw [upd_ne (ne_of_none q hn)]; exact q
  tbls := fun b ps q => ⟨#[], by rw [upd_ne (ne_of_none q hn), q]; simp⟩
theorem Un.write (mu : Mut (H x)) (he : e = x ∨ H e = some (.own x)) (k : ∀ b u, b ≠ e → h.get? b = some u → h'.get? b = some u) (heo : ∃ u, h'.get? e = some u) : Un fs ex H (upd H x o) h h' := by
  have hx : ∀ b, H b = none → b ≠ x := fun b n z => by subst z; rw [n] at mu; exact mu
  have hb : ∀ b, H b = none → b ≠ e := fun b n z => by
    subst z
    rcases he with r | r
    · exact hx b n r
    · rw [n] at r; cases r
  have hm : ∀ b u, H b = some u → ¬ Mut (some u) → b ≠ x := fun b u q nm z => by subst z; rw [q] at mu; exact nm mu
  refine ⟨fun b u q n _ _ => k b u (hb b n) q, fun b u q n _ _ => ⟨u.slots, k b u (hb b n) q⟩, fun b u q n _ => by rw [upd_ne (hx b n)]; exact n, fun b u q _ => ?_,
    fun b xs q => by rw [upd_ne (hm b _ q fun z => z)]; exact q, fun b u xs q => by rw [upd_ne (hm b _ q fun z => z)]; exact q, fun b ps q => ⟨#[], by rw [upd_ne (hm b _ q fun z => z), q]; simp⟩⟩
  by_cases hbe : b = e
  · subst hbe; exact heo
  · exact ⟨u, k b u hbe q⟩
theorem Un.mono (u : Un fs ex H H1 h h1) (hs : ∀ b ∈ fs, b ∈ fs') (hx : ∀ b ∈ ex, b ∈ ex') : Un fs' ex' H H1 h h1 :=
  ⟨fun b ob q n hb he => u.keep b ob q n (fun z => hb (hs b z)) fun z => he (hx b z), fun _ _ q n _ he => u.any q n fun z => he (hx _ z), fun b ob q n he => u.free b ob q n fun z => he (hx b z), fun b ob q he => u.there b ob q fun z => he (hx b z), u.tups, u.frzs, u.tbls⟩
end

/-! ### the heap without what is tracked -/
noncomputable def trk (h : Heap) (H : Hp) : List Addr := (List.range h.objs.size).filter fun a => (H a).isSome
noncomputable def hidT (h : Heap) (H : Hp) : Heap := PySem.W.hideAll h (trk h H)
theorem hidT_size (h : Heap) (H : Hp) : (hidT h H).objs.size = h.objs.size := PySem.W.hideAll_size _ _
theorem hidT_get {h : Heap} {H : Hp} {b : Addr} {o : Obj} (e : h.get? b = some o) (n : H b = none) : (hidT h H).get? b = some o :=
  PySem.W.hideAll_get _ e fun hm => by
    have q : (H b).isSome = true := (List.mem_filter.mp hm).2
    rw [n] at q; simp at q
theorem of_hidT {h : Heap} {H : Hp} {b : Addr} {o : Obj} (e : (hidT h H).get? b = some o) : h.get? b = some o ∧ H b = none := by
  have e' : h.get? b = some o := PySem.W.of_hideAll (trk h H) e
  refine ⟨e', ?_⟩
  cases q : H b with
  | none => rfl
  | some x =>
    have hm : b ∈ trk h H := List.mem_filter.mpr ⟨List.mem_range.mpr (Heap.lt_size e'), by simp [q]⟩
    have z : (hidT h H).get? b = none := PySem.W.hideAll_none (trk h H) hm
    rw [z] at e; cases e

/-! ### OpenK's ledger, filled with every new object but one -/
noncomputable def allNews (g h : Heap) (L : Addr) : List (Addr × Obj) := (List.range h.objs.size).filterMap fun a => if a = L ∨ (g.get? a).isSome = true then none else (h.get? a).map fun o => (a, o)
noncomputable def rest (g h : Heap) (L d : Addr) : List (Addr × Obj) := (allNews g h L).filter fun p => decide (p.1 ≠ d)
end L2

namespace L2
open PySem PySem.Spec PyProof.Rows

/-- the module's facts, over the base: the heap at the law's entry without what is tracked there -/
structure Mod (K : PySem.W.Frag) (mg : Str → Option Value) (base : Heap) : Prop where
  kin : K.In base
  glob : base.Ns mainGlobals mg
  blt : ∃ mb, base.Ns builtinsNs mb ∧ ∀ x : Str, x ≠ "__name__" → mb x = bootBuiltins x
  nolimit : base.NoLimit

/-- the context: a def's body (or a comprehension's block) running. base: fixed through the whole law; s₀, H₀: the entry; outer: the frames whose slots others may change (a def's callers); stack: all frames that run;
   ex: iterators that were made ahead of the entry and are walked here (a comprehension's); fn: the names whose cells were made at the entry (a def: all; a comprehension's block: its own); calm: not within an except suite; pn: pins that every state bears; xe: what is wanted of an exception that leaves the code -/
structure Cx where
  prog : Program
  w : World
  K : PySem.W.Frag
  mg : Str → Option Value
  base : Heap
  A : Around
  N : List Str
  s₀ : Shared
  H₀ : Hp
  env : Env
  outer : List Env
  stack : List Env
  ex : List Addr
  fn : Str → Bool
  calm : Bool
  pn : List (Addr × Obj)
  xe : Value → Shared → Prop
/-- the callers' frames -/
noncomputable def frs (l : List Env) : List Addr := l.filterMap (·.frame)
noncomputable abbrev Cx.fs (X : Cx) : List Addr := frs X.outer

noncomputable def Vis (sc : Scope) (x : Str) : Prop := sc.names.lookup x = some .local ∨ sc.names.lookup x = some .cell ∨ sc.names.lookup x = some .free
noncomputable def Loc (sc : Scope) (x : Str) : Prop := sc.names.lookup x = some .local ∨ sc.names.lookup x = some .cell
noncomputable def Look (env : Env) (h : Heap) (m : Str → Option Value) (x : Str) (u : Value) : Prop :=
  (env.kindOf x = some .local ∧ m x = some u) ∨ ((env.kindOf x = some .cell ∨ env.kindOf x = some .free) ∧ ∃ c, env.cells.lookup x = some c ∧ h.IsCell c (some u))

structure Cx.Ok (X : Cx) : Prop where
  mod : Mod X.K X.mg X.base
  kind : X.env.scope.kind = .function
  glob : X.env.globals = mainGlobals
  blt : X.env.builtins = builtinsNs
  above : X.s₀.heap.objs.size ≤ X.env.locals
  inj : ∀ x y c, X.env.cells.lookup x = some c → X.env.cells.lookup y = some c → x = y
  has : ∀ x, (X.env.kindOf x = some .cell ∨ X.env.kindOf x = some .free) → ∃ c, X.env.cells.lookup x = some c
  cab : ∀ x c, X.fn x = true → X.env.cells.lookup x = some c → X.s₀.heap.objs.size ≤ c
  hd : X.calm = true → X.A.handled = none
  frames : X.A.frames = some X.stack
  stk : X.stack = X.outer ∨ (X.stack = X.env :: X.outer ∧ X.env.frame = some X.env.locals)
  exf : ∀ b ∈ X.ex, b ≠ X.env.locals ∧ ∀ x c, X.env.cells.lookup x = some c → c ≠ b
  bs : ∀ b o, X.base.get? b = some o → X.s₀.heap.get? b = some o ∧ X.H₀ b = none
  bsz : X.base.objs.size ≤ X.s₀.heap.objs.size
  noex : ∀ b o, X.base.get? b = some o → b ∉ X.ex
  exfs : ∀ b ∈ X.ex, b ∉ X.fs
  funs : X.s₀.heap.FunFrames X.base X.outer
  frf : ∀ b ∈ X.fs, X.H₀ b = none

structure Inv (X : Cx) (pins : List (Addr × Obj)) (σ : List (Option V)) (H : Hp) (s : Shared) : Prop where
  ok : X.Ok
  os : s.os = X.s₀.os
  bare : AllBare s.gens
  base : Un X.fs X.ex X.H₀ H X.s₀.heap s.heap
  loc : ∃ m, s.heap.Ns X.env.locals m ∧ ∀ (i : Nat) (x : Str) (v : V), X.N[i]? = some x → σ[i]? = some (some v) → Vis X.env.scope x → ∃ u, RelV v u ∧ Look X.env s.heap m x u
  cell : ∀ x c, X.env.cells.lookup x = some c → ∃ v, s.heap.IsCell c v
  free : H X.env.locals = none
  freeC : ∀ x c, X.env.cells.lookup x = some c → H c = none
  pin : ∀ p ∈ X.pn ++ pins, s.heap.get? p.1 = some p.2 ∧ H p.1 = none ∧ p.1 ≠ X.env.locals ∧ p.1 ∉ X.fs ∧ ∀ v, p.2.data ≠ .cell v
  hok : HOk X.prog X.w H s.heap
  len : σ.length = X.N.length

section
variable {X : Cx} {pins : List (Addr × Obj)} {σ : List (Option V)} {H H' : Hp} {s : Shared} {h' : Heap}

theorem Cx.Ok.nofr (ok : X.Ok) {b : Addr} {o : Obj} (e : X.base.get? b = some o) : b ∉ X.fs := fun hb => by
  have := (ok.funs.mem hb).1
  rw [e] at this; cases this
theorem Inv.bs (I : Inv X pins σ H s) : ∀ b o, X.base.get? b = some o → s.heap.get? b = some o ∧ H b = none := fun b o e =>
  ⟨I.base.keep b o (I.ok.bs b o e).1 (I.ok.bs b o e).2 (I.ok.nofr e) (I.ok.noex b o e), I.base.free b o (I.ok.bs b o e).1 (I.ok.bs b o e).2 (I.ok.noex b o e)⟩
theorem Inv.bk (I : Inv X pins σ H s) : ∀ b o, X.base.get? b = some o → s.heap.get? b = some o := fun b o e => (I.bs b o e).1
theorem Inv.mod (I : Inv X pins σ H s) : Mod X.K X.mg X.base := I.ok.mod
theorem Inv.kIn (I : Inv X pins σ H s) : X.K.In s.heap := I.ok.mod.kin.keeps I.bk
theorem Inv.nolimit (I : Inv X pins σ H s) : s.heap.NoLimit := I.ok.mod.nolimit.keeps I.bk
/-- the frame over the base: for OpenK's rules (K.In X.base is I.mod.kin) -/
theorem Inv.fr (I : Inv X pins σ H s) : ∃ m, Fr X.base X.env.locals s.heap m :=
  let ⟨m, hn, _⟩ := I.loc
  ⟨m, hn, I.bk, Nat.le_trans I.ok.bsz I.ok.above⟩
theorem Inv.lt (I : Inv X pins σ H s) : X.env.locals < s.heap.objs.size := let ⟨_, hn, _⟩ := I.loc; hn.lt
theorem Inv.sz (I : Inv X pins σ H s) : X.s₀.heap.objs.size ≤ s.heap.objs.size := Nat.le_trans I.ok.above (Nat.le_of_lt I.lt)
theorem Inv.nofs (I : Inv X pins σ H s) {a : Addr} (h : s.heap.objs.size ≤ a) : a ∉ X.fs := fun hb => by
  obtain ⟨_, o, ho, _⟩ := I.ok.funs.mem hb
  exact absurd (Nat.lt_of_lt_of_le (Heap.lt_size ho) (Nat.le_trans I.sz h)) (Nat.lt_irrefl _)
theorem Inv.cne (I : Inv X pins σ H s) : ∀ x c, X.env.cells.lookup x = some c → c ≠ X.env.locals := fun x c e z => by
  obtain ⟨v, o, ho, hd⟩ := I.cell x c e
  obtain ⟨m, ⟨o', es, ep, ho', hd', _⟩, _⟩ := I.loc
  rw [z, ho'] at ho; cases ho; rw [hd'] at hd; cases hd
theorem Inv.funs (I : Inv X pins σ H s) : s.heap.FunFrames X.base X.outer := by
  have all : ∀ (l : List Env), (∀ b ∈ frs l, b ∈ X.fs) → X.s₀.heap.FunFrames X.base l → s.heap.FunFrames X.base l := by
    intro l
    induction l with
    | nil => intro _ _; trivial
    | cons env r ih =>
      intro hs hl
      obtain ⟨hk, ⟨L, o, hf, hn, ho, hd⟩, hr⟩ := hl
      have hL : L ∈ X.fs := hs L (by unfold frs; rw [List.filterMap_cons, hf]; exact List.mem_cons_self)
      obtain ⟨sl, e⟩ := I.base.slot L o ho (I.ok.frf L hL) hL fun z => I.ok.exfs L z hL
      exact ⟨hk, ⟨L, _, hf, hn, e, hd⟩, ih (fun b hb => hs b (by unfold frs; rw [List.filterMap_cons, hf]; exact List.mem_cons_of_mem _ hb)) hr⟩
  exact all X.outer (fun _ hb => hb) I.ok.funs

/-- the frames that run, for a call -/
theorem Inv.stack (I : Inv X pins σ H s) : s.heap.FunFrames X.base X.stack := by
  rcases I.ok.stk with e | ⟨e, hf⟩
  · rw [e]; exact I.funs
  · rw [e]
    obtain ⟨m, hn, _⟩ := I.loc
    refine .cons (by rw [I.ok.kind]; decide) hf hn ?_ I.funs
    exact Heap.get?_none_of_le (Nat.le_trans I.ok.bsz I.ok.above)
theorem Inv.stkSub (I : Inv X pins σ H s) : ∀ b ∈ frs X.stack, b ∈ X.env.locals :: X.fs := fun b hb => by
  rcases I.ok.stk with e | ⟨e, hf⟩
  · rw [e] at hb; exact List.mem_cons_of_mem _ hb
  · rw [e] at hb
    unfold frs at hb
    rw [List.filterMap_cons, hf] at hb
    exact hb
theorem Inv.stkFree (I : Inv X pins σ H s) : ∀ b ∈ frs X.stack, H b = none := fun b hb => by
  rcases List.mem_cons.mp (I.stkSub b hb) with e | hb
  · rw [e]; exact I.free
  · obtain ⟨_, o, ho, _⟩ := I.ok.funs.mem hb
    exact I.base.free b o ho (I.ok.frf b hb) fun z => I.ok.exfs b z hb

/-- THE STEP: the untracked objects but the frame and the records at ch are kept (the callers' frames up to slots), the frame's map is kept, the new abstract heap is held -/
theorem Inv.step {g' : Array GenState} {t' : Nat} {d' : Drawn} {ch : List Addr} (I : Inv X pins σ H s)
    (hch : ∀ b ∈ ch, (b ∈ X.ex ∨ X.s₀.heap.objs.size ≤ b) ∧ b ≠ X.env.locals ∧ (∀ x c, X.env.cells.lookup x = some c → c ≠ b) ∧ ∀ p ∈ X.pn ++ pins, p.1 ≠ b)
    (keep : ∀ b o, b ≠ X.env.locals → b ∉ X.fs → b ∉ ch → s.heap.get? b = some o → H b = none → h'.get? b = some o)
    (slot : ∀ b o, b ≠ X.env.locals → b ∈ X.fs → b ∉ ch → s.heap.get? b = some o → H b = none → ∃ sl, h'.get? b = some { o with slots := sl }) (free : ∀ b o, b ∉ ch → s.heap.get? b = some o → H b = none → H' b = none)
    (there : ∀ b o, b ∉ ch → s.heap.get? b = some o → ∃ o', h'.get? b = some o')
    (tups : ∀ b xs, H b = some (.tup xs) → H' b = some (.tup xs)) (frzs : ∀ b o u, H b = some (.frz o u) → H' b = some (.frz o u)) (tbls : ∀ b ps, H b = some (.tbl ps) → ∃ more, H' b = some (.tbl (ps ++ more)))
    (ns : ∀ m, s.heap.Ns X.env.locals m → h'.Ns X.env.locals m) (hok : HOk X.prog X.w H' h') (hg : AllBare g') :
    Inv X pins σ H' { s with heap := h', gens := g', drawn := d', toks := t' } := by
  have neL : ∀ b o, X.s₀.heap.get? b = some o → b ≠ X.env.locals := fun b o e => Nat.ne_of_lt (Nat.lt_of_lt_of_le (Heap.lt_size e) I.ok.above)
  have neC : ∀ b o, X.s₀.heap.get? b = some o → b ∉ X.ex → b ∉ ch := fun b o e hx hb => by
    rcases (hch b hb).1 with z | z
    · exact hx z
    · exact absurd (Nat.lt_of_lt_of_le (Heap.lt_size e) z) (Nat.lt_irrefl _)
  have cellK : ∀ x c, X.env.cells.lookup x = some c → ∀ v, s.heap.IsCell c v → h'.IsCell c v := fun x c e v ⟨o, ho, hd⟩ => by
    have nch : c ∉ ch := fun z => (hch c z).2.2.1 x c e rfl
    by_cases hc : c ∈ X.fs
    · obtain ⟨sl, q⟩ := slot c o (I.cne x c e) hc nch ho (I.freeC x c e)
      exact ⟨_, q, hd⟩
    · exact ⟨o, keep c o (I.cne x c e) hc nch ho (I.freeC x c e), hd⟩
  refine ⟨I.ok, I.os, hg, ⟨fun b o e n hb hx => ?_, fun b o e n hb hx => ?_, fun b o e n hx => ?_, fun b o e hx => ?_, fun b xs e => tups b xs (I.base.tups b xs e), fun b o xs e => frzs b o xs (I.base.frzs b o xs e), fun b ps e => ?_⟩, ?_, fun x c e => ?_, ?_, fun x c e => ?_, fun p hp => ?_, hok, I.len⟩
  · exact keep b o (neL b o e) hb (neC b o e hx) (I.base.keep b o e n hb hx) (I.base.free b o e n hx)
  · obtain ⟨sl, e1⟩ := I.base.slot b o e n hb hx
    obtain ⟨sl', e2⟩ := slot b _ (neL b o e) hb (neC b o e hx) e1 (I.base.free b o e n hx)
    exact ⟨sl', e2⟩
  · obtain ⟨o', e1⟩ := I.base.there b o e hx
    exact free b o' (neC b o e hx) e1 (I.base.free b o e n hx)
  · obtain ⟨o', e1⟩ := I.base.there b o e hx
    exact there b o' (neC b o e hx) e1
  · obtain ⟨m1, e1⟩ := I.base.tbls b ps e
    obtain ⟨m2, e2⟩ := tbls b _ e1
    exact ⟨m1 ++ m2, by rw [e2, Array.append_assoc]⟩
  · obtain ⟨m, hn, hl⟩ := I.loc
    refine ⟨m, ns m hn, fun i x v e1 e2 e3 => ?_⟩
    obtain ⟨u, r, l⟩ := hl i x v e1 e2 e3
    refine ⟨u, r, ?_⟩
    rcases l with l | ⟨k, c, e, z⟩
    · exact .inl l
    · exact .inr ⟨k, c, e, cellK x c e _ z⟩
  · obtain ⟨v, z⟩ := I.cell x c e
    exact ⟨v, cellK x c e v z⟩
  · obtain ⟨m, ⟨o, _, _, ho, _⟩, _⟩ := I.loc
    exact free _ o (fun z => (hch _ z).2.1 rfl) ho I.free
  · obtain ⟨v, o, ho, hd⟩ := I.cell x c e
    exact free c o (fun z => (hch c z).2.2.1 x c e rfl) ho (I.freeC x c e)
  · obtain ⟨e, n, ne, nf, d⟩ := I.pin p hp
    have nch : p.1 ∉ ch := fun z => (hch p.1 z).2.2.2 p hp rfl
    exact ⟨keep p.1 p.2 ne nf nch e n, free p.1 p.2 nch e n, ne, nf, d⟩
/-- .. where the frame's own object is kept too -/
theorem Inv.un {t' : Nat} (I : Inv X pins σ H s) (u : Un X.fs [] H H' s.heap h') (hok : HOk X.prog X.w H' h') : Inv X pins σ H' { s with heap := h', toks := t' } := by
  obtain ⟨m, ⟨o, es, ep, ho, r⟩, _⟩ := id I.loc
  obtain ⟨sl, hL⟩ := u.any ho I.free (by simp)
  exact I.step (g' := s.gens) (d' := s.drawn) (ch := []) (fun _ z => nomatch z) (fun b o _ hb _ e n => u.keep b o e n hb (by simp)) (fun b o _ hb _ e n => u.slot b o e n hb (by simp)) (fun b o _ e n => u.free b o e n (by simp)) (fun b o _ e => u.there b o e (by simp)) u.tups u.frzs u.tbls (fun m' hm => by
    obtain ⟨o', es', ep', ho', r'⟩ := hm
    rw [ho] at ho'; cases ho'
    exact ⟨_, es', ep', hL, r'⟩) hok I.bare
/-- behind a call (or a comprehension's block): the slots of this frame may have changed too, the records at ch may have turned -/
theorem Inv.call {g' : Array GenState} {t' : Nat} {d' : Drawn} {ch : List Addr} (I : Inv X pins σ H s) (u : Un (frs X.stack) ch H H' s.heap h') (hok : HOk X.prog X.w H' h') (hg : AllBare g')
    (hch : ∀ b ∈ ch, (b ∈ X.ex ∨ X.s₀.heap.objs.size ≤ b) ∧ b ≠ X.env.locals ∧ (∀ x c, X.env.cells.lookup x = some c → c ≠ b) ∧ ∀ p ∈ X.pn ++ pins, p.1 ≠ b) :
    Inv X pins σ H' { s with heap := h', gens := g', drawn := d', toks := t' } := by
  obtain ⟨m, ⟨o, es, ep, ho, r⟩, _⟩ := id I.loc
  obtain ⟨sl, hL⟩ := u.any ho I.free fun z => (hch _ z).2.1 rfl
  exact I.step (ch := ch) hch (fun b o hL hb hc e n => u.keep b o e n (fun z => (List.mem_cons.mp (I.stkSub b z)).elim hL hb) hc) (fun b o _ _ hc e n => u.any e n hc) (fun b o hc e n => u.free b o e n hc) (fun b o hc e => u.there b o e hc) u.tups u.frzs u.tbls (fun m' hm => by
    obtain ⟨o', es', ep', ho', r'⟩ := hm
    rw [ho] at ho'; cases ho'
    exact ⟨_, es', ep', hL, r'⟩) hok hg
/-- an untracked record of ours (an iterator) has turned -/
theorem Inv.turned {t' : Nat} {it : Addr} (I : Inv X pins σ H s) (k : ∀ b o, b ≠ it → s.heap.get? b = some o → h'.get? b = some o) (hn : H it = none) (hL : it ≠ X.env.locals)
    (h1 : it ∈ X.ex ∨ X.s₀.heap.objs.size ≤ it) (h2 : ∀ x c, X.env.cells.lookup x = some c → c ≠ it) (h3 : ∀ p ∈ X.pn ++ pins, p.1 ≠ it) : Inv X pins σ H { s with heap := h', toks := t' } := by
  have nit : ∀ b u, H b = some u → b ≠ it := fun b u e z => by rw [z, hn] at e; cases e
  refine I.step (g' := s.gens) (d' := s.drawn) (ch := [it]) (fun b hb => ?_) (fun b o _ _ hc e _ => k b o (fun z => hc (by simp [z])) e) (fun b o _ _ hc e _ => ⟨o.slots, k b o (fun z => hc (by simp [z])) e⟩) (fun _ _ _ _ n => n)
    (fun b o hc e => ⟨o, k b o (fun z => hc (by simp [z])) e⟩) (fun _ _ e => e) (fun _ _ _ e => e) (fun b ps e => ⟨#[], by rw [e]; simp⟩) (fun m hm => ?_) (fun b u e => ?_) I.bare
  · have e : b = it := by simpa using hb
    subst e
    exact ⟨h1, hL, h2, h3⟩
  · obtain ⟨o, es, ep, ho, r⟩ := hm
    exact ⟨o, es, ep, k _ o (Ne.symm hL) ho, r⟩
  · refine (I.hok b u e).stay (fun c v hc q => k c v ?_ q) (fun _ q => q) fun _ _ q => q
    rcases hc with z | z
    · rw [z]; exact nit b u e
    · exact nit c _ z
theorem Inv.tok (I : Inv X pins σ H s) (t : Nat) : Inv X pins σ H { s with toks := t } := I.un (h' := s.heap) (t' := t) Un.refl I.hok
/-- all objects kept -/
theorem Inv.kept {t' : Nat} (I : Inv X pins σ H s) (k : ∀ b u, s.heap.get? b = some u → h'.get? b = some u) : Inv X pins σ H { s with heap := h', toks := t' } := I.un (Un.kept k) (I.hok.kept k)
/-- a new object laid and tracked -/
theorem Inv.laid {a : Addr} {o : HO} {t' : Nat} (I : Inv X pins σ H s) (k : ∀ b u, s.heap.get? b = some u → h'.get? b = some u) (hp : s.heap.objs.size ≤ a) (new : ObjOk X.prog X.w (upd H a o) h' a o) :
    Inv X pins σ (upd H a o) { s with heap := h', toks := t' } := I.un (Un.laid k hp (I.hok.fresh hp)) (I.hok.laid k hp new)
/-- an object written -/
theorem Inv.write {x e : Addr} {o : HO} {t' : Nat} (I : Inv X pins σ H s) (mu : Mut (H x)) (he : e = x ∨ H e = some (.own x)) (k : ∀ b u, b ≠ e → s.heap.get? b = some u → h'.get? b = some u) (heo : ∃ u, h'.get? e = some u)
    (new : ObjOk X.prog X.w (upd H x o) h' x o) : Inv X pins σ (upd H x o) { s with heap := h', toks := t' } := I.un (Un.write mu he k heo) (I.hok.write mu he k heo new)
theorem Inv.pins_of {pins' : List (Addr × Obj)} (I : Inv X pins σ H s) (h : ∀ p ∈ pins', s.heap.get? p.1 = some p.2 ∧ H p.1 = none ∧ p.1 ≠ X.env.locals ∧ p.1 ∉ X.fs ∧ ∀ v, p.2.data ≠ .cell v) : Inv X pins' σ H s :=
  ⟨I.ok, I.os, I.bare, I.base, I.loc, I.cell, I.free, I.freeC, fun p hp => (List.mem_append.mp hp).elim (fun z => I.pin p (List.mem_append_left _ z)) (h p), I.hok, I.len⟩

theorem nodup_ix {N : List Str} (hN : N.Nodup) {i j : Nat} {x : Str} (a : N[i]? = some x) (b : N[j]? = some x) : i = j := by
  obtain ⟨h1, e1⟩ := List.getElem?_eq_some_iff.mp a
  obtain ⟨h2, e2⟩ := List.getElem?_eq_some_iff.mp b
  exact (List.getElem_inj hN).mp (e1.trans e2.symm)

/-- a name is stored; what changed -/
theorem store_ok2 {M : Model} {A : Around} {E : Value → Shared → Prop} {i : Nat} {x : Str} {v : V} {u : Value} {Q : Unit → Shared → Prop} (I : Inv X pins σ H s) (hN : X.N.Nodup) (hi : X.N[i]? = some x) (hx : Loc X.env.scope x) (r : RelV v u)
    (h : ∀ s', Inv X pins (σ.set i (some v)) H s' → (∃ a, Heap.SameBut a s.heap s'.heap ∧ (a = X.env.locals ∨ X.env.cells.lookup x = some a)) → Q () s') (hf : X.fn x = true ∨ X.env.scope.names.lookup x = some .local := by first | exact .inl rfl | exact .inr rfl | assumption) : wpAny M A (storeName X.env x u) Q E s := by
  obtain ⟨m, hn, hl⟩ := id I.loc
  have hcls : (X.env.scope.kind == .class || (X.env.scope.kind == .module && X.env.locals != X.env.globals)) = false := by rw [I.ok.kind]; rfl
  have hiσ : i < σ.length := by rw [I.len]; exact (List.getElem?_eq_some_iff.mp hi).1
  have cne := I.cne
  have tracked : ∀ {a : Addr} {h' : Heap}, (∃ o, s.heap.get? a = some o ∧ H a = none) → Heap.SameBut a s.heap h' → HOk X.prog X.w H h' := fun {a h'} ha hs b ob e => by
    obtain ⟨_, _, hfree⟩ := ha
    refine (I.hok b ob e).stay (fun c w' hc q => (hs.2 c ?_).trans q) (fun _ q => q) fun _ _ q => q
    rintro rfl
    rcases hc with rfl | hc
    · rw [hfree] at e; cases e
    · rw [hfree] at hc; cases hc
  rcases hx with hk | hk
  · refine wpAny_storeName_local hk hn (fun h' hn' hs => ?_) hcls
    obtain ⟨oL, _, _, hoL, _⟩ := id hn
    refine h _ ⟨I.ok, I.os, I.bare, ⟨fun b o e n hb hx => ?_, fun b o e n hb hx => ?_, I.base.free, fun b o e hx => ?_, I.base.tups, I.base.frzs, I.base.tbls⟩, ⟨_, hn', fun j y v' e1 e2 e3 => ?_⟩, fun y c e => ?_, I.free, I.freeC, fun p hp => ?_, tracked ⟨oL, hoL, I.free⟩ hs, by simpa using I.len⟩ ⟨_, hs, .inl rfl⟩
    · exact (hs.2 b (Nat.ne_of_lt (Nat.lt_of_lt_of_le (Heap.lt_size e) I.ok.above))).trans (I.base.keep b o e n hb hx)
    · obtain ⟨sl, e1⟩ := I.base.slot b o e n hb hx
      exact ⟨sl, (hs.2 b (Nat.ne_of_lt (Nat.lt_of_lt_of_le (Heap.lt_size e) I.ok.above))).trans e1⟩
    · obtain ⟨o', e1⟩ := I.base.there b o e hx
      exact ⟨o', (hs.2 b (Nat.ne_of_lt (Nat.lt_of_lt_of_le (Heap.lt_size e) I.ok.above))).trans e1⟩
    · by_cases hj : j = i
      · subst hj
        rw [hi] at e1; cases e1
        rw [List.getElem?_set_self hiσ] at e2
        cases e2
        exact ⟨u, r, .inl ⟨hk, by simp⟩⟩
      · rw [List.getElem?_set_ne (Ne.symm hj)] at e2
        obtain ⟨u', r', q⟩ := hl j y v' e1 e2 e3
        refine ⟨u', r', ?_⟩
        rcases q with ⟨k, e⟩ | ⟨k, c, e, z⟩
        · refine .inl ⟨k, ?_⟩
          have : y ≠ x := fun e => hj (nodup_ix hN e1 (e ▸ hi))
          simp [this, e]
        · exact .inr ⟨k, c, e, z.sameBut hs (cne y c e)⟩
    · obtain ⟨w', z⟩ := I.cell y c e
      exact ⟨w', z.sameBut hs (cne y c e)⟩
    · obtain ⟨e, n, ne, nf, d⟩ := I.pin p hp
      exact ⟨(hs.2 p.1 ne).trans e, n, ne, nf, d⟩
  · have hfn : X.fn x = true := by
      rcases hf with z | z
      · exact z
      · rw [z] at hk; cases hk
    obtain ⟨c, hc⟩ := I.ok.has x (.inl hk)
    obtain ⟨w', z⟩ := I.cell x c hc
    refine wpAny_storeName_cell I.ok.kind hk hc z (fun h' hc' hs => ?_)
    obtain ⟨oc, hoc, hocd⟩ := id z
    refine h { s with heap := h' } ⟨I.ok, I.os, I.bare, ⟨fun b o e n hb hx => ?_, fun b o e n hb hx => ?_, I.base.free, fun b o e hx => ?_, I.base.tups, I.base.frzs, I.base.tbls⟩, ⟨m, hn.sameBut hs (Ne.symm (cne x c hc)), fun j y v' e1 e2 e3 => ?_⟩, fun y c' e => ?_, I.free, I.freeC, fun p hp => ?_, tracked ⟨oc, hoc, I.freeC x c hc⟩ hs, by simpa using I.len⟩ ⟨c, hs, .inr hc⟩
    · exact (hs.2 b (Nat.ne_of_lt (Nat.lt_of_lt_of_le (Heap.lt_size e) (I.ok.cab x c hfn hc)))).trans (I.base.keep b o e n hb hx)
    · obtain ⟨sl, e1⟩ := I.base.slot b o e n hb hx
      exact ⟨sl, (hs.2 b (Nat.ne_of_lt (Nat.lt_of_lt_of_le (Heap.lt_size e) (I.ok.cab x c hfn hc)))).trans e1⟩
    · obtain ⟨o', e1⟩ := I.base.there b o e hx
      exact ⟨o', (hs.2 b (Nat.ne_of_lt (Nat.lt_of_lt_of_le (Heap.lt_size e) (I.ok.cab x c hfn hc)))).trans e1⟩
    · by_cases hj : j = i
      · subst hj
        rw [hi] at e1; cases e1
        rw [List.getElem?_set_self hiσ] at e2
        cases e2
        exact ⟨u, r, .inr ⟨.inl hk, c, hc, hc'⟩⟩
      · rw [List.getElem?_set_ne (Ne.symm hj)] at e2
        obtain ⟨u', r', q⟩ := hl j y v' e1 e2 e3
        refine ⟨u', r', ?_⟩
        rcases q with q | ⟨k, c', e, z'⟩
        · exact .inl q
        · refine .inr ⟨k, c', e, z'.sameBut hs ?_⟩
          rintro rfl
          exact hj (nodup_ix hN e1 (I.ok.inj _ _ _ e hc ▸ hi))
    · by_cases hcc : c' = c
      · subst hcc; exact ⟨_, hc'⟩
      · obtain ⟨w2, z2⟩ := I.cell y c' e
        exact ⟨w2, z2.sameBut hs hcc⟩
    · obtain ⟨e, n, ne, nf, d⟩ := I.pin p hp
      refine ⟨(hs.2 p.1 ?_).trans e, n, ne, nf, d⟩
      intro q
      rw [q, hoc] at e
      have q' : oc = p.2 := Option.some.inj e
      exact d w' (by rw [← q']; exact hocd)
theorem store_ok {M : Model} {A : Around} {E : Value → Shared → Prop} {i : Nat} {x : Str} {v : V} {u : Value} {Q : Unit → Shared → Prop} (I : Inv X pins σ H s) (hN : X.N.Nodup) (hi : X.N[i]? = some x) (hx : Loc X.env.scope x) (r : RelV v u)
    (h : ∀ s', Inv X pins (σ.set i (some v)) H s' → Q () s') (hf : X.fn x = true ∨ X.env.scope.names.lookup x = some .local := by first | exact .inl rfl | exact .inr rfl | assumption) : wpAny M A (storeName X.env x u) Q E s :=
  store_ok2 I hN hi hx r (fun s' I' _ => h s' I') hf
/-- behind a call or a block, the state as it is -/
theorem Inv.call' {s' : Shared} {ch : List Addr} (I : Inv X pins σ H s) (ho : s'.os = s.os) (u : Un (frs X.stack) ch H H' s.heap s'.heap) (hok : HOk X.prog X.w H' s'.heap) (hg : AllBare s'.gens)
    (hch : ∀ b ∈ ch, (b ∈ X.ex ∨ X.s₀.heap.objs.size ≤ b) ∧ b ≠ X.env.locals ∧ (∀ x c, X.env.cells.lookup x = some c → c ≠ b) ∧ ∀ p ∈ X.pn ++ pins, p.1 ≠ b) : Inv X pins σ H' s' := by
  obtain ⟨h', g', d', t', o'⟩ := s'
  have e : o' = s.os := ho
  subst e
  exact I.call (g' := g') (t' := t') (d' := d') u hok hg hch
end

/-! ### the judgements -/
/-- an exception: its class, its own dict's address (where it has one), the abstract heap behind it -/
noncomputable abbrev XK := Value → Option Addr → Hp → Prop
noncomputable abbrev St := List (Option V)
noncomputable abbrev VK := V → Hp → Prop
/-- an expression's reading; a test's; an argument list's -/
noncomputable abbrev TE := St → Hp → VK → Prop
noncomputable abbrev TT := St → Hp → (Bool → Hp → Prop) → Prop
noncomputable abbrev TA := St → Hp → (List V → Hp → Prop) → Prop
/-- what is wanted behind a statement -/
structure Ends where
  nx : St → Hp → Prop
  rt : VK
  bk : St → Hp → Prop := fun _ _ => False
  ct : St → Hp → Prop := fun _ _ => False
noncomputable abbrev TS := Ends → St → Hp → Prop

noncomputable def EP (X : Cx) (pins : List (Addr × Obj)) (σ : St) (Q : VK) (u : Value) (s' : Shared) : Prop := ∃ v H', Inv X pins σ H' s' ∧ RelV v u ∧ Q v H'
noncomputable def TP (X : Cx) (pins : List (Addr × Obj)) (σ : St) (Q : Bool → Hp → Prop) (b : Bool) (s' : Shared) : Prop := ∃ H', Inv X pins σ H' s' ∧ Q b H'
noncomputable def AP (X : Cx) (pins : List (Addr × Obj)) (σ : St) (Q : List V → Hp → Prop) (us : List Value) (s' : Shared) : Prop := ∃ vs H', Inv X pins σ H' s' ∧ Vals vs us ∧ Q vs H'
noncomputable def SP (X : Cx) (pins : List (Addr × Obj)) (D : Ends) (f : Flow) (s' : Shared) : Prop :=
  match f with
  | .next => ∃ σ' H', Inv X pins σ' H' s' ∧ D.nx σ' H'
  | .brk => ∃ σ' H', Inv X pins σ' H' s' ∧ D.bk σ' H'
  | .cont => ∃ σ' H', Inv X pins σ' H' s' ∧ D.ct σ' H'
  | .ret u => ∃ v σ' H', Inv X pins σ' H' s' ∧ RelV v u ∧ D.rt v H'

noncomputable def PE (X : Cx) (e : Expr) (t : TE) : Prop :=
  ∀ (pins : List (Addr × Obj)) (s : Shared) (σ : St) (H : Hp) (Q : VK), Inv X pins σ H s → t σ H Q → wpAny (model X.prog X.w) X.A (eval e X.env) (EP X pins σ Q) X.xe s
noncomputable def PT (X : Cx) (e : Expr) (t : TT) : Prop :=
  ∀ (pins : List (Addr × Obj)) (s : Shared) (σ : St) (H : Hp) (Q : Bool → Hp → Prop), Inv X pins σ H s → t σ H Q → wpAny (model X.prog X.w) X.A (isTrue e X.env (eval e X.env)) (TP X pins σ Q) X.xe s
/-- a test whatever its 'whole' is (and, or) -/
noncomputable def PW (X : Cx) (e : Expr) (t : TT) : Prop :=
  ∀ (whole : Sem Value) (pins : List (Addr × Obj)) (s : Shared) (σ : St) (H : Hp) (Q : Bool → Hp → Prop), Inv X pins σ H s → t σ H Q → wpAny (model X.prog X.w) X.A (isTrue e X.env whole) (TP X pins σ Q) X.xe s
theorem PW.pt {X : Cx} {e : Expr} {t : TT} (h : PW X e t) : PT X e t := h _
/-- an argument list (no star), from the left -/
noncomputable def PA (X : Cx) (es : List Expr) (t : TA) : Prop :=
  ∀ (pos : Pos) (pins : List (Addr × Obj)) (s : Shared) (σ : St) (H : Hp) (Q : List V → Hp → Prop), Inv X pins σ H s → t σ H Q → wpAny (model X.prog X.w) X.A (spliced (backTo pos (starEach es X.env))) (AP X pins σ Q) X.xe s
noncomputable def PS (X : Cx) (st : Stmt) (t : TS) : Prop :=
  ∀ (pins : List (Addr × Obj)) (s : Shared) (σ : St) (H : Hp) (D : Ends), Inv X pins σ H s → t D σ H → wpAny (model X.prog X.w) X.A (exec st X.env) (SP X pins D) X.xe s
noncomputable def PSs (X : Cx) (st : List Stmt) (t : TS) : Prop :=
  ∀ (pins : List (Addr × Obj)) (s : Shared) (σ : St) (H : Hp) (D : Ends), Inv X pins σ H s → t D σ H → wpAny (model X.prog X.w) X.A (execs st X.env) (SP X pins D) X.xe s
/-- weaken the end -/
theorem thn {α : Type} {t : Sem α} {Q Q' : α → Shared → Prop} {M : Model} {A : Around} {E : Value → Shared → Prop} {s : Shared} (h : wpAny M A t Q E s) (hQ : ∀ a s, Q a s → Q' a s) : wpAny M A t Q' E s := wpAny_mono h hQ fun _ _ x => x
end L2

namespace L2
open PySem PySem.Spec PyProof.Rows
section
variable {X : Cx}

/-! ### names and constants -/
noncomputable def tVar (i : Nat) : TE := fun σ H Q => ∃ v, σ[i]? = some (some v) ∧ Q v H
noncomputable def tC (v : V) : TE := fun _ H Q => Q v H
theorem pe_var {i : Nat} {x : Str} {pos : Pos} (hN : X.N[i]? = some x) (hv : Vis X.env.scope x) (hd : (x == ("__debug__" : Str)) = false := by decide) (hcd : (x == ("__classdict__" : Str)) = false := by decide) : PE X (.Name x pos) (tVar i) := by
  intro pins s σ H Q I h
  obtain ⟨v, e, h⟩ := h
  obtain ⟨m, hn, hl⟩ := I.loc
  obtain ⟨u, r, l⟩ := hl i x v hN e hv
  have fin : EP X pins σ Q u s := ⟨v, H, I, r, h⟩
  rcases l with ⟨hk, hm⟩ | ⟨hk, c, hc, hcell⟩
  · exact wpAny_Name (wpAny_loadName_local I.ok.kind hk hn hm fin) hd
  · rcases hk with hk | hk
    · exact wpAny_Name (wpAny_loadName_cell I.ok.kind hk hc hcell fin) hd
    · exact wpAny_Name (wpAny_loadName_free I.ok.kind hk hc hcell fin hcd) hd
theorem pe_int {i j pos} : PE X (.Constant (.int i) j pos) (tC (.int i)) := fun _ _ _ H _ I h => wpAny_Constant_int ⟨.int i, H, I.tok _, ⟨_, rfl⟩, h⟩
theorem pe_bl {b j pos} : PE X (.Constant (.bool b) j pos) (tC (.bl b)) := fun _ _ _ H _ I h => Constant_bool ⟨.bl b, H, I, rfl, h⟩
theorem pe_str {x j pos} : PE X (.Constant (.str x) j pos) (tC (.str x)) := fun _ _ _ H _ I h => Calls.Constant_str ⟨.str x, H, I.tok _, ⟨_, rfl⟩, h⟩

/-- a global name of the def -/
noncomputable def Gl (X : Cx) (x : Str) : Prop := X.env.kindOf x = some .globalImplicit
theorem ld_glob {E : Value → Shared → Prop} {pins : List (Addr × Obj)} {s : Shared} {σ : St} {H : Hp} {x : Str} {u : Value} {pos : Pos} {Q : Value → Shared → Prop} (I : Inv X pins σ H s) (hg : Gl X x) (hm : X.mg x = some u) (h : Q u s)
    (hd : (x == ("__debug__" : Str)) = false := by decide) : wpAny (model X.prog X.w) X.A (eval (.Name x pos) X.env) Q E s :=
  Calls.Name_function_global I.ok.kind hg (Calls.loadGlobal_global (by rw [I.ok.glob]; exact I.mod.glob.keeps I.bk) hm h) hd
theorem ld_blt {E : Value → Shared → Prop} {pins : List (Addr × Obj)} {s : Shared} {σ : St} {H : Hp} {x : Str} {u : Value} {pos : Pos} {Q : Value → Shared → Prop} (I : Inv X pins σ H s) (hg : Gl X x) (hm : X.mg x = none) (hv : bootBuiltins x = some u) (h : Q u s)
    (hn : x ≠ "__name__" := by decide) (hd : (x == ("__debug__" : Str)) = false := by decide) : wpAny (model X.prog X.w) X.A (eval (.Name x pos) X.env) Q E s := by
  obtain ⟨mb, h1, h2⟩ := I.mod.blt
  exact Calls.Name_function_global I.ok.kind hg (Calls.loadGlobal_builtin (by rw [I.ok.glob]; exact I.mod.glob.keeps I.bk) hm (by rw [I.ok.blt]; exact h1.keeps I.bk) ((h2 x hn).trans hv) h) hd
/-- a module's constant, a class, a function, as a value -/
theorem pe_glob {x : Str} {v : V} {u : Value} {pos : Pos} (hg : Gl X x) (hm : X.mg x = some u) (r : RelV v u) (hd : (x == ("__debug__" : Str)) = false := by decide) : PE X (.Name x pos) (tC v) :=
  fun _ _ _ H _ I h => ld_glob I hg hm ⟨v, H, I, r, h⟩ hd
theorem pe_bltn {x : Str} {v : V} {u : Value} {pos : Pos} (hg : Gl X x) (hm : X.mg x = none) (hv : bootBuiltins x = some u) (r : RelV v u) (hn : x ≠ "__name__" := by decide) (hd : (x == ("__debug__" : Str)) = false := by decide) : PE X (.Name x pos) (tC v) :=
  fun _ _ _ H _ I h => ld_blt I hg hm hv ⟨v, H, I, r, h⟩ hn hd

/-! ### arithmetic -/
variable {a b : Expr} {ta tb : TE} {pos : Pos}
/-! ### comparisons -/
/-- a comparison as a value, as a test -/
noncomputable def tB (t : TE) : TT := fun σ H Q => t σ H fun x H1 => ∃ c, x = .bl c ∧ Q c H1
/-- an expression whose value is a bool, as a test -/
theorem pt_val {e : Expr} {t : TE} (h : PE X e t) (he : ∀ whole, isTrue e X.env whole = (do let v ← whole; standAt e.pos; holding [v] (truthy v)) := by intro _; rfl) : PT X e (tB t) := by
  intro pins s σ H Q I hw
  refine isTrue_plain (thn (h pins s σ H _ I hw) fun v s1 ⟨x, H1, I1, r1, q1⟩ => ?_) (he _)
  obtain ⟨d, rfl, q⟩ := q1
  cases r1
  exact wpAny_truthy_bool ⟨H1, I1, q⟩

/-! ### and, or, not -/
variable {tA tB' : TT} {rest : List Expr}
noncomputable def tAnd (t u : TT) : TT := fun σ H Q => t σ H fun c H1 => if c = true then u σ H1 Q else Q false H1
noncomputable def tOr (t u : TT) : TT := fun σ H Q => t σ H fun c H1 => if c = true then Q true H1 else u σ H1 Q
noncomputable def tNot (t : TT) : TT := fun σ H Q => t σ H fun c H1 => Q (!c) H1
theorem pw_or1 (ha : PT X a tA) : PW X (.BoolOp .Or [a] pos) tA := by
  intro wh pins s σ H Q I h
  refine isTrue_or (thn (ha pins s σ H Q I h) fun c s1 e => ?_)
  cases c with
  | false => exact isTrue_or_nil e
  | true => exact e
theorem pw_or (ha : PT X a tA) (hb : PW X (.BoolOp .Or (b :: rest) pos) tB') : PW X (.BoolOp .Or (a :: b :: rest) pos) (tOr tA tB') := by
  intro wh pins s σ H Q I h
  refine isTrue_or (thn (ha pins s σ H _ I h) fun c s1 ⟨H1, I1, q1⟩ => ?_)
  cases c with
  | true => exact ⟨H1, I1, q1⟩
  | false => exact hb wh pins s1 σ H1 Q I1 q1
theorem pt_not (ha : PT X a tA) : PT X (.UnaryOp .Not a pos) (tNot tA) := by
  intro pins s σ H Q I h
  exact isTrue_not (ha pins s σ H (fun c H1 => Q (!c) H1) I h)
/-- .. as values (bools) -/
noncomputable def tAndV (ta tb : TE) : TE := fun σ H Q => ta σ H fun x H1 => ∃ c, x = .bl c ∧ if c = true then tb σ H1 Q else Q (.bl false) H1
noncomputable def tOrV (ta tb : TE) : TE := fun σ H Q => ta σ H fun x H1 => ∃ c, x = .bl c ∧ if c = true then Q (.bl true) H1 else tb σ H1 Q
noncomputable def tNotV (ta : TE) : TE := fun σ H Q => ta σ H fun x H1 => ∃ c, x = .bl c ∧ Q (.bl (!c)) H1
theorem pe_one {op} {t : TE} (h : PE X a t) : PE X (.BoolOp op [a] pos) t := fun pins s σ H Q I hw => BoolOp_one (h pins s σ H Q I hw)
theorem pe_and (ha : PE X a ta) (hb : PE X (.BoolOp .And (b :: rest) pos) tb) : PE X (.BoolOp .And (a :: b :: rest) pos) (tAndV ta tb) := by
  intro pins s σ H Q I h
  refine BoolOp_and (thn (ha pins s σ H _ I h) fun v s1 ⟨x, H1, I1, r1, q1⟩ => ?_)
  obtain ⟨c, rfl, q1⟩ := q1
  cases r1
  refine wpAny_truthy_bool ?_
  cases c with
  | true => exact hb pins s1 σ H1 Q I1 q1
  | false => exact ⟨.bl false, H1, I1, rfl, q1⟩
theorem pe_or (ha : PE X a ta) (hb : PE X (.BoolOp .Or (b :: rest) pos) tb) : PE X (.BoolOp .Or (a :: b :: rest) pos) (tOrV ta tb) := by
  intro pins s σ H Q I h
  refine BoolOp_or (thn (ha pins s σ H _ I h) fun v s1 ⟨x, H1, I1, r1, q1⟩ => ?_)
  obtain ⟨c, rfl, q1⟩ := q1
  cases r1
  refine wpAny_truthy_bool ?_
  cases c with
  | false => exact hb pins s1 σ H1 Q I1 q1
  | true => exact ⟨.bl true, H1, I1, rfl, q1⟩
theorem pe_not (ha : PE X a ta) : PE X (.UnaryOp .Not a pos) (tNotV ta) := by
  intro pins s σ H Q I h
  refine UnaryOp_ (thn (ha pins s σ H _ I h) fun v s1 ⟨x, H1, I1, r1, q1⟩ => ?_)
  obtain ⟨c, rfl, q1⟩ := q1
  cases r1
  exact not_of (wpAny_truthy_bool ⟨.bl (!c), H1, I1, rfl, q1⟩)
/-- a if t else b -/
noncomputable def tIf (t : TT) (ta tb : TE) : TE := fun σ H Q => t σ H fun c H1 => if c = true then ta σ H1 Q else tb σ H1 Q
theorem pe_ifExp {c : Expr} (hc : PT X c tA) (ha : PE X a ta) (hb : PE X b tb) : PE X (.IfExp c a b pos) (tIf tA ta tb) := by
  intro pins s σ H Q I h
  refine wpAny_IfExp (thn (hc pins s σ H _ I h) fun d s1 ⟨H1, I1, q1⟩ => ?_)
  cases d with
  | true => exact ha pins s1 σ H1 Q I1 q1
  | false => exact hb pins s1 σ H1 Q I1 q1
end
end L2

namespace L2
open PySem PySem.Spec PyProof.Rows

/-! ### a list, a tuple that is read: tracked, frozen, or an object of the module -/
noncomputable def SqL (K : PySem.W.Frag) (H : Hp) (a : Addr) (xs : List V) : Prop :=
  Rd H a (.lst xs) ∨
    ∃ (o : Obj) (its : Array Value) (n : Nat), K.lookup a = some o ∧ o.cls = .type "list" ∧ o.dict = none ∧ o.data = .seq its n ∧ its.size ≤ sizeLine ∧ Vals xs its.toList
noncomputable def SqT (K : PySem.W.Frag) (H : Hp) (a : Addr) (xs : List V) : Prop :=
  Rd H a (.tup xs) ∨
    ∃ (o : Obj) (its : Array Value) (n : Nat), K.lookup a = some o ∧ o.cls = .type "tuple" ∧ o.data = .seq its n ∧ its.size ≤ sizeLine ∧ Vals xs its.toList
noncomputable def absV : Value → Option V
  | .none => some .non
  | .bool b => some (.bl b)
  | .int i _ => some (.int i)
  | .str x _ => some (.str x)
  | .bytes b _ => some (.byt b)
  | .float b _ => some (.flt b)
  | .ref a => some (.ref a)
  | .type n => some (.ty n)
  | _ => none
theorem RelV.abs {x : V} {u : Value} (r : RelV x u) : absV u = some x := by
  cases x with
  | non => cases r; rfl
  | bl _ => cases r; rfl
  | int _ => obtain ⟨t, rfl⟩ := r; rfl
  | str _ => obtain ⟨t, rfl⟩ := r; rfl
  | byt _ => obtain ⟨t, rfl⟩ := r; rfl
  | flt _ => obtain ⟨t, rfl⟩ := r; rfl
  | ref _ => cases r; rfl
  | ty _ => cases r; rfl
theorem RelV.inj {x y : V} {u : Value} (r : RelV x u) (q : RelV y u) : x = y := Option.some.inj (r.abs.symm.trans q.abs)
theorem Vals.inj : ∀ {xs ys : List V} {us : List Value}, Vals xs us → Vals ys us → xs = ys
  | _, _, _, .nil, .nil => rfl
  | _, _, _, .cons r t, .cons r' t' => by rw [r.inj r', Vals.inj t t']
section
variable {X : Cx} {pins : List (Addr × Obj)} {σ : St} {H : Hp} {s : Shared} {a : Addr} {xs ys : List V}
theorem SqL.of {K : PySem.W.Frag} (h : H a = some (.lst xs)) : SqL K H a xs := .inl (.inl h)
theorem SqT.of {K : PySem.W.Frag} (h : H a = some (.tup xs)) : SqT K H a xs := .inl (.inl h)
theorem Inv.list (I : Inv X pins σ H s) (h : SqL X.K H a xs) : ∃ its : List Value, Vals xs its ∧ PlainL s.heap a its.toArray ∧ xs.length ≤ sizeLine := by
  rcases h with h | ⟨o, its, n, hk, hc, hd, hs, hz, r⟩
  · obtain ⟨z, its, n, r, e⟩ := h.ok I.hok
    exact ⟨its, r, ⟨_, n, e, rfl, rfl, rfl⟩, z⟩
  · refine ⟨its.toList, r, ⟨o, n, I.kIn a o hk, hc, hd, by simpa using hs⟩, ?_⟩
    have e := r.length
    simp only [Array.length_toList] at e
    omega
theorem Inv.tuple (I : Inv X pins σ H s) (h : SqT X.K H a xs) : ∃ its : List Value, Vals xs its ∧ IsTup s.heap a its.toArray ∧ xs.length ≤ sizeLine := by
  rcases h with h | ⟨o, its, n, hk, hc, hs, hz, r⟩
  · obtain ⟨z, its, r, p⟩ := h.ok I.hok
    exact ⟨its, r, p, z⟩
  · refine ⟨its.toList, r, ⟨o, I.kIn a o hk, hc, n, by simpa using hs⟩, ?_⟩
    have e := r.length
    simp only [Array.length_toList] at e
    omega
theorem Inv.list_inj (I : Inv X pins σ H s) (h : SqL X.K H a xs) (h' : SqL X.K H a ys) : xs = ys := by
  obtain ⟨its, r, ⟨o, n, e, _, _, d⟩, _⟩ := I.list h
  obtain ⟨its', r', ⟨o', n', e', _, _, d'⟩, _⟩ := I.list h'
  rw [e] at e'; cases e'
  rw [d] at d'
  injection d' with d1 _
  have : its = its' := by simpa using congrArg Array.toList d1
  subst this
  exact r.inj r'
theorem Inv.tuple_inj (I : Inv X pins σ H s) (h : SqT X.K H a xs) (h' : SqT X.K H a ys) : xs = ys := by
  obtain ⟨its, r, ⟨o, e, _, n, d⟩, _⟩ := I.tuple h
  obtain ⟨its', r', ⟨o', e', _, n', d'⟩, _⟩ := I.tuple h'
  rw [e] at e'; cases e'
  rw [d] at d'
  injection d' with d1 _
  have : its = its' := by simpa using congrArg Array.toList d1
  subst this
  exact r.inj r'
end

/-! ### another wish about exceptions -/
noncomputable abbrev Cx.wish (X : Cx) (E : Value → Shared → Prop) : Cx := { X with xe := E }
/-- no exception leaves -/
noncomputable abbrev Cx.nox (X : Cx) : Cx := X.wish fun _ _ => False
theorem Cx.Ok.wish {X : Cx} (ok : X.Ok) (E : Value → Shared → Prop) : (X.wish E).Ok :=
  ⟨ok.mod, ok.kind, ok.glob, ok.blt, ok.above, ok.inj, ok.has, ok.cab, ok.hd, ok.frames, ok.stk, ok.exf, ok.bs, ok.bsz, ok.noex, ok.exfs, ok.funs, ok.frf⟩
theorem Cx.Ok.unwish {X : Cx} {E : Value → Shared → Prop} (ok : (X.wish E).Ok) : X.Ok :=
  ⟨ok.mod, ok.kind, ok.glob, ok.blt, ok.above, ok.inj, ok.has, ok.cab, ok.hd, ok.frames, ok.stk, ok.exf, ok.bs, ok.bsz, ok.noex, ok.exfs, ok.funs, ok.frf⟩
section
variable {X : Cx} {pins : List (Addr × Obj)} {σ : St} {H : Hp} {s : Shared} {E : Value → Shared → Prop}
theorem Inv.wish (I : Inv X pins σ H s) (E : Value → Shared → Prop) : Inv (X.wish E) pins σ H s := ⟨I.ok.wish E, I.os, I.bare, I.base, I.loc, I.cell, I.free, I.freeC, I.pin, I.hok, I.len⟩
theorem Inv.unwish (I : Inv (X.wish E) pins σ H s) : Inv X pins σ H s := ⟨I.ok.unwish, I.os, I.bare, I.base, I.loc, I.cell, I.free, I.freeC, I.pin, I.hok, I.len⟩
theorem SP.unwish {D : Ends} {f : Flow} {s' : Shared} (h : SP (X.wish E) pins D f s') : SP X pins D f s' := by
  cases f with
  | next => obtain ⟨σ', H', I, q⟩ := h; exact ⟨σ', H', I.unwish, q⟩
  | brk => obtain ⟨σ', H', I, q⟩ := h; exact ⟨σ', H', I.unwish, q⟩
  | cont => obtain ⟨σ', H', I, q⟩ := h; exact ⟨σ', H', I.unwish, q⟩
  | ret u => obtain ⟨v, σ', H', I, r, q⟩ := h; exact ⟨v, σ', H', I.unwish, r, q⟩
theorem PE.nox {e : Expr} {t : TE} (h : PE X.nox e t) : PE X e t := fun pins s σ H Q I hw =>
  wpAny_mono (h pins s σ H Q (I.wish _) hw) (fun _ _ ⟨v, H', I', r, q⟩ => ⟨v, H', I'.unwish, r, q⟩) fun _ _ z => False.elim z
theorem PT.nox {e : Expr} {t : TT} (h : PT X.nox e t) : PT X e t := fun pins s σ H Q I hw =>
  wpAny_mono (h pins s σ H Q (I.wish _) hw) (fun _ _ ⟨H', I', q⟩ => ⟨H', I'.unwish, q⟩) fun _ _ z => False.elim z
theorem PSs.nox {st : List Stmt} {t : TS} (h : PSs X.nox st t) : PSs X st t := fun pins s σ H D I hw =>
  wpAny_mono (h pins s σ H D (I.wish _) hw) (fun _ _ q => q.unwish) fun _ _ z => False.elim z
end

/-! ### blocks and small statements -/
section
variable {X : Cx} {st : Stmt} {rest : List Stmt} {t u : TS} {e : Expr} {te : TE} {pos : Pos}
noncomputable def tNext : TS := fun D σ H => D.nx σ H
noncomputable def tSeq (t u : TS) : TS := fun D σ H => t { D with nx := u D } σ H
theorem pss_nil : PSs X [] tNext := fun _ _ σ H _ I h => wpAny_execs_nil ⟨σ, H, I, h⟩
theorem pss_cons (h1 : PS X st t) (h2 : PSs X rest u) : PSs X (st :: rest) (tSeq t u) := by
  intro pins s σ H D I h
  refine wpAny_execs_cons (thn (h1 pins s σ H { D with nx := u D } I h) fun f s1 q => ?_)
  cases f with
  | next =>
    obtain ⟨σ', H', I', q⟩ := q
    exact h2 pins s1 σ' H' D I' q
  | ret v => exact q
  | brk => exact q
  | cont => exact q
theorem pss_one (h1 : PS X st t) : PSs X [st] t := by
  intro pins s σ H D I h
  refine wpAny_execs_cons (thn (h1 pins s σ H D I h) fun f s1 q => ?_)
  cases f with
  | next => exact wpAny_execs_nil q
  | ret v => exact q
  | brk => exact q
  | cont => exact q
/-- in a def's body nothing is shown -/
theorem Inv.quiet {pins : List (Addr × Obj)} {σ : St} {H : Hp} {s : Shared} (I : Inv X pins σ H s) : interactive X.env = false := by simp [interactive, I.ok.kind]
/-- an expression whose value is dropped -/
noncomputable def tDrop (te : TE) : TS := fun D σ H => te σ H fun _ H1 => D.nx σ H1
theorem ps_expr (he : PE X e te) (hs : swapsWith e none pos.line X.env = pure false := by rfl) : PS X (.Expr e pos) (tDrop te) := by
  intro pins s σ H D I h
  exact wpAny_Expr_any (thn (he pins s σ H _ I h) fun v s1 ⟨x, H1, I1, r1, q1⟩ => ⟨σ, H1, I1, q1⟩) I.quiet hs
noncomputable def tRet (te : TE) : TS := fun D σ H => te σ H D.rt
theorem ps_ret (he : PE X e te) : PS X (.Return (some e) pos) (tRet te) := by
  intro pins s σ H D I h
  exact wpAny_Return_some (thn (he pins s σ H _ I h) fun v s1 ⟨x, H1, I1, r1, q1⟩ => ⟨x, σ, H1, I1, r1, q1⟩)
noncomputable def tRetN : TS := fun D _ H => D.rt .non H
noncomputable def tIfS (c : TT) (t u : TS) : TS := fun D σ H => c σ H fun b H1 => if b = true then t D σ H1 else u D σ H1
theorem ps_if {c : Expr} {a b : List Stmt} {tc : TT} (hc : PT X c tc) (ha : PSs X a t) (hb : PSs X b u) : PS X (.If c a b pos) (tIfS tc t u) := by
  intro pins s σ H D I h
  refine wpAny_If (thn (hc pins s σ H _ I h) fun d s1 ⟨H1, I1, q1⟩ => ?_)
  cases d with
  | true => exact ha pins s1 σ H1 D I1 q1
  | false => exact hb pins s1 σ H1 D I1 q1
end

/-! ### targets -/
noncomputable abbrev TG := V → St → Hp → (St → Hp → Prop) → Prop
noncomputable abbrev TGs := List V → St → Hp → (St → Hp → Prop) → Prop
noncomputable def PG (X : Cx) (target : Expr) (t : TG) : Prop :=
  ∀ (pins : List (Addr × Obj)) (s : Shared) (σ : St) (H : Hp) (v : V) (u : Value) (Q : St → Hp → Prop), Inv X pins σ H s → RelV v u → t v σ H Q →
    wpAny (model X.prog X.w) X.A (assign target X.env u) (fun _ s' => ∃ σ' H', Inv X pins σ' H' s' ∧ Q σ' H') X.xe s
/-- several targets, one after another -/
noncomputable def PGs (X : Cx) (ts : List Expr) (t : TGs) : Prop :=
  ∀ (pins : List (Addr × Obj)) (s : Shared) (σ : St) (H : Hp) (vs : List V) (us : List Value) (Q : St → Hp → Prop), Inv X pins σ H s → Vals vs us → t vs σ H Q →
    wpAny (model X.prog X.w) X.A (assignInOrder ((assignEach ts X.env).map (·.2)) us) (fun _ s' => ∃ σ' H', Inv X pins σ' H' s' ∧ Q σ' H') X.xe s
section
variable {X : Cx} {pos : Pos}
noncomputable def gName (i : Nat) : TG := fun v σ H Q => Q (σ.set i (some v)) H
theorem pg_name {i : Nat} {x : Str} (hN : X.N.Nodup) (hi : X.N[i]? = some x) (hx : Loc X.env.scope x) (hf : X.fn x = true ∨ X.env.scope.names.lookup x = some .local := by first | exact .inl rfl | exact .inr rfl | assumption) : PG X (.Name x pos) (gName i) := by
  intro pins s σ H v u Q I r h
  exact wpAny_assign_Name (store_ok I hN hi hx r (fun s' I' => ⟨_, H, I', h⟩) hf)
noncomputable def gNil : TGs := fun vs σ H Q => vs = [] ∧ Q σ H
noncomputable def gCons (t : TG) (u : TGs) : TGs := fun vs σ H Q => ∃ v r, vs = v :: r ∧ t v σ H fun σ' H' => u r σ' H' Q
theorem pgs_nil : PGs X [] gNil := by
  intro pins s σ H vs us Q I r h
  obtain ⟨e, h⟩ := h
  subst e
  cases r
  exact assignInOrder_nil ⟨σ, H, I, h⟩
theorem pgs_cons {e : Expr} {es : List Expr} {t : TG} {u : TGs} (h1 : PG X e t) (h2 : PGs X es u)
    (hs : (assignEach (e :: es) X.env).map (·.2) = assign e X.env :: (assignEach es X.env).map (·.2) := by rfl) : PGs X (e :: es) (gCons t u) := by
  intro pins s σ H vs us Q I r h
  obtain ⟨v, vr, e1, h⟩ := h
  subst e1
  cases r with
  | cons r rr =>
    rw [hs]
    refine assignInOrder_cons (thn (h1 pins s σ H _ _ _ I r h) fun _ s1 ⟨σ1, H1, I1, q1⟩ => ?_)
    exact h2 pins s1 σ1 H1 _ _ Q I1 rr q1
/-- (a, b, ..) = a tuple of that length -/
noncomputable def gTup (K : PySem.W.Frag) (n : Nat) (t : TGs) : TG := fun v σ H Q => ∃ a xs, v = .ref a ∧ SqT K H a xs ∧ xs.length = n ∧ t xs σ H Q
theorem pg_tup {es : List Expr} {k : Nat} {t : TGs} {n : Nat} (hc : X.calm = true) (h : PGs X es t)
    (hn : (assignEach es X.env).length = n := by rfl) (hst : (assignEach es X.env).findIdx? (·.1) = none := by rfl) : PG X (.Tuple es k pos) (gTup X.K n t) := by
  intro pins s σ H v u Q I r hw
  obtain ⟨a, xs, e1, hq, hl, hw⟩ := hw
  subst e1
  cases r
  obtain ⟨its, rv, ht, hz⟩ := I.tuple hq
  refine assign_Tuple_tuple (I.ok.hd hc) ht (by simp [hn, ← hl, rv.length]) hst fun h' hx => ?_
  have I1 : Inv X pins σ H { s with heap := h' } := I.kept (t' := s.toks) fun b o e => hx b o (Nat.ne_of_lt (Heap.lt_size e)) e
  exact h pins _ σ H xs _ Q I1 (by simpa using rv) hw
/-- target = value -/
noncomputable def tAsg (te : TE) (g : TG) : TS := fun D σ H => te σ H fun x H1 => g x σ H1 D.nx
theorem ps_asg {tg e : Expr} {te : TE} {g : TG} (he : PE X e te) (hg : PG X tg g) (hs : swapsWithSole [tg] e pos.line X.env = pure false := by rfl) (hw : swappedStores [tg] e X.env = pure none := by rfl)
    (h1 : (assignEach [tg] X.env).map (·.2) = [assign tg X.env] := by rfl) : PS X (.Assign [tg] e pos) (tAsg te g) := by
  intro pins s σ H D I h
  refine wpAny_Assign_stores (thn (he pins s σ H _ I h) fun v s1 ⟨x, H1, I1, r1, q1⟩ => ?_) hs hw
  rw [h1]
  exact thn (hg pins s1 σ H1 x v _ I1 r1 q1) fun _ s2 q => q
/-- name = value -/
theorem ps_set {i : Nat} {x : Str} {e : Expr} {te : TE} {pos' : Pos} (hN : X.N.Nodup) (hi : X.N[i]? = some x) (hx : Loc X.env.scope x) (he : PE X e te) (hs : swapsWith e (some (.Name x pos')) pos.line X.env = pure false := by rfl) (hf : X.fn x = true ∨ X.env.scope.names.lookup x = some .local := by first | exact .inl rfl | exact .inr rfl | assumption) :
    PS X (.Assign [.Name x pos'] e pos) (tAsg te (gName i)) := by
  intro pins s σ H D I h
  refine wpAny_Assign_Name (thn (he pins s σ H _ I h) fun v s1 ⟨y, H1, I1, r1, q1⟩ => ?_) hs
  exact store_ok I1 hN hi hx r1 (fun s2 I2 => ⟨_, H1, I2, q1⟩) hf
/-- a, b = x, y with plain local names: stored from the right; the pair itself is not tracked (the opening rows as in PyProof/Rows/TupAssign.lean:23) -/
noncomputable def tPar (i j : Nat) (ta : TA) : TS := fun D σ H => ta σ H fun vs H1 => ∃ v w, vs = [v, w] ∧ D.nx ((σ.set i (some v)).set j (some w)) H1
end

/-! ### while -/
section
variable {X : Cx} {pos : Pos}
/-- the invariant W with its measure -/
noncomputable def tWhile (c : TT) (tb : TS) : TS := fun D σ H => ∃ W : Nat → St → Hp → Prop, (∃ m, W m σ H) ∧ ∀ m σ H, W m σ H →
  c σ H fun b H1 => if b = true then ∃ N : St → Hp → Prop, (∀ σ' H', N σ' H' → ∃ m', m' < m ∧ W m' σ' H') ∧ tb { D with nx := N, ct := N, bk := D.nx } σ H1 else D.nx σ H1
theorem ps_while {c : Expr} {body : List Stmt} {tc : TT} {tb : TS} (hp : PassesOwn (model X.prog X.w) X.A X.env X.xe) (hc : PT X c tc) (hb : PSs X body tb) : PS X (.While c body [] pos) (tWhile tc tb) := by
  intro pins s σ H D I h
  obtain ⟨W, ⟨m0, w0⟩, turn⟩ := h
  refine wpAny_While (codeAny_whileLoop (fun n s' => ∃ σ' H', Inv X pins σ' H' s' ∧ W n σ' H') ?_ m0 ⟨σ, H, I, w0⟩)
  rintro n s1 ⟨σ1, H1, I1, w1⟩
  refine wpAny_passesOwn hp (thn (hc pins s1 σ1 H1 _ I1 (turn n σ1 H1 w1)) fun b s2 ⟨H2, I2, q2⟩ => ?_)
  cases b with
  | true =>
    obtain ⟨N, hN, q2⟩ := q2
    rw [if_pos rfl]
    refine wpAny_passesOwn hp (thn (hb pins s2 σ1 H2 _ I2 q2) fun f s3 q3 => ?_)
    cases f with
    | next =>
      obtain ⟨σ3, H3, I3, n3⟩ := q3
      obtain ⟨m', hm, w3⟩ := hN σ3 H3 n3
      exact ⟨m', hm, σ3, H3, I3, w3⟩
    | cont =>
      obtain ⟨σ3, H3, I3, n3⟩ := q3
      obtain ⟨m', hm, w3⟩ := hN σ3 H3 n3
      exact ⟨m', hm, σ3, H3, I3, w3⟩
    | brk => exact q3
    | ret v => exact q3
  | false =>
    rw [if_neg Bool.false_ne_true]
    exact wpAny_execs_nil ⟨σ1, H2, I2, q2⟩
end

/-! ### what a loop or a comprehension walks -/
/-- at turn i: it yields x (the heap may grow), or it stops -/
structure It where
  go : Nat → Hp → Prop
  yld : Nat → Hp → V → Hp → Prop
  stop : Nat → Hp → Prop
/-- the iterator's own objects may turn: they are not the frame's, not pinned, younger than the entry (or a comprehension's own) -/
noncomputable def FpOk (X : Cx) (pins : List (Addr × Obj)) (H : Hp) (b : Addr) : Prop :=
  H b = none ∧ b ≠ X.env.locals ∧ b ∉ X.fs ∧ (b ∈ X.ex ∨ X.s₀.heap.objs.size ≤ b) ∧ (∀ x c, X.env.cells.lookup x = some c → c ≠ b) ∧ ∀ p ∈ X.pn ++ pins, p.1 ≠ b
theorem Inv.fpOk {X : Cx} {pins : List (Addr × Obj)} {σ : St} {H H' : Hp} {s : Shared} {b : Addr} (I : Inv X pins σ H s) (hb : s.heap.objs.size ≤ b) (hn : H' b = none) : FpOk X pins H' b := by
  refine ⟨hn, Nat.ne_of_gt (Nat.lt_of_lt_of_le I.lt hb), I.nofs hb, .inr (Nat.le_trans I.sz hb), fun x c e z => ?_, fun p hp z => ?_⟩
  · obtain ⟨v, q⟩ := I.cell x c e
    exact absurd (Nat.lt_of_lt_of_le q.lt (by rw [z]; exact hb)) (Nat.lt_irrefl _)
  · exact absurd (Nat.lt_of_lt_of_le (Heap.lt_size (I.pin p hp).1) (by rw [z]; exact hb)) (Nat.lt_irrefl _)
structure Turn (P : Program) (w : World) (K : PySem.W.Frag) (tg : Expr) (J : It) (fp : List Addr) (it : Addr) (tn : Nat → Heap → Prop) : Prop where
  mem : it ∈ fp
  obj : ∀ i h, tn i h → ∀ b ∈ fp, ∃ o, h.get? b = some o ∧ ∀ v, o.data ≠ .cell v
  keep : ∀ i h h', tn i h → (∀ b ∈ fp, ∀ o, h.get? b = some o → h'.get? b = some o) → tn i h'
  item : ∀ (X : Cx), X.prog = P → X.w = w → X.K = K → X.calm = true → ∀ (i : Nat) (pins : List (Addr × Obj)) (s : Shared) (σ : St) (H : Hp) (E : Value → Shared → Prop), Inv X pins σ H s → (∀ b ∈ fp, FpOk X pins H b) → tn i s.heap → J.go i H →
    wpAny (model P w) X.A (pyNext (.ref it)) (fun r s1 => ∃ u, r = some u ∧
      wpAny (model P w) X.A (letOwnedTupleGo tg (.ref it) u) (fun _ s2 => ∃ x H', Inv X pins σ H' s2 ∧ RelV x u ∧ J.yld i H x H' ∧ tn (i + 1) s2.heap ∧ ∀ b ∈ fp, H' b = none) E s1) E s
  done : ∀ (X : Cx), X.prog = P → X.w = w → X.K = K → X.calm = true → ∀ (i : Nat) (pins : List (Addr × Obj)) (s : Shared) (σ : St) (H : Hp) (E : Value → Shared → Prop), Inv X pins σ H s → (∀ b ∈ fp, FpOk X pins H b) → tn i s.heap → J.stop i H →
    wpAny (model P w) X.A (pyNext (.ref it)) (fun r s1 => r = none ∧ Inv X pins σ H s1) E s
  self : ∀ (A : Around) (i : Nat) (s : Shared) (Q : Value → Shared → Prop) (E : Value → Shared → Prop), tn i s.heap → Q (.ref it) s → wpAny (model P w) A (pyIter (.ref it)) Q E s
noncomputable abbrev TI := St → Hp → (It → Hp → Prop) → Prop
/-- an iterator has come -/
noncomputable def PIE (X : Cx) (pins : List (Addr × Obj)) (σ : St) (tg : Expr) (R : It → Hp → Prop) (itv : Value) (s2 : Shared) : Prop :=
  ∃ (it : Addr) (fp : List Addr) (tn : Nat → Heap → Prop) (J : It) (H' : Hp), itv = .ref it ∧ Inv X pins σ H' s2 ∧ Turn X.prog X.w X.K tg J fp it tn ∧ tn 0 s2.heap ∧ (∀ b ∈ fp, FpOk X pins H' b) ∧ R J H'
noncomputable def PI (X : Cx) (tg iter : Expr) (wi : TI) : Prop :=
  ∀ (pins : List (Addr × Obj)) (s : Shared) (σ : St) (H : Hp) (R : It → Hp → Prop), Inv X pins σ H s → wi σ H R →
    wpAny (model X.prog X.w) X.A (eval iter X.env) (fun v s1 => wpAny (model X.prog X.w) X.A (pyIter v) (PIE X pins σ tg R) X.xe s1) X.xe s

/-- the step ahead of the store is nothing for an iterator that keeps no tuple -/
theorem go_of {M : Model} {A : Around} {E : Value → Shared → Prop} {s : Shared} {tg : Expr} {it : Addr} {u : Value} {o : Obj} {n : String} {vs : Array Value} {Q : Unit → Shared → Prop} (ho : s.heap.get? it = some o) (hc : o.cls = .type n) (hd : o.data = .fields vs)
    (hn : ["enumerate", "zip", "dict_itemiterator", "dict_reverseitemiterator", "odict_iterator", "itertools.zip_longest", "itertools.pairwise"].contains n = false) (hQ : Q () s) : wpAny M A (letOwnedTupleGo tg (.ref it) u) Q E s := by
  unfold letOwnedTupleGo
  cases tg <;> first
    | exact wpAny_pure hQ
    | (cases u <;> first
        | exact wpAny_pure hQ
        | (refine wpAny_bind (wpAny_load ho ?_)
           rw [hc, hd]
           show wpAny M A (if (["enumerate", "zip", "dict_itemiterator", "dict_reverseitemiterator", "odict_iterator", "itertools.zip_longest", "itertools.pairwise"].contains n && vs[0]? == some (rawInt _)) = true then _ else _) Q E s
           rw [if_neg (by intro h; rw [hn, Bool.false_and] at h; cases h)]
           exact wpAny_pure hQ))

/-- the list at a, as it stands at each turn (a loop may append to it) -/
noncomputable def Itl (K : PySem.W.Frag) (a : Addr) : It :=
  ⟨fun i H => ∃ xs x, SqL K H a xs ∧ xs[i]? = some x, fun i H x H' => H' = H ∧ ∀ xs, SqL K H a xs → xs[i]? = some x, fun i H => ∃ xs, SqL K H a xs ∧ xs.length ≤ i⟩
noncomputable def Itt (K : PySem.W.Frag) (a : Addr) : It :=
  ⟨fun i H => ∃ xs x, SqT K H a xs ∧ xs[i]? = some x, fun i H x H' => H' = H ∧ ∀ xs, SqT K H a xs → xs[i]? = some x, fun i H => ∃ xs, SqT K H a xs ∧ xs.length ≤ i⟩
/-- lo, lo + 1, .. (n of them) -/
noncomputable def Itr (lo : Int) (n : Nat) : It := ⟨fun i _ => i < n, fun i H x H' => H' = H ∧ x = .int (lo + i), fun i _ => n ≤ i⟩
theorem turn_list {P : Program} {w : World} {K : PySem.W.Frag} {tg : Expr} (a it : Addr) : Turn P w K tg (Itl K a) [it] it (fun i h => h.IsListIter it a i) where
  mem := by simp
  obj := fun i h st b hb => by
    have e : b = it := by simpa using hb
    subst e
    obtain ⟨o, e, c, d⟩ := st
    exact ⟨o, e, fun v z => by rw [d] at z; cases z⟩
  keep := fun i h h' st k => st.at fun o e => k it (by simp) o e
  item := by
    intro X hP hw hK hc i pins s σ H E I hf st hg
    subst hP hw hK
    obtain ⟨xs, x, hq, hx⟩ := hg
    obtain ⟨its, rv, p, hz⟩ := I.list hq
    obtain ⟨u, hu, ru⟩ := rv.get hx
    obtain ⟨f0, f1, f2, f3, f4, f5⟩ := hf it (by simp)
    refine wpAny_pyNext_list_item st p.isList (x := u) (by simpa using hu) fun h' st' sb => ?_
    have I1 : Inv X pins σ H { s with heap := h' } := I.turned (t' := s.toks) (fun b o hb e => (sb.2 b hb).trans e) f0 f1 f3 f4 f5
    obtain ⟨o, e, c, d⟩ := id st'
    exact ⟨u, rfl, go_of (s := { s with heap := h' }) e c d (by decide) ⟨x, H, I1, ru, ⟨rfl, fun ys hy => by rw [I.list_inj hy hq]; exact hx⟩, st', fun b hb => (hf b hb).1⟩⟩
  done := by
    intro X hP hw hK hc i pins s σ H E I hf st hg
    subst hP hw hK
    obtain ⟨xs, hq, hx⟩ := hg
    obtain ⟨its, rv, p, hz⟩ := I.list hq
    obtain ⟨f0, f1, f2, f3, f4, f5⟩ := hf it (by simp)
    have hl := rv.length
    exact wpAny_pyNext_list_end (I.ok.hd hc) st p.isList (by simp; omega) fun h' eb => ⟨rfl, I.turned (t' := s.toks) (fun b o hb e => eb b o hb e) f0 f1 f3 f4 f5⟩
  self := fun _ _ _ _ _ st h => wpAny_pyIter_listiter st h
theorem turn_tuple {P : Program} {w : World} {K : PySem.W.Frag} {tg : Expr} (a it : Addr) : Turn P w K tg (Itt K a) [it] it (fun i h => h.IsTupleIter it a i) where
  mem := by simp
  obj := fun i h st b hb => by
    have e : b = it := by simpa using hb
    subst e
    obtain ⟨o, e, c, d⟩ := st
    exact ⟨o, e, fun v z => by rw [d] at z; cases z⟩
  keep := fun i h h' st k => st.at fun o e => k it (by simp) o e
  item := by
    intro X hP hw hK hc i pins s σ H E I hf st hg
    subst hP hw hK
    obtain ⟨xs, x, hq, hx⟩ := hg
    obtain ⟨its, rv, p, hz⟩ := I.tuple hq
    obtain ⟨u, hu, ru⟩ := rv.get hx
    obtain ⟨f0, f1, f2, f3, f4, f5⟩ := hf it (by simp)
    refine wpAny_pyNext_tuple_item st (show s.heap.IsTuple a its.toArray from p) (x := u) (by simpa using hu) fun h' st' sb => ?_
    have I1 : Inv X pins σ H { s with heap := h' } := I.turned (t' := s.toks) (fun b o hb e => (sb.2 b hb).trans e) f0 f1 f3 f4 f5
    obtain ⟨o, e, c, d⟩ := id st'
    exact ⟨u, rfl, go_of (s := { s with heap := h' }) e c d (by decide) ⟨x, H, I1, ru, ⟨rfl, fun ys hy => by rw [I.tuple_inj hy hq]; exact hx⟩, st', fun b hb => (hf b hb).1⟩⟩
  done := by
    intro X hP hw hK hc i pins s σ H E I hf st hg
    subst hP hw hK
    obtain ⟨xs, hq, hx⟩ := hg
    obtain ⟨its, rv, p, hz⟩ := I.tuple hq
    obtain ⟨f0, f1, f2, f3, f4, f5⟩ := hf it (by simp)
    have hl := rv.length
    exact wpAny_pyNext_tuple_end (I.ok.hd hc) st (show s.heap.IsTuple a its.toArray from p) (by simp; omega) fun h' eb => ⟨rfl, I.turned (t' := s.toks) (fun b o hb e => eb b o hb e) f0 f1 f3 f4 f5⟩
  self := fun _ _ _ _ _ st h => wpAny_pyIter_tupleiter st h
theorem turn_range {P : Program} {w : World} {K : PySem.W.Frag} {tg : Expr} (it : Addr) (lo : Int) (n : Nat) : Turn P w K tg (Itr lo n) [it] it (fun i h => IsRangeIter h it (lo + (i : Nat) * 1) ((n : Int) - (i : Nat)) 1) where
  mem := by simp
  obj := fun i h st b hb => by
    have e : b = it := by simpa using hb
    subst e
    exact ⟨_, st, fun v z => by
      have z' : Data.fields _ = Data.cell v := z
      cases z'⟩
  keep := fun i h h' st k => k it (by simp) _ st
  item := by
    intro X hP hw hK hc i pins s σ H E I hf st hg
    subst hP hw hK
    obtain ⟨f0, f1, f2, f3, f4, f5⟩ := hf it (by simp)
    have W := Walks.range (prog := X.prog) (w := X.w) (I.ok.hd hc) it lo 1 n
    refine W.item i s _ _ hg st fun v h' tk hv st' kk => ?_
    obtain ⟨t, rfl⟩ := hv
    have I1 : Inv X pins σ H { s with heap := h', toks := tk } := I.turned (fun b o hb e => kk b o (by simpa using hb) e) f0 f1 f3 f4 f5
    refine ⟨_, rfl, go_of (s := { s with heap := h', toks := tk }) (n := "range_iterator") st' rfl rfl (by decide) ⟨.int (lo + i), H, I1, ⟨t, ?_⟩, ⟨rfl, rfl⟩, st', fun b hb => (hf b hb).1⟩⟩
    rw [Int.mul_one]
  done := by
    intro X hP hw hK hc i pins s σ H E I hf st hg
    subst hP hw hK
    obtain ⟨f0, f1, f2, f3, f4, f5⟩ := hf it (by simp)
    exact wpAny_pyNext_range_end (I.ok.hd hc) st (by have : n ≤ i := hg; omega) fun h' eb => ⟨rfl, I.turned (t' := s.toks) (fun b o hb e => eb b o hb e) f0 f1 f3 f4 f5⟩
  self := fun _ _ _ _ _ st h => wpAny_pyIter_rangeiter st h
end L2

namespace L2
open PySem PySem.Spec PyProof.Rows
section
variable {X : Cx} {tg : Expr}
/-- a range object just made, walked -/
theorem range_it {pins : List (Addr × Obj)} {σ : St} {H : Hp} {s : Shared} {R : It → Hp → Prop} {E : Value → Shared → Prop} {lo hi : Int} {t u v : Tok} {tk : Nat} (I : Inv X pins σ H s) (h1 : -(2 ^ 62) ≤ lo) (h2 : lo < 2 ^ 62) (h3 : -(2 ^ 62) ≤ hi) (h4 : hi < 2 ^ 62)
    (q : R (Itr lo (hi - lo).toNat) H) : wpAny (model X.prog X.w) X.A (pyIter (.ref s.heap.objs.size)) (PIE X pins σ tg R) E { s with heap := s.heap.push { cls := .type "range", data := .fields #[.int lo t, .int hi u, .int 1 v] }, toks := tk } := by
  refine wpAny_pyIter_range (IsRange.new ..) (small_one h1 h2 h3 h4) ?_
  have I1 : Inv X pins σ H { s with heap := s.heap.push { cls := .type "range", data := .fields #[.int lo t, .int hi u, .int 1 v] }, toks := tk } := I.kept fun b o e => Heap.get?_push_of_some _ e
  refine ⟨(s.heap.push { cls := .type "range", data := .fields #[.int lo t, .int hi u, .int 1 v] }).objs.size, [(s.heap.push { cls := .type "range", data := .fields #[.int lo t, .int hi u, .int 1 v] }).objs.size], _, _, H, rfl,
    I1.kept (t' := tk) fun b o e => Heap.get?_push_of_some _ e, turn_range _ lo (hi - lo).toNat, ?_, fun b hb => ?_, q⟩
  · have e1 : lo + ((0 : Nat) : Int) * 1 = lo := by simp
    have e2 : (((hi - lo).toNat : Nat) : Int) - ((0 : Nat) : Int) = Builtin.Range.rangeSize lo hi 1 := by rw [rangeSize_one]; split <;> omega
    show IsRangeIter _ _ (lo + ((0 : Nat) : Int) * 1) ((((hi - lo).toNat : Nat) : Int) - ((0 : Nat) : Int)) 1
    rw [e1, e2]
    exact Heap.get?_push_size _ rfl
  · have e : b = (s.heap.push { cls := .type "range", data := .fields #[.int lo t, .int hi u, .int 1 v] }).objs.size := by simpa using hb
    subst e
    exact I1.fpOk (Nat.le_refl _) (I1.hok.fresh (Nat.le_refl _))
noncomputable def iRng1 (ta : TA) : TI := fun σ H R => ta σ H fun vs H1 => ∃ j : Int, vs = [.int j] ∧ -(2 ^ 62) ≤ j ∧ j < 2 ^ 62 ∧ R (Itr 0 j.toNat) H1
theorem pi_range1 {a : Expr} {ta : TA} {p pos : Pos} (hg : Gl X "range") (hm : X.mg "range" = none) (ha : PA X [a] ta) (hs : starEach [a] X.env = [(false, eval a X.env)] := by rfl) : PI X tg (.Call (.Name "range" p) [a] [] pos) (iRng1 ta) := by
  intro pins s σ H R I h
  refine Call_ (ld_blt I hg hm boot_range (PyProof.Rows.callWith_type1 (thn (ha pos pins s σ H _ I h) fun us s1 ⟨vs, H1, I1, r1, q1⟩ => ?_) hs rfl))
  obtain ⟨j, e, q1, q2, q⟩ := q1
  subst e
  cases r1 with
  | cons r rr =>
    cases rr
    obtain ⟨t, rfl⟩ := r
    exact call_range_1 (range_it I1 (by omega) (by omega) q1 q2 (by simpa using q))
/-! ### for -/
/-- W: the invariant by the turn and a measure; N: what the body is to reach -/
noncomputable def tFor (wi : TI) (g : TG) (tb : TS) : TS := fun D σ H => wi σ H fun J H1 => ∃ W : Nat → Nat → St → Hp → Prop, (∃ m, W 0 m σ H1) ∧ ∀ i m σ H, W i m σ H →
  (J.stop i H ∧ D.nx σ H) ∨ (J.go i H ∧ ∃ N : St → Hp → Prop, (∀ σ' H', N σ' H' → ∃ m', m' < m ∧ W (i + 1) m' σ' H') ∧ ∀ x H', J.yld i H x H' → g x σ H' fun σ2 H2 => tb { D with nx := N, ct := N, bk := D.nx } σ2 H2)
/-- the records at fp as they stand -/
noncomputable def pinsAt (fp : List Addr) (h : Heap) : List (Addr × Obj) := fp.filterMap fun b => (h.get? b).map fun o => (b, o)
theorem mem_pinsAt {fp : List Addr} {h : Heap} {b : Addr} {o : Obj} (hb : b ∈ fp) (e : h.get? b = some o) : (b, o) ∈ pinsAt fp h := List.mem_filterMap.mpr ⟨b, hb, by rw [e]; rfl⟩
theorem of_pinsAt {fp : List Addr} {h : Heap} {p : Addr × Obj} (hp : p ∈ pinsAt fp h) : p.1 ∈ fp ∧ h.get? p.1 = some p.2 := by
  obtain ⟨b, hb, e⟩ := List.mem_filterMap.mp hp
  cases q : h.get? b with
  | none => rw [q] at e; cases e
  | some o =>
    rw [q] at e
    have e' : (b, o) = p := Option.some.inj e
    subst e'
    exact ⟨hb, q⟩
theorem Inv.pinned {pins : List (Addr × Obj)} {σ : St} {H : Hp} {s : Shared} {fp : List Addr} (I : Inv X pins σ H s) (hf : ∀ b ∈ fp, FpOk X pins H b) (ho : ∀ b ∈ fp, ∃ o, s.heap.get? b = some o ∧ ∀ v, o.data ≠ .cell v) : Inv X (pins ++ pinsAt fp s.heap) σ H s :=
  I.pins_of fun p hp => (List.mem_append.mp hp).elim (fun z => I.pin p (List.mem_append_right _ z)) fun z => by
    obtain ⟨hb, e⟩ := of_pinsAt z
    obtain ⟨f0, f1, f2, _⟩ := hf p.1 hb
    obtain ⟨o, e', d⟩ := ho p.1 hb
    rw [e] at e'; cases e'
    exact ⟨e, f0, f1, f2, d⟩
theorem Inv.unpinned {pins pl : List (Addr × Obj)} {σ : St} {H : Hp} {s : Shared} (I : Inv X (pins ++ pl) σ H s) : Inv X pins σ H s := I.pins_of fun p hp => I.pin p (List.mem_append_right _ (List.mem_append_left _ hp))
theorem ps_for {iter : Expr} {body : List Stmt} {wi : TI} {g : TG} {tb : TS} {pos : Pos} (hp : PassesOwn (model X.prog X.w) X.A X.env X.xe) (hc : X.calm = true) (hi : PI X tg iter wi) (hg : PG X tg g) (hb : PSs X body tb)
    (hs : ∀ x, foldedSetIterable iter X.env x = pure x := by intro _; rfl) : PS X (.For tg iter body [] pos) (tFor wi g tb) := by
  intro pins s σ H D I h
  refine wpAny_For (thn (hi pins s σ H _ I h) fun v s1 h1 => thn h1 fun itv s2 h2 => ?_) hs
  obtain ⟨it, fp, tn, J, H2, e, I2, T, st2, f2, W, ⟨m0, w0⟩, turn⟩ := h2
  subst e
  -- what stays true of the iterator's objects through the loop
  have stat : ∀ {H' : Hp}, (∀ b ∈ fp, H' b = none) → ∀ b ∈ fp, FpOk X pins H' b := fun hn b hb => ⟨hn b hb, (f2 b hb).2⟩
  refine codeAny_forLoop_any (fun n s' => ∃ i σ' H', Inv X pins σ' H' s' ∧ tn i s'.heap ∧ (∀ b ∈ fp, H' b = none) ∧ W i n σ' H') ?_ m0 ⟨0, σ, H2, I2, st2, fun b hb => (f2 b hb).1, w0⟩
  rintro n s3 ⟨i, σ3, H3, I3, st3, fr3, w3⟩
  rcases turn i n σ3 H3 w3 with ⟨stop, qn⟩ | ⟨go, N, hN, step⟩
  · refine wpAny_passesOwn hp (thn (T.done X rfl rfl rfl hc i pins s3 σ3 H3 X.xe I3 (stat fr3) st3 stop) fun r s4 ⟨hr, I4⟩ => ?_)
    subst hr
    exact wpAny_execs_nil ⟨σ3, H3, I4, qn⟩
  · refine wpAny_passesOwn hp (thn (T.item X rfl rfl rfl hc i pins s3 σ3 H3 X.xe I3 (stat fr3) st3 go) fun r s4 ⟨u, hr, h4⟩ => ?_)
    subst hr
    refine wpAny_passesOwn hp (thn h4 fun _ s5 ⟨x, H5, I5, r5, y5, st5, fr5⟩ => ?_)
    have I5' := I5.pinned (stat fr5) (T.obj _ _ st5)
    refine wpAny_passesOwn hp (thn (hg _ s5 σ3 H5 x u _ I5' r5 (step x H5 y5)) fun _ s6 ⟨σ6, H6, I6, q6⟩ => ?_)
    refine wpAny_passesOwn hp (thn (hb _ s6 σ6 H6 _ I6 q6) fun f s7 q7 => ?_)
    have again : ∀ {σ7 : St} {H7 : Hp}, Inv X (pins ++ pinsAt fp s5.heap) σ7 H7 s7 → N σ7 H7 → ∃ m, m < n ∧ ∃ i σ' H', Inv X pins σ' H' s7 ∧ tn i s7.heap ∧ (∀ b ∈ fp, H' b = none) ∧ W i m σ' H' := fun {σ7 H7} I7 n7 => by
      obtain ⟨m', hm, w7⟩ := hN σ7 H7 n7
      refine ⟨m', hm, i + 1, σ7, H7, I7.unpinned, T.keep _ _ _ st5 fun b hb o e => (I7.pin (b, o) (List.mem_append_right _ (List.mem_append_right _ (mem_pinsAt hb e)))).1, fun b hb => ?_, w7⟩
      obtain ⟨o, e, d⟩ := T.obj _ _ st5 b hb
      exact (I7.pin (b, o) (List.mem_append_right _ (List.mem_append_right _ (mem_pinsAt hb e)))).2.1
    cases f with
    | next => obtain ⟨σ7, H7, I7, n7⟩ := q7; exact again I7 n7
    | cont => obtain ⟨σ7, H7, I7, n7⟩ := q7; exact again I7 n7
    | brk => obtain ⟨σ7, H7, I7, q7⟩ := q7; exact ⟨σ7, H7, I7.unpinned, q7⟩
    | ret v => obtain ⟨x7, σ7, H7, I7, r7, q7⟩ := q7; exact ⟨x7, σ7, H7, I7.unpinned, r7, q7⟩
end

/-! ### the forms one uses -/
/-- over a list that the body leaves as it is -/
theorem for_list {K : PySem.W.Frag} {a : Addr} {xs : List V} {g : TG} {tb : TS} {D : Ends} {σ : St} {H : Hp} (Pv : Nat → St → Hp → Prop) (h0 : Pv 0 σ H) (hl : ∀ i σ H, i ≤ xs.length → Pv i σ H → SqL K H a xs)
    (hs : ∀ i x σ H, xs[i]? = some x → Pv i σ H → g x σ H fun σ2 H2 => tb { D with nx := Pv (i + 1), ct := Pv (i + 1), bk := D.nx } σ2 H2) (hd : ∀ σ H, Pv xs.length σ H → D.nx σ H) :
    ∃ W : Nat → Nat → St → Hp → Prop, (∃ m, W 0 m σ H) ∧ ∀ i m σ H, W i m σ H →
      ((Itl K a).stop i H ∧ D.nx σ H) ∨ ((Itl K a).go i H ∧ ∃ N : St → Hp → Prop, (∀ σ' H', N σ' H' → ∃ m', m' < m ∧ W (i + 1) m' σ' H') ∧ ∀ x H', (Itl K a).yld i H x H' → g x σ H' fun σ2 H2 => tb { D with nx := N, ct := N, bk := D.nx } σ2 H2) := by
  refine ⟨fun i m σ H => m = xs.length - i ∧ i ≤ xs.length ∧ Pv i σ H, ⟨xs.length, by simp, Nat.zero_le _, h0⟩, ?_⟩
  rintro i m σ H ⟨rfl, hi, p⟩
  have q := hl i σ H hi p
  by_cases hlt : i < xs.length
  · refine .inr ⟨⟨xs, xs[i], q, by simp [hlt]⟩, Pv (i + 1), fun σ' H' p' => ⟨xs.length - (i + 1), by omega, rfl, hlt, p'⟩, fun x H' y => ?_⟩
    obtain ⟨e, y⟩ := y
    subst e
    exact hs i x σ _ (y xs q) p
  · have e : i = xs.length := by omega
    subst e
    exact .inl ⟨⟨xs, q, Nat.le_refl _⟩, hd σ H p⟩
theorem for_tup {K : PySem.W.Frag} {a : Addr} {xs : List V} {g : TG} {tb : TS} {D : Ends} {σ : St} {H : Hp} (Pv : Nat → St → Hp → Prop) (h0 : Pv 0 σ H) (hl : ∀ i σ H, i ≤ xs.length → Pv i σ H → SqT K H a xs)
    (hs : ∀ i x σ H, xs[i]? = some x → Pv i σ H → g x σ H fun σ2 H2 => tb { D with nx := Pv (i + 1), ct := Pv (i + 1), bk := D.nx } σ2 H2) (hd : ∀ σ H, Pv xs.length σ H → D.nx σ H) :
    ∃ W : Nat → Nat → St → Hp → Prop, (∃ m, W 0 m σ H) ∧ ∀ i m σ H, W i m σ H →
      ((Itt K a).stop i H ∧ D.nx σ H) ∨ ((Itt K a).go i H ∧ ∃ N : St → Hp → Prop, (∀ σ' H', N σ' H' → ∃ m', m' < m ∧ W (i + 1) m' σ' H') ∧ ∀ x H', (Itt K a).yld i H x H' → g x σ H' fun σ2 H2 => tb { D with nx := N, ct := N, bk := D.nx } σ2 H2) := by
  refine ⟨fun i m σ H => m = xs.length - i ∧ i ≤ xs.length ∧ Pv i σ H, ⟨xs.length, by simp, Nat.zero_le _, h0⟩, ?_⟩
  rintro i m σ H ⟨rfl, hi, p⟩
  have q := hl i σ H hi p
  by_cases hlt : i < xs.length
  · refine .inr ⟨⟨xs, xs[i], q, by simp [hlt]⟩, Pv (i + 1), fun σ' H' p' => ⟨xs.length - (i + 1), by omega, rfl, hlt, p'⟩, fun x H' y => ?_⟩
    obtain ⟨e, y⟩ := y
    subst e
    exact hs i x σ _ (y xs q) p
  · have e : i = xs.length := by omega
    subst e
    exact .inl ⟨⟨xs, q, Nat.le_refl _⟩, hd σ H p⟩
end L2

namespace L2
open PySem PySem.Spec PyProof.Rows

noncomputable abbrev R2 := V → V → Hp → VK → Prop
/-- a two-place operation on values: f is binaryOp op, inplaceOp op or compareOp op -/
noncomputable def OpR (X : Cx) (f : Value → Value → Sem Value) (r : R2) : Prop :=
  ∀ (pins : List (Addr × Obj)) (s : Shared) (σ : St) (H : Hp) (x y : V) (v u : Value) (Q : VK), Inv X pins σ H s → RelV x v → RelV y u → r x y H Q →
    wpAny (model X.prog X.w) X.A (f v u) (EP X pins σ Q) X.xe s
/-- a one-place operation -/
noncomputable def UnR (X : Cx) (f : Value → Sem Value) (r : V → Hp → VK → Prop) : Prop :=
  ∀ (pins : List (Addr × Obj)) (s : Shared) (σ : St) (H : Hp) (x : V) (v : Value) (Q : VK), Inv X pins σ H s → RelV x v → r x H Q →
    wpAny (model X.prog X.w) X.A (f v) (EP X pins σ Q) X.xe s
/-- a call of a value that is known (a builtin, a type) with values -/
noncomputable def CallR (X : Cx) (f : Value) (r : List V → Hp → VK → Prop) : Prop :=
  ∀ (pins : List (Addr × Obj)) (s : Shared) (σ : St) (H : Hp) (xs : List V) (us : List Value) (Q : VK), Inv X pins σ H s → Vals xs us → r xs H Q →
    wpAny (model X.prog X.w) X.A (call f us) (EP X pins σ Q) X.xe s
noncomputable def tOp (r : R2) (ta tb : TE) : TE := fun σ H Q => ta σ H fun x H1 => tb σ H1 fun y H2 => r x y H2 Q
noncomputable def tUn (r : V → Hp → VK → Prop) (ta : TE) : TE := fun σ H Q => ta σ H fun x H1 => r x H1 Q
/-- ints in, under C, and a value out -/
noncomputable def rI (C : Int → Int → Prop) (g : Int → Int → V) : R2 := fun x y H Q => ∃ i j, x = .int i ∧ y = .int j ∧ C i j ∧ Q (g i j) H
noncomputable def rI0 (g : Int → Int → V) : R2 := fun x y H Q => ∃ i j, x = .int i ∧ y = .int j ∧ Q (g i j) H
noncomputable def rU (g : Int → V) : V → Hp → VK → Prop := fun x H Q => ∃ i, x = .int i ∧ Q (g i) H

section
variable {X : Cx} {a b c : Expr} {ta tb tc : TE} {pos : Pos}

theorem binT (ha : PE X a ta) (hb : PE X b tb) {pins : List (Addr × Obj)} {s : Shared} {σ : St} {H : Hp} {R : V → V → Hp → Prop} (I : Inv X pins σ H s)
    (h : ta σ H fun x H1 => tb σ H1 fun y H2 => R x y H2) {Q : Value → Shared → Prop} {f : Value → Value → Sem Value}
    (hf : ∀ v u s2 x y H2, Inv X pins σ H2 s2 → RelV x v → RelV y u → R x y H2 → wpAny (model X.prog X.w) X.A (f v u) Q X.xe s2) :
    wpAny (model X.prog X.w) X.A (eval a X.env) (fun v s₁ => wpAny (model X.prog X.w) X.A (eval b X.env) (fun u s₂ => wpAny (model X.prog X.w) X.A (f v u) Q X.xe s₂) X.xe s₁) X.xe s := by
  refine thn (ha pins s σ H _ I h) fun v s1 ⟨x, H1, I1, r1, q1⟩ => ?_
  refine thn (hb pins s1 σ H1 _ I1 q1) fun u s2 ⟨y, H2, I2, r2, q2⟩ => ?_
  exact hf v u s2 x y H2 I2 r1 r2 q2

theorem pe_op {op : Operator} {r : R2} (ho : OpR X (binaryOp op) r) (ha : PE X a ta) (hb : PE X b tb) : PE X (.BinOp a op b pos) (tOp r ta tb) := by
  intro pins s σ H Q I h
  exact wpAny_BinOp (binT ha hb I h fun v u s2 x y H2 I2 rx ry q => ho pins s2 σ H2 x y v u Q I2 rx ry q)
theorem pe_un {op : UnaryOp} {r : V → Hp → VK → Prop} (ho : UnR X (unaryOp op) r) (ha : PE X a ta) : PE X (.UnaryOp op a pos) (tUn r ta) := by
  intro pins s σ H Q I h
  exact UnaryOp_ (thn (ha pins s σ H _ I h) fun v s1 ⟨x, H1, I1, r1, q1⟩ => ho pins s1 σ H1 x v Q I1 r1 q1)
/-! ### ints -/
theorem opI {f : Value → Value → Sem Value} {C : Int → Int → Prop} {g : Int → Int → Int}
    (rule : ∀ (i j : Int) (t u : Tok) (s : Shared) (Q : Value → Shared → Prop) (E : Value → Shared → Prop), C i j → Q (.int (g i j) s.toks) { s with toks := s.toks + 1 } → wpAny (model X.prog X.w) X.A (f (.int i t) (.int j u)) Q E s) :
    OpR X f (rI C fun i j => .int (g i j)) := by
  intro pins s σ H x y v u Q I rx ry h
  obtain ⟨i, j, rfl, rfl, hc, q⟩ := h
  obtain ⟨t, rfl⟩ := rx
  obtain ⟨t', rfl⟩ := ry
  exact rule i j t t' s _ _ hc ⟨.int (g i j), H, I.tok _, ⟨_, rfl⟩, q⟩
theorem opI0 {f : Value → Value → Sem Value} {g : Int → Int → Int}
    (rule : ∀ (i j : Int) (t u : Tok) (s : Shared) (Q : Value → Shared → Prop) (E : Value → Shared → Prop), Q (.int (g i j) s.toks) { s with toks := s.toks + 1 } → wpAny (model X.prog X.w) X.A (f (.int i t) (.int j u)) Q E s) :
    OpR X f (rI0 fun i j => .int (g i j)) := by
  intro pins s σ H x y v u Q I rx ry h
  obtain ⟨i, j, rfl, rfl, q⟩ := h
  obtain ⟨t, rfl⟩ := rx
  obtain ⟨t', rfl⟩ := ry
  exact rule i j t t' s _ _ ⟨.int (g i j), H, I.tok _, ⟨_, rfl⟩, q⟩
theorem opB0 {f : Value → Value → Sem Value} {g : Int → Int → Bool}
    (rule : ∀ (i j : Int) (t u : Tok) (s : Shared) (Q : Value → Shared → Prop) (E : Value → Shared → Prop), Q (.bool (g i j)) s → wpAny (model X.prog X.w) X.A (f (.int i t) (.int j u)) Q E s) :
    OpR X f (rI0 fun i j => .bl (g i j)) := by
  intro pins s σ H x y v u Q I rx ry h
  obtain ⟨i, j, rfl, rfl, q⟩ := h
  obtain ⟨t, rfl⟩ := rx
  obtain ⟨t', rfl⟩ := ry
  exact rule i j t t' s _ _ ⟨.bl (g i j), H, I, rfl, q⟩

noncomputable def CPow (i j : Int) : Prop := 0 ≤ j ∧ j ≤ 1000000 ∧ i.natAbs < 2 ^ 64
noncomputable def CMul (i j : Int) : Prop := (-(2 ^ 64) < i ∧ i < 2 ^ 64) ∨ (-(2 ^ 64) < j ∧ j < 2 ^ 64)
theorem CMul.ok {i j : Int} (h : CMul i j) : IntMulOk i j := by
  rcases h with ⟨h1, h2⟩ | ⟨h1, h2⟩
  · exact .of_left (intBits_le_64 h1 h2)
  · exact .of_right (intBits_le_64 h1 h2)
theorem op_add : OpR X (binaryOp .Add) (rI0 fun i j => .int (i + j)) := opI0 fun _ _ _ _ _ _ _ q => add_int q
theorem op_sub : OpR X (binaryOp .Sub) (rI0 fun i j => .int (i - j)) := opI0 fun _ _ _ _ _ _ _ q => sub_int q
theorem op_modN : OpR X (binaryOp .Mod) (rI (fun _ j => j ≠ 0) fun i j => .int (i.fmod j)) := opI fun _ _ _ _ _ _ _ hc q => mod_int' hc q
theorem op_pow : OpR X (binaryOp .Pow) (rI CPow fun i j => .int (i ^ j.toNat)) := opI fun _ _ _ _ _ _ _ hc q => pow_int_small hc.1 hc.2.1 hc.2.2 q
theorem unI {f : Value → Sem Value} {g : Int → Int}
    (rule : ∀ (i : Int) (t : Tok) (s : Shared) (Q : Value → Shared → Prop) (E : Value → Shared → Prop), Q (.int (g i) s.toks) { s with toks := s.toks + 1 } → wpAny (model X.prog X.w) X.A (f (.int i t)) Q E s) :
    UnR X f (rU fun i => .int (g i)) := by
  intro pins s σ H x v Q I rx h
  obtain ⟨i, rfl, q⟩ := h
  obtain ⟨t, rfl⟩ := rx
  exact rule i t s _ _ ⟨.int (g i), H, I.tok _, ⟨_, rfl⟩, q⟩
theorem un_neg : UnR X (unaryOp .USub) (rU fun i => .int (-i)) := unI fun _ _ _ _ _ q => neg_int q
/-! ### bools among ints: n += (a < b) -/
end

/-! ### comparisons -/
section
variable {X : Cx} {a b c : Expr} {ta tb tc : TE} {pos : Pos}
theorem op_lt : OpR X (compareOp .Lt) (rI0 fun i j => .bl (decide (i < j))) := opB0 fun _ _ _ _ _ _ _ q => lt_int q
theorem op_le : OpR X (compareOp .LtE) (rI0 fun i j => .bl (decide (i ≤ j))) := opB0 fun _ _ _ _ _ _ _ q => le_int q
theorem op_gt : OpR X (compareOp .Gt) (rI0 fun i j => .bl (decide (j < i))) := opB0 fun _ _ _ _ _ _ _ q => gt_int q
/-- two rules for one operation: by cases -/
theorem OpR.or {f : Value → Value → Sem Value} {r r' : R2} (h : OpR X f r) (h' : OpR X f r') : OpR X f (fun x y H Q => r x y H Q ∨ r' x y H Q) := by
  intro pins s σ H x y v u Q I rx ry q
  rcases q with q | q
  · exact h pins s σ H x y v u Q I rx ry q
  · exact h' pins s σ H x y v u Q I rx ry q

theorem nomark (b : Expr) {op : CmpOp} (h : op ≠ .In := by decide) (h2 : op ≠ .NotIn := by decide) : behindInMarks op b = false := by
  have e1 : (op == CmpOp.In) = false := by cases op <;> first | rfl | exact absurd rfl h
  have e2 : (op == CmpOp.NotIn) = false := by cases op <;> first | rfl | exact absurd rfl h2
  cases b <;> simp [behindInMarks, e1, e2]
/-- a comparison as a value; hm: nomark b, or (for in, not in) by with_unfolding_all rfl -/
theorem pe_cmpR {op : CmpOp} {r : R2} (ho : OpR X (compareOp op) r) (ha : PE X a ta) (hb : PE X b tb) (hm : behindInMarks op b = false) : PE X (.Compare a [op] [b] pos) (tOp r ta tb) := by
  intro pins s σ H Q I h
  exact wpAny_Compare1 (binT ha hb I h fun v u s2 x y H2 I2 rx ry q => ho pins s2 σ H2 x y v u Q I2 rx ry q) hm
/-- a reading of a value as a test -/
noncomputable def tTest (t : TE) : TT := fun σ H Q => t σ H fun x H' => ∃ k, x = .bl k ∧ Q k H'
theorem pt_cmpR {op : CmpOp} {r : R2} (ho : OpR X (compareOp op) r) (ha : PE X a ta) (hb : PE X b tb) (hm : behindInMarks op b = false) : PT X (.Compare a [op] [b] pos) (tTest (tOp r ta tb)) := by
  intro pins s σ H Q I h
  refine wpAny_isTrue_Compare1 (thn (ha pins s σ H _ I h) fun v s1 ⟨x, H1, I1, r1, q1⟩ => thn (hb pins s1 σ H1 _ I1 q1) fun u s2 ⟨y, H2, I2, r2, q2⟩ =>
    thn (ho pins s2 σ H2 x y v u _ I2 r1 r2 q2) fun c s3 ⟨z, H3, I3, r3, k, e, q3⟩ => ?_) hm
  subst e
  cases r3
  exact wpAny_truthy_bool ⟨H3, I3, q3⟩
/-! ### truth -/
theorem line63 : (sizeLine : Nat) < 2 ^ 63 := by rw [sizeLine_eq]; decide
/-! ### strs and bytes -/
/-! ### scalar builtins, by CallR -/
theorem vals1 {x : V} {us : List Value} (r : Vals [x] us) : ∃ u, us = [u] ∧ RelV x u := by
  cases r with
  | cons r1 r2 => cases r2; exact ⟨_, rfl, r1⟩
theorem call_abs : CallR X (.builtin "abs") (fun xs H Q => ∃ i, xs = [.int i] ∧ Q (.int (if i < 0 then -i else i)) H) := by
  intro pins s σ H xs us Q I r h
  obtain ⟨i, rfl, q⟩ := h
  obtain ⟨u, rfl, t, rfl⟩ := vals1 r
  exact call_abs_int fun u tk => ⟨.int (if i < 0 then -i else i), H, I.tok _, ⟨_, rfl⟩, q⟩
end
end L2

namespace L2
open PySem PySem.Spec PyProof.Rows

/-! ### an instance, its attributes a map -/
structure ObjM (h : Heap) (x dx C : Addr) (mA : Str → Option Value) : Prop where
  obj : h.get? x = some (PySem.W.instObj C dx)
  ns : h.Ns1 dx mA
  ne : dx ≠ x

theorem lookIn_ns {h : Heap} {dx : Addr} {mA : Str → Option Value} (n : h.Ns1 dx mA) : ∃ od, h.get? dx = some od ∧ ∀ name, PySem.W.lookIn name od = some (mA name) := by
  obtain ⟨o, es, ep, ho, hd, hk, _, hm⟩ := n
  refine ⟨o, ho, fun name => ?_⟩
  have e := hm name
  unfold nsFind findBy at e
  rw [← Array.find?_toList] at e
  unfold PySem.W.lookIn
  rw [hd]
  dsimp only
  split
  · rename_i y q
    rw [q] at e
    exact congrArg some e
  · rename_i q
    rw [q] at e
    have a : es.toList.any (·.refKey) = false := by
      rw [List.any_eq_false]
      intro y hy
      obtain ⟨z, t, hkey⟩ := hk y (Array.mem_toList_iff.mp hy)
      simp [DictEntry.refKey, hkey]
    have a' : ¬ es.toList.any (·.refKey) = true := by rw [a]; exact Bool.false_ne_true
    rw [if_neg a']
    exact congrArg some e

theorem ObjM.look {h : Heap} {x dx C : Addr} {mA : Str → Option Value} (I : ObjM h x dx C mA) : ∃ od, PySem.W.InstAt h x (PySem.W.instObj C dx) C (some od) ∧ ∀ name, PySem.W.lookIn name od = some (mA name) :=
  let ⟨od, ho, hl⟩ := lookIn_ns I.ns
  ⟨od, ⟨I.obj, rfl, rfl, ho⟩, hl⟩

section
variable {prog : Program} {w : World} {A : Around} {E : Value → Shared → Prop} {s : Shared} {K : PySem.W.Frag} {x dx C f : Addr} {mA : Str → Option Value} {name : Str} {v : Value}

end

/-! ### the attributes as a list of pairs -/
theorem RelO.none_of {o : Option Value} (r : RelO none o) : o = none := by
  cases o with
  | none => rfl
  | some u => exact (show False from r).elim
section
variable {P : Program} {w : World} {H H' : Hp} {h h' : Heap} {a C dx : Addr} {fs fs' : List (Str × V)}
theorem ins_get (hok : HOk P w H h) (e : H a = some (.ins C dx fs)) : ∃ mA, ObjM h a dx C mA ∧ (∀ f, RelO (fs.lookup f) (mA f)) ∧ PySem.Within mA (fs.map (·.1)) ∧ fs.length ≤ 1000 ∧ H dx = some (.own a) := by
  obtain ⟨d, z, ne, ob, mA, n, r, q⟩ := (show ObjOk P w H h a (.ins C dx fs) from hok a _ e)
  exact ⟨mA, ⟨ob, n, ne⟩, r, q, z, d⟩
end

/-! ### what of the text a class must have -/
structure Cls (K : PySem.W.Frag) (C : Addr) : Prop where
  pg : PySem.W.plainGet K C Str.empty = true
  hd : PySem.W.hasDictIn K C = true
  po : PySem.W.plainOver K C = true
  sa : PySem.W.findIn K (.ref C) "__setattr__" = some (some (.builtin "object.__setattr__"))
theorem Cls.get {K : PySem.W.Frag} {C : Addr} (c : Cls K C) (f : Str) : PySem.W.plainGet K C f = true := c.pg
section
variable {X : Cx} {pins : List (Addr × Obj)} {σ : St} {H : Hp} {s : Shared} {a C dx : Addr} {fs : List (Str × V)} {f : Str} {v : V} {A : Around} {E : Value → Shared → Prop}

/-- a new instance, tracked, without attributes -/
theorem Inv.made (I : Inv X pins σ H s) : Inv X pins σ (upd (upd H s.heap.objs.size (.own (s.heap.objs.size + 1))) (s.heap.objs.size + 1) (.ins C s.heap.objs.size []))
    { s with heap := (s.heap.push PySem.W.emptyDict).push (PySem.W.instObj C s.heap.objs.size) } := by
  have e1 : (s.heap.push PySem.W.emptyDict).get? s.heap.objs.size = some PySem.W.emptyDict := Heap.get?_push_size s.heap rfl
  have e2 : ((s.heap.push PySem.W.emptyDict).push (PySem.W.instObj C s.heap.objs.size)).get? (s.heap.objs.size + 1) = some (PySem.W.instObj C s.heap.objs.size) := by
    have := Heap.get?_push_size (s.heap.push PySem.W.emptyDict) (o := PySem.W.instObj C s.heap.objs.size) rfl
    rwa [Heap.size_push] at this
  have e3 : (s.heap.push PySem.W.emptyDict).Ns s.heap.objs.size (fun _ => none) := ⟨PySem.W.emptyDict, #[], _, e1, rfl, (fun e he => absurd he (by simp)), fun _ => rfl⟩
  have I1 := I.laid (a := s.heap.objs.size) (o := .own (s.heap.objs.size + 1)) (h' := s.heap.push PySem.W.emptyDict) (t' := s.toks) (fun b u q => Heap.get?_push_of_some _ q) (Nat.le_refl _) ⟨_, e1⟩
  refine I1.laid (a := s.heap.objs.size + 1) (o := .ins C s.heap.objs.size []) (t' := s.toks) (fun b u q => Heap.get?_push_of_some _ q) (Nat.le_of_eq (Heap.size_push _ _)) ?_
  have ne : s.heap.objs.size ≠ s.heap.objs.size + 1 := Nat.ne_of_lt (Nat.lt_succ_self _)
  refine ⟨by rw [upd_ne ne, upd_same], Nat.zero_le _, ne, e2, fun _ => none, (Heap.Ns1.of_empty e3).at fun o q => Heap.get?_push_of_some _ q, fun _ => True.intro, fun y hy => absurd rfl hy⟩

end

/-! ### readings and rules -/
section
variable {X : Cx} {o e value : Expr} {f : Str} {pos pos' tpos : Pos} {ta tv : TE}
end

/-! ### isinstance -/
section
variable {X : Cx} {pins : List (Addr × Obj)} {σ : St} {H : Hp} {s : Shared} {A : Around} {E : Value → Shared → Prop} {Q : Value → Shared → Prop} {c : Value} {b : Bool}
/-- the type of a value, as the fragment's deciders take it; for an instance its class -/
inductive TyOf (K : PySem.W.Frag) (H : Hp) : V → Value → Prop where
  | non : TyOf K H .non (.type "NoneType")
  | bl (x : Bool) : TyOf K H (.bl x) (.type "bool")
  | int (i : Int) : TyOf K H (.int i) (.type "int")
  | str (x : Str) : TyOf K H (.str x) (.type "str")
  | flt (x : UInt64) : TyOf K H (.flt x) (.type "float")
  | lst {a : Addr} {xs : List V} (e : H a = some (.lst xs)) : TyOf K H (.ref a) (.type "list")
  | frz {a : Addr} {o : Obj} {xs : List V} (e : H a = some (.frz o (.lst xs))) : TyOf K H (.ref a) (.type "list")
  | tup {a : Addr} {xs : List V} (e : H a = some (.tup xs)) : TyOf K H (.ref a) (.type "tuple")
  | dK {a : Addr} {kvs : List (Key × V)} (e : H a = some (.dK kvs)) : TyOf K H (.ref a) (.type "dict")
  | dT {a : Addr} {kvs : List (List Key × V)} (e : H a = some (.dT kvs)) : TyOf K H (.ref a) (.type "dict")
  | ins {a C dx : Addr} {fs : List (Str × V)} (e : H a = some (.ins C dx fs)) (cl : Cls K C) (ha : PySem.W.findIn K (.ref C) "__class__" = some (some (.builtin "object.__class__")))
      (hn : PySem.W.specialIn K (.builtin "object.__class__") "__get__" = some (some (.builtin "getset_descriptor.__get__"))) (htk : PySem.W.takesIn K (.builtin "object.__class__") = some true)
      (hm : PySem.W.mroIn K C (.type "object") = some true) : TyOf K H (.ref a) (.ref C)
/-- isinstance(x, c) for one class c, a built-in or an own one: kitOne's answer -/
theorem isinst_ok {x : V} {u t : Value} (I : Inv X pins σ H s) (rx : RelV x u) (ty : TyOf X.K H x t) (e : PySem.W.kitOne X.K t c = some b) (h : ∀ tk, Q (.bool b) { s with toks := tk }) :
    wpAny (model X.prog X.w) A (call (.builtin "isinstance") [u, c]) Q E s := by
  cases ty with
  | non => cases (show u = Value.none from rx); exact PySem.W.kia_one PySem.W.kitx_none I.kIn True.intro e (fun z => nomatch z) h
  | bl y => cases (show u = Value.bool y from rx); exact PySem.W.kia_one PySem.W.kitx_bool I.kIn True.intro e (fun z => nomatch z) h
  | int i => obtain ⟨t, q⟩ := (show ∃ t, u = Value.int i t from rx); cases q; exact PySem.W.kia_one PySem.W.kitx_int I.kIn True.intro e (fun z => nomatch z) h
  | str y => obtain ⟨t, q⟩ := (show ∃ t, u = Value.str y t from rx); cases q; exact PySem.W.kia_one PySem.W.kitx_str I.kIn True.intro e (fun z => nomatch z) h
  | flt y => obtain ⟨t, q⟩ := (show ∃ t, u = Value.float y t from rx); cases q; exact PySem.W.kia_one PySem.W.kitx_float I.kIn True.intro e (fun z => nomatch z) h
  | @lst a xs ea =>
    cases (show u = Value.ref a from rx)
    obtain ⟨_, _, n, _, h1⟩ := (show ObjOk X.prog X.w H s.heap a (.lst xs) from I.hok a _ ea)
    exact PySem.W.kia_one PySem.W.kitx_list I.kIn ⟨_, h1, rfl⟩ e (fun z => nomatch z) h
  | @frz a ob xs ea =>
    cases (show u = Value.ref a from rx)
    obtain ⟨_, _, _, n, _, h1⟩ := (show ObjOk X.prog X.w H s.heap a (.frz ob (.lst xs)) from I.hok a _ ea)
    exact PySem.W.kia_one PySem.W.kitx_list I.kIn ⟨_, h1, rfl⟩ e (fun z => nomatch z) h
  | @tup a xs ea =>
    cases (show u = Value.ref a from rx)
    obtain ⟨_, _, _, p⟩ := (show ObjOk X.prog X.w H s.heap a (.tup xs) from I.hok a _ ea)
    obtain ⟨o, h1, h2, _⟩ := p
    exact PySem.W.kia_one PySem.W.kitx_tuple I.kIn ⟨o, h1, h2⟩ e (fun z => nomatch z) h
  | @dK a kvs ea =>
    cases (show u = Value.ref a from rx)
    obtain ⟨_, _, vs, _, p⟩ := (show ObjOk X.prog X.w H s.heap a (.dK kvs) from I.hok a _ ea)
    obtain ⟨o, es, ep, h1, h2, _⟩ := p
    exact PySem.W.kia_one PySem.W.kitx_dict I.kIn ⟨o, h1, h2.1⟩ e (fun z => nomatch z) h
  | @dT a kvs ea =>
    cases (show u = Value.ref a from rx)
    obtain ⟨_, _, xs, _, o, es, ep, h1, h2, _⟩ := (show ObjOk X.prog X.w H s.heap a (.dT kvs) from I.hok a _ ea)
    exact PySem.W.kia_one PySem.W.kitx_dict I.kIn ⟨o, h1, h2.1⟩ e (fun z => nomatch z) h
  | @ins a C dx fs ea cl ha hn htk hm =>
    cases (show u = Value.ref a from rx)
    obtain ⟨mA, O, _⟩ := ins_get I.hok ea
    obtain ⟨od, J, _⟩ := O.look
    exact PySem.W.kia_one (PySem.W.kitx_own (cl.get _) cl.hd ha hn htk hm) I.kIn J e (fun z => nomatch z) h
end
end L2

namespace L2
open PySem PySem.Spec PyProof.Rows

/-! ### room -/
structure Room (k : Nat) (A : Around) : Prop where
  hd : A.handled = none
  dp : A.depth + 3 * k + 5 < recursionLimit
  un : A.units + 16 * k + 200 < cLine
theorem Room.mono {j k : Nat} {A : Around} (r : Room k A) (h : j ≤ k) : Room j A := ⟨r.hd, by have := r.dp; omega, by have := r.un; omega⟩
theorem Room.deeper {k : Nat} {A : Around} (r : Room (k + 1) A) (env : Env) : Room k (A.deeper env) :=
  ⟨r.hd, by have := r.dp; show A.depth + 1 + 3 * k + 5 < _; omega, by have := r.un; show A.units + 3 + 16 * k + 200 < _; omega⟩
theorem Room.in1 {k : Nat} {A : Around} (r : Room (k + 1) A) : Room k A.in1 :=
  ⟨r.hd, by have := r.dp; show A.depth + 3 * k + 5 < _; omega, by have := r.un; show A.units + 1 + 16 * k + 200 < _; omega⟩
theorem Room.depth {k : Nat} {A : Around} (r : Room k A) : A.depth < recursionLimit := by have := r.dp; omega
theorem Room.units {k : Nat} {A : Around} (r : Room k A) : A.units + 64 < cLine := by have := r.un; omega
/-! ### argument lists and displays -/
noncomputable def tNil : TA := fun _ H Q => Q [] H
noncomputable def tCons (ta : TE) (tr : TA) : TA := fun σ H Q => ta σ H fun x H1 => tr σ H1 fun xs H2 => Q (x :: xs) H2
section
variable {X : Cx} {e : Expr} {es : List Expr} {te : TE} {t : TA} {pos : Pos}
theorem pa_nil : PA X [] tNil := fun _ _ _ _ H Q I h => Calls.spliced_nil ⟨[], H, I, .nil, h⟩
theorem pa_cons (ha : PE X e te) (hr : PA X es t) (hs : starEach (e :: es) X.env = (false, eval e X.env) :: starEach es X.env := by rfl) : PA X (e :: es) (tCons te t) := by
  intro pos pins s σ H Q I h
  rw [hs]
  show wpAny _ _ (spliced ((false, eval e X.env) :: backTo pos (starEach es X.env))) _ _ s
  refine Calls.spliced_cons (thn (ha pins s σ H _ I h) fun u s1 ⟨x, H1, I1, r1, q1⟩ => ?_)
  exact thn (hr pos pins s1 σ H1 _ I1 q1) fun us s2 ⟨xs, H2, I2, r2, q2⟩ => ⟨x :: xs, H2, I2, .cons r1 r2, q2⟩

/-- a tuple, a list of written items -/
noncomputable def tTup (t : TA) : TE := fun σ H Q => t σ H fun xs H1 => xs.length ≤ sizeLine ∧ ∀ p, H1 p = none → Q (.ref p) (upd H1 p (.tup xs))
noncomputable def tLst (t : TA) : TE := fun σ H Q => t σ H fun xs H1 => xs.length ≤ sizeLine ∧ ∀ p, H1 p = none → Q (.ref p) (upd H1 p (.lst xs))
theorem pe_tup {x1} (h : PA X es t) : PE X (.Tuple es x1 pos) (tTup t) := by
  intro pins s σ H Q I hq
  refine wpAny_Tuple_spliced (thn (h pos pins s σ H _ I hq) fun us s1 ⟨xs, H1, I1, r, z, q⟩ => ⟨by rw [← r.length]; exact z, ?_⟩)
  have hf : H1 s1.heap.objs.size = none := I1.hok.fresh (Nat.le_refl _)
  refine ⟨.ref s1.heap.objs.size, upd H1 s1.heap.objs.size (.tup xs), I1.laid (t' := s1.toks) (fun b u e => Heap.get?_push_of_some _ e) (Nat.le_refl _) ?_, rfl, q _ hf⟩
  exact ⟨z, us, r, ⟨_, Heap.get?_push_size _ rfl, rfl, _, rfl⟩⟩
theorem pe_lst (h : PA X es t) : PE X (.List es pos) (tLst t) := by
  intro pins s σ H Q I hq
  refine wpAny_List_spliced (thn (h pos pins s σ H _ I hq) fun us s1 ⟨xs, H1, I1, r, z, q⟩ => ⟨by rw [← r.length]; exact z, ?_⟩)
  have hf : H1 s1.heap.objs.size = none := I1.hok.fresh (Nat.le_refl _)
  refine ⟨.ref s1.heap.objs.size, upd H1 s1.heap.objs.size (.lst xs), I1.laid (t' := s1.toks) (fun b u e => Heap.get?_push_of_some _ e) (Nat.le_refl _) ?_, rfl, q _ hf⟩
  exact ⟨z, us, 0, r, Heap.get?_push_size _ rfl⟩
end

/-! ### what a def promises -/
/-- a def's promise: the bound arguments in the parameters' order, the heap, the wanted end, the wanted exception -/
noncomputable abbrev Sp := List V → Hp → VK → XK → Prop
/-- how an exception lies behind a call (file 08 gives it): the callers' frames, abstract heap and state ahead of the call, the wish, the exception, the state -/
noncomputable abbrev CXT := List Env → Hp → Shared → XK → Value → Shared → Prop

/-- the state at a call -/
structure Env0 (P : Program) (w : World) (K : PySem.W.Frag) (mg : Str → Option Value) (base : Heap) (A : Around) (outer : List Env) (s : Shared) (H : Hp) : Prop where
  frames : A.frames = some outer
  mod : Mod K mg base
  bs : ∀ b o, base.get? b = some o → s.heap.get? b = some o ∧ H b = none
  bsz : base.objs.size ≤ s.heap.objs.size
  funs : s.heap.FunFrames base outer
  frf : ∀ b ∈ frs outer, H b = none
  hok : HOk P w H s.heap
  bare : AllBare s.gens
/-- a call's end -/
noncomputable def CE (outer : List Env) (P : Program) (w : World) (H : Hp) (s : Shared) (Q : VK) (u : Value) (s' : Shared) : Prop :=
  ∃ v H', s'.os = s.os ∧ AllBare s'.gens ∧ Un (frs outer) [] H H' s.heap s'.heap ∧ HOk P w H' s'.heap ∧ RelV v u ∧ Q v H'
noncomputable def CR (CX : CXT) (outer : List Env) (P : Program) (w : World) (H : Hp) (s : Shared) (Q : VK) (E : XK) (r : Result) (s' : Shared) : Prop :=
  match r with
  | .ok (.ret u) => CE outer P w H s Q u s'
  | .ok _ => False
  | .error e => CX outer H s E e s'
structure FnOk (P : Program) (w : World) (K : PySem.W.Frag) (mg : Str → Option Value) (base : Heap) (CX : CXT) (k : Nat) (f : Addr) (fd : FuncData) (ps : List Str) (sp : Sp) : Prop where
  len : ∀ vs H Q E, sp vs H Q E → vs.length = ps.length
  run : ∀ (A : Around) (outer : List Env) (s : Shared) (H : Hp) (args : Args) (us : List Value) (vs : List V) (Q : VK) (E : XK), Room k A → Env0 P w K mg base A outer s H → BindsTo s fd args (ps.zip us) → Vals vs us → sp vs H Q E →
    codeAny (model P w) A (.call (.ref f) args) (CR CX outer P w H s Q E) s
theorem FnOk.mono {P : Program} {w : World} {K : PySem.W.Frag} {mg : Str → Option Value} {base : Heap} {CX : CXT} {j k : Nat} {f : Addr} {fd : FuncData} {ps : List Str} {sp : Sp} (F : FnOk P w K mg base CX j f fd ps sp) (h : j ≤ k) :
    FnOk P w K mg base CX k f fd ps sp := ⟨F.len, fun A outer s H args us vs Q E hr => F.run A outer s H args us vs Q E (hr.mono h)⟩
/-- a weaker promise -/
theorem FnOk.imp {P : Program} {w : World} {K : PySem.W.Frag} {mg : Str → Option Value} {base : Heap} {CX : CXT} {k : Nat} {f : Addr} {fd : FuncData} {ps : List Str} {sp sp' : Sp} (F : FnOk P w K mg base CX k f fd ps sp)
    (h : ∀ vs H Q E, sp' vs H Q E → sp vs H Q E) : FnOk P w K mg base CX k f fd ps sp' :=
  ⟨fun vs H Q E q => F.len vs H Q E (h _ _ _ _ q), fun A outer s H args us vs Q E hr he hb hv hs => F.run A outer s H args us vs Q E hr he hb hv (h _ _ _ _ hs)⟩

theorem Env0.in1 {P : Program} {w : World} {K : PySem.W.Frag} {mg : Str → Option Value} {base : Heap} {A : Around} {outer : List Env} {s : Shared} {H : Hp} (e : Env0 P w K mg base A outer s H) :
    Env0 P w K mg base A.in1 outer s H := ⟨e.frames, e.mod, e.bs, e.bsz, e.funs, e.frf, e.hok, e.bare⟩

section
variable {X : Cx} {pins : List (Addr × Obj)} {σ : St} {H : Hp} {s s' : Shared}
/-- from a body: what a callee wants -/
theorem Inv.env0 (I : Inv X pins σ H s) : Env0 X.prog X.w X.K X.mg X.base X.A X.stack s H :=
  ⟨I.ok.frames, I.ok.mod, I.bs, Nat.le_trans I.ok.bsz I.sz, I.stack, I.stkFree, I.hok, I.bare⟩
/-- behind a call -/
theorem Inv.after {Q : VK} {u : Value} (I : Inv X pins σ H s) (h : CE X.stack X.prog X.w H s Q u s') : EP X pins σ Q u s' := by
  obtain ⟨v, H', os, bare, un, hok, r, q⟩ := h
  obtain ⟨hh, g, d, t, os'⟩ := s'
  obtain rfl : os' = s.os := os
  exact ⟨v, H', I.call (h' := hh) (g' := g) (d' := d) (t' := t) (ch := []) un hok bare (fun b z => absurd z (by simp)), r, q⟩
end

/-! ### calls -/
/-- f(..): the written arguments, then the defaults dvs; E: what is wanted of an exception -/
noncomputable def tCall (sp : Sp) (dvs : List V) (E : XK) (t : TA) : TE := fun σ H Q => t σ H fun vs H1 => sp (vs ++ dvs) H1 Q E
/-- how the parameters are bound: us the positional arguments, kw the keywords' values by name, ds the defaults that fill up -/
noncomputable def Binds (K : PySem.W.Frag) (fd : FuncData) (ps : List Str) (ds : List Value) : Prop :=
  ∀ (s : Shared) (us : List Value), K.In s.heap → (us ++ ds).length = ps.length → BindsTo s fd ⟨us, []⟩ (ps.zip (us ++ ds))
/-- every parameter is given -/
theorem Binds.all {K : PySem.W.Frag} {fd : FuncData} {ps : List Str} (h : ∀ us : List Value, us.length = ps.length → bindArgs fd ⟨us, []⟩ = pure (ps.zip us)) : Binds K fd ps [] := fun s us _ hl => by
  rw [List.append_nil] at hl ⊢
  exact .of_eq (h us hl)

/-- an exception of a callee reaches what this body wants of exceptions -/
noncomputable def Passes (CX : CXT) (X : Cx) (E : XK) : Prop := ∀ (pins : List (Addr × Obj)) (σ : St) (H : Hp) (s : Shared) (e : Value) (s' : Shared), Inv X pins σ H s → CX X.stack H s E e s' → X.xe e s'

section
variable {X : Cx} {CX : CXT} {k : Nat} {f C : Addr} {fd : FuncData} {ps : List Str} {sp : Sp} {dvs : List V} {ds : List Value} {E : XK} {x m : Str} {p pos apos : Pos} {e o : Expr} {es : List Expr} {ta : TE} {t : TA}

/-- the callee runs -/
theorem run_fn {pins : List (Addr × Obj)} {σ : St} {H : Hp} {s : Shared} {Q : VK} {us : List Value} {vs : List V} (F : FnOk X.prog X.w X.K X.mg X.base CX k f fd ps sp) (hr : Room k X.A) (hb : Binds X.K fd ps ds) (hd : Vals dvs ds) (hx : Passes CX X E)
    (I : Inv X pins σ H s) (r : Vals vs us) (h : sp (vs ++ dvs) H Q E) : wpAny (model X.prog X.w) X.A (call (.ref f) us) (EP X pins σ Q) X.xe s := by
  have r2 : Vals (vs ++ dvs) (us ++ ds) := r.append hd
  have hl : (us ++ ds).length = ps.length := by rw [← r2.length]; exact F.len _ _ _ _ h
  refine wpAny_call (codeAny_mono (F.run X.A X.stack s H ⟨us, []⟩ (us ++ ds) (vs ++ dvs) Q E hr I.env0 (hb s us I.kIn hl) r2 h) fun r s' hq => ?_)
  cases r with
  | error e => exact hx pins σ H s e s' I hq
  | ok fl =>
    cases fl with
    | ret u => exact I.after hq
    | next => exact False.elim hq
    | brk => exact False.elim hq
    | cont => exact False.elim hq

theorem pe_call (F : FnOk X.prog X.w X.K X.mg X.base CX k f fd ps sp) (hr : Room k X.A) (hg : Gl X x) (hm : X.mg x = some (.ref f)) (hk : PySem.W.keepIn X.K (.ref f) = true) (hb : Binds X.K fd ps ds) (hd : Vals dvs ds) (hx : Passes CX X E)
    (ha : PA X (e :: es) t) (hdb : (x == ("__debug__" : Str)) = false := by decide) (he : starEach (e :: es) X.env = (false, eval e X.env) :: starEach es X.env := by rfl) (hpl : (backTo pos (starEach es X.env)).any (·.1) = false := by rfl) :
    PE X (.Call (.Name x p) (e :: es) [] pos) (tCall sp dvs E t) := by
  intro pins s σ H Q I h
  refine wpAny_Call_Name_kw (ld_glob I hg hm ?_ hdb)
  refine PySem.W.callWith_K (h₀ := X.base) I.ok.mod.kin hk (thn (ha pos pins s σ H _ I h) fun us s1 ⟨vs, H1, I1, r, q⟩ => ⟨I1.kIn, ?_⟩) he hpl
  exact run_fn F hr hb hd hx I1 r q
end

/-! ### keywords -/
section
variable {X : Cx} {CX : CXT} {k : Nat} {f C : Addr} {fd : FuncData} {ps ks : List Str} {sp : Sp} {E : XK} {x m : Str} {p pos apos kpos : Pos} {e o : Expr} {es : List Expr} {kws : List Keyword} {te ta : TE} {t tk : TA} {nm : Option Str}
variable {g : List Value → List Value → List Value} {gV : List V → List V → List V}
end

/-! ### a def's body keeps its promise -/
/-- names: the parameters first -/
structure FnScope (N P : List Str) (sc : Scope) : Prop where
  kind : sc.kind = .function
  co : sc.isCoroutine = false
  gen : sc.isGenerator = false
  nd : N.Nodup
  pre : N.take P.length = P
  par : ∀ x ∈ P, sc.names.lookup x = some .local ∨ sc.names.lookup x = some .cell
  nofree : ∀ y ∈ sc.names, y.2 ≠ .free

theorem bindL_out {kindOf : Str → Option NameKind} {x : Str} : ∀ {binds : List (Str × Value)} {m : Str → Option Value}, (∀ v, (x, v) ∉ binds) → bindL kindOf binds m x = m x
  | [], _, _ => rfl
  | (n, v) :: r, m, h => by
    unfold bindL
    rw [bindL_out fun w hw => h w (List.mem_cons_of_mem _ hw)]
    split
    · have : x ≠ n := by rintro rfl; exact h v List.mem_cons_self
      simp [this]
    · rfl
theorem bindC_out {kindOf : Str → Option NameKind} {x : Str} : ∀ {binds : List (Str × Value)} {m : Str → Option Value}, (∀ v, (x, v) ∉ binds) → bindC kindOf binds m x = m x
  | [], _, _ => rfl
  | (n, v) :: r, m, h => by
    unfold bindC
    rw [bindC_out fun w hw => h w (List.mem_cons_of_mem _ hw)]
    split
    · rfl
    · have : x ≠ n := by rintro rfl; exact h v List.mem_cons_self
      simp [this]
theorem bindL_get {kindOf : Str → Option NameKind} {x : Str} {v : Value} : ∀ {P : List Str} {vs : List Value} {i : Nat} {m : Str → Option Value}, P.Nodup → P[i]? = some x → vs[i]? = some v → kindOf x = some .local →
    bindL kindOf (P.zip vs) m x = some v
  | [], _, _, _, _, h, _, _ => by simp at h
  | _ :: _, [], _, _, _, _, h, _ => by simp at h
  | p :: P, w :: vs, 0, m, nd, h1, h2, hk => by
    simp at h1 h2; subst h1; subst h2
    show bindL kindOf ((p, w) :: P.zip vs) m p = _
    unfold bindL
    rw [bindL_out fun v hv => (List.nodup_cons.mp nd).1 (List.of_mem_zip hv).1, if_pos hk]
    simp
  | p :: P, w :: vs, i + 1, m, nd, h1, h2, hk => by
    show bindL kindOf ((p, w) :: P.zip vs) m x = _
    unfold bindL
    exact bindL_get (i := i) (List.nodup_cons.mp nd).2 (by simpa using h1) (by simpa using h2) hk
theorem bindC_get {kindOf : Str → Option NameKind} {x : Str} {v : Value} : ∀ {P : List Str} {vs : List Value} {i : Nat} {m : Str → Option Value}, P.Nodup → P[i]? = some x → vs[i]? = some v → kindOf x ≠ some .local →
    bindC kindOf (P.zip vs) m x = some v
  | [], _, _, _, _, h, _, _ => by simp at h
  | _ :: _, [], _, _, _, _, h, _ => by simp at h
  | p :: P, w :: vs, 0, m, nd, h1, h2, hk => by
    simp at h1 h2; subst h1; subst h2
    show bindC kindOf ((p, w) :: P.zip vs) m p = _
    unfold bindC
    rw [bindC_out fun v hv => (List.nodup_cons.mp nd).1 (List.of_mem_zip hv).1, if_neg hk]
    simp
  | p :: P, w :: vs, i + 1, m, nd, h1, h2, hk => by
    show bindC kindOf ((p, w) :: P.zip vs) m x = _
    unfold bindC
    exact bindC_get (i := i) (List.nodup_cons.mp nd).2 (by simpa using h1) (by simpa using h2) hk

/-- the names' values at the entry -/
noncomputable def start (N : List Str) (vs : List V) : St := vs.map some ++ List.replicate (N.length - vs.length) none

/-- the context of a def's body, at its entry; an exception leaves the frame, then lies as CX says -/
noncomputable def cxOf (CX : CXT) (P : Program) (w : World) (K : PySem.W.Frag) (mg : Str → Option Value) (base : Heap) (N : List Str) (qual : Str) (scope : Scope) (f : Addr) (cd : Value) (A : Around) (outer : List Env) (s : Shared) (H : Hp) (E : XK) : Cx where
  prog := P
  w := w
  K := K
  mg := mg
  base := base
  A := A.deeper (envOfC qual scope s.heap.objs.size f cd)
  N := N
  s₀ := s
  H₀ := H
  env := envOfC qual scope s.heap.objs.size f cd
  outer := outer
  stack := envOfC qual scope s.heap.objs.size f cd :: outer
  ex := []
  calm := true
  fn := fun _ => true
  pn := []
  xe := fun e s' => wpAny (model P w) (A.deeper (envOfC qual scope s.heap.objs.size f cd)) (leaving (envOfC qual scope s.heap.objs.size f cd) e) (fun _ s'' => CX outer H s E e s'') (fun e' s'' => CX outer H s E e' s'') s'

theorem cell_has {sc : Scope} {n : Nat} {x : Str} (h : sc.names.lookup x = some .cell) : ∃ c, (cellsFrom n sc.names []).lookup x = some c := by
  have q := PySem.W.cellsFrom_some sc.names n [] (.inl h)
  exact Option.isSome_iff_exists.mp q

theorem inv_start {CX : CXT} {P : Program} {w : World} {K : PySem.W.Frag} {mg : Str → Option Value} {base : Heap} {N ps : List Str} {qual : Str} {scope : Scope} {f : Addr} {cd : Value} {A : Around} {outer : List Env} {s s1 : Shared} {H : Hp} {E : XK} {us : List Value} {vs : List V}
    (S : FnScope N ps scope) (hd : A.handled = none) (e0 : Env0 P w K mg base A outer s H) (hl : vs.length = ps.length) (r : Vals vs us)
    (x : InCallC s s.heap.objs.size (bindL (envOfC qual scope s.heap.objs.size f cd).kindOf (ps.zip us) fun _ => none) (cellsFrom (s.heap.objs.size + 1) scope.names []) (bindC (envOfC qual scope s.heap.objs.size f cd).kindOf (ps.zip us) fun _ => none) s1) :
    Inv (cxOf CX P w K mg base N qual scope f cd A outer s H E) [] (start N vs) H s1 := by
  have hpl : ps.length ≤ N.length := by have := congrArg List.length S.pre; rw [List.length_take] at this; omega
  obtain ⟨h1, tk, rfl, hk⟩ := x.done
  have noA : ∀ b : Addr, b ∉ (cxOf CX P w K mg base N qual scope f cd A outer s H E).ex := fun b z => absurd (show b ∈ ([] : List Addr) from z) (by simp)
  refine ⟨⟨e0.mod, S.kind, rfl, rfl, Nat.le_refl _, fun y z c h1 h2 => ?_, fun y hy => ?_, fun y c _ h => ?_, fun _ => hd, Around.frames_deeper e0.frames, .inr ⟨rfl, rfl⟩, fun b z => absurd z (noA b), e0.bs, e0.bsz, fun b _ _ => noA b, fun b z => absurd z (noA b), e0.funs, e0.frf⟩,
    rfl, e0.bare, Un.kept hk, ⟨_, x.toInCall.ns, fun i y v h1 h2 h3 => ?_⟩, fun y c h => ⟨_, x.cell y c h⟩, e0.hok.fresh (Nat.le_refl _), fun y c h => ?_, fun p hp => absurd (show p ∈ ([] : List (Addr × Obj)) from hp) (by simp), e0.hok.kept hk, ?_⟩
  · exact name_of_addr x.apart (PySem.mem_of_lookup h1) (PySem.mem_of_lookup h2)
  · have hy : scope.names.lookup y = some .cell ∨ scope.names.lookup y = some .free := hy
    rcases hy with hy | hy
    · exact cell_has hy
    · exact absurd rfl (S.nofree _ (PySem.mem_of_lookup hy))
  · exact Nat.le_of_lt (x.above y c (PySem.mem_of_lookup h))
  · have hi : i < vs.length := by
      unfold start at h2
      by_cases hi : i < vs.length
      · exact hi
      · rw [List.getElem?_append_right (by simpa using hi)] at h2
        rw [List.getElem?_replicate] at h2
        split at h2 <;> cases h2
    have ha : vs[i]? = some v := by
      unfold start at h2
      rw [List.getElem?_append_left (by simpa using hi), List.getElem?_map] at h2
      cases e : vs[i]? with
      | none => rw [e] at h2; cases h2
      | some a => rw [e] at h2; cases h2; rfl
    obtain ⟨u, hu, rv⟩ := r.get ha
    have hp : ps[i]? = some y := by
      rw [← S.pre, List.getElem?_take_of_lt (by omega)]; exact h1
    have ndP : ps.Nodup := by rw [← S.pre]; exact S.nd.sublist (List.take_sublist _ _)
    refine ⟨u, rv, ?_⟩
    rcases S.par y (List.mem_of_getElem? hp) with k | k
    · exact .inl ⟨k, bindL_get ndP hp hu k⟩
    · obtain ⟨c, e⟩ := cell_has (n := s.heap.objs.size + 1) k
      refine .inr ⟨.inl k, c, e, ?_⟩
      have q := x.cell y c e
      rw [bindC_get ndP hp hu (by show scope.names.lookup y ≠ _; rw [k]; decide)] at q
      exact q
  · exact e0.hok.fresh (Nat.le_of_lt (x.above y c (PySem.mem_of_lookup h)))
  · unfold start
    show _ = N.length
    rw [List.length_append, List.length_map, List.length_replicate]
    omega

/-- THE RULE: a def (or a method) of the text, by its body. The body's reading t is chosen for each entry; it is run at the parameters' values -/
theorem fn_of {CX : CXT} {P : Program} {w : World} {K : PySem.W.Frag} {mg : Str → Option Value} {base : Heap} {k : Nat} {f : Addr} {name qual : Str} {params : Arguments} {body : List Stmt} {scope : Scope} {dV kV doc pm cdv ct oc : Value} {an od : Option Addr}
    {osl : Array (Option Value)} {N ps : List Str} {sp : Sp} (lk : K.lookup f = some ⟨oc, od, .func (PySem.W.fnOf name qual params body scope dV kV doc pm an cdv ct), osl⟩) (hcd : PySem.W.codeIn K cdv qual = true) (S : FnScope N ps scope)
    (len : ∀ vs H Q E, sp vs H Q E → vs.length = ps.length)
    (hbody : ∀ (A : Around) (outer : List Env) (s : Shared) (H : Hp) (vs : List V) (Q : VK) (E : XK), Room k (A.deeper (envOfC qual scope s.heap.objs.size f cdv)) → sp vs H Q E →
      ∃ t, PSs (cxOf CX P w K mg base N qual scope f cdv A outer s H E) body t ∧ t { nx := fun _ H' => Q .non H', rt := Q } (start N vs) H) :
    FnOk P w K mg base CX (k + 1) f (PySem.W.fnOf name qual params body scope dV kV doc pm an cdv ct) ps sp := by
  refine ⟨len, fun A outer s H args us vs Q E hr e0 hb r hsp => ?_⟩
  have hl := len _ _ _ _ hsp
  have KX : K.In s.heap := e0.mod.kin.keeps fun b o e => (e0.bs b o e).1
  have lim : s.heap.NoLimit := e0.mod.nolimit.keeps fun b o e => (e0.bs b o e).1
  have hkind : ∀ y ∈ ps.zip us, scope.names.lookup y.1 = some .local ∨ (scope.names.lookup y.1 = some .cell ∧ ((cellsFrom (s.heap.objs.size + 1) scope.names []).lookup y.1).isSome = true) := fun ⟨n, v⟩ hy => by
    rcases S.par n (List.of_mem_zip hy).1 with q | q
    · exact .inl q
    · exact .inr ⟨q, PySem.W.cellsFrom_some _ _ _ (.inl q)⟩
  refine codeAny_call_function hr.depth (KX _ _ lk) rfl S.co S.gen rfl (PySem.W.codeRec_of KX hcd) (hb _ _ _ _ ?_)
  refine wpAny_newFunctionEnv_cells S.kind hkind fun env he s1 x => ?_
  subst he
  refine ⟨lim.keeps x.toInCall.keep, codeAny_func ?_⟩
  obtain ⟨t, ht, hq⟩ := hbody A outer s H vs Q E (hr.deeper _) hsp
  have I : Inv (cxOf CX P w K mg base N qual scope f cdv A outer s H E) [] (start N vs) H s1 := inv_start S hr.hd e0 hl r x
  refine wpAny_mono (ht [] s1 (start N vs) H _ I hq) (fun fl s' hs => ?_) fun e s' hs => hs
  have fin : ∀ {σ' : St} {H' : Hp} {v : V} {u : Value}, Inv (cxOf CX P w K mg base N qual scope f cdv A outer s H E) [] σ' H' s' → RelV v u → Q v H' → CE outer P w H s Q u s' :=
    fun {σ' H' v u} J rv q => ⟨v, H', J.os, J.bare, J.base, J.hok, rv, q⟩
  cases fl with
  | ret u =>
    obtain ⟨v, σ', H', J, rv, q⟩ := hs
    exact fin J rv q
  | next =>
    obtain ⟨σ', H', J, q⟩ := hs
    exact fin (v := V.non) (u := Value.none) J rfl q
  | brk =>
    obtain ⟨_, _, _, q⟩ := hs
    exact False.elim q
  | cont =>
    obtain ⟨_, _, _, q⟩ := hs
    exact False.elim q
end L2

namespace L2
open PySem PySem.Spec PyProof.Rows
section
variable {X : Cx} {x : Str} {p pos : Pos} {e : Expr} {es : List Expr} {t : TA} {id T : String} {r : List V → Hp → VK → Prop}

noncomputable def tCB (r : List V → Hp → VK → Prop) (t : TA) : TE := fun σ H Q => t σ H fun vs H1 => r vs H1 Q
/-- f(e, ..), f a built-in function -/
theorem pe_callB (hc : CallR X (.builtin id) r) (hg : Gl X x) (hm : X.mg x = none) (hv : bootBuiltins x = some (.builtin id)) (ha : PA X (e :: es) t) (hn : x ≠ "__name__" := by decide) (hdb : (x == ("__debug__" : Str)) = false := by decide)
    (he : starEach (e :: es) X.env = (false, eval e X.env) :: starEach es X.env := by rfl) (hpl : (backTo pos (starEach es X.env)).any (·.1) = false := by rfl) : PE X (.Call (.Name x p) (e :: es) [] pos) (tCB r t) := by
  intro pins s σ H Q I h
  refine wpAny_Call_Name_kw (ld_blt I hg hm hv ?_ hn hdb)
  exact PyProof.Rows.callWith_builtin1 (thn (ha pos pins s σ H _ I h) fun us s1 ⟨vs, H1, I1, r1, q1⟩ => hc pins s1 σ H1 vs us Q I1 r1 q1) he hpl
/-- T(e, ..), T a built-in type -/
theorem pe_callTy (hc : CallR X (.type T) r) (hg : Gl X x) (hm : X.mg x = none) (hv : bootBuiltins x = some (.type T)) (ha : PA X (e :: es) t) (hn : x ≠ "__name__" := by decide) (hdb : (x == ("__debug__" : Str)) = false := by decide)
    (he : starEach (e :: es) X.env = (false, eval e X.env) :: starEach es X.env := by rfl) (hpl : (backTo pos (starEach es X.env)).any (·.1) = false := by rfl) : PE X (.Call (.Name x p) (e :: es) [] pos) (tCB r t) := by
  intro pins s σ H Q I h
  refine wpAny_Call_Name_kw (ld_blt I hg hm hv ?_ hn hdb)
  exact PyProof.Rows.callWith_type1 (thn (ha pos pins s σ H _ I h) fun us s1 ⟨vs, H1, I1, r1, q1⟩ => hc pins s1 σ H1 vs us Q I1 r1 q1) he hpl
end
end L2

namespace HT
open PySem PyProof.Rows

section
open PySem.SeqAt
open PySem.AutoSeq1 (wpAny_loadPart')
open PySem.MeetsSeq PySem.MeetsSeq2 PySem.MeetsSeq3

end

section
variable {prog : Program} {w : World} {A : Around} {E : Value → Shared → Prop} {s : Shared}

/-! ### t[a:b], not the whole -/
/-- a slice's bound as a place among n (d where it is left out) -/
noncomputable def sIx (n d : Nat) : Option Int → Nat
  | none => d
  | some v => if v < 0 then (v + (n : Int)).toNat else min v.toNat n
theorem sIx_nat (n d k : Nat) : sIx n d (some (k : Int)) = min k n := by
  show (if (k : Int) < 0 then ((k : Int) + (n : Int)).toNat else min (k : Int).toNat n) = min k n
  rw [if_neg (by omega), Int.toNat_natCast]
theorem sIx_le (n d : Nat) (hd : d ≤ n) (o : Option Int) : sIx n d o ≤ n := by
  cases o with
  | none => exact hd
  | some v =>
    show (if v < 0 then (v + (n : Int)).toNat else min v.toNat n) ≤ n
    by_cases hv : v < 0
    · rw [if_pos hv]; omega
    · rw [if_neg hv]; exact Nat.min_le_right _ _
theorem clip_eq (v : Int) (n d : Nat) : (if v < 0 then max (v + (n : Int)) 0 else min v (n : Int)) = ((sIx n d (some v) : Nat) : Int) := by
  show (if v < 0 then max (v + (n : Int)) 0 else min v (n : Int)) = (((if v < 0 then (v + (n : Int)).toNat else min v.toNat n) : Nat) : Int)
  by_cases hv : v < 0
  · simp only [if_pos hv]; omega
  · simp only [if_neg hv]; omega
theorem adjust_gen (lo hi : Option Int) (n : Nat) : Builtin.Slice.sliceAdjust lo hi 1 (n : Int) = (((sIx n 0 lo : Nat) : Int), ((sIx n n hi : Nat) : Int)) := by
  have h1 : ¬ ((1 : Int) < 0) := by omega
  unfold Builtin.Slice.sliceAdjust
  simp only [h1, if_false]
  refine Prod.ext ?_ ?_
  · cases lo with
    | none => rfl
    | some v => exact clip_eq v n 0
  · cases hi with
    | none => rfl
    | some v => exact clip_eq v n n
theorem places_gen (i j : Nat) : Builtin.Slice.slicePlaces (i : Int) (j : Int) 1 = j - i := by
  unfold Builtin.Slice.slicePlaces
  have h1 : (1 : Int) > 0 := by omega
  simp only [h1, if_true, Int.ediv_one]
  split <;> omega
theorem slicePart_ {v : Value} {o : Option Int} {Q : Option Int → Shared → Prop} (p : IsPart v o) (h : Q o s) : wpAny (model prog w) A (Builtin.Slice.slicePartIndex v) Q E s := by
  cases p with
  | none => exact slicePart_none h
  | int i t => exact slicePart_int h
theorem sliceApplied_gen {sl : Addr} {vl vu : Value} {lo hi : Option Int} {n : Nat} {Q : Int × Int × Nat → Shared → Prop} (hs : s.heap.IsSliceOf sl vl vu .none) (pl : IsPart vl lo) (pu : IsPart vu hi)
    (h : Q (((sIx n 0 lo : Nat) : Int), 1, sIx n n hi - sIx n 0 lo) s) : wpAny (model prog w) A (Builtin.Slice.sliceApplied (.ref sl) (pure (n : Int))) Q E s := by
  obtain ⟨os, hos, hcs, hds⟩ := id hs
  unfold Builtin.Slice.sliceApplied Builtin.Slice.sliceFields
  refine wpAny_bind (wpAny_bind (wpAny_field hos hds (x := vl) rfl (wpAny_bind (wpAny_field hos hds (x := vu) rfl (wpAny_bind (wpAny_field hos hds (x := .none) rfl (wpAny_pure ?_)))))))
  refine wpAny_bind (slicePart_none ?_)
  show wpAny _ _ (if ((1 : Int) == 0) = true then _ else _) _ _ s
  rw [if_neg (by decide)]
  refine wpAny_bind (slicePart_ pl (wpAny_bind (slicePart_ pu (wpAny_bind (wpAny_pure ?_)))))
  show wpAny _ _ (match Builtin.Slice.sliceAdjust lo hi 1 (n : Int) with | (lo, hi) => pure (lo, (1 : Int), Builtin.Slice.slicePlaces lo hi 1)) _ _ s
  rw [adjust_gen lo hi n]
  show wpAny _ _ (pure (((sIx n 0 lo : Nat) : Int), (1 : Int), Builtin.Slice.slicePlaces ((sIx n 0 lo : Nat) : Int) ((sIx n n hi : Nat) : Int) 1)) _ _ s
  rw [places_gen]
  exact wpAny_pure h
theorem pick_gen (xs : Array Value) (i k : Nat) : ((List.range k).filterMap fun (m : Nat) => xs[((i : Int) + (m : Int) * 1).toNat]?).toArray = ((xs.toList.drop i).take k).toArray := by
  have e : (fun (m : Nat) => xs[((i : Int) + (m : Int) * 1).toNat]?) = fun m => xs[i + m]? := by
    funext m
    have : ((i : Int) + (m : Int) * 1).toNat = i + m := by omega
    rw [this]
  rw [e]
  have := pick_run xs i k
  rw [List.filterMap_map] at this
  have e2 : ((fun x => xs[x]?) ∘ fun x => i + x) = fun m => xs[i + m]? := rfl
  rw [e2] at this
  rw [this]

theorem getItem_tuple_cut {t sl : Addr} {items : Array Value} {vl vu : Value} {lo hi : Option Int} {Q : Value → Shared → Prop} (ht : IsTup s.heap t items) (hs : s.heap.IsSliceOf sl vl vu .none) (pl : IsPart vl lo) (pu : IsPart vu hi)
    (hw : ¬ (sIx items.size 0 lo = 0 ∧ sIx items.size items.size hi = items.size))
    (h : Q (.ref s.heap.objs.size) { s with heap := s.heap.push { cls := .type "tuple", data := .seq ((items.toList.drop (sIx items.size 0 lo)).take (sIx items.size items.size hi - sIx items.size 0 lo)).toArray } })
    (hsz : items.size ≤ sizeLine) : wpAny (model prog w) A (getItem (.ref t) (.ref sl)) Q E s := by
  have htake : sizeOk (.seq ((items.toList.drop (sIx items.size 0 lo)).take (sIx items.size items.size hi - sIx items.size 0 lo)).toArray) := by
    show ((items.toList.drop (sIx items.size 0 lo)).take (sIx items.size items.size hi - sIx items.size 0 lo)).toArray.size ≤ sizeLine
    rw [List.size_toArray, List.length_take, List.length_drop, Array.length_toList]
    omega
  have hj : sIx items.size items.size hi ≤ items.size := sIx_le _ _ (Nat.le_refl _) hi
  obtain ⟨os, hos, hcs, hds⟩ := id hs
  have hTs : s.TypeIs (.ref sl) "slice" := ⟨os, hos, hcs⟩
  unfold getItem
  try with_reducible refine wpAny_holding ?_
  first | refine wpAny_bind (wpAny_pure ?_) | skip
  refine wpAny_bind (wpAny_sequenceKey ht.typeIs (by decide) ?_)
  refine wpAny_bind (wpAny_callSpecial?_slot (name := Str.ofString "__getitem__") ht.typeIs PyProof.Rows.slot_tuple_getitem
    (wpAny_call_entry PyProof.Rows.slot_tuple_getitem ht.typeIs entry_tuple_getitem ?_ (args_tuple_getitem _ _)))
  show wpAny _ _ (Builtin.Tuple.tupleItemsOf (.ref t) >>= _) _ _ s
  refine wpAny_bind (tupleItemsOf_ ht ?_)
  refine wpAny_bind (wpAny_typeOf hTs ?_)
  rw [if_pos (by decide)]
  refine wpAny_bind (sliceApplied_gen hs pl pu ?_)
  have hno : ¬ ((((sIx items.size 0 lo : Nat) : Int) == 0 && (1 : Int) == 1 && (sIx items.size items.size hi - sIx items.size 0 lo) == items.size) = true) := by
    intro q
    rw [Bool.and_eq_true, Bool.and_eq_true] at q
    have q1 : ((sIx items.size 0 lo : Nat) : Int) = 0 := eq_of_beq q.1.1
    have q2 : sIx items.size items.size hi - sIx items.size 0 lo = items.size := eq_of_beq q.2
    exact hw ⟨by omega, by omega⟩
  show wpAny _ _ (if (((sIx items.size 0 lo : Nat) : Int) == 0 && (1 : Int) == 1 && (sIx items.size items.size hi - sIx items.size 0 lo) == items.size) = true then _ else _) _ _ s
  rw [if_neg hno, pick_gen]
  first
    | exact wpAny_bind (m := Builtin.Tuple.tupleExact _) (wpAny_newObj_type (wpAny_pure ⟨_, rfl, wpAny_pure h⟩) htake)
    | exact wpAny_bind (m := Builtin.Tuple.tupleExact _) (wpAny_newObj_type (wpAny_bind (wpAny_pure (wpAny_pure ⟨_, rfl, wpAny_pure h⟩))) htake)
    | exact wpAny_bind (wpAny_bind (m := Builtin.Tuple.tupleExact _) (wpAny_newObj_type (wpAny_pure (wpAny_pure ⟨_, rfl, wpAny_pure h⟩)) htake))
    | exact wpAny_bind (wpAny_bind (m := Builtin.Tuple.tupleExact _) (wpAny_newObj_type (wpAny_pure ⟨_, rfl, wpAny_pure h⟩) htake))
end
end HT

namespace L2
open PySem PySem.Spec PyProof.Rows

/-! ### the parts of a slice -/
noncomputable abbrev TO := St → Hp → (Option Int → Hp → Prop) → Prop
/-- a slice's part (left out, or an int) -/
noncomputable def PO (X : Cx) (e : Option Expr) (t : TO) : Prop :=
  ∀ (pins : List (Addr × Obj)) (s : Shared) (σ : St) (H : Hp) (Q : Option Int → Hp → Prop), Inv X pins σ H s → t σ H Q →
    wpAny (model X.prog X.w) X.A (evalPart e X.env) (fun u s' => ∃ o H', Inv X pins σ H' s' ∧ IsPart u o ∧ Q o H') X.xe s
noncomputable def tNoPart : TO := fun _ H Q => Q none H
noncomputable def tPart (t : TE) : TO := fun σ H Q => t σ H fun x H1 => ∃ i, x = .int i ∧ Q (some i) H1

section
variable {X : Cx} {e : Expr} {te : TE} {lo hi : Option Expr} {tl th : TO} {pos p2 : Pos}

theorem po_some (h : PE X e te) : PO X (some e) (tPart te) := by
  intro pins s σ H Q I hw
  rw [evalPart_some]
  refine thn (h pins s σ H _ I hw) fun u s1 ⟨x, H1, I1, r1, q1⟩ => ?_
  obtain ⟨i, rfl, q⟩ := q1
  obtain ⟨t, rfl⟩ := r1
  exact ⟨some i, H1, I1, .int i t, q⟩

/-- what a slice of a value is, by values: the slice object stands at sl -/
noncomputable def SlR (X : Cx) (r : V → Option Int → Option Int → Hp → VK → Prop) : Prop :=
  ∀ (pins : List (Addr × Obj)) (s : Shared) (σ : St) (H : Hp) (x : V) (v vl vu : Value) (lo hi : Option Int) (sl : Addr) (Q : VK), Inv X pins σ H s → RelV x v → s.heap.IsSliceOf sl vl vu .none → IsPart vl lo → IsPart vu hi → r x lo hi H Q →
    ∃ T id, typeLookup (.type T) "__getitem__" = pure (some (.builtin id)) ∧ s.TypeIs v T ∧ wpAny (model X.prog X.w) X.A (getItem v (.ref sl)) (EP X pins σ Q) X.xe s
theorem SlR.or {r r' : V → Option Int → Option Int → Hp → VK → Prop} (h : SlR X r) (h' : SlR X r') : SlR X (fun x lo hi H Q => r x lo hi H Q ∨ r' x lo hi H Q) := by
  intro pins s σ H x v vl vu lo hi sl Q I rx hs pl pu q
  rcases q with q | q
  · exact h pins s σ H x v vl vu lo hi sl Q I rx hs pl pu q
  · exact h' pins s σ H x v vl vu lo hi sl Q I rx hs pl pu q
noncomputable def tSl (r : V → Option Int → Option Int → Hp → VK → Prop) (te : TE) (tl th : TO) : TE := fun σ H Q => te σ H fun x H1 => tl σ H1 fun l H2 => th σ H2 fun u H3 => r x l u H3 Q
/-- a[lo:hi], any a -/
theorem pe_slice {r : V → Option Int → Option Int → Hp → VK → Prop} (hr : SlR X r) (he : PE X e te) (hl : PO X lo tl) (hu : PO X hi th) : PE X (.Subscript e (.Slice lo hi none p2) pos) (tSl r te tl th) := by
  intro pins s σ H Q I h
  refine Subscript_ (thn (he pins s σ H _ I h) fun v s1 ⟨x, H1, I1, r1, q1⟩ => ?_)
  refine wpAny_Slice (thn (hl pins s1 σ H1 _ I1 q1) fun vl s2 ⟨l, H2, I2, pl, q2⟩ => thn (hu pins s2 σ H2 _ I2 q2) fun vu s3 ⟨u, H3, I3, pu, q3⟩ => ?_)
  rw [evalPart_none]
  refine wpAny_pure ?_
  have I4 : Inv X pins σ H3 { s3 with heap := s3.heap.push { cls := .type "slice", data := .fields #[vl, vu, .none] } } := I3.kept (t' := s3.toks) fun b ob q => Heap.get?_push_of_some _ q
  obtain ⟨T, id, hT, ht, hg⟩ := hr pins { s3 with heap := s3.heap.push { cls := .type "slice", data := .fields #[vl, vu, .none] } } σ H3 x v vl vu l u s3.heap.objs.size Q I4 r1 (Heap.IsSliceOf.new ..) pl pu q3
  show wpAny (model X.prog X.w) X.A (subscriptTail e (.Slice lo hi none p2) v (.ref s3.heap.objs.size)) (EP X pins σ Q) X.xe { s3 with heap := s3.heap.push { cls := .type "slice", data := .fields #[vl, vu, .none] } }
  exact tail_any (ops := [.ref s3.heap.objs.size, v]) ht hT hg (by with_unfolding_all rfl)

/-- the items of xs[lo:hi] -/
noncomputable def cutV (xs : List V) (lo hi : Option Int) : List V := (xs.drop (HT.sIx xs.length 0 lo)).take (HT.sIx xs.length xs.length hi - HT.sIx xs.length 0 lo)
theorem cutV_length (xs : List V) (lo hi : Option Int) : (cutV xs lo hi).length ≤ xs.length := by
  unfold cutV
  rw [List.length_take, List.length_drop]
  omega
/-- t[lo:hi], not the whole of it (the whole would be t itself) -/
noncomputable def rSlT (K : PySem.W.Frag) : V → Option Int → Option Int → Hp → VK → Prop := fun x lo hi H Q => ∃ a xs, x = .ref a ∧ SqT K H a xs ∧
  ¬ (HT.sIx xs.length 0 lo = 0 ∧ HT.sIx xs.length xs.length hi = xs.length) ∧ ∀ p, H p = none → Q (.ref p) (upd H p (.tup (cutV xs lo hi)))
theorem sl_tup : SlR X (rSlT X.K) := by
  intro pins s σ H x v vl vu lo hi sl Q I rx hs pl pu h
  obtain ⟨a, xs, rfl, hx, hw, q⟩ := h
  cases rx
  obtain ⟨its, r, ht, hz⟩ := I.tuple hx
  have hlen : its.toArray.size = xs.length := by rw [List.size_toArray]; exact r.length.symm
  refine ⟨"tuple", _, PyProof.Rows.slot_tuple_getitem.lookup, ht.typeIs, ?_⟩
  refine HT.getItem_tuple_cut ht hs pl pu (by rw [hlen]; exact hw) ?_ (by rw [hlen]; exact hz)
  rw [hlen]
  refine ⟨.ref s.heap.objs.size, _, I.laid (t' := s.toks) (o := .tup (cutV xs lo hi)) (fun b ob q => Heap.get?_push_of_some _ q) (Nat.le_refl _) ?_, rfl, q _ (I.hok.fresh (Nat.le_refl _))⟩
  exact ⟨Nat.le_trans (cutV_length xs lo hi) hz, _, (r.drop (HT.sIx xs.length 0 lo)).take (HT.sIx xs.length xs.length hi - HT.sIx xs.length 0 lo), IsTup.new _ _⟩

/-! ### t < u, t + u -/
end
end L2

namespace L2
open PySem PySem.Spec PyProof.Rows

/-! ### places -/
/-- the place that an index of any sign means -/
noncomputable def ixN (n : Nat) (i : Int) : Option Nat := if 0 ≤ i then (if i < n then some i.toNat else none) else if -(n : Int) ≤ i then some (i + n).toNat else none
noncomputable def atI {α : Type} (xs : List α) (i : Int) : Option α := (ixN xs.length i).bind fun j => xs[j]?
theorem ixN_seq {n : Nat} {i : Int} {j : Nat} (h : ixN n i = some j) : seqIndex? i n = some j ∧ j < n ∧ -(n : Int) ≤ i ∧ i < n := by
  unfold ixN at h
  by_cases h0 : 0 ≤ i
  · rw [if_pos h0] at h
    by_cases h1 : i < n
    · rw [if_pos h1] at h
      have e : i.toNat = j := Option.some.inj h
      exact ⟨by rw [seqIndex_of h0 h1, e], by omega, by omega, h1⟩
    · rw [if_neg h1] at h; cases h
  · rw [if_neg h0] at h
    by_cases h1 : -(n : Int) ≤ i
    · rw [if_pos h1] at h
      have e : (i + n).toNat = j := Option.some.inj h
      exact ⟨by rw [seqIndex_neg (by omega) h1, e], by omega, h1, by omega⟩
    · rw [if_neg h1] at h; cases h
theorem atI_get {α : Type} {xs : List α} {i : Int} {v : α} (h : atI xs i = some v) : ∃ j, seqIndex? i xs.length = some j ∧ xs[j]? = some v ∧ j < xs.length ∧ -(xs.length : Int) ≤ i ∧ i < xs.length := by
  unfold atI at h
  cases e : ixN xs.length i with
  | none => rw [e] at h; cases h
  | some j =>
    rw [e] at h
    obtain ⟨h1, h2, h3, h4⟩ := ixN_seq e
    exact ⟨j, h1, h, h2, h3, h4⟩
theorem atI_nat {α : Type} {xs : List α} {j : Nat} {v : α} (h : xs[j]? = some v) : atI xs (j : Int) = some v := by
  have hj : j < xs.length := (List.getElem?_eq_some_iff.mp h).1
  have e : ixN xs.length (j : Int) = some j := by
    unfold ixN
    rw [if_pos (by omega), if_pos (by omega)]; simp
  unfold atI; rw [e]; exact h
/-! ### what may be subscripted -/
/-- what stands as an index of a plain subscript -/
noncomputable def PlainIx (b : Expr) : Prop := ∀ o i, subscripted b false o i = operate [o, i] (getItem o i)
/-- a subscript by values -/
noncomputable def IxR (X : Cx) (r : R2) : Prop :=
  ∀ (value slice : Expr) (pins : List (Addr × Obj)) (s : Shared) (σ : St) (H : Hp) (x y : V) (v u : Value) (Q : VK), Inv X pins σ H s → RelV x v → RelV y u → r x y H Q →
    subscripted slice false v u = operate [v, u] (getItem v u) → wpAny (model X.prog X.w) X.A (subscriptTail value slice v u) (EP X pins σ Q) X.xe s
/-- a call of a builtin's method by values: the receiver, the arguments -/
noncomputable def MtR (X : Cx) (id : String) (r : V → List V → Hp → VK → Prop) : Prop :=
  ∀ (pins : List (Addr × Obj)) (s : Shared) (σ : St) (H : Hp) (x : V) (xs : List V) (v : Value) (us : List Value) (Q : VK), Inv X pins σ H s → RelV x v → Vals xs us → r x xs H Q →
    wpAny (model X.prog X.w) X.A (call (.builtin id) (v :: us)) (EP X pins σ Q) X.xe s
section
variable {X : Cx} {a b : Expr} {ta tb : TE} {pos : Pos}
theorem IxR.or {r r' : R2} (h : IxR X r) (h' : IxR X r') : IxR X (fun x y H Q => r x y H Q ∨ r' x y H Q) := by
  intro value slice pins s σ H x y v u Q I rx ry q hs
  rcases q with q | q
  · exact h value slice pins s σ H x y v u Q I rx ry q hs
  · exact h' value slice pins s σ H x y v u Q I rx ry q hs
theorem MtR.or {id : String} {r r' : V → List V → Hp → VK → Prop} (h : MtR X id r) (h' : MtR X id r') : MtR X id (fun x xs H Q => r x xs H Q ∨ r' x xs H Q) := by
  intro pins s σ H x xs v us Q I rx rs q
  rcases q with q | q
  · exact h pins s σ H x xs v us Q I rx rs q
  · exact h' pins s σ H x xs v us Q I rx rs q
/-- a[b] -/
theorem pe_ix {r : R2} (hr : IxR X r) (ha : PE X a ta) (hb : PE X b tb) (hs : PlainIx b) : PE X (.Subscript a b pos) (tOp r ta tb) := by
  intro pins s σ H Q I h
  exact Subscript_ (binT ha hb I h fun v u s2 x y H2 I2 rx ry q => hr a b pins s2 σ H2 x y v u Q I2 rx ry q (hs _ _))

noncomputable def rIxL (K : PySem.W.Frag) : R2 := fun x y H Q => ∃ p xs i v, x = .ref p ∧ y = .int i ∧ SqL K H p xs ∧ atI xs i = some v ∧ Q v H
noncomputable def rIxT (K : PySem.W.Frag) : R2 := fun x y H Q => ∃ p xs i v, x = .ref p ∧ y = .int i ∧ SqT K H p xs ∧ atI xs i = some v ∧ Q v H
theorem ix_list : IxR X (rIxL X.K) := by
  intro value slice pins s σ H x y v u Q I rx ry h hs
  obtain ⟨p, xs, i, z, rfl, rfl, hq, he, q⟩ := h
  cases rx
  obtain ⟨t, rfl⟩ := ry
  obtain ⟨its, r, pl, hz⟩ := I.list hq
  obtain ⟨j, h1, h2, h3, h4, h5⟩ := atI_get he
  obtain ⟨w, ew, rw'⟩ := r.get h2
  have hl := r.length
  have hn := line63
  have fin : EP X pins σ Q w s := ⟨z, H, I, rw', q⟩
  by_cases h0 : 0 ≤ i
  · have hj : i.toNat = j := by
      rw [seqIndex_of h0 h5] at h1
      exact Option.some.inj h1
    exact item_listR pl.isList h0 (by omega) (by rw [hj]; simpa using ew) fin hs
  · have hj : (i + (its.toArray.size : Int)).toNat = j := by
      rw [seqIndex_neg (by omega) h4] at h1
      rw [List.size_toArray, ← hl]
      exact Option.some.inj h1
    exact subscriptTail_builtinR (x := w) pl.isList.typeIs slot_list_getitem.lookup
      (wpAny_getItem_list_neg (Q := fun r s' => r = w ∧ EP X pins σ Q r s') pl.isList (by omega) (by rw [List.size_toArray] <;> omega) (by omega) (by rw [hj]; simpa using ew) ⟨rfl, fin⟩) hs
theorem ix_tup : IxR X (rIxT X.K) := by
  intro value slice pins s σ H x y v u Q I rx ry h hs
  obtain ⟨p, xs, i, z, rfl, rfl, hq, he, q⟩ := h
  cases rx
  obtain ⟨t, rfl⟩ := ry
  obtain ⟨its, r, pl, hz⟩ := I.tuple hq
  obtain ⟨j, h1, h2, h3, h4, h5⟩ := atI_get he
  obtain ⟨w, ew, rw'⟩ := r.get h2
  have hl := r.length
  have hn := line63
  have fin : EP X pins σ Q w s := ⟨z, H, I, rw', q⟩
  exact subscriptTail_builtinR (x := w) pl.typeIs slot_tuple_getitem.lookup
    (getItem_tuple (j := j) (Q := fun r s' => r = w ∧ EP X pins σ Q r s') pl (by omega) (by omega) (by rw [List.size_toArray, ← hl]; exact h1) (by simpa using ew) ⟨rfl, fin⟩) hs
/-! ### xs[i] = v, any sign -/
theorem Inv.lst {pins : List (Addr × Obj)} {σ : St} {H : Hp} {s : Shared} {p : Addr} {xs : List V} (I : Inv X pins σ H s) (h : H p = some (.lst xs)) :
    ∃ (its : List Value) (n : Nat), Vals xs its ∧ s.heap.get? p = some { cls := .type "list", data := .seq its.toArray n } ∧ xs.length ≤ sizeLine := by
  obtain ⟨z, its, n, r, e⟩ := I.hok p _ h
  exact ⟨its, n, r, e, z⟩
/-! ### slices -/
theorem slice_bounds (lo hi : Option Int) (n : Nat) : (sliceBounds lo hi none n).1 = ((HT.sIx n 0 lo : Nat) : Int) ∧ (sliceBounds lo hi none n).2.1 = ((HT.sIx n n hi : Nat) : Int) ∧ (sliceBounds lo hi none n).2.2 = 1 := by
  refine ⟨?_, ?_, rfl⟩
  · cases lo with
    | none => simp [sliceBounds, HT.sIx]
    | some i =>
      simp only [sliceBounds, HT.sIx, Option.getD_none, show (1 : Int) > 0 by decide, if_true]
      by_cases h : i < 0
      · simp only [h, if_true] <;> omega
      · simp only [h, if_false] <;> omega
  · cases hi with
    | none => simp [sliceBounds, HT.sIx]
    | some i =>
      simp only [sliceBounds, HT.sIx, Option.getD_none, show (1 : Int) > 0 by decide, if_true]
      by_cases h : i < 0
      · simp only [h, if_true] <;> omega
      · simp only [h, if_false] <;> omega
theorem slicePick_cut (its : List Value) (lo hi : Option Int) : slicePick its.toArray lo hi none = ((its.drop (HT.sIx its.length 0 lo)).take (HT.sIx its.length its.length hi - HT.sIx its.length 0 lo)).toArray := by
  obtain ⟨h1, h2, h3⟩ := slice_bounds lo hi its.toArray.size
  unfold slicePick
  rw [h1, h2, h3]
  simp only [sliceRange_one, pick_run, List.size_toArray] <;> rfl
/-- xs[lo:hi] of a list: a new list -/
noncomputable def rSlL (K : PySem.W.Frag) : V → Option Int → Option Int → Hp → VK → Prop := fun x lo hi H Q => ∃ a xs, x = .ref a ∧ SqL K H a xs ∧ ∀ p, H p = none → Q (.ref p) (upd H p (.lst (cutV xs lo hi)))
theorem sl_list : SlR X (rSlL X.K) := by
  intro pins s σ H x v vl vu lo hi sl Q I rx hs pl pu h
  obtain ⟨a, xs, rfl, hx, q⟩ := h
  cases rx
  obtain ⟨its, r, ht, hz⟩ := I.list hx
  have hlen := r.length
  refine ⟨"list", _, slot_list_getitem.lookup, ht.isList.typeIs, ?_⟩
  refine wpAny_getItem_list_slice ht.isList hs pl pu .none (by simp) ?_ (by rw [List.size_toArray] <;> omega)
  rw [slicePick_cut, ← hlen]
  refine ⟨.ref s.heap.objs.size, _, I.laid (t' := s.toks) (o := .lst (cutV xs lo hi)) (fun b ob q => Heap.get?_push_of_some _ q) (Nat.le_refl _) ?_, rfl, q _ (I.hok.fresh (Nat.le_refl _))⟩
  exact ⟨Nat.le_trans (cutV_length xs lo hi) hz, _, 0, (r.drop (HT.sIx xs.length 0 lo)).take (HT.sIx xs.length xs.length hi - HT.sIx xs.length 0 lo), Heap.get?_push_size _ rfl⟩

/-! ### in, not in: flat items -/
/-! ### len, list(x), tuple(x) of any list or tuple that is read -/
theorem call_len_seq : CallR X (.builtin "len") (fun xs H Q => ∃ p ys, xs = [.ref p] ∧ (SqL X.K H p ys ∨ SqT X.K H p ys) ∧ Q (.int ys.length) H) := by
  intro pins s σ H xs us Q I r h
  obtain ⟨p, ys, rfl, hq, q⟩ := h
  obtain ⟨u, rfl, rx⟩ := vals1 r
  cases rx
  have hn := line63
  rcases hq with hq | hq
  · obtain ⟨its, r', pl, hz⟩ := I.list hq
    have hlen := r'.length
    exact Calls.call_len_list pl.isList (by simp only [List.size_toArray] <;> omega) ⟨.int ys.length, H, I.tok _, ⟨s.toks + 1, by rw [List.size_toArray, hlen]⟩, q⟩
  · obtain ⟨its, r', pl, hz⟩ := I.tuple hq
    have hlen := r'.length
    exact len_tuple pl (by simp only [List.size_toArray] <;> omega) ⟨.int ys.length, H, I.tok _, ⟨s.toks + 1, by rw [List.size_toArray, hlen]⟩, q⟩
theorem CallR.or {f : Value} {r r' : List V → Hp → VK → Prop} (h : CallR X f r) (h' : CallR X f r') : CallR X f (fun xs H Q => r xs H Q ∨ r' xs H Q) := by
  intro pins s σ H xs us Q I rs q
  rcases q with q | q
  · exact h pins s σ H xs us Q I rs q
  · exact h' pins s σ H xs us Q I rs q
theorem call_list_of : CallR X (.type "list") (fun xs H Q => ∃ p ys, xs = [.ref p] ∧ (SqL X.K H p ys ∨ SqT X.K H p ys) ∧ ∀ l, H l = none → Q (.ref l) (upd H l (.lst ys))) := by
  intro pins s σ H xs us Q I r h
  obtain ⟨p, ys, rfl, hq, q⟩ := h
  obtain ⟨u, rfl, rx⟩ := vals1 r
  cases rx
  have fin : ∀ (its : List Value), Vals ys its → ys.length ≤ sizeLine → ∀ (h' : Heap) (c' : Nat), (∀ b o', s.heap.get? b = some o' → h'.get? b = some o') →
      h'.get? s.heap.objs.size = some { cls := .type "list", dict := none, data := .seq its.toArray c', slots := #[] } → EP X pins σ Q (.ref s.heap.objs.size) { s with heap := h' } := fun its r' hz h' c' kp e =>
    ⟨.ref s.heap.objs.size, _, I.laid (t' := s.toks) kp (Nat.le_refl _) (show ObjOk X.prog X.w _ h' _ (.lst ys) from ⟨hz, its, c', r', e⟩), rfl, q _ (I.hok.fresh (Nat.le_refl _))⟩
  rcases hq with hq | hq
  · obtain ⟨its, r', pl, hz⟩ := I.list hq
    have hlen := r'.length
    obtain ⟨o, ho, hc, n, hd⟩ := pl.isList
    exact call_list_seq p (.inl rfl) ho hc hd (fun h' c' kp e => fin its r' hz h' c' kp e) (by simp only [List.size_toArray] <;> omega)
  · obtain ⟨its, r', pl, hz⟩ := I.tuple hq
    have hlen := r'.length
    obtain ⟨o, ho, hc, n, hd⟩ := pl
    exact call_list_seq p (.inr rfl) ho hc hd (fun h' c' kp e => fin its r' hz h' c' kp e) (by simp only [List.size_toArray] <;> omega)
theorem call_tuple_of : CallR X (.type "tuple") (fun xs H Q => ∃ p ys, xs = [.ref p] ∧ ((SqL X.K H p ys ∧ ∀ l, H l = none → Q (.ref l) (upd H l (.tup ys))) ∨ (SqT X.K H p ys ∧ Q (.ref p) H))) := by
  intro pins s σ H xs us Q I r h
  obtain ⟨p, ys, rfl, h⟩ := h
  obtain ⟨u, rfl, rx⟩ := vals1 r
  cases rx
  rcases h with ⟨hq, q⟩ | ⟨hq, q⟩
  · obtain ⟨its, r', pl, hz⟩ := I.list hq
    have hlen := r'.length
    refine call_tuple_list pl.isList (fun h' kp => ?_) (by simp only [List.size_toArray] <;> omega)
    have I1 : Inv X pins σ H { s with heap := h' } := I.kept (t' := s.toks) kp
    have I2 : Inv X pins σ (upd H h'.objs.size (.tup ys)) { s with heap := h'.push { cls := .type "tuple", data := .seq its.toArray } } :=
      I1.laid (t' := s.toks) (fun b o e => Heap.get?_push_of_some _ e) (Nat.le_refl _) (show ObjOk X.prog X.w _ _ _ (.tup ys) from ⟨hz, its, r', IsTup.new _ _⟩)
    exact ⟨.ref h'.objs.size, _, I2, rfl, q _ (I1.hok.fresh (Nat.le_refl _))⟩
  · obtain ⟨its, r', pl, hz⟩ := I.tuple hq
    exact call_tuple_same pl ⟨.ref p, H, I, rfl, q⟩

/-! ### the call of a builtin's method: o.m(..) -/
/-- the value is of that builtin type -/
noncomputable def tyV (K : PySem.W.Frag) (T : String) (x : V) (H : Hp) : Prop := match x with
  | .str _ => T = "str"
  | .int _ => T = "int"
  | .ref p => (T = "list" ∧ ∃ xs, SqL K H p xs) ∨ (T = "tuple" ∧ ∃ o, K.lookup p = some o ∧ o.cls = .type "tuple" ∧ o.dict = none) ∨
      (T = "dict" ∧ ((∃ kvs, H p = some (.dK kvs)) ∨ ∃ kvs, H p = some (.dT kvs))) ∨ (T = "set" ∧ ∃ S n, H p = some (.set S n))
  | _ => False
noncomputable def tBM0 (K : PySem.W.Frag) (T : String) (r : V → List V → Hp → VK → Prop) (to : TE) : TE := fun σ H Q => to σ H fun x H1 => tyV K T x H1 ∧ r x [] H1 Q
noncomputable def tBM (K : PySem.W.Frag) (T : String) (r : V → List V → Hp → VK → Prop) (to : TE) (t : TA) : TE := fun σ H Q => to σ H fun x H1 => tyV K T x H1 ∧ t σ H1 fun xs H2 => r x xs H2 Q
variable {o e : Expr} {es : List Expr} {to : TE} {t : TA} {name : Str} {apos cpos : Pos} {T id : String} {r : V → List V → Hp → VK → Prop}
/- xs.append(e), list.index on a module's tuple .. are MtR facts of 06m -/
end
end L2

namespace L2
open PySem PySem.Spec PyProof.Rows

noncomputable def MtM (X : Cx) (id : String) (r : V → List V → Hp → VK → Prop) : Prop :=
  ∀ (pins : List (Addr × Obj)) (s : Shared) (σ : St) (H : Hp) (x : V) (xs : List V) (v : Value) (us : List Value) (Q : VK), Inv X pins σ H s → RelV x v → Vals xs us → r x xs H Q →
    wpAny (model X.prog X.w) X.A (call (.builtin id) (v :: us)) (EP X pins σ Q) X.xe s

/-! ### lists of values -/
theorem Vals.one : ∀ {x : V} {us : List Value}, Vals [x] us → ∃ u, us = [u] ∧ RelV x u
  | _, _, .cons r .nil => ⟨_, rfl, r⟩
theorem Vals.two : ∀ {x y : V} {us : List Value}, Vals [x, y] us → ∃ u v, us = [u, v] ∧ RelV x u ∧ RelV y v
  | _, _, _, .cons r (.cons q .nil) => ⟨_, _, rfl, r, q⟩
theorem Vals.zero : ∀ {us : List Value}, Vals [] us → us = []
  | _, .nil => rfl
section
variable {X : Cx} {pins : List (Addr × Obj)} {σ : St} {H : Hp} {s : Shared} {l b : Addr} {xs ys zs : List V}

/-! ### the two steps: a tracked list is rewritten, a new list is laid -/
theorem Inv.lset {its its' : List Value} {n : Nat} {f : Array Value → Array Value} {t' : Nat} (I : Inv X pins σ H s) (hH : H l = some (.lst xs))
    (e : s.heap.get? l = some { cls := .type "list", data := .seq its.toArray n }) (hf : f its.toArray = its'.toArray) (hv : Vals ys its') (hz : ys.length ≤ sizeLine) :
    Inv X pins σ (upd H l (.lst ys)) { s with heap := s.heap.update l (Obj.mapSeq f), toks := t' } := by
  have q := PySem.IsL.update e f
  rw [hf] at q
  refine I.write (x := l) (e := l) (by rw [hH]; exact trivial) (.inl rfl) (fun b' u hb hu => (Heap.get?_update_other s.heap (Obj.mapSeq f) (Ne.symm hb)).trans hu) ⟨_, q⟩ ?_
  exact ⟨hz, its', _, hv, q⟩
theorem Inv.lnew {its : List Value} {t' : Nat} (I : Inv X pins σ H s) (hv : Vals ys its) (hz : ys.length ≤ sizeLine) :
    Inv X pins σ (upd H s.heap.objs.size (.lst ys)) { s with heap := s.heap.push { cls := .type "list", data := .seq its.toArray }, toks := t' } :=
  I.laid (fun _ _ q => Heap.get?_push_of_some _ q) (Nat.le_refl _) ⟨hz, its, 0, hv, Heap.get?_push_size _ rfl⟩
theorem Inv.fresh (I : Inv X pins σ H s) : H s.heap.objs.size = none := I.hok.fresh (Nat.le_refl _)
theorem Inv.lstM (I : Inv X pins σ H s) (hH : H l = some (.lst xs)) : xs.length ≤ sizeLine ∧ ∃ (its : List Value) (n : Nat), Vals xs its ∧ xs.length = its.length ∧ s.heap.get? l = some { cls := .type "list", data := .seq its.toArray n } := by
  obtain ⟨z, its, n, r, e⟩ := I.hok l _ hH
  exact ⟨z, its, n, r, r.length, e⟩

end

section
variable {X : Cx}

/-! ### methods -/
noncomputable def rAppend : V → List V → Hp → VK → Prop := fun x vs H Q => ∃ l xs y, x = .ref l ∧ vs = [y] ∧ H l = some (.lst xs) ∧ xs.length < sizeLine ∧ Q .non (upd H l (.lst (xs ++ [y])))
theorem mt_append : MtM X "list.append" rAppend := by
  intro pins s σ H x vs v us Q I rx rv h
  obtain ⟨l, xs, y, rfl, rfl, hH, hz, q⟩ := h
  cases rx
  obtain ⟨u, rfl, ru⟩ := rv.one
  obtain ⟨z, its, n, r, hl, e⟩ := I.lstM hH
  refine call_meets F.slot_list_append ⟨_, e, rfl⟩ F.entry_list_append (F.args_list_append_2 _ _) (PySem.list_append l its.toArray n u (by rw [List.size_toArray]; omega)) ⟨e, ?_⟩
  refine ⟨.non, _, I.lset (its' := its ++ [u]) hH e (by simp) (r.append (.cons ru .nil)) ?_, rfl, q⟩
  rw [List.length_append, List.length_singleton]
  omega

/-! ### list + list, list += list, list * int -/
/-! ### del xs[i] -/
end

/-! ### xs[a:b] = ys -/
section
variable {prog : Program} {w : World} {A : Around} {E : Value → Shared → Prop} {s : Shared}
set_option maxRecDepth 100000 in
end

section
variable {X : Cx}
end
end L2

namespace Att
open PySem PySem.W PySem.Calls PyProof.Rows

/-! ### the script -/
theorem ints_of_wellAll {P : Params} {h : Heap} : ∀ (ns : List Int) (vs : List Value), WellAll P h vs (ns.map WData.int) → IntsAre vs ns := by
  intro ns
  induction ns with
  | nil =>
    intro vs w
    rw [List.map_nil] at w
    cases w
    exact .nil
  | cons n ns ih =>
    intro vs w
    rw [List.map_cons] at w
    cases w with
    | cons a b =>
      cases a
      exact .cons _ _ (ih _ b)

theorem script_of {l : OpenLaw} {n : Nat} (hn : l.most = some n) {P : Params} {h : Heap} {args : List WData} {vals : List Value}
    (hpre : l.row.toRowW.claim.pre args = true) (hwl : WellAll P h vals args) :
    ∃ a vs ns, vals = [Value.ref a] ∧ args = [WData.list (ns.map WData.int)] ∧ h.get? a = some { cls := .type "list", data := .seq vs.toArray } ∧ IntsAre vs ns ∧ ns.length ≤ n := by
  have hsh : WShape.hasAll [] args [.list .int] = true := (pre_splitW hpre).1
  have hc : l.pre.holds [] { args := args } = true := (pre_splitW hpre).2
  obtain ⟨d, r, rfl, h1, h2⟩ := hasAllW_cons hsh
  obtain rfl := hasAllW_nil h2
  obtain ⟨xs, rfl, h3⟩ := hasW_list h1
  obtain ⟨ns, rfl⟩ := items_int h3
  have hlen : ns.length ≤ n := by
    unfold OpenLaw.pre at hc
    have h4 : (WTm.not (.lt (.lit (.int (n : Int))) (.len (.arg 0)))).holds [] { args := [.list (ns.map .int)] } = true := by
      have h4 := (holds_andW hc).1
      rw [hn] at h4
      exact h4
    have h5 := condW_of h4 (w_not (w_lt w_lit (w_len_list (w_arg rfl))))
    rw [List.length_map] at h5
    refine Nat.le_of_not_lt fun q => ?_
    have q' : (n : Int) < ((ns.length : Nat) : Int) := by omega
    first
      | (rw [decide_eq_true q'] at h5; exact absurd h5 (by decide))
      | (simp at h5; omega)
  cases hwl with
  | cons w1 w2 =>
    cases w2
    cases w1 with
    | list ho hall => exact ⟨_, _, ns, rfl, rfl, ho, ints_of_wellAll ns _ hall, hlen⟩

theorem post_true (l : OpenLaw) (args : List WData) : l.row.toRowW.claim.post args (.bool true) args = true :=
  postW_of (r := l.row.toRowW) (X := (true == true))
    (show WShape.has [] (.bool true) .bool = true by first | rfl | decide | simp [WShape.has, WShape.arms, WShape.armsAll])
    (show (WTm.eq .res (.lit (.bool true))).value [] { args := args, res := some (.bool true), after := args } = some (.bool (true == true)) from w_eq_bool (w_res rfl) w_lit) rfl

/-! ### the attachment: holds_open's last premise (the goal 'hc' behind k_head) from a wpAny of the law's body -/
/-- the same from a codeAny of the CALL (for a layer whose function contracts speak of calls) -/
theorem attach_call {l : OpenLaw} {n : Nat} {q : Program} {loose : List Str} {XP : (Str → Option Value) → Heap → Prop} {YP : World → Heap → Prop} {d : DefRec}
    (hn : l.most = some n) (hdf : d.params.defaults = [])
    (call : ∀ (w : World) (s₀ s₁ : Shared) (mg mb : Str → Option Value) (fa : Addr) (o : Obj) (pm cd doc : Value) (a : Addr) (vs : List Value) (ns : List Int),
      Ground q loose [] XP w s₀ mg mb s₁.heap → YP w s₁.heap →
      s₁.heap.get? fa = some o → o.data = .func (docDef d.name d.params d.body d.scope pm cd doc) → s₁.heap.CodeRec cd d.name → mg d.name = some (.ref fa) →
      s₁.heap.get? a = some { cls := .type "list", data := .seq vs.toArray } → IntsAre vs ns → ns.length ≤ n → s₁.gens = #[] →
      codeAny (model l.prog w) callerA (.call (.ref fa) ⟨[.ref a], []⟩) (fun r s' => r = .ok (.ret (.bool true)) ∧ OldK s₁.heap s'.heap ∧ s'.os = s₁.os ∧ AllBare s'.gens) s₁) :
    WalkO q loose XP YP l.row.toRowW d [] (fun f vs => PySem.call f vs) := by
  intro w s₀ s₁ mg mb G Y fa o pm cd doc dV kV ho hd hcd hD hmg hg args vals as hpre hlay hrd hwl hlo
  obtain rfl : dV = .none := Dflts.none hD hdf
  obtain rfl : kV = .none := Dflts.noKw hD
  obtain ⟨a, vs, ns, rfl, rfl, hobj, hints, hlen⟩ := script_of hn hpre hwl
  refine enter_call (codeAny_mono (call w s₀ s₁ mg mb fa o pm cd doc a vs ns G Y ho (fd_plain hd) hcd hmg hobj hints hlen hg) fun r s' hq => ?_)
  obtain ⟨rfl, h2, h3, h4⟩ := hq
  exact ⟨.inl ⟨.bool true, .bool true, [], rfl, fun _ => rfl, .bool true, post_true l _, fun _ => ⟨List.Pairwise.nil, fun _ hm => (nomatch hm)⟩⟩, h2, h3, h4⟩

/-! ### rules over ANY heap (no ledger) from facts about the written part K: the library's own take a ledger (News) for what they write -/
section
variable {prog : Program} {w : World} {A : Around} {E : Value → Shared → Prop} {s : Shared} {K : Frag}

/-! the whole heap as the ledger: makes every rule that writes through a ledger a rule over any heap -/
noncomputable def ledger (h : Heap) (L d : Addr) : List (Addr × Obj) := (List.range h.objs.size).filterMap fun a => if a = L ∨ a = d then none else (h.get? a).map fun o => (a, o)
end
end Att

namespace L2
open PySem PySem.Spec PyProof.Rows

theorem vals_ints : ∀ {vs : List Value} {ns : List Int}, IntsAre vs ns → Vals (ns.map V.int) vs
  | _, _, .nil => .nil
  | _, _, .cons n t h => .cons ⟨t, rfl⟩ (vals_ints h)

/-- nothing is tracked but the script, known to the object (or it is an object of the module) -/
noncomputable def Only (H : Hp) : Prop := ∀ b, H b = none ∨ ∃ o xs, H b = some (.frz o (.lst xs))

/-- THE HEAD: the law's promise, at the heap behind the top. F, the promise of the law's def, may use that base is part of the heap (so K.In base, base.Ns mainGlobals mg stand in Mod) -/
theorem law_call {P : Program} {w : World} {K : PySem.W.Frag} {mg mb : Str → Option Value} {CX : CXT} {k : Nat} {fa a : Addr} {fd : FuncData} {x : Str} {sp : Sp} {s₁ : Shared} {vs : List Value} {ns : List Int}
    (KX : K.In s₁.heap) (hns : s₁.heap.Ns mainGlobals mg) (hb : s₁.heap.Ns builtinsNs mb) (hbb : ∀ x : Str, x ≠ "__name__" → mb x = bootBuiltins x) (hlim : s₁.heap.NoLimit) (hg : s₁.gens = #[])
    (ha : s₁.heap.get? a = some { cls := .type "list", data := .seq vs.toArray }) (hi : IntsAre vs ns) (hl : ns.length ≤ sizeLine) (hr : Room k callerA)
    (F : ∀ base : Heap, K.In base → base.Ns mainGlobals mg → FnOk P w K mg base CX k fa fd [x] sp) (hbind : ∀ (s : Shared) (u : Value), BindsTo s fd ⟨[u], []⟩ [(x, u)])
    (hsp : ∀ H : Hp, Only H → SqL K H a (ns.map V.int) → sp [.ref a] H (fun v _ => v = .bl true) fun _ _ _ => False)
    (hCX : ∀ H e s', CX [] H s₁ (fun _ _ _ => False) e s' → False) :
    codeAny (model P w) callerA (.call (.ref fa) ⟨[.ref a], []⟩) (fun r s' => r = .ok (.ret (.bool true)) ∧ OldK s₁.heap s'.heap ∧ s'.os = s₁.os ∧ AllBare s'.gens) s₁ := by
  have rv := vals_ints hi
  have lenV := hi.length
  -- from an abstract heap in which nothing but the script may be tracked
  have core : ∀ H : Hp, Only H → SqL K H a (ns.map V.int) → HOk P w H s₁.heap → (∀ b, H b ≠ none → b = a) → (H a ≠ none → K.lookup a = none) →
      codeAny (model P w) callerA (.call (.ref fa) ⟨[.ref a], []⟩) (fun r s' => r = .ok (.ret (.bool true)) ∧ OldK s₁.heap s'.heap ∧ s'.os = s₁.os ∧ AllBare s'.gens) s₁ := by
    intro H hO hS hok hA hK
    have base_of : ∀ {b : Addr} {o : Obj}, s₁.heap.get? b = some o → H b = none → (hidT s₁.heap H).get? b = some o := fun e n => hidT_get e n
    have noA : ∀ {b : Addr} {o : Obj} {es : Array DictEntry} {ep : Nat}, s₁.heap.get? b = some o → o.data = .dict es ep → H b = none := fun {b o es ep} e d => by
      cases q : H b with
      | none => rfl
      | some u =>
        have e' : b = a := hA b (by rw [q]; simp)
        subst e'
        rw [ha] at e; cases e
        have d' : Data.seq vs.toArray _ = Data.dict es ep := d
        cases d'
    have nsK : ∀ {b : Addr} {m : Str → Option Value}, s₁.heap.Ns b m → (hidT s₁.heap H).Ns b m := fun {b m} ⟨o, es, ep, e, d, r⟩ => ⟨o, es, ep, base_of e (noA e d), d, r⟩
    have hKb : K.In (hidT s₁.heap H) := fun b o e => base_of (KX b o e) (by
      cases q : H b with
      | none => rfl
      | some u =>
        have e' : b = a := hA b (by rw [q]; simp)
        subst e'
        rw [hK (by rw [q]; simp)] at e; cases e)
    have hM : Mod K mg (hidT s₁.heap H) := ⟨hKb, nsK hns, ⟨mb, nsK hb, hbb⟩, let ⟨mc, h1, h2⟩ := hlim; ⟨mc, nsK h1, h2⟩⟩
    have e0 : Env0 P w K mg (hidT s₁.heap H) callerA [] s₁ H := ⟨rfl, hM, fun b o e => of_hidT e, Nat.le_of_eq (hidT_size _ _), trivial, fun b hb => absurd (show b ∈ ([] : List Addr) from hb) (by simp), hok, .of_eq hg⟩
    refine codeAny_mono ((F _ hKb (nsK hns)).run callerA [] s₁ H ⟨[.ref a], []⟩ [.ref a] [.ref a] _ _ hr e0 (hbind s₁ (.ref a)) (.cons rfl .nil) (hsp H hO hS)) fun r s' h => ?_
    cases r with
    | error e => exact (hCX H e s' h).elim
    | ok fl =>
      cases fl with
      | next => exact False.elim h
      | brk => exact False.elim h
      | cont => exact False.elim h
      | ret u =>
        obtain ⟨v, H', os, bare, un, hok', r', q⟩ := h
        have q' : v = .bl true := q
        subst q'
        obtain rfl : u = Value.bool true := r'
        refine ⟨rfl, OldK.of_keep fun b o e => ?_, os, bare⟩
        cases q : H b with
        | none => exact un.keep b o e q (by intro z; exact absurd (show b ∈ ([] : List Addr) from z) (by simp)) (by simp)
        | some u =>
          rcases hO b with z | ⟨ob, xs, z⟩
          · rw [q] at z; cases z
          · have z2 := un.frzs b ob _ z
            obtain ⟨e1, _⟩ := hok b _ z
            obtain ⟨e2, _⟩ := hok' b _ z2
            rw [e] at e1; cases e1
            exact e2
  cases hk : K.lookup a with
  | some o =>
    -- the script is one of the module's own objects
    have e := KX a o hk
    rw [ha] at e
    cases e
    refine core (fun _ => none) (fun _ => .inl rfl) (.inr ⟨_, vs.toArray, _, hk, rfl, rfl, rfl, by rw [List.size_toArray, lenV]; exact hl, by simpa using rv⟩) (fun b u z => by have z' : (none : Option HO) = some u := z; cases z') (fun b z => absurd rfl z) fun z => absurd rfl z
  | none =>
    refine core (fun b => if b = a then some (.frz { cls := .type "list", data := .seq vs.toArray } (.lst (ns.map V.int))) else none) (fun b => ?_) (.inl (.inr ⟨{ cls := .type "list", data := .seq vs.toArray }, if_pos rfl⟩)) (fun b u z => ?_) (fun b z => ?_) fun _ => hk
    · by_cases hb : b = a
      · exact .inr ⟨_, _, if_pos hb⟩
      · exact .inl (if_neg hb)
    · by_cases hb : b = a
      · have z' := (if_pos hb).symm.trans z
        cases z'
        subst hb
        exact ⟨ha, by rw [List.length_map]; exact hl, vs, _, rv, ha⟩
      · have z' := (if_neg hb).symm.trans z
        cases z'
    · by_cases hb : b = a
      · exact hb
      · exact absurd (if_neg hb) z
end L2

namespace L2
open PySem PySem.Spec PyProof.Rows

noncomputable abbrev KOf {K : PySem.W.Frag} {h : Heap} (_ : K.In h) : PySem.W.Frag := K

/-- the goal that k_head leaves (case hc), from the law's promise. F gives the function object fd (K's own) once, then the promise over every base -/
theorem walk_of {l : PySem.W.OpenLaw} {n k : Nat} {q : Program} {loose : List Str} {XP : (Str → Option Value) → Heap → Prop} {YP : World → Heap → Prop} {d : DefRec} {K : Params → PySem.W.Frag} {CX : World → CXT} {sp : World → Sp} {x : Str}
    (hn : l.most = some n) (hn2 : n ≤ sizeLine) (hdf : d.params.defaults = []) (hr : Room k callerA)
    (hY : ∀ (w : World) (h : Heap), YP w h → (K w.params).In h)
    (F : ∀ (w : World) (mg : Str → Option Value) (fa : Addr) (h : Heap), (K w.params).In h → h.Ns mainGlobals mg → mg d.name = some (.ref fa) →
      ∃ fd : FuncData, (∀ (s : Shared) (u : Value), BindsTo s fd ⟨[u], []⟩ [(x, u)]) ∧
        ∀ base : Heap, (K w.params).In base → base.Ns mainGlobals mg → FnOk l.prog w (K w.params) mg base (CX w) k fa fd [x] (sp w))
    (hsp : ∀ (w : World) (H : Hp) (a : Addr) (ns : List Int), ns.length ≤ n → Only H → SqL (K w.params) H a (ns.map V.int) → sp w [.ref a] H (fun v _ => v = .bl true) fun _ _ _ => False)
    (hCX : ∀ (w : World) (H : Hp) (s : Shared) (e : Value) (s' : Shared), CX w [] H s (fun _ _ _ => False) e s' → False) :
    PySem.W.WalkO q loose XP YP l.row.toRowW d [] (fun f vs => PySem.call f vs) := by
  refine Att.attach_call hn hdf fun w s₀ s₁ mg mb fa o pm cd doc a vs ns G Y ho hd hcd hmg hobj hints hlen hg => ?_
  have KX := hY w _ Y
  obtain ⟨fd, hb, hF⟩ := F w mg fa _ KX G.T.g hmg
  exact law_call KX G.T.g G.T.b G.T.builtins G.T.nolimit hg hobj hints (Nat.le_trans hlen hn2) hr hF hb (fun H hO hS => hsp w H a ns hlen hO hS) fun H e s' => hCX w H s₁ e s'
end L2

/- THE LAST THEOREM (shape; LID, My.* are yours):
   My.Adr: a structure of the addresses that your layer names (classes, functions); My.Txt K t: a structure (Prop) of the equations over K;
   My.txt_mk : {K} {implicit addresses ..} (e1 : nsIn K mainGlobals "law" = some (some (.ref f))) (e2 : K.lookup f = some ⟨oc, od, .func (fnOf "law" "law" params body scope dV kV doc pm an cdv ct), sl⟩) (e3 : codeIn K cdv "law" = true) .. : ∃ t, My.Txt K t

set_option maxRecDepth 100000 in
set_option maxHeartbeats 0 in
theorem PySem.Challenge.cw_LID_holds : PySem.Challenge.rw_LID.Holds := by
  w_on; o_law; k_head; (case hw => w_witness2)
  k_fill
  refine L2.walk_of (l := PySem.Challenge.rw_LID) (n := 63) (k := 40) (x := "script") (CX := fun w => ..) (sp := fun _ => My.sp_law) rfl (by decide) rfl ⟨rfl, by decide, by decide⟩ (fun w h Y => PySem.W.kIn_of Y) ?F ?S ?C
  case F =>
    intro w mg fa h KX G hmg
    have T : ∃ t, My.Txt (L2.KOf KX) t := by
      dsimp only [L2.KOf]                          -- K must stand as «<heap const> w.params» for k_is
      refine' My.txt_mk ?e1 ?e2 ?e3 ..
      (case e1 => PySem.W.k_is)                    -- in the order: a name -> its address -> its object -> its parts
      (case e2 => PySem.W.k_is)
      ..
    obtain ⟨t, T⟩ := T
    have e0 := hmg.symm.trans (PySem.W.mg_of KX G T.law)
    cases e0                                       -- fa is the law's own address
    exact ⟨_, fun s u => .of_eq rfl, fun base kb nb => My.law_fn T kb nb⟩     -- if «.of_eq rfl» comes too early: refine' ⟨_, ?b, fun base kb nb => My.law_fn T kb nb⟩; exact fun s u => .of_eq rfl
  case S => exact fun w H a ns hl hO hS => ..
  case C => exact ..
(the tactic k_is has no namespace: write k_is) -/

/-! SHORT WORDS over the layer: a def of the text, its body, what a loop and a test want. -/
namespace L2
open PySem PySem.Spec PyProof.Rows

/-! ### the text by places -/
noncomputable def defArgs (s : Stmt) : Arguments := match s with
  | .FunctionDef _ a _ _ _ _ _ _ _ _ => a
  | _ => { posonlyargs := [], args := [], vararg := none, kwonlyargs := [], kw_defaults := [], kwarg := none, defaults := [] }
noncomputable def defBody (s : Stmt) : List Stmt := match s with
  | .FunctionDef _ _ b _ _ _ _ _ _ _ => b
  | _ => []
noncomputable def defScope (s : Stmt) : Scope := match s with
  | .FunctionDef _ _ _ _ _ _ sc _ _ _ => sc
  | _ => { kind := .function, names := [], isGenerator := false, isCoroutine := false }

/-! ### no exception leaves a def -/
noncomputable abbrev CX0 : CXT := fun _ _ _ _ _ _ => False
noncomputable abbrev E0 : XK := fun _ _ _ => False
theorem pass0 {X : Cx} : Passes CX0 X E0 := fun _ _ _ _ _ _ _ h => h.elim

/-! ### a def (or method) of the text as it stands behind the top -/
structure Fun (K : PySem.W.Frag) (x qual : Str) (st : Stmt) (f : Addr) (fd : FuncData) : Prop where
  ex : ∃ (oc : Value) (od : Option Addr) (kV doc pm : Value) (an : Option Addr) (cdv ct : Value) (osl : Array (Option Value)),
    fd = PySem.W.fnOf x qual (defArgs st) (defBody st) (defScope st) .none kV doc pm an cdv ct ∧ K.lookup f = some ⟨oc, od, .func fd, osl⟩ ∧ PySem.W.codeIn K cdv qual = true
  kp : PySem.W.keepIn K (.ref f) = true
section
variable {P : Program} {w : World} {K : PySem.W.Frag} {mg : Str → Option Value} {base : Heap}
/-- THE RULE for a def: its body as a term of rules, and the reading of that term -/
theorem Fun.ok {x qual : Str} {st : Stmt} {f : Addr} {fd : FuncData} {N ps : List Str} {k : Nat} {sp : Sp} (F : Fun K x qual st f fd) (S : FnScope N ps (defScope st)) (len : ∀ vs H Q E, sp vs H Q E → vs.length = ps.length)
    (hbody : ∀ (cdv : Value) (A : Around) (outer : List Env) (s : Shared) (H : Hp) (vs : List V) (Q : VK) (E : XK), Room k (A.deeper (envOfC qual (defScope st) s.heap.objs.size f cdv)) → sp vs H Q E →
      ∃ t, PSs (cxOf CX0 P w K mg base N qual (defScope st) f cdv A outer s H E).nox (defBody st) t ∧ t { nx := fun _ H' => Q .non H', rt := Q } (start N vs) H) : FnOk P w K mg base CX0 (k + 1) f fd ps sp := by
  obtain ⟨oc, od, kV, doc, pm, an, cdv, ct, osl, rfl, lk, hcd⟩ := F.ex
  refine fn_of lk hcd S len fun A outer s H vs Q E hr hsp => ?_
  obtain ⟨t, h, q⟩ := hbody cdv A outer s H vs Q E hr hsp
  exact ⟨t, h.nox, q⟩
/-- how its arguments bind (no defaults): h is «fun _ _ _ _ _ _ us hl => match us, hl with | [_, _], _ => rfl», one _ a parameter -/
theorem Fun.binds {x qual : Str} {st : Stmt} {f : Addr} {fd : FuncData} {ps : List Str} (F : Fun K x qual st f fd)
    (h : ∀ (kV doc pm : Value) (an : Option Addr) (cdv ct : Value) (us : List Value), us.length = ps.length → bindArgs (PySem.W.fnOf x qual (defArgs st) (defBody st) (defScope st) .none kV doc pm an cdv ct) ⟨us, []⟩ = pure (ps.zip us)) : Binds K fd ps [] := by
  obtain ⟨oc, od, kV, doc, pm, an, cdv, ct, osl, rfl, lk, hcd⟩ := F.ex
  exact .all (h kV doc pm an cdv ct)
theorem fun_mk {x qual : Str} {st : Stmt} {f : Addr} {oc : Value} {od an : Option Addr} {osl : Array (Option Value)} {kV doc pm cdv ct : Value} (l : K.lookup f = some ⟨oc, od, .func (PySem.W.fnOf x qual (defArgs st) (defBody st) (defScope st) .none kV doc pm an cdv ct), osl⟩)
    (c : PySem.W.codeIn K cdv qual = true) (k : PySem.W.keepIn K (.ref f) = true) : Fun K x qual st f (PySem.W.fnOf x qual (defArgs st) (defBody st) (defScope st) .none kV doc pm an cdv ct) := ⟨⟨oc, od, kV, doc, pm, an, cdv, ct, osl, rfl, l, c⟩, k⟩
end
theorem small1000 {n : Nat} (h : n ≤ 1000) : n < sizeLine := Nat.lt_of_le_of_lt h (by decide)

/-! ### expressions in short: the name that stands in the i-th slot -/
section
variable {X : Cx}
theorem pv (i : Nat) {x : Str} {pos : Pos} (hN : X.N[i]? = some x := by rfl) (hv : Vis X.env.scope x := by first | exact Or.inl rfl | exact Or.inr (Or.inl rfl) | exact Or.inr (Or.inr rfl)) (hd : (x == ("__debug__" : Str)) = false := by decide)
    (hcd : (x == ("__classdict__" : Str)) = false := by decide) : PE X (.Name x pos) (tVar i) := pe_var hN hv hd hcd
end

/-! ### tests -/
theorem iteF {A B : Prop} (h : B) : if false = true then A else B := by
  rw [if_neg Bool.false_ne_true]
  exact h
theorem iteT {A B : Prop} (h : A) : if true = true then A else B := by
  rw [if_pos rfl]
  exact h
theorem ite2 {c A B : Prop} [Decidable c] (h1 : c → A) (h2 : ¬ c → B) : if c then A else B := by
  by_cases h : c
  · rw [if_pos h]
    exact h1 h
  · rw [if_neg h]
    exact h2 h
/-! ### heaps -/
/-- all that was tracked is as it was -/
noncomputable def Same (H H' : Hp) : Prop := ∀ b o, H b = some o → H' b = some o
theorem Same.refl (H : Hp) : Same H H := fun _ _ h => h
theorem Same.trans {H H1 H2 : Hp} (a : Same H H1) (b : Same H1 H2) : Same H H2 := fun c o h => b c o (a c o h)
theorem Same.free {H H' : Hp} (e : Same H H') {l : Addr} (h : H' l = Option.none) : H l = Option.none := by
  cases q : H l with
  | none => rfl
  | some o =>
    rw [e l o q] at h
    cases h
theorem Same.seq {K : PySem.W.Frag} {H H' : Hp} {a : Addr} {xs : List V} (e : Same H H') (h : SqL K H a xs) : SqL K H' a xs := by
  rcases h with (h | ⟨o, h⟩) | h
  · exact .inl (.inl (e _ _ h))
  · exact .inl (.inr ⟨o, e _ _ h⟩)
  · exact .inr h

end L2

set_option maxHeartbeats 4000000
/-! COMPREHENSIONS: [elt for x in iter], as a value and as what a name is set to. -/
namespace L2
open PySem PySem.Spec PyProof.Rows

/-- the cells that a comprehension's block takes along from the frame around it -/
noncomputable def clOf (env : Env) : List (Str × NameKind) → List (Str × Addr) → List (Str × Addr)
  | [], cs => cs
  | (n, k) :: r, cs => clOf env r (if k == .free then (n, (env.cells.lookup n).getD 0) :: cs else cs)
theorem clOf_lookup {env : Env} {n : Str} {c : Addr} : ∀ {l : List (Str × NameKind)} {cs : List (Str × Addr)}, (∀ y ∈ l, y.2 = .free → ∃ c, env.cells.lookup y.1 = some c) →
    (clOf env l cs).lookup n = some c → cs.lookup n = some c ∨ env.cells.lookup n = some c
  | [], _, _, h => .inl h
  | (m, k) :: r, cs, hl, h => by
    have hr : ∀ y ∈ r, y.2 = .free → ∃ c, env.cells.lookup y.1 = some c := fun y hy => hl y (List.mem_cons_of_mem _ hy)
    rcases clOf_lookup hr h with q | q
    · by_cases hk : (k == NameKind.free) = true
      · rw [if_pos hk] at q
        obtain ⟨c', e⟩ := hl (m, k) List.mem_cons_self (by simpa using hk)
        rw [List.lookup_cons] at q
        cases hm : n == m with
        | true =>
          rw [hm] at q
          have q' : (env.cells.lookup m).getD 0 = c := Option.some.inj q
          have em : n = m := by simpa using hm
          rw [e] at q'
          have q2 : c' = c := q'
          rw [em, e, q2]
          exact .inr rfl
        | false =>
          rw [hm] at q
          exact .inl q
      · rw [if_neg hk] at q
        exact .inl q
    · exact .inr q
theorem clOf_has {env : Env} {n : Str} : ∀ {l : List (Str × NameKind)} {cs : List (Str × Addr)}, ((n, NameKind.free) ∈ l ∨ ∃ c, cs.lookup n = some c) → ∃ c, (clOf env l cs).lookup n = some c
  | [], _, h => by
    rcases h with h | h
    · simp at h
    · exact h
  | (m, k) :: r, cs, h => by
    refine clOf_has (l := r) ?_
    by_cases hn : (n, NameKind.free) ∈ r
    · exact .inl hn
    · refine .inr ?_
      rcases h with h | ⟨c, h⟩
      · rcases List.mem_cons.mp h with e | e
        · cases e
          rw [if_pos (by decide)]
          exact ⟨(env.cells.lookup n).getD 0, by rw [List.lookup_cons]; simp⟩
        · exact absurd e hn
      · by_cases hk : (k == NameKind.free) = true
        · rw [if_pos hk, List.lookup_cons]
          cases hm : n == m with
          | true => exact ⟨_, rfl⟩
          | false => exact ⟨c, h⟩
        · rw [if_neg hk]
          exact ⟨c, h⟩
theorem closure_is {scope : Scope} {env : Env} (h : ∀ y ∈ scope.names, y.2 = .free → ∃ c, env.cells.lookup y.1 = some c) : closureFor scope env = pure (clOf env scope.names []) := by
  have go : ∀ (l : List (Str × NameKind)) (cs : List (Str × Addr)), (∀ y ∈ l, y.2 = .free → ∃ c, env.cells.lookup y.1 = some c) →
      (forIn l cs (fun (x : Str × NameKind) (r : List (Str × Addr)) => if x.2 == NameKind.free then (do let a ← cellOf env x.1; pure (ForInStep.yield ((x.1, a) :: r))) else (pure (ForInStep.yield r) : Sem _)) : Sem _) = pure (clOf env l cs) := by
    intro l
    induction l with
    | nil => intro cs _; rfl
    | cons y r ih =>
      intro cs hl
      obtain ⟨n, k⟩ := y
      have hr : ∀ y ∈ r, y.2 = .free → ∃ c, env.cells.lookup y.1 = some c := fun y hy => hl y (List.mem_cons_of_mem _ hy)
      rw [List.forIn_cons]
      by_cases hk : (k == NameKind.free) = true
      · obtain ⟨c, e⟩ := hl (n, k) List.mem_cons_self (by simpa using hk)
        have e1 : cellOf env n = pure c := by unfold cellOf; rw [show env.cells.lookup n = some c from e]
        dsimp only
        rw [if_pos hk, e1]
        simp only [pure_bind]
        rw [ih _ hr]
        show _ = pure (clOf env r _)
        rw [if_pos hk, show env.cells.lookup n = some c from e]
        all_goals rfl
      · dsimp only
        rw [if_neg hk]
        simp only [pure_bind]
        rw [ih _ hr]
        show _ = pure (clOf env r _)
        rw [if_neg hk]
  have e : closureFor scope env = (forIn scope.names ([] : List (Str × Addr)) (fun (x : Str × NameKind) (r : List (Str × Addr)) => if x.2 == NameKind.free then (do let a ← cellOf env x.1; pure (ForInStep.yield ((x.1, a) :: r))) else (pure (ForInStep.yield r) : Sem _)) : Sem _) := by
    unfold closureFor
    first
      | rfl
      | (simp only [bind_pure]; rfl)
      | (simp; done)
  rw [e]
  exact go _ _ h

theorem relabel_free {env : Env} : ∀ {names : List (Str × NameKind)} {x : Str}, names.lookup x = some .free →
    (names.map fun (n, k) => if (k == NameKind.free && env.scope.kind == .function && env.kindOf n == some .cell) then (n, NameKind.cell) else (n, k)).lookup x = some .cell ∨
    (names.map fun (n, k) => if (k == NameKind.free && env.scope.kind == .function && env.kindOf n == some .cell) then (n, NameKind.cell) else (n, k)).lookup x = some .free
  | [], _, h => by simp at h
  | (n, k) :: r, x, h => by
    have ih := @relabel_free env r x
    cases hx : x == n with
    | true =>
      simp only [List.lookup_cons, hx] at h
      cases h
      by_cases hc : (NameKind.free == NameKind.free && env.scope.kind == .function && env.kindOf n == some .cell) = true
      · refine .inl ?_
        rw [List.map_cons]
        dsimp only
        rw [if_pos hc, List.lookup_cons, hx]
      · refine .inr ?_
        rw [List.map_cons]
        dsimp only
        rw [if_neg hc, List.lookup_cons, hx]
    | false =>
      simp only [List.lookup_cons, hx] at h
      rw [List.map_cons]
      dsimp only
      by_cases hc : (k == NameKind.free && env.scope.kind == .function && env.kindOf n == some .cell) = true
      · rw [if_pos hc, List.lookup_cons, hx]; exact ih h
      · rw [if_neg hc, List.lookup_cons, hx]; exact ih h
/-- what the text of a comprehension must be; fr: the names it takes from around, with their slots there -/
structure CompOk (X : Cx) (scope : Scope) (x : Str) (fr : List (Str × Nat)) : Prop where
  kind : scope.kind = .function
  cell : ∀ y ∈ scope.names, y.2 ≠ .cell
  free : ∀ y ∈ scope.names, y.2 = .free → X.env.kindOf y.1 = some .cell ∨ X.env.kindOf y.1 = some .free
  loc : ∀ y ∈ scope.names, y.2 = .local → scope.names.lookup y.1 = some .local
  name : scope.names.lookup x = some .local
  nd : (x :: fr.map (·.1)).Nodup
  fr : ∀ p ∈ fr, X.N[p.2]? = some p.1 ∧ scope.names.lookup p.1 = some .free

noncomputable def frees (fr : List (Str × Nat)) (σ : St) : St := fr.map fun p => σ.getD p.2 none
section
variable {X : Cx} {scope : Scope} {x : Str} {fr : List (Str × Nat)}
theorem CompOk.cells {pins : List (Addr × Obj)} {σ : St} {H : Hp} {s : Shared} (c : CompOk X scope x fr) (I : Inv X pins σ H s) : ∀ y ∈ scope.names, y.2 = .free → ∃ c, X.env.cells.lookup y.1 = some c :=
  fun y hy hf => I.ok.has y.1 (c.free y hy hf)
theorem CompOk.was {pins : List (Addr × Obj)} {σ : St} {H : Hp} {s : Shared} (c : CompOk X scope x fr) (I : Inv X pins σ H s) {y : Str} {b : Addr} (h : (clOf X.env scope.names []).lookup y = some b) : X.env.cells.lookup y = some b := by
  rcases clOf_lookup (c.cells I) h with q | q
  · simp at q
  · exact q

/-- y = [elt for x in iter], y a plain local: the store goes ahead of the block's own end -/
noncomputable def tSetC (i : Nat) (te : TE) : TS := fun D σ H => te σ H fun v H1 => D.nx (σ.set i (some v)) H1
end

/-! ### the forms one uses: Pv i H: behind i turns -/
section
variable {K : PySem.W.Frag} {b a : Addr} {xs : List V} {te : TE} {fr : List (Str × Nat)} {σ : St} {H : Hp} {Q : VK}
end
end L2

/-! PART T: exceptions that have no context; the end of a walk over a list while one is handled. -/
namespace L2
open PySem PySem.Spec PyProof.Rows
theorem entry_unchain : entryFor table "proto.unchain" = some Builtin.«proto.unchain» := entryFor_of_fast (by kernel_rfl)
section
variable {prog : Program} {w : World} {A : Around} {E : Value → Shared → Prop} {s : Shared}
theorem raise_over {α : Type} {a e : Addr} {oe oa : Obj} {vs va : Array Value} {Q : α → Shared → Prop} (hh : A.handled = some (.ref e)) (hne : e ≠ a) (he : s.heap.get? e = some oe) (hd : oe.data = .fields vs) (h2 : vs[2]? = some .none)
    (ha : s.heap.get? a = some oa) (hda : oa.data = .fields va) (hz : 2 < va.size) (h : E (.ref a) { s with heap := s.heap.update a (Obj.mapFields (·.setIfInBounds 2 (.ref e))) }) :
    wpAny (model prog w) A (raiseNew (.ref a) : Sem α) Q E s := by
  unfold raiseNew
  refine wpAny_bind (wpAny_handled ?_)
  rw [hh]
  dsimp only
  have n1 : ((Value.ref e != Value.ref a) = true) := by simp [hne]
  rw [if_pos n1]
  refine wpAny_bind (wpAny_holding (wpAny_runValue (codeAny_builtin entry_unchain ?_)))
  unfold Builtin.«proto.unchain»
  dsimp only
  refine wpAny_bind (wpAny_field he hd h2 ?_)
  rw [if_pos (by rfl)]
  refine wpAny_bind (wpAny_pure (wpAny_pure ?_))
  unfold updateField
  refine wpAny_bind (wpAny_bind (wpAny_load ha ?_))
  rw [hda]
  dsimp only
  rw [if_pos hz]
  exact wpAny_update ha (wpAny_throw h)
/-- the end of a walk over a list while an exception of no context is handled -/
theorem next_end_over {it l e : Addr} {i : Nat} {items : Array Value} {oe : Obj} {vs : Array Value} {Q : Option Value → Shared → Prop} (hh : A.handled = some (.ref e)) (he : s.heap.get? e = some oe) (hd' : oe.data = .fields vs) (h2 : vs[2]? = some .none) (hne : e ≠ it)
    (hit : s.heap.IsListIter it l i) (hl : s.heap.IsList l items) (hx : items[i]? = none) (hQ : ∀ h', Heap.ExtBut it s.heap h' → Q none { s with heap := h' }) : wpAny (model prog w) A (pyNext (.ref it)) Q E s := by
  have ⟨o, ho, hc, hd⟩ := hit; have ⟨ol, hol, _, nl, hdl⟩ := hl
  unfold pyNext; refine wpAny_bind (wpAny_attempt (wpAny_callSpecial?_slot (name := Str.ofString "__next__") hit.typeIs slot_listiter_next (wpAny_call_entry slot_listiter_next hit.typeIs entry_listiter_next ?_ (args_listiter_next _))))
  show wpAny _ _ (field (.ref it) 0 >>= _) _ _ s; refine wpAny_bind (wpAny_field ho hd (x := .ref l) rfl ?_)
  show wpAny _ _ (if (Value.ref l == Value.none) = true then _ else _) _ _ s; rw [if_neg (show ¬ ((Value.ref l == Value.none) = true) from Bool.false_ne_true)]
  show wpAny _ _ (field (.ref it) 1 >>= _) _ _ s; refine wpAny_bind (wpAny_field ho hd (x := .int i 0) rfl ?_)
  show wpAny _ _ (seqItems? (.ref l) >>= _) _ _ s; refine wpAny_bind (wpAny_seqItems hol hdl ?_); simp only [Int.toNat_natCast, hx]
  refine wpAny_bind (wpAny_rule (wpAny_bind (wpAny_setField ho hd (by simp) ?_))); show wpAny _ _ (newExc (.type "StopIteration") [] >>= _) _ _ _
  refine wpAny_bind ?_; simp only [newExc, newTuple]; refine wpAny_bind (wpAny_newObj_type ?_ (by size_fits))
  refine wpAny_bind (m := firstArgMember _ _) (wpAny_of_eq (a := Value.none) (by first | rfl | (simp only [firstArgMember]; rfl)) ?_); refine wpAny_newObj_type ?_ (by size_fits)
  have he1 : (s.heap.update it (Obj.mapFields (·.setIfInBounds 0 Value.none))).get? e = some oe := (Heap.get?_update_other _ _ (Ne.symm hne)).trans he
  refine raise_over hh ?_ (Heap.get?_push_of_some _ (Heap.get?_push_of_some _ he1)) hd' h2 (Heap.get?_push_size _ rfl) rfl (by simp; omega) ?_
  · exact Nat.ne_of_lt (Heap.lt_size (Heap.get?_push_of_some _ he1))
  · refine wpAny_bind (wpAny_isInstance (T := "StopIteration") (b := true) ⟨_, Heap.get?_update_self _ (Heap.get?_push_size _ rfl) rfl, rfl⟩ isSubtype_stop ?_)
    refine wpAny_pure (hQ _ fun b o hb hbo => ?_)
    have k1 := Heap.get?_push_of_some { cls := .type "tuple", data := .seq #[] 0 } ((Heap.get?_update_other s.heap (Obj.mapFields (·.setIfInBounds 0 Value.none)) (Ne.symm hb)).trans hbo)
    refine (Heap.get?_update_other _ _ ?_).trans ?_
    · exact Nat.ne_of_gt (Heap.lt_size k1)
    · exact Heap.get?_push_of_some _ k1
end
end L2
namespace L2
open PySem PySem.Spec PyProof.Rows
/-- the exception at e has no context -/
noncomputable def Ctx0 (h : Heap) (e : Addr) : Prop := ∃ oe vs, h.get? e = some oe ∧ oe.data = .fields vs ∧ vs[2]? = some .none
section
variable {M : Model} {A : Around} {E : Value → Shared → Prop} {s : Shared}
theorem entry2 {base : Heap} {env : Env} {outer : List Env} {L e : Addr} {oe : Obj} {vs : Array Value} {head a0 : Value} {hadNext : Bool} {Q : Unit → Shared → Prop} (hfr : A.frames = some (env :: outer)) (hl : s.heap.FunFrames base (env :: outer)) (hf : env.frame = some L)
    (he : s.heap.get? e = some oe) (hkb : base.StaysIn s.heap) (hen : base.get? e = none) (hd : oe.data = .fields vs) (hsz : 1 < vs.size) (h0 : vs[0]? = some a0) (h2 : vs[2]? = some .none)
    (h : ∀ h', Heap.NotedW base (env :: outer) e oe.cls a0 (rawInt L) s.heap h' → Ctx0 h' e → Q () { s with heap := h' }) :
    wpAny M A (do let a ← frameOf env; let pl ← entryPlaceOf L hadNext; let b ← EntryCells.newEntry head a .none (rawInt L) .none pl; setField (.ref e) 1 b) Q E s := by
  have notF : e ∉ (env :: outer).filterMap (·.frame) := by
    intro hm; have ⟨_, o, ho, nf⟩ := hl.mem hm
    rw [he] at ho; cases ho; exact nf vs hd
  refine wpAny_bind (wpAny_frameOf_fun hfr hl hf fun h₁ hs₁ => wpAny_bind (wpAny_entryPlaceOf fun pl hpl => ?_))
  unfold EntryCells.newEntry newFields
  refine wpAny_bind (wpAny_newObj_type ?_ (hpl.sizeOk5 _ _ _ _ _))
  have g1 : h₁.get? e = some oe := (hs₁.2.1 e notF).trans he
  have b1 : base.StaysIn h₁ := fun b o q => (hs₁.2.1 b (by intro hm; rw [(hl.mem hm).1] at q; cases q)).trans (hkb b o q)
  generalize hT : ({ cls := .type "traceback", dict := none, data := .fields ([head, .ref L, .none, rawInt L, .none] ++ (if pl.isEmpty then List.replicate 6 Value.none else pl)).toArray } : Obj) = oT
  have g2 := Heap.get?_push_of_some (h := h₁) oT g1
  refine wpAny_setField g2 hd hsz ?_
  have ne : h₁.objs.size ≠ e := Nat.ne_of_gt (Heap.lt_size g1)
  have d3 := Obj.data_mapFields hd (·.setIfInBounds 1 (Value.ref h₁.objs.size))
  have g3 := Heap.get?_update_self (Obj.mapFields (·.setIfInBounds 1 (Value.ref h₁.objs.size))) g2 (Obj.isFreed_of_fields d3)
  have T3 : ((h₁.push oT).update e (Obj.mapFields (·.setIfInBounds 1 (Value.ref h₁.objs.size)))).get? h₁.objs.size = some oT := (Heap.get?_update_other _ _ (Ne.symm ne)).trans (Heap.get?_push_size h₁ (by subst hT; rfl))
  have kp : ∀ b o, b ≠ e → h₁.get? b = some o → ((h₁.push oT).update e (Obj.mapFields (·.setIfInBounds 1 (Value.ref h₁.objs.size)))).get? b = some o := fun b o q hb => (Heap.get?_update_other _ _ (Ne.symm q)).trans (Heap.get?_push_of_some _ hb)
  have nr : ∀ b o, s.heap.get? b = some o → (∀ vs, o.data ≠ .fields vs) → b ≠ e := fun b o hb nf q => by
    rw [q, he] at hb; cases hb; exact nf vs hd
  refine h _ ⟨fun b o q => kp b o (by intro z; rw [z, hen] at q; cases q) (b1 b o q), hl.of_keeps fun b o hb nf => ?_, ?_, fun b o hb nf => ?_⟩ ⟨_, _, g3, d3, by rw [Array.getElem?_setIfInBounds_ne (by decide)]; exact h2⟩
  · obtain ⟨sl, q⟩ := hs₁.2.2 b o hb
    exact ⟨_, kp b _ (nr b o hb nf) q, rfl⟩
  · subst hT
    exact ⟨_, _, h₁.objs.size, _, _, g3, ⟨Obj.cls_mapFields _ _, by rw [Array.getElem?_setIfInBounds_ne (by decide)]; exact h0⟩, d3, by simp [hsz], b1.fresh, ne, T3, rfl, by first | (simp; done) | (rcases hpl with rfl | ⟨_, _, _, _, _, _, _, rfl⟩ <;> simp)⟩
  · obtain ⟨sl, q⟩ := hs₁.2.2 b o hb
    exact ⟨sl, kp b _ (nr b o hb nf) q⟩
theorem flight2 {base : Heap} {l : List Env} {e : Addr} {cls a0 fl : Value} {Q : Unit → Shared → Prop} (hkb : base.StaysIn s.heap) (hl : s.heap.FunFrames base l) (ht : s.heap.TracedAtW base e cls a0 fl) (hc : Ctx0 s.heap e)
    (h : ∀ h', base.StaysIn h' → h'.FunFrames base l → h'.TracedW base e cls a0 → Ctx0 h' e → s.heap.UpToSlots h' → Q () { s with heap := h' }) : wpAny M A (setFlight (.ref e) none) Q E s := by
  obtain ⟨oe, vs, T, oT, ts, he, hcls, hd, h1, nT, Te, gT, dT, h3⟩ := ht
  obtain ⟨oe', vs', he', hd', h2⟩ := hc
  rw [he] at he'; cases he'; rw [hd] at hd'; cases hd'
  have z3 : 3 < ts.size := (Array.getElem?_eq_some_iff.mp h3).1
  have ot : ∀ b, b ≠ T → (s.heap.update T (Obj.mapFields (·.setIfInBounds 3 ((none : Option Addr).elim Value.none fun f => rawInt f)))).get? b = s.heap.get? b := fun b q => Heap.get?_update_other _ _ (Ne.symm q)
  have nr : ∀ b o, s.heap.get? b = some o → (∀ vs, o.data ≠ .fields vs) → b ≠ T := fun b o hb nf q => by
    rw [q, gT] at hb; cases hb; exact nf ts dT
  unfold setFlight
  refine wpAny_bind (wpAny_field he hd h1 ?_)
  rw [if_pos (show (Value.ref T != Value.none) = true by simp)]
  refine wpAny_setField gT dT z3 (h _ (fun b o q => (ot b (by intro z; rw [z, nT] at q; cases q)).trans (hkb b o q)) (hl.of_keeps fun b o hb nf => ⟨o, (ot b (nr b o hb nf)).trans hb, rfl⟩) ?_ ⟨oe, vs, (ot e (Ne.symm Te)).trans he, hd, h2⟩ fun b o hb nf => ⟨o.slots, (ot b (nr b o hb nf)).trans hb⟩)
  exact ⟨oe, vs, T, _, _, (ot e (Ne.symm Te)).trans he, hcls, hd, h1, nT, Te, Heap.get?_update_self _ gT (Obj.isFreed_of_fields (Obj.data_mapFields dT _)), Obj.data_mapFields dT _, by simp [z3]⟩
theorem note2 {base : Heap} {env : Env} {outer : List Env} {L e : Addr} {cls a0 : Value} {Q : Unit → Shared → Prop} (hfr : A.frames = some (env :: outer)) (hf : env.frame = some L) (hfl : Heap.FlyingW base (env :: outer) e cls a0 s.heap) (hc : Ctx0 s.heap e)
    (hQ : ∀ h', Heap.HeldW base (env :: outer) e cls a0 L h' → Ctx0 h' e → s.heap.UpToSlots h' → Q () { s with heap := h' }) : wpAny M A (noteFrame (.ref e) env) Q E s := by
  obtain ⟨f1, f2, f3, oe, vs, T, oT, ts, he, ⟨hcls, h0⟩, hd, h1, nT, Te, gT, dT, h3⟩ := hfl
  obtain ⟨oe', vs', he', hd', h2⟩ := hc
  rw [he] at he'; cases he'; rw [hd] at hd'; cases hd'
  subst hcls
  unfold noteFrame
  simp only [hf]
  refine wpAny_bind (wpAny_field he hd h1 ?_)
  rw [if_pos (show (Value.ref T != Value.none) = true by simp)]
  refine wpAny_bind (wpAny_field gT dT h3 ?_)
  rw [if_neg (show ¬ ((Value.none == rawInt L) = true) by simp [rawInt])]
  refine wpAny_bind (wpAny_setField gT dT (Array.getElem?_eq_some_iff.mp h3).1 ?_)
  have ot : ∀ b, b ≠ T → (s.heap.update T (Obj.mapFields (·.setIfInBounds 3 Value.none))).get? b = s.heap.get? b := fun b q => Heap.get?_update_other _ _ (Ne.symm q)
  have nr : ∀ b o, s.heap.get? b = some o → (∀ vs, o.data ≠ .fields vs) → b ≠ T := fun b o hb nf q => by
    rw [q, gT] at hb; cases hb; exact nf ts dT
  refine entry2 hfr (f3.of_keeps fun b o hb nf => ⟨o, (ot b (nr b o hb nf)).trans hb, rfl⟩) hf ((ot e (Ne.symm Te)).trans he) (fun b o q => (ot b (by intro z; rw [z, nT] at q; cases q)).trans (f1 b o q)) f2 hd (Array.getElem?_eq_some_iff.mp h1).1 h0 h2 fun h' ⟨x1, x2, x3, x4⟩ c => ?_
  exact hQ h' ⟨x1, f2, x2, x3⟩ c fun b o hb nf => x4 b o ((ot b (nr b o hb nf)).trans hb) nf
theorem lands2 {base : Heap} {l : List Env} {e L : Addr} {cls a0 : Value} {Q : Unit → Shared → Prop} (hh : Heap.HeldW base l e cls a0 L s.heap) (hc : Ctx0 s.heap e)
    (hQ : ∀ h', Heap.FlyingW base l e cls a0 h' → Ctx0 h' e → s.heap.UpToSlots h' → Q () { s with heap := h' }) : wpAny M A (setFlight (.ref e) none) Q E s :=
  let ⟨f1, f2, f3, f4⟩ := hh; flight2 f1 f3 f4 hc fun h' k1 k2 k3 c k4 => hQ h' ⟨k1, f2, k2, k3⟩ c k4
theorem landsA2 {base : Heap} {l : List Env} {e : Addr} {cls a0 : Value} {Q : Unit → Shared → Prop} (hh : Heap.FlyingW base l e cls a0 s.heap) (hc : Ctx0 s.heap e)
    (hQ : ∀ h', Heap.FlyingW base l e cls a0 h' → Ctx0 h' e → s.heap.UpToSlots h' → Q () { s with heap := h' }) : wpAny M A (setFlight (.ref e) none) Q E s :=
  let ⟨f1, f2, f3, f4⟩ := hh; flight2 f1 f3 f4.at hc fun h' k1 k2 k3 c k4 => hQ h' ⟨k1, f2, k2, k3⟩ c k4
theorem leavesM2 {base h : Heap} {env : Env} {outer : List Env} {L e : Addr} {cls : Value} {args : List Value} {Q : Unit → Shared → Prop} (hfr : A.frames = some (env :: outer)) (hf : env.frame = some L) (hkb : base.StaysIn h) (hl : h.FunFrames base (env :: outer)) (hx : Heap.MadeExcOf h s.heap e cls args)
    (hQ : ∀ h' t, Heap.FlyingW base outer e cls (.ref t) h' → Ctx0 h' e → s.heap.UpToSlots h' → Q () { s with heap := h' }) : wpAny M A (leaving env (.ref e)) Q E s := by
  obtain ⟨t, he, htn, ht⟩ := hx.there
  have fr : ∀ b, h.get? b = none → base.get? b = none := fun b hb => by
    cases hq : base.get? b with
    | none => rfl
    | some o' => rw [hkb b o' hq] at hb; cases hb
  unfold leaving noteFrame
  simp only [hf]
  refine wpAny_bind (wpAny_bind (wpAny_field he rfl (x := .none) rfl ?_))
  rw [if_neg (by decide)]
  refine entry2 hfr (hl.of_keeps fun b o hb _ => ⟨o, hx.keeps b o hb, rfl⟩) hf he (fun b o hb => hx.keeps b o (hkb b o hb)) (fr e hx.new) rfl (by simp) (a0 := .ref t) rfl rfl fun h1 ⟨x1, x2, x3, x4⟩ c1 => ?_
  refine lands2 (s := { s with heap := h1 }) ⟨x1, fr e hx.new, x2, x3⟩ c1 fun h2 ⟨k1, k2, ⟨_, _, k3⟩, k4⟩ c2 u2 => hQ h2 t ⟨k1, k2, k3, k4⟩ c2 (Heap.UpToSlots.trans x4 u2)
end
end L2

/-! REFUSALS: raise, a call that may raise, try with one except clause. -/
namespace L2
open PySem PySem.Spec PyProof.Rows

theorem ObjOk.there {P : Program} {w : World} {H : Hp} {h : Heap} {a : Addr} {o : HO} (x : ObjOk P w H h a o) : ∃ ob, h.get? a = some ob := by
  cases o with
  | lst xs => obtain ⟨_, _, _, _, e⟩ := x; exact ⟨_, e⟩
  | tup xs => obtain ⟨_, _, _, ob, e, _⟩ := x; exact ⟨ob, e⟩
  | dK kvs => obtain ⟨_, _, _, _, o, _, _, e, _⟩ := x; exact ⟨_, e⟩
  | dT kvs => obtain ⟨_, _, _, _, o, _, _, e, _⟩ := x; exact ⟨_, e⟩
  | set S n => obtain ⟨o, _, _, _, e, _⟩ := x; exact ⟨_, e⟩
  | ins C dx fs => obtain ⟨_, _, _, e, _⟩ := x; exact ⟨_, e⟩
  | own y => exact x
  | xd fs => obtain ⟨_, ⟨_, _, _, e, _⟩, _⟩ := x; exact ⟨_, e⟩
  | rng lo hi => obtain ⟨_, _, _, e⟩ := x; exact ⟨_, e⟩
  | frz ob u => exact ⟨_, x.1⟩
  | tbl ps => exact ⟨_, x⟩
  | met f y => exact ⟨_, x⟩
  | ext φ => exact x.2.1

/-- what must not be touched by an exception on its way: what was there at the entry, what is tracked; all but the frames -/
noncomputable abbrev Cov (fs : List Addr) (h₀ : Heap) (H : Hp) (h B : Heap) : Prop := ∀ b o, h.get? b = some o → b ∉ fs → ((∃ o', h₀.get? b = some o') ∨ ∃ u, H b = some u) → B.get? b = some o
/-- an exception e of the class C is on its way through the body -/
noncomputable def FlyX (X : Cx) (pins : List (Addr × Obj)) (H : Hp) (e : Addr) (C : Value) (h : Heap) : Prop := (∃ B a0, Heap.FlyingW B X.stack e C a0 h ∧ Cov (frs X.stack) X.s₀.heap H h B ∧ ∀ p ∈ X.pn ++ pins, B.get? p.1 = some p.2) ∧ Ctx0 h e
/-- how it lies behind a call -/
noncomputable def CX1 (P : Program) (w : World) : CXT := fun outer H s E ev s' => ∃ e C H' B a0, ev = .ref e ∧ s'.os = s.os ∧ AllBare s'.gens ∧ Un (frs outer) [] H H' s.heap s'.heap ∧ HOk P w H' s'.heap ∧
  Heap.FlyingW B outer e C a0 s'.heap ∧ Cov (frs outer) s.heap H' s'.heap B ∧ Ctx0 s'.heap e ∧ E C none H'
/-- what this body wants of an exception is right for every one that EX lets pass; for one that is raised here -/
noncomputable abbrev XE := St → Value → Hp → Prop
noncomputable def Lands (X : Cx) (EX : XE) : Prop := ∀ (pins : List (Addr × Obj)) (σ : St) (H : Hp) (s : Shared) (e : Addr) (C : Value), Inv X pins σ H s → FlyX X pins H e C s.heap → EX σ C H → X.xe (.ref e) s
noncomputable def LandsN (X : Cx) (EX : XE) : Prop := ∀ (pins : List (Addr × Obj)) (σ : St) (H : Hp) (s : Shared) (h' : Heap) (e : Addr) (C : Value) (vs : List Value), Inv X pins σ H s → Heap.MadeExcOf s.heap h' e C vs → EX σ C H → X.xe (.ref e) { s with heap := h' }

/-- out of a frame: what stays -/
theorem fly_out {X : Cx} {pins : List (Addr × Obj)} {σ : St} {H : Hp} {s : Shared} {h'' B : Heap} (I : Inv X pins σ H s) (hst : X.stack = X.env :: X.outer) (hfr : X.env.frame = some X.env.locals) (hex : X.ex = [])
    (stay : B.StaysIn h'') (sm : s.heap.UpToSlots h'') (cov : Cov (frs X.stack) X.s₀.heap H s.heap B) :
    Un X.fs [] X.H₀ H X.s₀.heap h'' ∧ HOk X.prog X.w H h'' ∧ Cov X.fs X.s₀.heap H h'' B := by
  have u := I.base
  rw [hex] at u
  have hfs : frs X.stack = X.env.locals :: X.fs := by
    rw [hst]
    unfold frs
    rw [List.filterMap_cons, hfr]
    rfl
  have old : ∀ b o, X.s₀.heap.get? b = some o → b ∉ X.fs → b ∉ frs X.stack := fun b o e hb hm => by
    rw [hfs] at hm
    rcases List.mem_cons.mp hm with z | z
    · exact absurd (Nat.lt_of_lt_of_le (Heap.lt_size e) I.ok.above) (by rw [z]; exact Nat.lt_irrefl _)
    · exact hb z
  have trk : ∀ b v, H b = some v → b ∉ frs X.stack := fun b v e hm => by
    have := I.stkFree b hm
    rw [e] at this
    cases this
  have keepO : ∀ b o, s.heap.get? b = some o → b ∉ frs X.stack → ((∃ o', X.s₀.heap.get? b = some o') ∨ ∃ v, H b = some v) → h''.get? b = some o := fun b o e hb hc => stay b o (cov b o e hb hc)
  have frm : ∀ b, b ∈ X.fs → ∀ o, s.heap.get? b = some o → ∃ sl, h''.get? b = some { o with slots := sl } := fun b hb o e => by
    obtain ⟨_, o', e', nf⟩ := I.funs.mem hb
    rw [e] at e'
    cases e'
    exact sm b o e nf
  refine ⟨⟨fun b o e n hb hx => ?_, fun b o e n hb hx => ?_, u.free, fun b o e hx => ?_, u.tups, u.frzs, u.tbls⟩, fun a o ha => ?_, fun b o e hb hc => ?_⟩
  · exact keepO b o (u.keep b o e n hb hx) (old b o e hb) (.inl ⟨o, e⟩)
  · obtain ⟨sl, e1⟩ := u.slot b o e n hb hx
    obtain ⟨sl', e2⟩ := frm b hb _ e1
    exact ⟨sl', e2⟩
  · obtain ⟨o1, e1⟩ := u.there b o e hx
    by_cases hb : b ∈ X.fs
    · obtain ⟨sl, e2⟩ := frm b hb _ e1
      exact ⟨_, e2⟩
    · exact ⟨o1, keepO b o1 e1 (old b o e hb) (.inl ⟨o, e⟩)⟩
  · refine (I.hok a o ha).stay (fun b v hb q => ?_) (fun _ q => q) fun _ _ q => q
    rcases hb with hb | hb
    · subst hb
      exact keepO b v q (trk b o ha) (.inr ⟨o, ha⟩)
    · exact keepO b v q (trk b _ hb) (.inr ⟨_, hb⟩)
  · rcases hc with ⟨o', e'⟩ | ⟨v, e'⟩
    · obtain ⟨o1, e1⟩ := u.there b o' e' (by simp)
      have q := keepO b o1 e1 (old b o' e' hb) (.inl ⟨o', e'⟩)
      rw [e] at q
      cases q
      exact cov b o e1 (old b o' e' hb) (.inl ⟨o', e'⟩)
    · obtain ⟨o1, e1⟩ := (I.hok b v e').there
      have q := keepO b o1 e1 (trk b v e') (.inr ⟨v, e'⟩)
      rw [e] at q
      cases q
      exact cov b o e1 (trk b v e') (.inr ⟨v, e'⟩)

section
variable {P : Program} {w : World} {K : PySem.W.Frag} {mg : Str → Option Value} {base : Heap} {N : List Str} {qual : Str} {scope : Scope} {f : Addr} {cd : Value} {A : Around} {outer : List Env} {s₀ : Shared} {H₀ : Hp} {E : XK}
theorem landsN_def : LandsN (cxOf (CX1 P w) P w K mg base N qual scope f cd A outer s₀ H₀ E) (fun _ C H => E C none H) := by
  intro pins σ H s h' e C vs I M hE
  have hfu := I.stack
  have hid := PySem.W.funFrames_hide (as := frs (cxOf (CX1 P w) P w K mg base N qual scope f cd A outer s₀ H₀ E).stack) hfu (fun env he a ha => List.mem_filterMap.mpr ⟨env, he, ha⟩)
  refine leavesM2 (s := { s with heap := h' }) (h := s.heap) I.ok.frames rfl (fun b o q => PySem.W.of_hideAll _ q) hid M fun h'' t fl'' c1 sm => ?_
  obtain ⟨un, ok, cv⟩ := fly_out I rfl rfl rfl fl''.1 ((Heap.UpToSlots.of_keeps M.keeps).trans sm) fun b o q hb _ => PySem.W.hideAll_get _ q hb
  exact ⟨e, C, H, _, _, rfl, I.os, I.bare, un, ok, fl'', cv, c1, hE⟩
end

section
variable {X : Cx} {EX : XE} {k : Nat} {f : Addr} {fd : FuncData} {ps : List Str} {sp : Sp} {dvs : List V} {ds : List Value} {x : Str} {p pos : Pos} {e : Expr} {es : List Expr} {t : TA}
/-- a call that may raise: the wish may hang on the names' values here -/
noncomputable def tCallX (sp : Sp) (dvs : List V) (EX : XE) (t : TA) : TE := fun σ H Q => t σ H fun vs H1 => sp (vs ++ dvs) H1 Q fun C _ H' => EX σ C H'
theorem run_fnX {pins : List (Addr × Obj)} {σ : St} {H : Hp} {s : Shared} {Q : VK} {us : List Value} {vs : List V} (F : FnOk X.prog X.w X.K X.mg X.base (CX1 X.prog X.w) k f fd ps sp) (hr : Room k X.A) (hb : Binds X.K fd ps ds) (hd : Vals dvs ds) (hx : Lands X EX)
    (hex : X.ex = []) (I : Inv X pins σ H s) (r : Vals vs us) (h : sp (vs ++ dvs) H Q fun C _ H' => EX σ C H') : wpAny (model X.prog X.w) X.A (call (.ref f) us) (EP X pins σ Q) X.xe s := by
  have r2 : Vals (vs ++ dvs) (us ++ ds) := r.append hd
  have hl : (us ++ ds).length = ps.length := by rw [← r2.length]; exact F.len _ _ _ _ h
  refine wpAny_call (codeAny_mono (F.run X.A X.stack s H ⟨us, []⟩ (us ++ ds) (vs ++ dvs) Q _ hr I.env0 (hb s us I.kIn hl) r2 h) fun r s' hq => ?_)
  cases r with
  | error ev =>
    obtain ⟨e, C, H', B, a0, rfl, os, bare, un, ok, fl, cov, c0, q⟩ := hq
    have J : Inv X pins σ H' s' := I.call' os un ok bare fun b z => absurd z (by simp)
    refine hx pins σ H' s' e C J ⟨⟨B, a0, fl, fun b o e1 hb hc => cov b o e1 hb ?_, fun p hp => ?_⟩, c0⟩ q
    · rcases hc with ⟨o', e'⟩ | hc
      · obtain ⟨o2, e2⟩ := I.base.there b o' e' (by rw [hex]; simp)
        exact .inl ⟨o2, e2⟩
      · exact .inr hc
    · obtain ⟨e1, n1, ne, nf, _⟩ := J.pin p hp
      refine cov p.1 p.2 e1 (fun hm => ?_) (.inl ⟨_, (I.pin p hp).1⟩)
      rcases List.mem_cons.mp (I.stkSub p.1 hm) with z | z
      · exact ne z
      · exact nf z
  | ok fl =>
    cases fl with
    | ret u => exact I.after hq
    | next => exact False.elim hq
    | brk => exact False.elim hq
    | cont => exact False.elim hq
theorem pe_callX (F : FnOk X.prog X.w X.K X.mg X.base (CX1 X.prog X.w) k f fd ps sp) (hr : Room k X.A) (hg : Gl X x) (hm : X.mg x = some (.ref f)) (hk : PySem.W.keepIn X.K (.ref f) = true) (hb : Binds X.K fd ps ds) (hd : Vals dvs ds) (hx : Lands X EX)
    (ha : PA X (e :: es) t) (hex : X.ex = [] := by rfl) (hdb : (x == ("__debug__" : Str)) = false := by decide) (he : starEach (e :: es) X.env = (false, eval e X.env) :: starEach es X.env := by rfl) (hpl : (backTo pos (starEach es X.env)).any (·.1) = false := by rfl) :
    PE X (.Call (.Name x p) (e :: es) [] pos) (tCallX sp dvs EX t) := by
  intro pins s σ H Q I h
  refine wpAny_Call_Name_kw (ld_glob I hg hm ?_ hdb)
  refine PySem.W.callWith_K (h₀ := X.base) I.ok.mod.kin hk (thn (ha pos pins s σ H _ I h) fun us s1 ⟨vs, H1, I1, r, q⟩ => ⟨I1.kIn, ?_⟩) he hpl
  exact run_fnX F hr hb hd hx hex I1 r q
/-- where no exception is wished, none is: a call of a def that may raise, anywhere -/
theorem passes1 {P : Program} {w : World} {Y : Cx} : Passes (CX1 P w) Y E0 := fun _ _ _ _ _ _ _ h => by
  obtain ⟨_, _, _, _, _, _, _, _, _, _, _, _, _, q⟩ := h
  exact q.elim
end

/-! ### raise C(..) -/
/-- the class object of an own exception, as it stands in the heap -/
theorem excObj {K : PySem.W.Frag} {h : Heap} {C : Addr} {bmB : List Value} {newId : String} (KX : K.In h) (hq : PySem.W.excIn K C bmB newId = true) :
    ∃ bm N nm qn bs hd sn sub ab col dd k0 k1 k2 k3 k5 mN, h.get? C = some (excClassObj nm qn C N bs bm hd sn sub ab col dd k0 k1 k2 k3 k5 newId) ∧ h.Ns N mN ∧ mN "__init__" = none ∧ OwnTail h bmB bm := by
  revert hq
  unfold PySem.W.excIn
  split
  · next dd cd sl lk =>
    split
    · next C1 bm k0 k1 k2 k3 nw k5 em es =>
      intro hq
      simp only [Bool.and_eq_true, beq_iff_eq, Bool.not_eq_true'] at hq
      obtain ⟨⟨⟨⟨⟨e1, e2⟩, e3⟩, e4⟩, e5⟩, e6⟩ := hq
      subst e1 e2
      cases cd with
      | mk nm bs mro ns qn hd sn sub ab col del =>
        have em' : mro = Value.ref C1 :: bm := em
        have e3' : del = false := e3
        subst em' e3'
        have esl : sl = #[k0, k1, k2, k3, some (Value.builtin nw), k5] := by
          cases sl with
          | mk l => exact congrArg Array.mk es
        subst esl
        exact ⟨bm, ns, nm, qn, bs, hd, sn, sub, ab, col, dd, k0, k1, k2, k3, k5, _, KX _ _ lk, Heap.Ns.of_isNs (PySem.W.isNs_of_in KX e5), PySem.W.nsMap_none_of_in KX e5 e6, PySem.W.tail_of_in KX e4⟩
    · intro z; cases z
  · intro z; cases z
theorem OwnTail.up {h h' : Heap} {bmB bm : List Value} (T : OwnTail h bmB bm) (k : ∀ b o, h.get? b = some o → h'.get? b = some o) : OwnTail h' bmB bm := T.keeps k

section
variable {X : Cx} {EX : XE} {C : Addr} {x : Str} {np cpos pos : Pos} {e₀ : Expr} {rest : List Expr} {t : TA} {bmB : List Value} {B newId initId : String}
noncomputable def tRaise (C : Addr) (EX : XE) (t : TA) : TS := fun _ σ H => t σ H fun vs H1 => vs.length ≤ sizeLine ∧ EX σ (.ref C) H1
theorem ps_raise (hc : X.calm = true) (hx : LandsN X EX) (hg : Gl X x) (hm : X.mg x = some (.ref C)) (hC : PySem.W.excIn X.K C bmB newId = true) (FB : ExcBaseFacts B newId initId bmB) (ha : PA X (e₀ :: rest) t)
    (hdb : (x == ("__debug__" : Str)) = false := by decide) (he : starEach (e₀ :: rest) X.env = (false, eval e₀ X.env) :: starEach rest X.env := by rfl) (hpl : (backTo cpos (starEach rest X.env)).any (·.1) = false := by rfl) :
    PS X (.Raise (some (.Call (.Name x np) (e₀ :: rest) [] cpos)) none pos) (tRaise C EX t) := by
  intro pins s σ H D I h
  obtain ⟨bm, N, nm, q, bs, hd, sn, sub, ab, col, dd, k0, k1, k2, k3, k5, mN, hcls, hns, hni, T⟩ := excObj I.mod.kin hC
  have hpl' : (backTo cpos (starEach (e₀ :: rest) X.env)).any (·.1) = false := by
    rw [he]
    show (false || (backTo cpos (starEach rest X.env)).any (·.1)) = false
    rw [hpl]
    rfl
  refine wpAny_Raise_call_subT (C := C) (nm := nm) (q := q) (N := N) (bs := bs) (bm := bm) (hdct := hd) (sn := sn) (sub := sub) (ab := ab) (col := col) (dd := dd) (k0 := k0) (k1 := k1) (k2 := k2) (k3 := k3) (k5 := k5) FB (mN := mN) (T.hasType FB.hasBase) (I.ok.hd hc) hpl' hni
    (ld_glob I hg hm ⟨rfl, ?_⟩ hdb)
  have hw := ha cpos pins s σ H _ I h
  rw [he] at hw ⊢
  refine Calls.evalArgs_plain (thn hw fun us s2 ⟨vs, H2, I2, r, z, q2⟩ => ⟨rfl, ?_, I2.bk _ _ hcls, hns.keeps I2.bk, T.keeps I2.bk, fun h' e M => hx pins σ H2 s2 h' e _ us I2 M q2⟩)
  show us.length ≤ sizeLine
  rw [← r.length]
  exact z
end

/-! ### try .. except C as n -/
section
variable {X : Cx} {pins : List (Addr × Obj)} {σ : St} {H : Hp} {s : Shared}
/-- an exception has passed over the heap -/
theorem Inv.flown {h' B : Heap} (I : Inv X pins σ H s) (hst : X.stack = X.env :: X.outer) (hfr : X.env.frame = some X.env.locals) (hex : X.ex = []) (stay : B.StaysIn h') (sm : s.heap.UpToSlots h') (cov : Cov (frs X.stack) X.s₀.heap H s.heap B)
    (hp : ∀ p ∈ X.pn ++ pins, B.get? p.1 = some p.2) : Inv X pins σ H { s with heap := h' } := by
  obtain ⟨un, ok, _⟩ := fly_out I hst hfr hex stay sm cov
  have cl : ∀ c v, s.heap.IsCell c v → h'.IsCell c v := fun c v ⟨o, e, d⟩ => by
    obtain ⟨sl, e'⟩ := sm c o e fun vs z => by rw [d] at z; cases z
    exact ⟨_, e', d⟩
  refine ⟨I.ok, I.os, I.bare, by rw [hex]; exact un, ?_, fun x c e => ?_, I.free, I.freeC, fun p hm => ?_, ok, I.len⟩
  · obtain ⟨m, hn, hl⟩ := I.loc
    refine ⟨m, sm.ns hn, fun i x v e1 e2 e3 => ?_⟩
    obtain ⟨u, r, l⟩ := hl i x v e1 e2 e3
    refine ⟨u, r, ?_⟩
    rcases l with l | ⟨k, c, e, z⟩
    · exact .inl l
    · exact .inr ⟨k, c, e, cl c _ z⟩
  · obtain ⟨v, z⟩ := I.cell x c e
    exact ⟨v, cl c v z⟩
  · obtain ⟨_, r⟩ := I.pin p hm
    exact ⟨stay _ _ (hp p hm), r⟩
/-- a caught exception: an object of that class -/
noncomputable def ExcAt (e : Addr) (C : Value) : HO := .ext fun h => ∃ o, h.get? e = some o ∧ o.cls = C ∧ ∃ vs, o.data = .fields vs ∧ vs[2]? = some .none
theorem Inv.trackE {e : Addr} {C : Value} {oe : Obj} {vs : Array Value} (I : Inv X pins σ H s) (he : s.heap.get? e = some oe) (hc : oe.cls = C) (hd : oe.data = .fields vs) (h2 : vs[2]? = some .none) (hn : H e = none) (hnew : X.s₀.heap.get? e = none) (hpn : ∀ p ∈ X.pn ++ pins, p.1 ≠ e) :
    Inv X pins σ (upd H e (ExcAt e C)) s := by
  have ne : ∀ b u, H b = some u → b ≠ e := fun b u q z => by rw [z, hn] at q; cases q
  have nL : X.env.locals ≠ e := fun z => by
    obtain ⟨m, ⟨o, es, ep, ho, hdd, _⟩, _⟩ := I.loc
    rw [z, he] at ho
    cases ho
    rw [hd] at hdd
    cases hdd
  have nC : ∀ x c, X.env.cells.lookup x = some c → c ≠ e := fun x c q z => by
    obtain ⟨v, o, ho, hdd⟩ := I.cell x c q
    rw [z, he] at ho
    cases ho
    rw [hd] at hdd
    cases hdd
  have u := I.base
  refine ⟨I.ok, I.os, I.bare, ⟨u.keep, u.slot, fun b o q n hx => ?_, u.there, fun b xs q => ?_, fun b o v q => ?_, fun b ps q => ?_⟩, I.loc, I.cell, ?_, fun x c q => ?_, fun p hp => ?_, fun a o q => ?_, I.len⟩
  · rw [upd_ne (fun z => by rw [z, hnew] at q; cases q)]
    exact u.free b o q n hx
  · have := u.tups b xs q
    rw [upd_ne (ne _ _ this)]
    exact this
  · have := u.frzs b o v q
    rw [upd_ne (ne _ _ this)]
    exact this
  · obtain ⟨m, e1⟩ := u.tbls b ps q
    exact ⟨m, by rw [upd_ne (ne _ _ e1)]; exact e1⟩
  · rw [upd_ne nL]; exact I.free
  · rw [upd_ne (nC x c q)]; exact I.freeC x c q
  · obtain ⟨e1, n1, r⟩ := I.pin p hp
    exact ⟨e1, by rw [upd_ne (hpn p hp)]; exact n1, r⟩
  · by_cases ha : a = e
    · subst ha
      rw [upd_same] at q
      cases q
      exact ⟨⟨oe, he, hc, vs, hd, h2⟩, ⟨oe, he⟩, fun h1 h2 ⟨o, e1, r⟩ k => ⟨o, k o e1, r⟩⟩
    · rw [upd_ne ha] at q
      exact (I.hok a o q).stay (fun _ _ _ z => z) (fun b z => by rw [upd_ne (ne _ _ z)]; exact z) fun b xs z => by rw [upd_ne (ne _ _ z)]; exact z
/-- the name that an except clause has bound goes -/
theorem Inv.unbind {h' : Heap} {m : Str → Option Value} {u : Option Value} {i : Nat} {n : Str} (I : Inv X pins σ H s) (hN : X.N.Nodup) (hi : X.N[i]? = some n) (hl : X.env.scope.names.lookup n = some .local)
    (hn : s.heap.Ns X.env.locals m) (hn' : h'.Ns X.env.locals (fun x => if x = n then u else m x)) (hs : Heap.SameBut X.env.locals s.heap h') (hm : ∀ (j : Nat) x v, X.N[j]? = some x → σ[j]? = some (some v) → Vis X.env.scope x → ∃ u, RelV v u ∧ Look X.env s.heap m x u) :
    Inv X pins (σ.set i none) H { s with heap := h' } := by
  obtain ⟨oL, esL, epL, hoL, _⟩ := id hn
  have nL : ∀ b o, X.s₀.heap.get? b = some o → b ≠ X.env.locals := fun b o e => Nat.ne_of_lt (Nat.lt_of_lt_of_le (Heap.lt_size e) I.ok.above)
  have kp : ∀ b o, b ≠ X.env.locals → s.heap.get? b = some o → h'.get? b = some o := fun b o hb e => (hs.2 b hb).trans e
  have nT : ∀ b v, H b = some v → b ≠ X.env.locals := fun b v e z => by rw [z, I.free] at e; cases e
  have u0 := I.base
  refine ⟨I.ok, I.os, I.bare, ⟨fun b o e n hb hx => kp b o (nL b o e) (u0.keep b o e n hb hx), fun b o e n hb hx => ?_, u0.free, fun b o e hx => ?_, u0.tups, u0.frzs, u0.tbls⟩, ⟨_, hn', fun j x v e1 e2 e3 => ?_⟩, fun x c e => ?_, I.free, I.freeC, fun p hp => ?_, fun a o e => ?_, by simpa using I.len⟩
  · obtain ⟨sl, e1⟩ := u0.slot b o e n hb hx
    exact ⟨sl, kp b _ (nL b o e) e1⟩
  · obtain ⟨o1, e1⟩ := u0.there b o e hx
    exact ⟨o1, kp b o1 (nL b o e) e1⟩
  · have hj : j ≠ i := fun z => by
      subst z
      have hlt : j < σ.length := by rw [I.len]; exact (List.getElem?_eq_some_iff.mp hi).1
      rw [List.getElem?_set_self hlt] at e2
      cases e2
    rw [List.getElem?_set_ne (Ne.symm hj)] at e2
    have hx : x ≠ n := fun z => hj (nodup_ix hN e1 (z ▸ hi))
    obtain ⟨w, r, l⟩ := hm j x v e1 e2 e3
    refine ⟨w, r, ?_⟩
    rcases l with ⟨k, e⟩ | ⟨k, c, e, z⟩
    · exact .inl ⟨k, by simp [hx, e]⟩
    · exact .inr ⟨k, c, e, z.sameBut hs (I.cne x c e)⟩
  · obtain ⟨v, z⟩ := I.cell x c e
    exact ⟨v, z.sameBut hs (I.cne x c e)⟩
  · obtain ⟨e1, n1, ne, r⟩ := I.pin p hp
    exact ⟨kp _ _ ne e1, n1, ne, r⟩
  · refine (I.hok a o e).stay (fun b v hb q => kp b v ?_ q) (fun _ q => q) fun _ _ q => q
    rcases hb with hb | hb
    · rw [hb]; exact nT a o e
    · exact nT b _ hb
end

/-- the try's own body; the except suite (an exception is being handled: not calm; none leaves it) -/
noncomputable abbrev Cx.body (X : Cx) (pn : List (Addr × Obj)) (E : Value → Shared → Prop) : Cx := { X with pn := pn, xe := E }
noncomputable abbrev Cx.suite (X : Cx) (e : Addr) : Cx := { X with A := X.A.mark (some (.ref e)), calm := false, xe := fun _ _ => False }
section
variable {X : Cx} {pins pins' : List (Addr × Obj)} {σ : St} {H : Hp} {s : Shared} {E : Value → Shared → Prop} {e : Addr}
theorem Inv.intry (I : Inv X pins σ H s) : Inv (X.body (X.pn ++ pins) E) [] σ H s :=
  ⟨⟨I.ok.mod, I.ok.kind, I.ok.glob, I.ok.blt, I.ok.above, I.ok.inj, I.ok.has, I.ok.cab, I.ok.hd, I.ok.frames, I.ok.stk, I.ok.exf, I.ok.bs, I.ok.bsz, I.ok.noex, I.ok.exfs, I.ok.funs, I.ok.frf⟩,
    I.os, I.bare, I.base, I.loc, I.cell, I.free, I.freeC, fun p hp => I.pin p (by simpa using hp), I.hok, I.len⟩
theorem Inv.offtry (I : Inv (X.body (X.pn ++ pins) E) pins' σ H s) : Inv X pins σ H s :=
  ⟨⟨I.ok.mod, I.ok.kind, I.ok.glob, I.ok.blt, I.ok.above, I.ok.inj, I.ok.has, I.ok.cab, I.ok.hd, I.ok.frames, I.ok.stk, I.ok.exf, I.ok.bs, I.ok.bsz, I.ok.noex, I.ok.exfs, I.ok.funs, I.ok.frf⟩,
    I.os, I.bare, I.base, I.loc, I.cell, I.free, I.freeC, fun p hp => I.pin p (List.mem_append_left _ hp), I.hok, I.len⟩
theorem Inv.insuite (I : Inv X pins σ H s) : Inv (X.suite e) pins σ H s :=
  ⟨⟨I.ok.mod, I.ok.kind, I.ok.glob, I.ok.blt, I.ok.above, I.ok.inj, I.ok.has, I.ok.cab, (fun z => by cases z), I.ok.frames, I.ok.stk, I.ok.exf, I.ok.bs, I.ok.bsz, I.ok.noex, I.ok.exfs, I.ok.funs, I.ok.frf⟩,
    I.os, I.bare, I.base, I.loc, I.cell, I.free, I.freeC, I.pin, I.hok, I.len⟩
theorem Inv.offsuite (I : Inv (X.suite e) pins σ H s) (ok : X.Ok) : Inv X pins σ H s :=
  ⟨ok, I.os, I.bare, I.base, I.loc, I.cell, I.free, I.freeC, I.pin, I.hok, I.len⟩
theorem SP.offtry {D : Ends} {f : Flow} (h : SP (X.body (X.pn ++ pins) E) [] D f s) : SP X pins D f s := by
  cases f with
  | next => obtain ⟨σ', H', J, q⟩ := h; exact ⟨σ', H', J.offtry, q⟩
  | brk => obtain ⟨σ', H', J, q⟩ := h; exact ⟨σ', H', J.offtry, q⟩
  | cont => obtain ⟨σ', H', J, q⟩ := h; exact ⟨σ', H', J.offtry, q⟩
  | ret u => obtain ⟨v, σ', H', J, r, q⟩ := h; exact ⟨v, σ', H', J.offtry, r, q⟩
end
/-- the ends of an except suite whose name stands in slot i -/
noncomputable def Ends.gone (D : Ends) (i : Nat) : Ends := { nx := fun σ H => D.nx (σ.set i none) H, rt := D.rt, bk := fun σ H => D.bk (σ.set i none) H, ct := fun σ H => D.ct (σ.set i none) H }
/-- try: body; except C0 as n: suite. tb EX: the body's reading, EX what is wanted of an exception out of it -/
noncomputable def tTryE (K : PySem.W.Frag) (C0 : Addr) (i : Nat) (tb : XE → TS) (ts : Addr → TS) : TS := fun D σ H =>
  tb (fun σ' C H' => PySem.W.exmOne K C (.ref C0) = some true ∧ ∀ e, H' e = none → ts e (D.gone i) (σ'.set i (some (.ref e))) (upd H' e (ExcAt e C))) D σ H
section
variable {X : Cx} {C0 : Addr} {x n : Str} {np hpos pos : Pos} {i : Nat} {body suite : List Stmt} {b₀ : Stmt} {tb : XE → TS} {ts : Addr → TS}
theorem gone_ok {pins : List (Addr × Obj)} {D : Ends} {f : Flow} {s : Shared} {e : Addr} (ok : X.Ok) (hN : X.N.Nodup) (hi : X.N[i]? = some n) (hl : X.env.scope.names.lookup n = some .local) (h : SP (X.suite e) pins (D.gone i) f s) :
    wpAny (model X.prog X.w) X.A (do bindName X.env n .none; unbindBehindTheSuite X.env n hpos) (fun _ s' => SP X pins D f s') X.xe s := by
  have hcls : (X.env.scope.kind == .class || (X.env.scope.kind == .module && X.env.locals != X.env.globals)) = false := by rw [ok.kind]; rfl
  have main : ∀ (σ' : St) (H' : Hp), Inv (X.suite e) pins σ' H' s → ∀ (R : Shared → Prop), (∀ s', Inv X pins (σ'.set i none) H' s' → R s') →
      wpAny (model X.prog X.w) X.A (do bindName X.env n .none; unbindBehindTheSuite X.env n hpos) (fun _ s' => R s') X.xe s := by
    intro σ' H' J R hR
    have J1 := J.offsuite ok
    refine wpAny_bind (wpAny_bindName (store_ok (v := .non) J1 hN hi (.inl hl) rfl (fun s1 J2 => ?_) (.inr hl)))
    obtain ⟨m, hn, hm⟩ := J2.loc
    have hlt : i < σ'.length := by rw [J1.len]; exact (List.getElem?_eq_some_iff.mp hi).1
    obtain ⟨u, ru, lk⟩ := hm i n .non hi (List.getElem?_set_self hlt) (.inl hl)
    have hmn : m n = some u := by
      rcases lk with ⟨_, z⟩ | ⟨z, _⟩
      · exact z
      · rcases z with z | z <;> (have z' : X.env.scope.names.lookup n = _ := z; rw [hl] at z'; cases z')
    unfold unbindBehindTheSuite
    refine wpAny_onRaise (wpAny_mono (wpAny_unbindName_local hl hn hmn hcls fun h' v hn' hs => ?_) (fun _ _ q => q) fun _ _ q => wpAny_standAt q)
    refine hR _ ?_
    have J3 := J2.unbind hN hi hl hn hn' hs hm
    rw [List.set_set] at J3
    exact J3
  cases f with
  | next => obtain ⟨σ', H', J, q⟩ := h; exact main σ' H' J _ fun s' J' => ⟨_, H', J', q⟩
  | brk => obtain ⟨σ', H', J, q⟩ := h; exact main σ' H' J _ fun s' J' => ⟨_, H', J', q⟩
  | cont => obtain ⟨σ', H', J, q⟩ := h; exact main σ' H' J _ fun s' J' => ⟨_, H', J', q⟩
  | ret u => obtain ⟨v, σ', H', J, r, q⟩ := h; exact main σ' H' J _ fun s' J' => ⟨v, _, H', J', r, q⟩
theorem ps_tryE (hst : X.stack = X.env :: X.outer) (hfr : X.env.frame = some X.env.locals) (hex : X.ex = []) (hN : X.N.Nodup) (hi : X.N[i]? = some n) (hl : X.env.scope.names.lookup n = some .local)
    (hg : Gl X x) (hm : X.mg x = some (.ref C0)) (hb : ∀ pn E EX, Lands (X.body pn E) EX → PSs (X.body pn E) body (tb EX)) (hs : ∀ e, PSs (X.suite e) (b₀ :: suite) (ts e))
    (hdb : (x == ("__debug__" : Str)) = false := by decide) : PS X (.Try body [.ExceptHandler (some (.Name x np)) (some n) (b₀ :: suite) hpos] [] [] pos) (tTryE X.K C0 i tb ts) := by
  intro pins s σ H D I h
  refine wpAny_Try_except (wpAny_mono (hb (X.pn ++ pins) (fun ev s₁ => wpAny (model X.prog X.w) X.A (noteFrame ev X.env) (fun _ s₂ => wpAny (model X.prog X.w) X.A (setFlight ev none) (fun _ s₃ =>
    wpAny (model X.prog X.w) X.A (handleBy ev X.env [.ExceptHandler (some (.Name x np)) (some n) (b₀ :: suite) hpos]) (SP X pins D) X.xe s₃) X.xe s₂) X.xe s₁) _ ?_ [] s σ H D I.intry h) (fun f s1 q => ?_) fun _ _ q => q)
  · -- an exception arrives
    intro pins' σ' H' s1 e C J F hE
    obtain ⟨hmt, hsuite⟩ := hE
    have J1 : Inv X pins σ' H' s1 := J.offtry
    obtain ⟨⟨B, a0, fl, cov, cvp⟩, c1⟩ := F
    have fl' : Heap.FlyingW B (X.env :: X.outer) e C a0 s1.heap := hst ▸ fl
    have hfrm : X.A.frames = some (X.env :: X.outer) := I.ok.frames.trans (by rw [hst])
    have pn1 : ∀ p ∈ X.pn ++ pins, B.get? p.1 = some p.2 := fun p hp => cvp p (List.mem_append_left _ hp)
    -- where e lies
    have notB : ∀ b o, B.get? b = some o → b ≠ e := fun b o q z => by have := fl'.2.1; rw [← z, q] at this; cases this
    obtain ⟨oe1, vs1, he1, hc1, hd1, _⟩ := fl'.first
    have nfr : e ∉ frs X.stack := fun hm => by
      obtain ⟨_, o, ho, nf⟩ := J1.stack.mem hm
      rw [he1] at ho
      cases ho
      exact nf vs1 hd1
    have hEn : H' e = none := by
      cases q : H' e with
      | none => rfl
      | some v => exact absurd rfl (notB e _ (cov e _ he1 nfr (.inr ⟨v, q⟩)))
    have hE0 : X.s₀.heap.get? e = none := by
      cases q : X.s₀.heap.get? e with
      | none => rfl
      | some o => exact absurd rfl (notB e _ (cov e _ he1 nfr (.inl ⟨o, q⟩)))
    refine note2 hfrm hfr fl' c1 fun h4 held4 c4 sm4 => ?_
    refine lands2 (s := { s1 with heap := h4 }) held4 c4 fun h5 fl5 c5 sm5 => ?_
    have J5 : Inv X pins σ' H' { s1 with heap := h5 } := J1.flown hst hfr hex fl5.1 (sm4.trans sm5) cov pn1
    have J5' : Inv (X.suite e) pins σ' H' { s1 with heap := h5 } := J5.insuite
    obtain ⟨ob, hob, hobc⟩ := fl5.there
    refine wpAny_handleBy_cons (codeAny_handlers_test (ld_glob (X := X.suite e) J5' hg hm ?_ hdb)) (by intro q; cases q)
    have LT : PySem.W.Looks (model X.prog X.w) h5 (typeOf (.ref e)) C := by
      rw [← hobc]
      exact (PySem.W.Looks.ld hob).andThen .now
    refine (PySem.W.exm_one J5.kIn LT hmt).here ?_
    show codeAny _ _ _ _ _
    refine codeAny_handlers_suite_as ?_
    refine landsA2 (s := { s1 with heap := h5 }) fl5 c5 fun h6 fl6 c6 sm6 => ?_
    have J6 : Inv X pins σ' H' { s1 with heap := h6 } := J1.flown hst hfr hex fl6.1 ((sm4.trans sm5).trans sm6) cov pn1
    obtain ⟨oe, vs, he, hc, hd, _⟩ := fl6.first
    obtain ⟨oe', vs', he', hd', h2⟩ := c6
    rw [he] at he'; cases he'; rw [hd] at hd'; cases hd'
    have J7 := J6.trackE he hc hd h2 hEn hE0 fun p hp => notB _ _ (pn1 p hp)
    refine store_ok (X := X.suite e) J7.insuite hN hi (.inl hl) (show RelV (.ref e) (.ref e) from rfl) (fun s8 J8 => ?_) (.inr hl)
    refine wpAny_mono (hs e pins s8 _ _ _ J8 (hsuite e hEn)) (fun f s9 q => ?_) fun _ _ q => q.elim
    exact gone_ok I.ok hN hi hl q
  · cases f with
    | next => exact wpAny_execs_nil (SP.offtry q)
    | brk => exact SP.offtry q
    | cont => exact SP.offtry q
    | ret u => exact SP.offtry q
end
end L2

/-! MORE OPERATIONS: products and quotients of great ints; == and != of data; isinstance; calls while an exception is handled. -/
namespace L2
open PySem PySem.Spec PyProof.Rows
section
variable {X : Cx}
theorem op_mulB : OpR X (binaryOp .Mult) (rI (fun i j => IntMulOk i j) fun i j => .int (i * j)) := opI fun _ _ _ _ _ _ _ hc q => mul_int q hc
noncomputable def CDivB (_ j : Int) : Prop := j ≠ 0 ∧ j.natAbs.log2 < 9000
theorem op_fdivB : OpR X (binaryOp .FloorDiv) (rI CDivB fun i j => .int (i.fdiv j)) := opI fun _ _ _ _ _ _ _ hc q => floordiv_int hc.1 q (.inl (PyProof.noPylong_of_log2 hc.2))
end

mutual
/-- a value is this data, by the abstract heap -/
inductive Dt (K : PySem.W.Frag) (H : Hp) : V → PyData → Prop
  | non : Dt K H .non .none
  | bl (b) : Dt K H (.bl b) (.bool b)
  | int (i) : Dt K H (.int i) (.int i)
  | str (x) : Dt K H (.str x) (.str x)
  | lst {a xs ds} : SqL K H a xs → Dts K H xs ds → Dt K H (.ref a) (.list ds)
  | tup {a xs ds} : SqT K H a xs → Dts K H xs ds → Dt K H (.ref a) (.tuple ds)
inductive Dts (K : PySem.W.Frag) (H : Hp) : List V → List PyData → Prop
  | nil : Dts K H [] []
  | cons {x xs d ds} : Dt K H x d → Dts K H xs ds → Dts K H (x :: xs) (d :: ds)
end
theorem Dts.ints {K : PySem.W.Frag} {H : Hp} : ∀ (ns : List Int), Dts K H (ns.map V.int) (ns.map PyData.int)
  | [] => .nil
  | n :: r => .cons (.int n) (Dts.ints r)
section
variable {X : Cx} {pins : List (Addr × Obj)} {σ : St} {H : Hp} {s : Shared}
mutual
theorem Dt.reads (I : Inv X pins σ H s) : ∀ {x : V} {d : PyData} {u : Value}, Dt X.K H x d → RelV x u → ∃ as, Reads s.heap u d as
  | _, _, _, .non, r => by cases (show _ = Value.none from r); exact ⟨_, .none⟩
  | _, _, _, .bl b, r => by cases (show _ = Value.bool b from r); exact ⟨_, .bool b⟩
  | _, _, _, .int i, r => by obtain ⟨t, e⟩ := (show ∃ t, _ = Value.int i t from r); cases e; exact ⟨_, .int i t⟩
  | _, _, _, .str x, r => by obtain ⟨t, e⟩ := (show ∃ t, _ = Value.str x t from r); cases e; exact ⟨_, .str x t⟩
  | _, _, _, .lst (a := a) h hd, r => by
    cases (show _ = Value.ref a from r)
    obtain ⟨its, rv, ⟨o, n, e, c, _, dd⟩, _⟩ := I.list h
    obtain ⟨as, q⟩ := Dts.reads I hd rv
    exact ⟨_, .list e c dd (by simpa using q)⟩
  | _, _, _, .tup (a := a) h hd, r => by
    cases (show _ = Value.ref a from r)
    obtain ⟨its, rv, ⟨o, e, c, n, dd⟩, _⟩ := I.tuple h
    obtain ⟨as, q⟩ := Dts.reads I hd rv
    exact ⟨_, .tuple e c dd (by simpa using q)⟩
theorem Dts.reads (I : Inv X pins σ H s) : ∀ {xs : List V} {ds : List PyData} {us : List Value}, Dts X.K H xs ds → Vals xs us → ∃ as, ReadsAll s.heap us ds as
  | _, _, _, .nil, r => by cases r; exact ⟨_, .nil⟩
  | _, _, _, .cons h t, r => by
    cases r with
    | cons r1 r2 =>
      obtain ⟨as, q1⟩ := Dt.reads I h r1
      obtain ⟨bs, q2⟩ := Dts.reads I t r2
      exact ⟨_, .cons q1 q2⟩
end
end
/-! ### == and != of data -/
section
variable {X : Cx}
noncomputable def rEqD (K : PySem.W.Frag) : R2 := fun x y H Q => ∃ d d', Dt K H x d ∧ Dt K H y d' ∧ SeqAt.shaped d = true ∧ SeqAt.shaped d' = true ∧ SeqAt.noMix d d' = true ∧ Q (.bl (same d d')) H
noncomputable def rNeD (K : PySem.W.Frag) : R2 := fun x y H Q => ∃ d d', Dt K H x d ∧ Dt K H y d' ∧ SeqAt.shaped d = true ∧ SeqAt.shaped d' = true ∧ SeqAt.noMix d d' = true ∧ Q (.bl (!same d d')) H
theorem op_eqD (hu : X.A.units + 64 < cLine) : OpR X (compareOp .Eq) (rEqD X.K) := by
  intro pins s σ H x y v u Q I rx ry h
  obtain ⟨d, d', h1, h2, s1, s2, mx, q⟩ := h
  obtain ⟨as, r1⟩ := h1.reads I rx
  obtain ⟨bs, r2⟩ := h2.reads I ry
  exact eq_dataH_same r1 r2 s1 s2 hu mx ⟨.bl (same d d'), H, I, rfl, q⟩
theorem op_neD (hu : X.A.units + 64 < cLine) : OpR X (compareOp .NotEq) (rNeD X.K) := by
  intro pins s σ H x y v u Q I rx ry h
  obtain ⟨d, d', h1, h2, s1, s2, mx, q⟩ := h
  obtain ⟨as, r1⟩ := h1.reads I rx
  obtain ⟨bs, r2⟩ := h2.reads I ry
  exact ne_dataH_same r1 r2 s1 s2 hu mx ⟨.bl (!same d d'), H, I, rfl, q⟩
end

/-! ### a list or a tuple walked -/
theorem PI.or {X : Cx} {tg l : Expr} {wi wi' : TI} (h : PI X tg l wi) (h' : PI X tg l wi') : PI X tg l (fun σ H R => wi σ H R ∨ wi' σ H R) := by
  intro pins s σ H R I q
  rcases q with q | q
  · exact h pins s σ H R I q
  · exact h' pins s σ H R I q

/-! ### isinstance -/
/-- the facts of an exception class of one's own, for isinstance -/
structure ExcCls (K : PySem.W.Frag) (C : Addr) : Prop where
  ga : PySem.W.findIn K (.ref C) "__getattribute__" = some (some (.builtin "BaseException.__getattribute__"))
  gt : PySem.W.findIn K (.ref C) "__getattr__" = some none
  ca : PySem.W.findIn K (.ref C) "__class__" = some (some (.builtin "object.__class__"))
  cg : PySem.W.specialIn K (.builtin "object.__class__") "__get__" = some (some (.builtin "getset_descriptor.__get__"))
  tk : PySem.W.takesIn K (.builtin "object.__class__") = some true
  ob : PySem.W.mroIn K C (.type "object") = some true
  bx : PySem.W.mroIn K C (.type "BaseException") = some true
  cl : (PySem.W.clsIn K C).isSome = true
theorem exc_class {prog : Program} {w : World} {A : Around} {E : Value → Shared → Prop} {s : Shared} {K : PySem.W.Frag} {x C : Addr} {Q : Option Value → Shared → Prop} (F : ExcCls K C) (KX : K.In s.heap) (ho : ∃ o, s.heap.get? x = some o ∧ o.cls = .ref C)
    (h : Q (some (.ref C)) { s with toks := s.toks + 1 }) : wpAny (model prog w) A (getAttr? (.ref x) "__class__") Q E s := by
  obtain ⟨hh, g, d, t, os⟩ := s
  obtain ⟨o, ho, hc⟩ := ho
  have L0 : PySem.W.Looks (model prog w) hh (typeOf (.ref x)) (.ref C) := hc ▸ (PySem.W.Looks.ld ho).andThen .now
  have L1 := PySem.W.looks_findIn (M := model prog w) KX F.ga
  have L2 := PySem.W.looks_findIn (M := model prog w) KX F.gt
  have L3 := PySem.W.looks_findIn (M := model prog w) KX F.ca
  have L4 := PySem.W.looks_specialIn (M := model prog w) KX F.cg
  have L5 := PySem.W.looks_takesIn (M := model prog w) KX F.tk
  have L6 := PySem.W.looks_mroIn (M := model prog w) KX F.ob
  have L7 := PySem.W.looks_mroIn (M := model prog w) KX F.bx
  unfold getAttr? getAttrBy? getAttrBy
  refine wpAny_bind (wpAny_mkText (wpAny_bind (wpAny_attempt (wpAny_holding (wpAny_bind (L0.at (wpAny_bind (L1.at ?_))))))))
  show wpAny _ _ (getAttrByItsOwn _ _ _ _ _ _) _ _ _
  unfold getAttrByItsOwn
  refine wpAny_bind (show wpAny _ _ (hookBefore (.ref C)) _ _ _ from L2.at ?_)
  refine wpAny_bind (wpAny_attempt (wpAny_holding ?_))
  show wpAny _ _ (boundAndCalled _ _ _) _ _ _
  unfold boundAndCalled
  rw [PySem.F.attr_ValueError.ga.bind (.ref x)]
  refine wpAny_bind (wpAny_pure (wpAny_call ?_))
  refine codeAny_call_builtin PySem.F.attr_ValueError.ga.plain PySem.F.entry_bexc_ga ?_
  have hk : builtinKind "BaseException.__getattribute__" = some .slot := by decide +kernel
  have hsplit : splitId "BaseException.__getattribute__" = some ("BaseException", "__getattribute__") := by decide +kernel
  have hargs := PySem.F.args_bexc_ga (.ref x) (.str "__class__" t)
  have LI : PySem.W.Looks (model prog w) hh (isInstance (.ref x) (.type "BaseException")) true := L0.andThen L7
  show wpAny _ _ (checkBuiltinCall "BaseException.__getattribute__" ⟨[.ref x, .str "__class__" t], []⟩) _ _ _
  simp only [checkBuiltinCall, hk, hsplit]
  refine wpAny_bind (LI.at ?_)
  repeat wp_step
  rw [hc]
  refine L3.at ?_
  refine wpAny_bind (show wpAny _ _ (Builtin.ObjectAttr.getOf (some (.builtin "object.__class__"))) _ _ _ from L4.at ?_)
  have LD : PySem.W.Looks (model prog w) hh (Builtin.ObjectAttr.dataDescriptor? (some (.builtin "object.__class__")) (some (.builtin "getset_descriptor.__get__"))) (some (.builtin "getset_descriptor.__get__", .builtin "object.__class__")) := L5.andThen .now
  refine wpAny_bind (LD.at ?_)
  repeat wp_step
  have LO : PySem.W.Looks (model prog w) hh (isInstance (.ref x) (.type "object")) true := L0.andThen L6
  refine codeAny_call_builtin PySem.W.KF.slot_gs.plain PySem.W.KF.entry_gs (PySem.W.KF.slot_gs.check _ _ _ _ _ _ _ _ PySem.W.KF.type_class (PySem.W.KF.args_gs _ _ _) ?_)
  (unfold Builtin.«getset_descriptor.__get__» Builtin.Getset_descriptor.descrGet; rw [PySem.W.dga_obj]; refine wpAny_bind (wpAny_pure ?_))
  (unfold Builtin.Getset_descriptor.descrGetter Builtin.Getset_descriptor.descrCheckInstance Builtin.Getset_descriptor.descrNameAndClass; simp only [PySem.W.KF.owner_class])
  refine wpAny_bind (wpAny_bind (wpAny_pure (wpAny_bind (LO.at (wpAny_pure ?_)))))
  repeat wp_step
  refine ⟨Code.quiet_builtin _ (by decide +kernel), codeAny_builtin PySem.W.KF.entry_class ?_⟩
  (unfold Builtin.«object.__class__» shownTypeOf; repeat wp_step)
  rw [hc]
  exact wpAny_pure (wpAny_pure h)
theorem kitx_exc {K : PySem.W.Frag} {x C : Addr} (F : ExcCls K C) : PySem.W.KitX K (.ref x) (.ref C) (fun h => ∃ o, h.get? x = some o ∧ o.cls = .ref C) where
  ty := fun M h _ ⟨o, ho, hc⟩ => hc ▸ (PySem.W.Looks.ld ho).andThen .now
  it := fun M h KX _ => by
    have q := F.cl
    unfold PySem.W.clsIn at q
    split at q
    · next lk =>
      intro A' Q' E' s' k z
      (unfold isType loadHead; exact wpAny_bind (wpAny_loadPart (k _ _ (KX _ _ lk)) (wpAny_pure z)))
    · cases q
  ne := fun h tp dd its n sl KX htp => by
    have q := F.cl
    refine Bool.eq_false_iff.mpr fun z => ?_
    have e : C = tp := Value.ref.inj (beq_iff_eq.mp z)
    subst e
    unfold PySem.W.clsIn at q
    split at q
    · next lk => exact absurd ((KX _ _ lk).symm.trans htp) (by intro z2; cases z2)
    · cases q
  ca := fun KX p k => exc_class F KX p k
/-- the type of a value: as TyOf has it, or a caught exception's class -/
inductive TyX (K : PySem.W.Frag) (H : Hp) : V → Value → Prop where
  | ty {x : V} {t : Value} (h : TyOf K H x t) : TyX K H x t
  | exc {e C : Addr} (h : H e = some (ExcAt e (.ref C))) (F : ExcCls K C) : TyX K H (.ref e) (.ref C)
  | tupS {a : Addr} {xs : List V} (h : SqT K H a xs) : TyX K H (.ref a) (.type "tuple")
noncomputable def clsV : V → Value
  | .ty n => .type n
  | .ref a => .ref a
  | _ => .none
noncomputable def isCls : V → Bool
  | .ty _ => true
  | .ref _ => true
  | _ => false
noncomputable def rIsi (K : PySem.W.Frag) : List V → Hp → VK → Prop := fun vs H Q => ∃ x c t b, vs = [x, c] ∧ TyX K H x t ∧ isCls c = true ∧ PySem.W.kitOne K t (clsV c) = some b ∧ Q (.bl b) H
theorem call_isi {X : Cx} : CallR X (.builtin "isinstance") (rIsi X.K) := by
  intro pins s σ H xs us Q I rv h
  obtain ⟨x, c, t, b, rfl, ty, ic, e, q⟩ := h
  obtain ⟨u, w, rfl, r1, r2⟩ := rv.two
  have ew : w = clsV c := by
    cases c <;> first | exact r2 | cases ic
  subst ew
  have fin : ∀ tk, EP X pins σ Q (.bool b) { s with toks := tk } := fun tk => ⟨.bl b, H, I.tok tk, rfl, q⟩
  cases ty with
  | ty h => exact isinst_ok I r1 h e fin
  | exc h F =>
    obtain rfl : u = _ := r1
    obtain ⟨⟨o, g1, g2, _⟩, _, _⟩ := (show ObjOk X.prog X.w H s.heap _ (ExcAt _ _) from I.hok _ _ h)
    exact PySem.W.kia_one (kitx_exc F) I.kIn ⟨o, g1, g2⟩ e (fun z => nomatch z) fin
  | tupS h =>
    obtain rfl : u = _ := r1
    obtain ⟨its, _, ⟨o, h1, h2, _⟩, _⟩ := I.tuple h
    exact PySem.W.kia_one PySem.W.kitx_tuple I.kIn ⟨o, h1, h2⟩ e (fun z => nomatch z) fin

/-! ### defs that are called while an exception is handled -/
/-- room, without a word on what is handled -/
structure RoomA (k : Nat) (A : Around) : Prop where
  dp : A.depth + 3 * k + 5 < recursionLimit
  un : A.units + 16 * k + 200 < cLine
theorem Room.a {k : Nat} {A : Around} (r : Room k A) : RoomA k A := ⟨r.dp, r.un⟩
theorem RoomA.mono {j k : Nat} {A : Around} (r : RoomA k A) (h : j ≤ k) : RoomA j A := ⟨by have := r.dp; omega, by have := r.un; omega⟩
theorem RoomA.deeper {k : Nat} {A : Around} (r : RoomA (k + 1) A) (env : Env) : RoomA k (A.deeper env) :=
  ⟨by have := r.dp; show A.depth + 1 + 3 * k + 5 < _; omega, by have := r.un; show A.units + 3 + 16 * k + 200 < _; omega⟩
theorem RoomA.mark {k : Nat} {A : Around} (r : RoomA k A) (v : Option Value) : RoomA k (A.mark v) := ⟨r.dp, r.un⟩
theorem RoomA.calm {k : Nat} {A : Around} (r : RoomA k A) : Room k { A with handled := none } := ⟨rfl, r.dp, r.un⟩
/-- a def's promise, whatever is handled; no exception leaves it -/
structure FnOkA (P : Program) (w : World) (K : PySem.W.Frag) (mg : Str → Option Value) (base : Heap) (k : Nat) (f : Addr) (fd : FuncData) (ps : List Str) (sp : Sp) : Prop where
  len : ∀ vs H Q E, sp vs H Q E → vs.length = ps.length
  run : ∀ (A : Around) (outer : List Env) (s : Shared) (H : Hp) (args : Args) (us : List Value) (vs : List V) (Q : VK) (E : XK), RoomA k A → Env0 P w K mg base A outer s H → BindsTo s fd args (ps.zip us) → Vals vs us → sp vs H Q E →
    codeAny (model P w) A (.call (.ref f) args) (CR CX0 outer P w H s Q E) s
theorem FnOkA.ok {P : Program} {w : World} {K : PySem.W.Frag} {mg : Str → Option Value} {base : Heap} {k : Nat} {f : Addr} {fd : FuncData} {ps : List Str} {sp : Sp} (F : FnOkA P w K mg base k f fd ps sp) : FnOk P w K mg base CX0 k f fd ps sp :=
  ⟨F.len, fun A outer s H args us vs Q E hr => F.run A outer s H args us vs Q E hr.a⟩
/-- the body's context: as cxOf, but not calm -/
noncomputable abbrev cxA (P : Program) (w : World) (K : PySem.W.Frag) (mg : Str → Option Value) (base : Heap) (N : List Str) (qual : Str) (scope : Scope) (f : Addr) (cd : Value) (A : Around) (outer : List Env) (s : Shared) (H : Hp) (E : XK) : Cx :=
  { cxOf CX0 P w K mg base N qual scope f cd A outer s H E with calm := false, xe := fun _ _ => False }
section
variable {P : Program} {w : World} {K : PySem.W.Frag} {mg : Str → Option Value} {base : Heap}
end
section
variable {X : Cx} {k : Nat} {f : Addr} {fd : FuncData} {ps : List Str} {sp : Sp} {dvs : List V} {ds : List Value} {x : Str} {p pos : Pos} {e : Expr} {es : List Expr} {t : TA}
end
end L2

/-! SMALL WORDS for the terms that a program prints. -/
namespace L2
open PySem PySem.Spec PyProof.Rows
section
variable {X : Cx}
theorem op_eqZ : OpR X (compareOp .Eq) (rI0 fun i j => .bl (decide (i = j))) := opB0 fun i j _ _ _ _ _ q => eq_int (by rw [Bool.beq_eq_decide_eq]; exact q)
theorem op_neZ : OpR X (compareOp .NotEq) (rI0 fun i j => .bl (!decide (i = j))) := opB0 fun i j _ _ _ _ _ q => ne_int (by rw [bne, Bool.beq_eq_decide_eq]; exact q)
theorem PS.nox {st : Stmt} {t : TS} (h : PS X.nox st t) : PS X st t := fun pins s σ H D I hw =>
  wpAny_mono (h pins s σ H D (I.wish _) hw) (fun _ _ q => q.unwish) fun _ _ z => z.elim
end
section
variable {P : Program} {w : World} {K : PySem.W.Frag} {mg : Str → Option Value} {base : Heap}
/-- a def that may raise -/
theorem Fun.okX {x qual : Str} {st : Stmt} {f : Addr} {fd : FuncData} {N ps : List Str} {k : Nat} {sp : Sp} (F : Fun K x qual st f fd) (S : FnScope N ps (defScope st)) (len : ∀ vs H Q E, sp vs H Q E → vs.length = ps.length)
    (hbody : ∀ (cdv : Value) (A : Around) (outer : List Env) (s : Shared) (H : Hp) (vs : List V) (Q : VK) (E : XK), Room k (A.deeper (envOfC qual (defScope st) s.heap.objs.size f cdv)) → sp vs H Q E →
      ∃ t, PSs (cxOf (CX1 P w) P w K mg base N qual (defScope st) f cdv A outer s H E) (defBody st) t ∧ t { nx := fun _ H' => Q .non H', rt := Q } (start N vs) H) : FnOk P w K mg base (CX1 P w) (k + 1) f fd ps sp := by
  obtain ⟨oc, od, kV, doc, pm, an, cdv, ct, osl, rfl, lk, hcd⟩ := F.ex
  exact fn_of lk hcd S len fun A outer s H vs Q E hr hsp => hbody cdv A outer s H vs Q E hr hsp
end
end L2
namespace Att
open PySem PySem.W PySem.Calls PyProof.Rows
theorem ofPy_ints : ∀ ns : List Int, ofPys (ns.map PyData.int) = ns.map WData.int
  | [] => rfl
  | n :: r => by
    show ofPy (.int n) :: ofPys (r.map PyData.int) = _
    rw [ofPy_ints r]
    rfl
theorem lay_bits {ns : List Int} (h : (WData.list (ns.map WData.int)).layable = true) : ∀ n ∈ ns, Builtin.Int.intBits n ≤ 1048576 := fun n hn => by
  have e : ofPy (.list (ns.map PyData.int)) = WData.list (ns.map WData.int) := by
    show WData.list (ofPys (ns.map PyData.int)) = _
    rw [ofPy_ints]
  have sh : PySem.Spec.Shape.has (.list .int) (.list (ns.map PyData.int)) = true := by
    simp [PySem.Spec.Shape.has]
  exact intBits_le_of_item hn (layable0_of_all (lay0_ofPy (s := .list .int) rfl sh (by rw [e]; exact h)))
/-- as attach_call, with the size of the script's ints -/
theorem attach_callB {l : OpenLaw} {n : Nat} {q : Program} {loose : List Str} {XP : (Str → Option Value) → Heap → Prop} {YP : World → Heap → Prop} {d : DefRec} (hn : l.most = some n) (hdf : d.params.defaults = [])
    (call : ∀ (w : World) (s₀ s₁ : Shared) (mg mb : Str → Option Value) (fa : Addr) (a : Addr) (vs : List Value) (ns : List Int), Ground q loose [] XP w s₀ mg mb s₁.heap → YP w s₁.heap → mg d.name = some (.ref fa) →
      s₁.heap.get? a = some { cls := .type "list", data := .seq vs.toArray } → IntsAre vs ns → ns.length ≤ n → (∀ m ∈ ns, Builtin.Int.intBits m ≤ 1048576) → s₁.gens = #[] →
      codeAny (model l.prog w) callerA (.call (.ref fa) ⟨[.ref a], []⟩) (fun r s' => r = .ok (.ret (.bool true)) ∧ OldK s₁.heap s'.heap ∧ s'.os = s₁.os ∧ AllBare s'.gens) s₁) :
    WalkO q loose XP YP l.row.toRowW d [] (fun f vs => PySem.call f vs) := by
  intro w s₀ s₁ mg mb G Y fa o pm cd doc dV kV ho hd hcd hD hmg hg args vals as hpre hlay hrd hwl hlo
  obtain rfl : dV = .none := Dflts.none hD hdf
  obtain rfl : kV = .none := Dflts.noKw hD
  obtain ⟨a, vs, ns, rfl, rfl, hobj, hints, hlen⟩ := script_of hn hpre hwl
  have hb := lay_bits (layableW_arg hlay _ List.mem_cons_self)
  refine enter_call (codeAny_mono (call w s₀ s₁ mg mb fa a vs ns G Y hmg hobj hints hlen hb hg) fun r s' hq => ?_)
  obtain ⟨rfl, h2, h3, h4⟩ := hq
  exact ⟨.inl ⟨.bool true, .bool true, [], rfl, fun _ => rfl, .bool true, post_true l _, fun _ => ⟨List.Pairwise.nil, fun _ hm => (nomatch hm)⟩⟩, h2, h3, h4⟩
end Att
namespace L2
open PySem PySem.Spec PyProof.Rows
/-- the law's promise: handed a script of at most 63 ints of at most 2^20 bits, True comes out -/
noncomputable def spLaw (K : PySem.W.Frag) : Sp := fun vs H Q _ => ∃ (a : Addr) (ns : List Int), vs = [.ref a] ∧ SqL K H a (ns.map V.int) ∧ ns.length ≤ 63 ∧ (∀ m ∈ ns, Builtin.Int.intBits m ≤ 1048576) ∧ ∀ H', Q (.bl true) H'
theorem walkB {l : PySem.W.OpenLaw} {k : Nat} {q : Program} {loose : List Str} {XP : (Str → Option Value) → Heap → Prop} {YP : World → Heap → Prop} {d : DefRec} {K : Params → PySem.W.Frag} {x : Str}
    (hn : l.most = some 63) (hdf : d.params.defaults = []) (hr : Room k callerA) (hY : ∀ (w : World) (h : Heap), YP w h → (K w.params).In h)
    (F : ∀ (w : World) (mg : Str → Option Value) (fa : Addr) (h : Heap), (K w.params).In h → h.Ns mainGlobals mg → mg d.name = some (.ref fa) →
      ∃ fd : FuncData, (∀ (s : Shared) (u : Value), BindsTo s fd ⟨[u], []⟩ [(x, u)]) ∧ ∀ base : Heap, (K w.params).In base → base.Ns mainGlobals mg → FnOk l.prog w (K w.params) mg base CX0 k fa fd [x] (spLaw (K w.params))) :
    PySem.W.WalkO q loose XP YP l.row.toRowW d [] (fun f vs => PySem.call f vs) := by
  refine Att.attach_callB hn hdf fun w s₀ s₁ mg mb fa a vs ns G Y hmg hobj hints hlen hb hg => ?_
  have KX := hY w _ Y
  obtain ⟨fd, hbn, hF⟩ := F w mg fa _ KX G.T.g hmg
  exact law_call KX G.T.g G.T.b G.T.builtins G.T.nolimit hg hobj hints (Nat.le_trans hlen (by decide)) hr hF hbn (fun H _ hS => ⟨a, ns, rfl, hS, hlen, hb, fun _ => rfl⟩) fun H e s' z => z
/-! ### readings, turned to plain words -/
/-- a loop alone: its body is a name B -/
theorem for_st {wi : TI} {g : TG} {tb : TS} {D : Ends} {σ : St} {H : Hp} (h : ∀ B : TS, B = tb → wi σ H fun J H1 => ∃ W : Nat → Nat → St → Hp → Prop, (∃ m, W 0 m σ H1) ∧ ∀ i m σ H, W i m σ H →
    (J.stop i H ∧ D.nx σ H) ∨ (J.go i H ∧ ∃ N : St → Hp → Prop, (∀ σ' H', N σ' H' → ∃ m', m' < m ∧ W (i + 1) m' σ' H') ∧ ∀ x H', J.yld i H x H' → g x σ H' fun σ2 H2 => B { D with nx := N, ct := N, bk := D.nx } σ2 H2)) : tFor wi g tb D σ H := h _ rfl
theorem while_st {c : TT} {tb : TS} {D : Ends} {σ : St} {H : Hp} (h : ∀ B : TS, B = tb → ∃ W : Nat → St → Hp → Prop, (∃ m, W m σ H) ∧ ∀ m σ H, W m σ H →
    c σ H fun b H1 => if b = true then ∃ N : St → Hp → Prop, (∀ σ' H', N σ' H' → ∃ m', m' < m ∧ W m' σ' H') ∧ B { D with nx := N, ct := N, bk := D.nx } σ H1 else D.nx σ H1) : tWhile c tb D σ H := h _ rfl
/-- a statement alone: what stands behind it is a name NX -/
theorem st {t u : TS} {D : Ends} {σ : St} {H : Hp} (h : ∀ NX : St → Hp → Prop, NX = u D → t { D with nx := NX } σ H) : tSeq t u D σ H := h _ rfl
section
variable {g : Int → Int → V} {C : Int → Int → Prop} {f : Int → V} {i j : Int} {H : Hp} {Q : VK}
theorem rd_rI0 : rI0 g (.int i) (.int j) H Q = Q (g i j) H := propext ⟨fun ⟨_, _, e1, e2, q⟩ => by cases e1; cases e2; exact q, fun q => ⟨_, _, rfl, rfl, q⟩⟩
theorem rd_rI : rI C g (.int i) (.int j) H Q = (C i j ∧ Q (g i j) H) := propext ⟨fun ⟨_, _, e1, e2, q⟩ => by cases e1; cases e2; exact q, fun q => ⟨_, _, rfl, rfl, q⟩⟩
theorem rd_rU : rU f (.int i) H Q = Q (f i) H := propext ⟨fun ⟨_, e1, q⟩ => by cases e1; exact q, fun q => ⟨_, rfl, q⟩⟩
end
/-! ### comprehensions whose elements leave what is tracked as it is: R i x y: the element at place i, of x, is y -/
theorem Same.new {H : Hp} {a : Addr} {o : HO} (h : H a = none) : Same H (upd H a o) := fun b u e => by rw [upd_ne (ne_of_none e h)]; exact e
theorem Same.over {H H1 : Hp} {a : Addr} {o : HO} (h : H a = none) (s : Same H H1) : Same H (upd H1 a o) := fun b u e => by rw [upd_ne (ne_of_none e h)]; exact s b u e
theorem Same.tup {K : PySem.W.Frag} {H H' : Hp} {a : Addr} {xs : List V} (e : Same H H') (h : SqT K H a xs) : SqT K H' a xs := by
  rcases h with (h | ⟨o, h⟩) | h
  · exact .inl (.inl (e _ _ h))
  · exact .inl (.inr ⟨o, e _ _ h⟩)
  · exact .inr h
section
variable {K : PySem.W.Frag} {a b : Addr} {xs : List V} {te : TE} {fr : List (Str × Nat)} {σ : St} {H : Hp} {Q : VK}
/-- what holds behind i turns -/
noncomputable def CompP (H : Hp) (a : Addr) (R : Nat → V → Prop) (i : Nat) (H1 : Hp) : Prop := Same H H1 ∧ ∃ ys : List V, H1 a = some (.lst ys) ∧ ys.length = i ∧ ∀ j y, ys[j]? = some y → R j y
theorem CompP.start (ha : H a = none) (R : Nat → V → Prop) : CompP H a R 0 (upd H a (.lst [])) := ⟨Same.new ha, [], upd_same, rfl, fun j y e => by simp at e⟩
theorem CompP.next {R : Nat → V → Prop} {i : Nat} {H1 H2 : Hp} {y : V} (ha : H a = none) (h : CompP H a R i H1) (s : Same H1 H2) (r : R i y) (hz : i < sizeLine) :
    ∃ zs, H2 a = some (.lst zs) ∧ zs.length < sizeLine ∧ CompP H a R (i + 1) (upd H2 a (.lst (zs ++ [y]))) := by
  obtain ⟨s1, ys, e, hl, hr⟩ := h
  refine ⟨ys, s _ _ e, by omega, Same.over ha (s1.trans s), _, upd_same, by simp [hl], fun j z q => ?_⟩
  by_cases hj : j < ys.length
  · rw [List.getElem?_append_left hj] at q
    exact hr j z q
  · rw [List.getElem?_append_right (by omega)] at q
    have : j = i := by
      by_cases h0 : j - ys.length = 0
      · omega
      · rw [List.getElem?_eq_none (by simp; omega)] at q
        cases q
    subst this
    rw [show j - ys.length = 0 by omega] at q
    cases Option.some.inj q
    exact r
end
/-- a list that is told by its places -/
theorem list_is {α β : Type} {ys : List β} {xs : List α} {f : α → β} (hl : ys.length = xs.length) (h : ∀ (j : Nat) (y : β), ys[j]? = some y → ∃ x, xs[j]? = some x ∧ y = f x) : ys = xs.map f := by
  refine List.ext_getElem (by simpa using hl) fun i h1 h2 => ?_
  obtain ⟨x, e1, e2⟩ := h i ys[i] (by simp [h1])
  obtain ⟨hx, e3⟩ := List.getElem?_eq_some_iff.mp e1
  rw [List.getElem_map, e2, e3]
end L2

/-! COMPREHENSIONS IN GENERAL: any target, one test, names that inner comprehensions take along. -/
namespace L2
open PySem PySem.Spec PyProof.Rows
noncomputable def relab (sc scope : Scope) : Scope := { scope with names := scope.names.map fun (n, k) => if (k == .free && sc.kind == .function && sc.names.lookup n == some .cell) then (n, .cell) else (n, k) }
theorem relab_is {scope sc : Scope} {env : Env} (h : env.scope = sc) : relabel scope env = relab sc scope := by subst h; rfl
theorem own_app : ∀ (names : List (Str × NameKind)) (n : Nat) (acc : List (Str × Addr)), cellsFrom n names acc = cellsFrom n names [] ++ acc
  | [], _, _ => rfl
  | (x, k) :: r, n, acc => by
    unfold cellsFrom
    split
    · rw [own_app r (n + 1) ((x, n) :: acc), own_app r (n + 1) [(x, n)], List.append_assoc]
      rfl
    · exact own_app r n acc
theorem own_mem {y : Str} {b : Addr} : ∀ {names : List (Str × NameKind)} {n : Nat} {acc : List (Str × Addr)}, (y, b) ∈ cellsFrom n names acc → (y, b) ∈ acc ∨ (y, NameKind.cell) ∈ names
  | [], _, _, h => .inl h
  | (x, k) :: r, n, acc, h => by
    unfold cellsFrom at h
    split at h
    · rename_i hk
      rcases own_mem h with q | q
      · rcases List.mem_cons.mp q with e | e
        · have ek : k = .cell := by simpa using hk
          cases e
          exact .inr (by rw [ek]; exact List.mem_cons_self)
        · exact .inl e
      · exact .inr (List.mem_cons_of_mem _ q)
    · rcases own_mem h with q | q
      · exact .inl q
      · exact .inr (List.mem_cons_of_mem _ q)
theorem own_has {y : Str} : ∀ {names : List (Str × NameKind)} {n : Nat} {acc : List (Str × Addr)}, ((y, NameKind.cell) ∈ names ∨ ∃ b, acc.lookup y = some b) → ∃ b, (cellsFrom n names acc).lookup y = some b
  | [], _, _, h => by
    rcases h with h | h
    · simp at h
    · exact h
  | (x, k) :: r, n, acc, h => by
    unfold cellsFrom
    split
    · rename_i hk
      refine own_has ?_
      rcases h with h | ⟨b, h⟩
      · rcases List.mem_cons.mp h with e | e
        · cases e
          exact .inr ⟨n, by rw [List.lookup_cons]; simp⟩
        · exact .inl e
      · rw [List.lookup_cons]
        cases hx : y == x with
        | true => exact .inr ⟨n, rfl⟩
        | false => exact .inr ⟨b, h⟩
    · rename_i hk
      refine own_has ?_
      rcases h with h | h
      · rcases List.mem_cons.mp h with e | e
        · cases e
          simp at hk
        · exact .inl e
      · exact .inr h
theorem relab_was {env : Env} {q : NameKind} : ∀ {names : List (Str × NameKind)} {x : Str},
    (names.map fun (n, k) => if (k == NameKind.free && env.scope.kind == .function && env.kindOf n == some .cell) then (n, NameKind.cell) else (n, k)).lookup x = some q →
    (q = .cell ∨ q = .free) → (x, NameKind.free) ∈ names ∨ (x, NameKind.cell) ∈ names
  | [], _, h, _ => by simp at h
  | (n, k) :: r, x, h, hq => by
    have ih := @relab_was env q r x
    rw [List.map_cons] at h
    dsimp only at h
    by_cases hc : (k == NameKind.free && env.scope.kind == .function && env.kindOf n == some .cell) = true
    · rw [if_pos hc, List.lookup_cons] at h
      cases hx : x == n with
      | true =>
        have ex : x = n := by simpa using hx
        have ek : k = .free := by
          have := (Bool.and_eq_true _ _ ▸ ((Bool.and_eq_true _ _ ▸ hc).1)).1
          simpa using this
        rw [ex, ek]
        exact .inl List.mem_cons_self
      | false =>
        rw [hx] at h
        exact (ih h hq).imp (List.mem_cons_of_mem _) (List.mem_cons_of_mem _)
    · rw [if_neg hc, List.lookup_cons] at h
      cases hx : x == n with
      | true =>
        rw [hx] at h
        have ex : x = n := by simpa using hx
        have ek : k = q := Option.some.inj h
        rcases hq with e | e
        · rw [ex, ek, e]; exact .inr List.mem_cons_self
        · rw [ex, ek, e]; exact .inl List.mem_cons_self
      | false =>
        rw [hx] at h
        exact (ih h hq).imp (List.mem_cons_of_mem _) (List.mem_cons_of_mem _)
theorem key_one {α : Type} {x : Str} {k k' : α} : ∀ {l : List (Str × α)}, (l.map (·.1)).Nodup → (x, k) ∈ l → (x, k') ∈ l → k = k'
  | (n, q) :: r, nd, h, h' => by
    obtain ⟨n1, n2⟩ := List.nodup_cons.mp nd
    rcases List.mem_cons.mp h with e | e <;> rcases List.mem_cons.mp h' with e' | e'
    · cases e; cases e'; rfl
    · cases e; exact absurd (List.mem_map.mpr ⟨_, e', rfl⟩) n1
    · cases e'; exact absurd (List.mem_map.mpr ⟨_, e, rfl⟩) n1
    · exact key_one n2 e e'
theorem newEnv_own {M : Model} {A : Around} {E : Value → Shared → Prop} {s : Shared} {scope : Scope} {globals : Addr} {cl : List (Str × Addr)} {qual : Str} {func : Option Addr} {code : Value} {env : Env} {bl : Addr} {Q : Env → Shared → Prop}
    (h : Q (newEnv scope s.heap.objs.size globals (cellsFrom (s.heap.objs.size + 1) scope.names cl) qual func code (some env) bl) { s with heap := pushCells (s.heap.push { cls := .type "dict", data := .dict #[] }) scope.names }) :
    wpAny M A (newFunctionEnv scope globals cl [] qual func code (some env) bl) Q E s := by
  simp only [newFunctionEnv, Option.isSome_some, if_true]
  refine wpAny_bind (wpAny_alloc ?_)
  refine wpAny_bind (wpAny_layCells _ (fun name kind cells => by cases hkc : kind == NameKind.cell <;> simp [hkc]) _ _ _ _ ?_)
  rw [show ({ s with heap := s.heap.push { cls := .type "dict", data := .dict #[] } } : Shared).heap.objs.size = s.heap.objs.size + 1 from Heap.size_push ..]
  exact wpAny_pure h

/-- the context of a comprehension's block -/
noncomputable def cxCompG (X : Cx) (scope : Scope) (N : List Str) (s : Shared) (H : Hp) (fp : List Addr) : Cx :=
  { X with N := N, s₀ := s, H₀ := H, env := compEnvC scope (cellsFrom (s.heap.objs.size + 1) scope.names (clOf X.env scope.names [])) s.heap.objs.size X.env, outer := X.stack, ex := fp, fn := fun y => scope.names.lookup y == some .cell, pn := [], xe := fun _ _ => False }
structure CompOkG (X : Cx) (sc scope : Scope) (xs : List Str) (fr : List (Str × Nat)) : Prop where
  hsc : X.env.scope = sc
  kind : scope.kind = .function
  nn : (scope.names.map (·.1)).Nodup
  free : ∀ y ∈ scope.names, y.2 = .free → sc.names.lookup y.1 = some .cell ∨ sc.names.lookup y.1 = some .free
  loc : ∀ y ∈ scope.names, y.2 = .local → scope.names.lookup y.1 = some .local
  fr : ∀ p ∈ fr, X.N[p.2]? = some p.1 ∧ scope.names.lookup p.1 = some .free
section
variable {X : Cx} {sc scope : Scope} {xs : List Str} {fr : List (Str × Nat)}
theorem CompOkG.free' (c : CompOkG X sc scope xs fr) : ∀ y ∈ scope.names, y.2 = .free → X.env.kindOf y.1 = some .cell ∨ X.env.kindOf y.1 = some .free := fun y hy hf => by
  unfold Env.kindOf
  rw [c.hsc]
  exact c.free y hy hf
theorem CompOkG.cells {pins : List (Addr × Obj)} {σ : St} {H : Hp} {s : Shared} (c : CompOkG X sc scope xs fr) (I : Inv X pins σ H s) : ∀ y ∈ scope.names, y.2 = .free → ∃ c, X.env.cells.lookup y.1 = some c :=
  fun y hy hf => I.ok.has y.1 (c.free' y hy hf)
theorem CompOkG.was {pins : List (Addr × Obj)} {σ : St} {H : Hp} {s : Shared} (c : CompOkG X sc scope xs fr) (I : Inv X pins σ H s) {y : Str} {b : Addr} (h : (clOf X.env scope.names []).lookup y = some b) : X.env.cells.lookup y = some b := by
  rcases clOf_lookup (c.cells I) h with q | q
  · simp at q
  · exact q
theorem cells_cases {names : List (Str × NameKind)} {n : Nat} {cl : List (Str × Addr)} {y : Str} {b : Addr} (h : (cellsFrom n names cl).lookup y = some b) : (cellsFrom n names []).lookup y = some b ∨ ((cellsFrom n names []).lookup y = none ∧ cl.lookup y = some b) := by
  rw [own_app, List.lookup_append] at h
  cases q : (cellsFrom n names []).lookup y with
  | none => rw [q] at h; exact .inr ⟨rfl, h⟩
  | some c => rw [q] at h; exact .inl h
theorem comp_startG {pins : List (Addr × Obj)} {σ : St} {H : Hp} {s : Shared} {fp : List Addr} (c : CompOkG X sc scope xs fr) (I : Inv X pins σ H s)
    (hf : ∀ b ∈ fp, FpOk X pins H b ∧ ∃ o, s.heap.get? b = some o) :
    Inv (cxCompG X scope (xs ++ fr.map (·.1)) s H fp) [] (xs.map (fun _ => none) ++ frees fr σ) H { s with heap := pushCells (s.heap.push { cls := .type "dict", data := .dict #[] }) scope.names } := by
  have k : ∀ b o, s.heap.get? b = some o → (pushCells (s.heap.push { cls := .type "dict", data := .dict #[] }) scope.names).get? b = some o := fun b o e => pushCells_keeps _ _ b o (Heap.get?_push_of_some _ e)
  have hn : (pushCells (s.heap.push { cls := .type "dict", data := .dict #[] }) scope.names).Ns s.heap.objs.size (fun _ => none) := (Heap.Ns.new s.heap (.type "dict")).keeps (pushCells_keeps _ _)
  have ok := cellsFrom_ok scope.names (s.heap.push { cls := .type "dict", data := .dict #[] }) (s.heap.objs.size + 1) [] ⟨fun _ _ hm => (nomatch hm), List.Pairwise.nil⟩ (by rw [Heap.size_push]; exact Nat.le_refl _)
  rw [Heap.size_push] at ok
  have I4 : Inv X pins σ H { s with heap := pushCells (s.heap.push { cls := .type "dict", data := .dict #[] }) scope.names } := I.kept (t' := s.toks) k
  generalize hh : pushCells (s.heap.push { cls := .type "dict", data := .dict #[] }) scope.names = h₁ at k hn ok I4
  have old : ∀ {y : Str} {b : Nat}, (clOf X.env scope.names []).lookup y = some b → b < s.heap.objs.size := fun {y b} e => by
    obtain ⟨v, z⟩ := I.cell y b (c.was I e)
    exact z.lt
  have own : ∀ {y : Str} {b : Nat}, (cellsFrom (s.heap.objs.size + 1) scope.names []).lookup y = some b → h₁.IsCell b none ∧ s.heap.objs.size + 1 ≤ b := fun {y b} e => ok.empty y b (mem_of_lookup e)
  refine ⟨⟨I.ok.mod, c.kind, I.ok.glob, I.ok.blt, Nat.le_refl _, fun y z b h1 h2 => ?_, fun y hy => ?_, fun y b h0 h1 => ?_, I.ok.hd, I.ok.frames, .inl rfl, fun b hb => ?_, fun b o e => ?_, ?_, fun b o e hb => ?_, fun b hb hs => ?_, ?_, fun b hb => ?_⟩,
    rfl, I.bare, Un.kept k, ⟨_, hn, fun i y v h1 h2 h3 => ?_⟩, fun y b h => ?_, ?_, fun y b h => ?_, fun p hp => absurd (show p ∈ ([] : List (Addr × Obj)) from hp) (by simp), I4.hok, ?_⟩
  · rcases cells_cases h1 with e1 | ⟨_, e1⟩ <;> rcases cells_cases h2 with e2 | ⟨_, e2⟩
    · exact name_of_addr ok.apart (mem_of_lookup e1) (mem_of_lookup e2)
    · exact absurd (Nat.lt_of_lt_of_le (old e2) (Nat.le_of_succ_le (own e1).2)) (Nat.lt_irrefl _)
    · exact absurd (Nat.lt_of_lt_of_le (old e1) (Nat.le_of_succ_le (own e2).2)) (Nat.lt_irrefl _)
    · exact I.ok.inj y z b (c.was I e1) (c.was I e2)
  · show ∃ b, (cellsFrom (s.heap.objs.size + 1) scope.names (clOf X.env scope.names [])).lookup y = some b
    have hm : (y, NameKind.free) ∈ scope.names ∨ (y, NameKind.cell) ∈ scope.names := by
      rcases hy with hy | hy
      · exact relab_was hy (.inl rfl)
      · exact relab_was hy (.inr rfl)
    rcases hm with hm | hm
    · exact own_has (.inr (clOf_has (.inl hm)))
    · exact own_has (.inl hm)
  · have hy : scope.names.lookup y = some .cell := by
      have h0' : (scope.names.lookup y == some NameKind.cell) = true := h0
      simpa using h0'
    rcases cells_cases h1 with e1 | ⟨e1, _⟩
    · have := (own e1).2
      show s.heap.objs.size ≤ b
      omega
    · obtain ⟨b', e⟩ := own_has (n := s.heap.objs.size + 1) (acc := []) (.inl (mem_of_lookup hy))
      rw [e1] at e
      cases e
  · obtain ⟨⟨_, _, _, _, f5, _⟩, o, e⟩ := hf b hb
    refine ⟨Nat.ne_of_lt (Heap.lt_size e), fun y b' h => ?_⟩
    rcases cells_cases h with e1 | ⟨_, e1⟩
    · exact fun z => absurd (Nat.lt_of_lt_of_le (Heap.lt_size e) (Nat.le_of_succ_le (z ▸ (own e1).2))) (Nat.lt_irrefl _)
    · exact f5 y b' (c.was I e1)
  · exact I.bs b o e
  · exact Nat.le_trans I.ok.bsz I.sz
  · obtain ⟨⟨_, _, _, f4, _, _⟩, _⟩ := hf b hb
    rcases f4 with z | z
    · exact I.ok.noex b o e z
    · exact absurd (Nat.lt_of_lt_of_le (Heap.lt_size e) (Nat.le_trans I.ok.bsz z)) (Nat.lt_irrefl _)
  · obtain ⟨⟨_, f2, f3, _, _, _⟩, _⟩ := hf b hb
    rcases List.mem_cons.mp (I.stkSub b hs) with z | z
    · exact f2 z
    · exact f3 z
  · exact I.stack
  · exact I.stkFree b hb
  · have h1' : (xs ++ fr.map (·.1))[i]? = some y := h1
    by_cases hi : i < xs.length
    · rw [List.getElem?_append_left (by simpa using hi), List.getElem?_map] at h2
      cases q : xs[i]? with
      | none => rw [q] at h2; cases h2
      | some z => rw [q] at h2; cases Option.some.inj h2
    · rw [List.getElem?_append_right (by omega)] at h1'
      rw [List.getElem?_append_right (by simpa using hi), List.length_map] at h2
      generalize i - xs.length = j at h1' h2
      rw [List.getElem?_map] at h1'
      unfold frees at h2
      rw [List.getElem?_map] at h2
      cases e : fr[j]? with
      | none => rw [e] at h1'; cases h1'
      | some p =>
        rw [e] at h1' h2
        have e1 : p.1 = y := Option.some.inj h1'
        have e2 : σ.getD p.2 none = some v := Option.some.inj h2
        obtain ⟨n1, n2⟩ := c.fr p (List.mem_of_getElem? e)
        have e3 : σ[p.2]? = some (some v) := by
          rw [List.getD_eq_getElem?_getD] at e2
          cases q : σ[p.2]? with
          | none => rw [q] at e2; cases e2
          | some o => rw [q] at e2; have e2' : o = some v := e2; rw [e2']
        subst e1
        have hm : (p.1, NameKind.free) ∈ scope.names := PySem.mem_of_lookup n2
        have kd := c.free' _ hm rfl
        obtain ⟨m', _, hl⟩ := I4.loc
        obtain ⟨u, ru, lk⟩ := hl p.2 p.1 v n1 e3 (.inr kd)
        refine ⟨u, ru, .inr ⟨relabel_free n2, ?_⟩⟩
        rcases lk with ⟨k1, _⟩ | ⟨_, b, q, z⟩
        · rcases kd with kd | kd <;> (rw [kd] at k1; cases k1)
        · obtain ⟨b', q'⟩ := clOf_has (env := X.env) (l := scope.names) (cs := []) (.inl hm)
          have e4 := c.was I q'
          rw [q] at e4
          cases e4
          refine ⟨b, ?_, z⟩
          show (cellsFrom (s.heap.objs.size + 1) scope.names (clOf X.env scope.names [])).lookup p.1 = some b
          rw [own_app, List.lookup_append]
          cases w : (cellsFrom (s.heap.objs.size + 1) scope.names []).lookup p.1 with
          | none => exact q'
          | some b2 =>
            rcases own_mem (mem_of_lookup w) with w | w
            · simp at w
            · cases key_one c.nn hm w
  · rcases cells_cases h with e1 | ⟨_, e1⟩
    · exact ⟨none, (own e1).1⟩
    · exact I4.cell y b (c.was I e1)
  · exact I.hok.fresh (Nat.le_refl _)
  · rcases cells_cases h with e1 | ⟨_, e1⟩
    · exact I.hok.fresh (by have := (own e1).2; omega)
    · exact I4.freeC y b (c.was I e1)
  · show (xs.map (fun _ => none) ++ frees fr σ).length = (xs ++ fr.map (·.1)).length
    simp [frees]
end

/-! ### a turn: the test, the element -/
noncomputable abbrev TOx := St → Hp → (Option V → Hp → Prop) → Prop
noncomputable def tEl (te : TE)  : TOx := fun σ H Q => te σ H fun y H' => Q (some y) H'
noncomputable def tElIf (tc : TT) (te : TE)  : TOx := fun σ H Q => tc σ H fun b H1 => if b = true then te σ H1 (fun y H' => Q (some y) H') else Q none H1
/-- what a turn runs, behind the store: tests, then the element -/
noncomputable def turnOf (elt : Expr) (ifs : List Expr) (env : Env) (M : Model) (A : Around) (Q : Option Value → Shared → Prop) (E : Value → Shared → Prop) (s : Shared) : Prop :=
  match ifs with
  | [] => wpAny M A (eval elt env) (fun x s1 => Q (some x) s1) E s
  | [c] => wpAny M A (isTrue c env (eval c env)) (fun b s1 => if b = true then wpAny M A (eval elt env) (fun x s2 => Q (some x) s2) E s1 else Q none s1) E s
  | _ => False
noncomputable def POx (X : Cx) (elt : Expr) (ifs : List Expr) (t : TOx) : Prop := ∀ (pins : List (Addr × Obj)) (s : Shared) (σ : St) (H : Hp) (Q : Option V → Hp → Prop), Inv X pins σ H s → t σ H Q →
  turnOf elt ifs X.env (model X.prog X.w) X.A (fun o s' => ∃ v H', Inv X pins σ H' s' ∧ (match o, v with | some u, some y => RelV y u | none, none => True | _, _ => False) ∧ Q v H') X.xe s
theorem po_el {X : Cx} {elt : Expr} {te : TE} (h : PE X elt te) : POx X elt [] (tEl te) := fun pins s σ H Q I hw =>
  thn (h pins s σ H _ I hw) fun u s1 ⟨y, H1, I1, r1, q1⟩ => ⟨some y, H1, I1, r1, q1⟩
theorem po_if {X : Cx} {elt c : Expr} {tc : TT} {te : TE} (hc : PT X c tc) (h : PE X elt te) : POx X elt [c] (tElIf tc te) := fun pins s σ H Q I hw => by
  refine thn (hc pins s σ H _ I hw) fun b s1 ⟨H1, I1, q1⟩ => ?_
  cases b with
  | true =>
    rw [if_pos rfl] at q1 ⊢
    exact thn (h pins s1 σ H1 _ I1 q1) fun u s2 ⟨y, H2, I2, r2, q2⟩ => ⟨some y, H2, I2, r2, q2⟩
  | false =>
    rw [if_neg Bool.false_ne_true] at q1 ⊢
    exact ⟨none, H1, I1, trivial, q1⟩
theorem codeAny_compLoop_gen {prog : Program} {w : World} {A : Around} {R : Result → Shared → Prop} {s : Shared} {elt target iter : Expr} {ifs : List Expr} {scope : Scope} {pos : Pos} {it acc : Value} {env : Env} (I : Nat → Shared → Prop)
    (turn : ∀ n s, I n s → wpAny (model prog w) A (pyNext it) (fun r s₁ => match r with
      | none => R (.ok .next) s₁
      | some v => wpAny (model prog w) A (letOwnedTupleGo target it v) (fun _ s₁' => wpAny (model prog w) A (assign target env v) (fun _ s₂ => turnOf elt ifs env (model prog w) A (fun o s₃ => match o with
          | some x => wpAny (model prog w) A (call (.builtin "list.append") [acc, x]) (fun _ s₄ => ∃ m, m < n ∧ I m s₄) (fun _ _ => False) s₃
          | none => ∃ m, m < n ∧ I m s₃)
          (fun _ _ => False) s₂) (fun _ _ => False) s₁') (fun _ _ => False) s₁) (fun _ _ => False) s)
    (n : Nat) (h : I n s) (hifs : ifs.length ≤ 1) :
    codeAny (model prog w) A (.compLoop (.ListComp elt [⟨target, iter, ifs, 0⟩] scope pos) 0 it acc env) R s := by
  refine codeAny_loop rfl I (fun n s hI => ?_) n h
  show wpAny _ _ ((compTurn (.ListComp elt [⟨target, iter, ifs, 0⟩] scope pos) 0 it acc env).onRaise (fun x => do noteFrame x env; theTreesLotGoes x)) _ _ s
  refine wpAny_noted ?_
  have T := turn n s hI
  match ifs, hifs, T with
  | [], _, T =>
    rw [compTurn_list1]
    refine wpAny_bind (wpAny_standAt (wpAny_bind (wpAny_mono T (fun r s₁ h₁ => ?_) fun _ _ h' => h'.elim)))
    cases r with
    | none => exact wpAny_pure h₁
    | some v =>
      refine wpAny_bind (wpAny_mono h₁ (fun _ s₁' h₁' => ?_) fun _ _ h' => h'.elim)
      exact wpAny_bind (wpAny_mono h₁' (fun _ s₂ h₂ => wpAny_bind (wpAny_bind (wpAny_mono (show wpAny _ _ _ _ _ _ from h₂) (fun x s₃ h₃ => wpAny_bind (wpAny_mono h₃
        (fun _ s₄ h₄ => wpAny_pure (wpAny_pure ⟨rfl, h₄⟩)) fun _ _ h' => h'.elim)) fun _ _ h' => h'.elim))) fun _ _ h' => h'.elim)
  | [c], _, T =>
    have e1 : compTurn (.ListComp elt [⟨target, iter, [c], 0⟩] scope pos) 0 it acc env = (standAt iter.pos >>= fun _ => pyNext it >>= fun r => match r with
      | none => pure (.done .next)
      | some v => letOwnedTupleGo target it v >>= fun _ => assign target env v >>= fun _ => isTrue c env (eval c env) >>= fun ok =>
        (if ok = true then (eval elt env >>= fun x => call (.builtin "list.append") [acc, x] >>= fun _ => pure ()) >>= fun _ => again (.compLoop (.ListComp elt [⟨target, iter, [c], 0⟩] scope pos) 0 it acc env)
          else again (.compLoop (.ListComp elt [⟨target, iter, [c], 0⟩] scope pos) 0 it acc env))) := by
      unfold compTurn
      simp only [List.forIn_cons, List.forIn_nil, if_true, bind_assoc, pure_bind, List.getElem?_cons_zero]
      rfl
    rw [e1]
    refine wpAny_bind (wpAny_standAt (wpAny_bind (wpAny_mono T (fun r s₁ h₁ => ?_) fun _ _ h' => h'.elim)))
    cases r with
    | none => exact wpAny_pure h₁
    | some v =>
      refine wpAny_bind (wpAny_mono h₁ (fun _ s₁' h₁' => ?_) fun _ _ h' => h'.elim)
      refine wpAny_bind (wpAny_mono h₁' (fun _ s₂ h₂ => wpAny_bind (wpAny_mono (show wpAny _ _ _ _ _ _ from h₂) (fun b s₃ h₃ => ?_) fun _ _ h' => h'.elim)) fun _ _ h' => h'.elim)
      cases b with
      | true =>
        rw [if_pos rfl] at h₃ ⊢
        exact wpAny_bind (wpAny_bind (wpAny_mono h₃ (fun x s₄ h₄ => wpAny_bind (wpAny_mono h₄ (fun _ s₅ h₅ => wpAny_pure (wpAny_pure ⟨rfl, h₅⟩)) fun _ _ h' => h'.elim)) fun _ _ h' => h'.elim))
      | false =>
        rw [if_neg Bool.false_ne_true] at h₃ ⊢
        exact wpAny_pure ⟨rfl, h₃⟩
  | _ :: _ :: _, hifs, T =>
    exact absurd hifs (by simp)
end L2
namespace L2
open PySem PySem.Spec PyProof.Rows
noncomputable def outTo (a : Addr) (N : Hp → Prop) : Option V → Hp → Prop
  | some y, H => ∃ zs, H a = some (.lst zs) ∧ zs.length < sizeLine ∧ N (upd H a (.lst (zs ++ [y])))
  | none, H => N H
noncomputable abbrev CompWG (J : It) (g : TG) (tt : TOx) (n : Nat) (fr : List (Str × Nat)) (σ : St) (a : Addr) (H : Hp) (Q : VK) : Prop :=
  ∃ W : Nat → Nat → Hp → Prop, (∃ m, W 0 m (upd H a (.lst []))) ∧ ∀ i m H2, W i m H2 → (J.stop i H2 ∧ Q (.ref a) H2) ∨
    (J.go i H2 ∧ ∃ N : Hp → Prop, (∀ H', N H' → ∃ m', m' < m ∧ W (i + 1) m' H') ∧ ∀ (ys : St) x H3, ys.length = n → J.yld i H2 x H3 →
      g x (ys ++ frees fr σ) H3 fun σ4 H4 => (∃ ys' : St, ys'.length = n ∧ σ4 = ys' ++ frees fr σ) ∧ tt σ4 H4 (outTo a N))
noncomputable def tCompG (wi : TI) (g : TG) (tt : TOx) (n : Nat) (fr : List (Str × Nat)) : TE := fun σ H Q => wi σ H fun J H1 => ∀ a, H1 a = none → CompWG J g tt n fr σ a H1 Q
section
variable {X : Cx} {sc scope : Scope} {xs : List Str} {fr : List (Str × Nat)} {elt tg iter : Expr} {ifs : List Expr} {g : TG} {tt : TOx}
theorem comp_coreG {pins : List (Addr × Obj)} {σ : St} {H : Hp} {s : Shared} {pos : Pos} {J : It} {fp : List Addr} {it : Addr} {tn : Nat → Heap → Prop} {Q : VK} {RR : Value → Addr → Result → Shared → Prop} {E : Value → Shared → Prop}
    (c : CompOkG X sc scope xs fr) (hc : X.calm = true) (hifs : ifs.length ≤ 1) (I : Inv X pins σ H s) (T : Turn X.prog X.w X.K tg J fp it tn) (t0 : tn 0 s.heap) (hf : ∀ b ∈ fp, FpOk X pins H b)
    (hg : ∀ (s₃ : Shared) (H₃ : Hp) (fp : List Addr), (cxCompG X scope (xs ++ fr.map (·.1)) s₃ H₃ fp).env.scope = relab sc scope → PG (cxCompG X scope (xs ++ fr.map (·.1)) s₃ H₃ fp) tg g)
    (he : ∀ (s₃ : Shared) (H₃ : Hp) (fp : List Addr), (cxCompG X scope (xs ++ fr.map (·.1)) s₃ H₃ fp).env.scope = relab sc scope → POx (cxCompG X scope (xs ++ fr.map (·.1)) s₃ H₃ fp) elt ifs tt)
    (hw : ∀ a, H a = none → CompWG J g tt xs.length fr σ a H Q)
    (hRR : ∀ a C H' s' m, s'.heap.Ns C m → Inv X pins σ H' s' → FpOk X pins H' C → Q (.ref a) H' → RR (.ref a) C (.ok .next) s') :
    wpAny (model X.prog X.w) X.A (newList []) (fun acc s₃ => wpAny (model X.prog X.w) X.A (newFunctionEnv scope X.env.globals (clOf X.env scope.names []) [] X.env.qual none .none (some X.env)) (fun cenv s₄ =>
      codeAny (model X.prog X.w) X.A (.compStart (.ListComp elt [⟨tg, iter, ifs, 0⟩] scope pos) 0 (.ref it) acc { cenv with scope := relabel scope X.env }) (RR acc cenv.locals) s₄) E s₃) E s := by
  obtain ⟨W, ⟨m0, w0⟩, turn⟩ := hw s.heap.objs.size I.fresh
  refine wpAny_newObj_type (newEnv_own ?_)
  have I3 : Inv X pins σ (upd H s.heap.objs.size (.lst [])) { s with heap := s.heap.push { cls := .type "list", dict := none, data := .seq ([] : List Value).toArray } } := I.lnew (ys := []) (its := []) (t' := s.toks) .nil (Nat.zero_le _)
  have kp : ∀ b o, s.heap.get? b = some o → (s.heap.push { cls := .type "list", dict := none, data := .seq ([] : List Value).toArray }).get? b = some o := fun b o e => Heap.get?_push_of_some _ e
  have un0 : Un (frs X.stack) fp H (upd H s.heap.objs.size (.lst [])) s.heap (s.heap.push { cls := .type "list", dict := none, data := .seq ([] : List Value).toArray }) := Un.laid kp (Nat.le_refl _) I.fresh
  dsimp only
  generalize hH2 : s.heap.push { cls := .type "list", dict := none, data := .seq ([] : List Value).toArray } = hp2 at I3 kp un0 ⊢
  have hsz : s.heap.objs.size ≤ hp2.objs.size := by rw [← hH2, Heap.size_push]; exact Nat.le_succ _
  have ft : ∀ b ∈ fp, ∃ o, s.heap.get? b = some o := fun b hb => let ⟨o, e, _⟩ := T.obj _ _ t0 b hb; ⟨o, e⟩
  have nea : ∀ b ∈ fp, b ≠ s.heap.objs.size := fun b hb => let ⟨_, e⟩ := ft b hb; Nat.ne_of_lt (Heap.lt_size e)
  have f3 : ∀ b ∈ fp, FpOk X pins (upd H s.heap.objs.size (.lst [])) b ∧ ∃ o, hp2.get? b = some o := fun b hb => by
    obtain ⟨o, e⟩ := ft b hb
    exact ⟨⟨by rw [upd_ne (nea b hb)]; exact (hf b hb).1, (hf b hb).2⟩, o, kp b o e⟩
  have J0 := comp_startG c I3 f3
  have k4 : ∀ b o, hp2.get? b = some o → (pushCells (hp2.push { cls := .type "dict", data := .dict #[] }) scope.names).get? b = some o := fun b o e => pushCells_keeps _ _ b o (Heap.get?_push_of_some _ e)
  have t4 : tn 0 (pushCells (hp2.push { cls := .type "dict", data := .dict #[] }) scope.names) := T.keep 0 _ _ t0 fun b hb o e => k4 b o (kp b o e)
  have esc : ∀ (s₃ : Shared) (H₃ : Hp) (fp : List Addr), (cxCompG X scope (xs ++ fr.map (·.1)) s₃ H₃ fp).env.scope = relab sc scope := fun _ _ _ => relab_is c.hsc
  have stat : ∀ {H' : Hp}, (∀ b ∈ fp, H' b = none) → ∀ b ∈ fp, FpOk (cxCompG X scope (xs ++ fr.map (·.1)) { s with heap := hp2 } (upd H s.heap.objs.size (.lst [])) fp) [] H' b := fun hn b hb => by
    obtain ⟨e1, e2⟩ := J0.ok.exf b hb
    exact ⟨hn b hb, e1, J0.ok.exfs b hb, .inl hb, e2, fun p hp => absurd (show p ∈ ([] : List (Addr × Obj)) from hp) (by simp)⟩
  have loop : codeAny (model X.prog X.w) X.A (.compLoop (.ListComp elt [⟨tg, iter, ifs, 0⟩] scope pos) 0 (.ref it) (.ref s.heap.objs.size) (compEnvC scope (cellsFrom (hp2.objs.size + 1) scope.names (clOf X.env scope.names [])) hp2.objs.size X.env))
      (RR (.ref s.heap.objs.size) hp2.objs.size) { s with heap := pushCells (hp2.push { cls := .type "dict", data := .dict #[] }) scope.names } := by
    refine codeAny_compLoop_gen (fun n s' => ∃ i, ∃ ys : St, ∃ H', ys.length = xs.length ∧ Inv (cxCompG X scope (xs ++ fr.map (·.1)) { s with heap := hp2 } (upd H s.heap.objs.size (.lst [])) fp) [] (ys ++ frees fr σ) H' s' ∧ tn i s'.heap ∧ (∀ b ∈ fp, H' b = none) ∧ W i n H')
      ?_ m0 ⟨0, xs.map fun _ => none, _, by simp, J0, t4, fun b hb => (f3 b hb).1.1, w0⟩ hifs
    rintro n s3 ⟨i, ys, H3, hys, K3, st3, fr3, w3⟩
    rcases turn i n H3 w3 with ⟨stop, qn⟩ | ⟨go, N, hN, step⟩
    · refine thn (T.done (cxCompG X scope (xs ++ fr.map (·.1)) { s with heap := hp2 } (upd H s.heap.objs.size (.lst [])) fp) rfl rfl rfl hc i [] s3 _ H3 (fun _ _ => False) K3 (stat fr3) st3 stop) fun r s4 ⟨hr, K4⟩ => ?_
      subst hr
      obtain ⟨m4, hn4, _⟩ := K4.loc
      have K5 : Inv X pins σ H3 s4 := I.call' K4.os (un0.trans K4.base) K4.hok K4.bare fun b hb => let f := hf b hb; ⟨f.2.2.2.1, f.2.1, f.2.2.2.2.1, f.2.2.2.2.2⟩
      exact hRR _ _ H3 s4 m4 hn4 K5 (I.fpOk hsz K4.free) qn
    · refine thn (T.item (cxCompG X scope (xs ++ fr.map (·.1)) { s with heap := hp2 } (upd H s.heap.objs.size (.lst [])) fp) rfl rfl rfl hc i [] s3 _ H3 (fun _ _ => False) K3 (stat fr3) st3 go) fun r s4 ⟨u, hr, h4⟩ => ?_
      subst hr
      refine thn h4 fun _ s5 ⟨y, H5, K5, r5, y5, st5, fr5⟩ => ?_
      have K5' := K5.pinned (stat fr5) (T.obj _ _ st5)
      refine thn (hg _ _ _ (esc _ _ _) _ s5 _ H5 y u _ K5' r5 (step ys y H5 hys y5)) fun _ s6 ⟨σ6, H6, K6, ⟨ys6, hl6, e6⟩, q6⟩ => ?_
      subst e6
      have fin : ∀ (s8 : Shared) (H8 : Hp), Inv (cxCompG X scope (xs ++ fr.map (·.1)) { s with heap := hp2 } (upd H s.heap.objs.size (.lst [])) fp) ([] ++ pinsAt fp s5.heap) (ys6 ++ frees fr σ) H8 s8 → N H8 →
          ∃ m, m < n ∧ ∃ i, ∃ ys : St, ∃ H', ys.length = xs.length ∧ Inv (cxCompG X scope (xs ++ fr.map (·.1)) { s with heap := hp2 } (upd H s.heap.objs.size (.lst [])) fp) [] (ys ++ frees fr σ) H' s8 ∧ tn i s8.heap ∧ (∀ b ∈ fp, H' b = none) ∧ W i m H' := by
        intro s8 H8 K8 n8
        obtain ⟨m', hm, w8⟩ := hN H8 n8
        refine ⟨m', hm, i + 1, ys6, H8, hl6, K8.unpinned, T.keep _ _ _ st5 fun b hb o e => (K8.pin (b, o) (List.mem_append_right _ (List.mem_append_right _ (mem_pinsAt hb e)))).1, fun b hb => ?_, w8⟩
        obtain ⟨o, e, d⟩ := T.obj _ _ st5 b hb
        exact (K8.pin (b, o) (List.mem_append_right _ (List.mem_append_right _ (mem_pinsAt hb e)))).2.1
      have h7 := he _ _ _ (esc _ _ _) _ s6 _ H6 _ K6 q6
      have mono : ∀ {Q Q' : Option Value → Shared → Prop} {E : Value → Shared → Prop} {s' : Shared} {env : Env}, (∀ o s1, Q o s1 → Q' o s1) → turnOf elt ifs env (model X.prog X.w) X.A Q E s' → turnOf elt ifs env (model X.prog X.w) X.A Q' E s' := by
        intro Q Q' E s' env hq ht
        unfold turnOf at ht ⊢
        match ifs, hifs, ht with
        | [], _, ht => exact wpAny_mono ht (fun x s1 q => hq _ _ q) fun _ _ e => e
        | [c], _, ht =>
          refine wpAny_mono ht (fun b s1 q => ?_) fun _ _ e => e
          split at q
          · rename_i hb; rw [if_pos hb]; exact wpAny_mono q (fun x s2 q => hq _ _ q) fun _ _ e => e
          · rename_i hb; rw [if_neg hb]; exact hq _ _ q
        | _ :: _ :: _, hifs, _ => exact absurd hifs (by simp)
      refine mono (fun o s7 ⟨z7, H7, K7, r7, q7⟩ => ?_) h7
      cases o with
      | none =>
        cases z7 with
        | none => exact fin s7 H7 K7 q7
        | some z => exact r7.elim
      | some v7 =>
        cases z7 with
        | none => exact r7.elim
        | some z7 =>
          obtain ⟨zs, hz, hl, w7⟩ := q7
          exact thn (mt_append _ s7 _ H7 (.ref s.heap.objs.size) [z7] (.ref s.heap.objs.size) [v7] (fun _ H8 => N H8) K7 rfl (.cons r7 .nil) ⟨_, zs, z7, rfl, rfl, hz, hl, w7⟩) fun _ s8 ⟨_, H8, K8, _, n8⟩ => fin s8 H8 K8 n8
  exact codeAny_compStart_list loop (T.self _ 0 _ _ _ t4 loop)
variable {wi : TI}
theorem pe_compG {pos : Pos} (c : CompOkG X sc scope xs fr) (hc : X.calm = true) (hi : PI X tg iter wi)
    (hg : ∀ (s₃ : Shared) (H₃ : Hp) (fp : List Addr), (cxCompG X scope (xs ++ fr.map (·.1)) s₃ H₃ fp).env.scope = relab sc scope → PG (cxCompG X scope (xs ++ fr.map (·.1)) s₃ H₃ fp) tg g)
    (he : ∀ (s₃ : Shared) (H₃ : Hp) (fp : List Addr), (cxCompG X scope (xs ++ fr.map (·.1)) s₃ H₃ fp).env.scope = relab sc scope → POx (cxCompG X scope (xs ++ fr.map (·.1)) s₃ H₃ fp) elt ifs tt)
    (hifs : ifs.length ≤ 1 := by exact Nat.le_of_ble_eq_true rfl) (hs : ∀ x, foldedSetIterable iter X.env x = pure x := by intro _; rfl) : PE X (.ListComp elt [⟨tg, iter, ifs, 0⟩] scope pos) (tCompG wi g tt xs.length fr) := by
  intro pins s σ H Q I h
  rw [eval_ListComp]
  refine wpAny_comprehension_free (use := none) rfl hs (closure_is (c.cells I)) c.kind c.loc (thn (hi pins s σ H _ I h) fun v s1 h1 => thn h1 fun itv s2 h2 => ?_)
  obtain ⟨it, fp, tn, J, H2, e, I2, T, t2, f2, hw⟩ := h2
  subst e
  refine comp_coreG (RR := fun acc C => compPost (model X.prog X.w) X.A X.xe none (EP X pins σ Q) acc C) c hc hifs I2 T t2 f2 hg he hw ?_
  intro a C H' s' m hn K f q
  exact ⟨m, hn, fun h' hs' => ⟨.ref a, H', K.turned (t' := s'.toks) (fun b o hb e => (hs'.2 b hb).trans e) f.1 f.2.1 f.2.2.2.1 f.2.2.2.2.1 f.2.2.2.2.2, rfl, q⟩⟩
theorem ps_setCG {pos spos py : Pos} {y : Str} {i : Nat} (c : CompOkG X sc scope xs fr) (hc : X.calm = true) (hN : X.N.Nodup) (hy : X.N[i]? = some y) (hl : X.env.scope.names.lookup y = some .local) (hi : PI X tg iter wi)
    (hg : ∀ (s₃ : Shared) (H₃ : Hp) (fp : List Addr), (cxCompG X scope (xs ++ fr.map (·.1)) s₃ H₃ fp).env.scope = relab sc scope → PG (cxCompG X scope (xs ++ fr.map (·.1)) s₃ H₃ fp) tg g)
    (he : ∀ (s₃ : Shared) (H₃ : Hp) (fp : List Addr), (cxCompG X scope (xs ++ fr.map (·.1)) s₃ H₃ fp).env.scope = relab sc scope → POx (cxCompG X scope (xs ++ fr.map (·.1)) s₃ H₃ fp) elt ifs tt)
    (hsw : swapsWith (.ListComp elt [⟨tg, iter, ifs, 0⟩] scope pos) (some (.Name y py)) spos.line X.env = pure true := by rfl)
    (hifs : ifs.length ≤ 1 := by exact Nat.le_of_ble_eq_true rfl) (hs : ∀ x, foldedSetIterable iter X.env x = pure x := by intro _; rfl) : PS X (.Assign [.Name y py] (.ListComp elt [⟨tg, iter, ifs, 0⟩] scope pos) spos) (tSetC i (tCompG wi g tt xs.length fr)) := by
  intro pins s σ H D I h
  rw [exec_Assign_Name_used _ _ _ _ hsw]
  refine wpAny_bind (wpAny_standAt (wpAny_bind ?_))
  show wpAny _ _ (do let _ ← comprehension (.ListComp elt [⟨tg, iter, ifs, 0⟩] scope pos) scope X.env _ (newList []) false (eval iter X.env) (some (assign (.Name y py) X.env))) _ _ s
  refine wpAny_bind (wpAny_mono (wpAny_comprehension_free (use := some (assign (.Name y py) X.env)) (Q := fun _ s' => SP X pins D .next s') rfl hs (closure_is (c.cells I)) c.kind c.loc
    (thn (hi pins s σ H _ I h) fun v s1 h1 => thn h1 fun itv s2 h2 => ?_)) (fun _ s' hq => wpAny_pure (wpAny_pure hq)) fun _ _ e => e)
  obtain ⟨it, fp, tn, J, H2, e, I2, T, t2, f2, hw⟩ := h2
  subst e
  refine comp_coreG (RR := fun acc C => compPost (model X.prog X.w) X.A X.xe (some (assign (.Name y py) X.env)) (fun _ s' => SP X pins D .next s') acc C) (Q := fun v H1 => D.nx (σ.set i (some v)) H1) c hc hifs I2 T t2 f2 hg he hw ?_
  intro a C H' s' m hn K f q
  show wpAny _ _ (assign (.Name y py) X.env (.ref a)) _ _ _
  refine wpAny_assign_Name (store_ok2 K hN hy (.inl hl) (show RelV (.ref a) (.ref a) from rfl) (fun s'' K2 ⟨b, sb, hb⟩ => ?_) (.inr hl))
  have hCb : C ≠ b := by
    rcases hb with e | e
    · rw [e]; exact f.2.1
    · exact Ne.symm (f.2.2.2.2.1 y b e)
  refine ⟨m, hn.sameBut sb hCb, fun h' hs' => ?_⟩
  exact ⟨_, H', K2.turned (t' := s''.toks) (fun b o hb e => (hs'.2 b hb).trans e) f.1 f.2.1 f.2.2.2.1 f.2.2.2.2.1 f.2.2.2.2.2, q⟩
end
noncomputable def compGB (sc : Scope) (N : List Str) (scope : Scope) (fr : List (Str × Nat)) : Bool :=
  decide (scope.kind = .function) && decide ((scope.names.map (·.1)).Nodup) && decide (∀ y ∈ scope.names, y.2 = .free → sc.names.lookup y.1 = some .cell ∨ sc.names.lookup y.1 = some .free) &&
  decide (∀ y ∈ scope.names, y.2 = .local → scope.names.lookup y.1 = some .local) && decide (∀ p ∈ fr, N[p.2]? = some p.1 ∧ scope.names.lookup p.1 = some .free)
theorem compG_ok {X : Cx} {sc scope : Scope} {N xs : List Str} {fr : List (Str × Nat)} (h1 : X.env.scope = sc) (h2 : X.N = N) (h : compGB sc N scope fr = true) : CompOkG X sc scope xs fr := by
  unfold compGB at h
  simp only [Bool.and_eq_true, decide_eq_true_eq] at h
  obtain ⟨⟨⟨⟨e1, e2⟩, e3⟩, e4⟩, e5⟩ := h
  subst h2
  exact ⟨h1, e1, e2, e3, e4, e5⟩
/-- a name of a block's own, in slot i -/
noncomputable def nameB (sc : Scope) (N : List Str) (i : Nat) (x : Str) : Bool := decide (N.Nodup) && decide (N[i]? = some x) && (decide (sc.names.lookup x = some .local))
theorem pg_own {X : Cx} {sc : Scope} {N : List Str} {i : Nat} {x : Str} {pos : Pos} (h1 : X.env.scope = sc) (h2 : X.N = N) (h : nameB sc N i x = true) : PG X (.Name x pos) (gName i) := by
  unfold nameB at h
  simp only [Bool.and_eq_true, decide_eq_true_eq] at h
  subst h1 h2
  exact pg_name h.1.1 h.1.2 (.inl h.2) (.inr h.2)
/-- .. that inner blocks take along -/
theorem pg_ownC {X : Cx} {sc : Scope} {N : List Str} {i : Nat} {x : Str} {pos : Pos} (h1 : X.env.scope = sc) (h2 : X.N = N) (h : (decide (N.Nodup) && decide (N[i]? = some x) && (decide (sc.names.lookup x = some .cell))) = true) (hf : X.fn x = true) : PG X (.Name x pos) (gName i) := by
  simp only [Bool.and_eq_true, decide_eq_true_eq] at h
  subst h1 h2
  exact pg_name h.1.1 h.1.2 (.inr h.2) (.inl hf)
end L2

/-! ZIP, ENUMERATE, SUM. -/
namespace L2
open PySem PySem.Spec PyProof.Rows
/-- lists: false; tuples: true -/
noncomputable def SqB (b : Bool) (K : PySem.W.Frag) (H : Hp) (a : Addr) (xs : List V) : Prop := match b with | false => SqL K H a xs | true => SqT K H a xs
noncomputable def ItB (b : Bool) (h : Heap) (it a : Addr) (i : Nat) : Prop := match b with | false => h.IsListIter it a i | true => h.IsTupleIter it a i
noncomputable def seqB (b : Bool) (h : Heap) (a : Addr) (its : Array Value) : Prop := match b with | false => h.IsList a its | true => h.IsTuple a its
noncomputable def nmB (b : Bool) : String := match b with | false => "list_iterator" | true => "tuple_iterator"
theorem ItB.at {b : Bool} {h h' : Heap} {it a : Addr} {i : Nat} (x : ItB b h it a i) (e : ∀ o, h.get? it = some o → h'.get? it = some o) : ItB b h' it a i := by
  cases b
  · exact Heap.IsListIter.at x e
  · exact Heap.IsTupleIter.at x e
theorem seqB.at {b : Bool} {h h' : Heap} {a : Addr} {its : Array Value} (x : seqB b h a its) (e : ∀ o, h.get? a = some o → h'.get? a = some o) : seqB b h' a its := by
  cases b
  · exact Heap.IsList.at x e
  · obtain ⟨o, ho, r⟩ := x
    exact ⟨o, e o ho, r⟩
theorem ItB.lt {b : Bool} {h : Heap} {it a : Addr} {i : Nat} (x : ItB b h it a i) : ∃ o, h.get? it = some o ∧ ∀ v, o.data ≠ .cell v := by
  cases b
  · obtain ⟨o, e, c, d⟩ := x
    exact ⟨o, e, fun v z => by rw [d] at z; cases z⟩
  · obtain ⟨o, e, c, d⟩ := x
    exact ⟨o, e, fun v z => by rw [d] at z; cases z⟩
section
variable {prog : Program} {w : World} {A : Around} {E : Value → Shared → Prop} {s : Shared}
theorem nextT_item {it t : Addr} {i : Nat} {items} {x : Value} {Q : Value → Shared → Prop} (hit : s.heap.IsTupleIter it t i) (ht : s.heap.IsTuple t items) (hx : items[i]? = some x)
    (hQ : ∀ h', h'.IsTupleIter it t (i + 1) → Heap.SameBut it s.heap h' → Q x { s with heap := h' }) : wpAny (model prog w) A (Builtin.SmallTypes.nextOf (.ref it)) Q E s := by
  obtain ⟨o, ho, hc, hd⟩ := id hit
  obtain ⟨ol, hol, _, nl, hdl⟩ := ht
  unfold Builtin.SmallTypes.nextOf
  refine wpAny_bind (wpAny_callSpecial?_slot (name := Str.ofString "__next__") hit.typeIs F.slot_tuple_iterator_next
    (wpAny_call_entry F.slot_tuple_iterator_next hit.typeIs F.entry_tuple_iterator_next ?_ (F.args_tuple_iterator_next_1 _)))
  show wpAny _ _ (field (.ref it) 0 >>= _) _ _ s
  refine wpAny_bind (wpAny_field ho hd (x := .ref t) rfl ?_)
  show wpAny _ _ (if (Value.ref t == Value.none) = true then _ else _) _ _ s
  rw [if_neg (show ¬ ((Value.ref t == Value.none) = true) from Bool.false_ne_true)]
  show wpAny _ _ (field (.ref it) 1 >>= _) _ _ s
  refine wpAny_bind (wpAny_field ho hd (x := .int i 0) rfl ?_)
  show wpAny _ _ (seqItems? (.ref t) >>= _) _ _ s
  refine wpAny_bind (wpAny_seqItems hol hdl ?_)
  simp only [Int.toNat_natCast, hx]
  refine wpAny_bind (wpAny_setField ho hd (by simp) (wpAny_pure ⟨x, rfl, wpAny_pure (hQ _ ?_ (Heap.SameBut.update ..))⟩))
  exact ⟨_, Heap.get?_update_self _ ho (Obj.isFreed_of_fields (Obj.data_mapFields hd _)), (Obj.cls_mapFields ..).trans hc, by
    rw [Obj.data_mapFields hd]; simp [rawInt]⟩
theorem nextT_end {it t : Addr} {i : Nat} {items} {Q : Value → Shared → Prop} (hh : A.handled = none) (hit : s.heap.IsTupleIter it t i) (ht : s.heap.IsTuple t items) (hx : items[i]? = none)
    (hE : ∀ h' e, Heap.ExtBut it s.heap h' → (∃ o, h'.get? e = some o ∧ o.cls = .type "StopIteration") → E (.ref e) { s with heap := h' }) : wpAny (model prog w) A (Builtin.SmallTypes.nextOf (.ref it)) Q E s := by
  obtain ⟨o, ho, hc, hd⟩ := id hit
  obtain ⟨ol, hol, _, nl, hdl⟩ := ht
  unfold Builtin.SmallTypes.nextOf
  refine wpAny_bind (wpAny_callSpecial?_slot (name := Str.ofString "__next__") hit.typeIs F.slot_tuple_iterator_next
    (wpAny_call_entry F.slot_tuple_iterator_next hit.typeIs F.entry_tuple_iterator_next ?_ (F.args_tuple_iterator_next_1 _)))
  show wpAny _ _ (field (.ref it) 0 >>= _) _ _ s
  refine wpAny_bind (wpAny_field ho hd (x := .ref t) rfl ?_)
  show wpAny _ _ (if (Value.ref t == Value.none) = true then _ else _) _ _ s
  rw [if_neg (show ¬ ((Value.ref t == Value.none) = true) from Bool.false_ne_true)]
  show wpAny _ _ (field (.ref it) 1 >>= _) _ _ s
  refine wpAny_bind (wpAny_field ho hd (x := .int i 0) rfl ?_)
  show wpAny _ _ (seqItems? (.ref t) >>= _) _ _ s
  refine wpAny_bind (wpAny_seqItems hol hdl ?_)
  simp only [Int.toNat_natCast, hx]
  refine wpAny_bind (wpAny_rule (wpAny_bind (wpAny_setField ho hd (by simp) ?_)))
  show wpAny _ _ (newExc (.type "StopIteration") [] >>= _) _ _ _
  refine wpAny_bind ?_
  simp only [newExc, newTuple]
  refine wpAny_bind (wpAny_newObj_type ?_ (by size_fits))
  refine wpAny_bind (m := firstArgMember _ _) (wpAny_of_eq (a := Value.none) (by first | rfl | (simp only [firstArgMember]; rfl)) ?_)
  refine wpAny_newObj_type ?_ (by size_fits)
  simp only [raiseNew]
  refine wpAny_bind (wpAny_handled ?_)
  first | rw [show A.in1.handled = none from hh] | rw [hh]
  refine wpAny_bind (wpAny_pure (wpAny_throw ?_))
  exact hE _ _ (((Heap.SameBut.update ..).extBut.push _).push _) ⟨_, Heap.get?_push_size _ rfl, rfl⟩
theorem nextB_item {b : Bool} {it l : Addr} {i : Nat} {items : Array Value} {x : Value} {Q : Value → Shared → Prop} (hit : ItB b s.heap it l i) (hl : seqB b s.heap l items) (hx : items[i]? = some x)
    (hQ : ∀ h', ItB b h' it l (i + 1) → Heap.SameBut it s.heap h' → Q x { s with heap := h' }) : wpAny (model prog w) A (Builtin.SmallTypes.nextOf (.ref it)) Q E s := by
  cases b
  · exact wpAny_nextOf_list_item hit hl hx hQ
  · exact nextT_item hit hl hx hQ
theorem nextB_end {b : Bool} {it l : Addr} {i : Nat} {items : Array Value} {Q : Value → Shared → Prop} (hh : A.handled = none) (hit : ItB b s.heap it l i) (hl : seqB b s.heap l items) (hx : items[i]? = none)
    (hE : ∀ h' e, Heap.ExtBut it s.heap h' → (∃ o, h'.get? e = some o ∧ o.cls = .type "StopIteration") → E (.ref e) { s with heap := h' }) : wpAny (model prog w) A (Builtin.SmallTypes.nextOf (.ref it)) Q E s := by
  cases b
  · exact wpAny_nextOf_list_end hh hit hl hx hE
  · exact nextT_end hh hit hl hx hE
theorem iterB {b : Bool} {l : Addr} {items : Array Value} {Q : Value → Shared → Prop} (hl : seqB b s.heap l items)
    (hQ : Q (.ref s.heap.objs.size) { s with heap := s.heap.push { cls := .type (nmB b), data := .fields #[.ref l, .int 0 0] } }) : wpAny (model prog w) A (pyIter (.ref l)) Q E s := by
  cases b
  · exact wpAny_pyIter_list hl hQ
  · exact wpAny_pyIter_tuple hl hQ
theorem iterB_new {b : Bool} {h : Heap} {l : Addr} : ItB b (h.push { cls := .type (nmB b), data := .fields #[.ref l, .int 0 0] }) h.objs.size l 0 := by
  cases b
  · exact ⟨_, Heap.get?_push_size _ rfl, rfl, rfl⟩
  · exact ⟨_, Heap.get?_push_size _ rfl, rfl, rfl⟩
/-! zip -/
theorem zipB_item {b1 b2 : Bool} {z TI TO i1 i2 l1 l2 : Addr} {k1 k2 : Nat} {xs ys : Array Value} {x y a b : Value} {Q : Option Value → Shared → Prop} (D : ZipApart z TI TO i1 i2 l1 l2)
    (hz : IsZip s.heap z TI TO .none) (hTI : IsPair s.heap TI (.ref i1) (.ref i2)) (hTO : IsPair s.heap TO a b)
    (h1 : ItB b1 s.heap i1 l1 k1) (h2 : ItB b2 s.heap i2 l2 k2) (hl1 : seqB b1 s.heap l1 xs) (hl2 : seqB b2 s.heap l2 ys) (hx : xs[k1]? = some x) (hy : ys[k2]? = some y)
    (hQ : ∀ h', IsZip h' z TI TO (rawInt s.heap.objs.size) → IsPair h' TO x y → ItB b1 h' i1 l1 (k1 + 1) → ItB b2 h' i2 l2 (k2 + 1) → IsPair h' s.heap.objs.size x y → h'.objs.size = s.heap.objs.size + 1 →
      (∀ c o, c ≠ z → c ≠ TO → c ≠ i1 → c ≠ i2 → s.heap.get? c = some o → h'.get? c = some o) → Q (some (.ref s.heap.objs.size)) { s with heap := h' }) :
    wpAny (model prog w) A (pyNext (.ref z)) Q E s := by
  have hT : s.TypeIs (.ref z) "zip" := ⟨_, hz, rfl⟩
  unfold pyNext
  refine wpAny_bind (wpAny_attempt (wpAny_callSpecial?_slot (name := Str.ofString "__next__") hT F.slot_zip_next (wpAny_call_entry F.slot_zip_next hT F.entry_zip_next ?_ (F.args_zip_next_1 _))))
  show wpAny _ _ (field (.ref z) 2 >>= _) _ _ _
  refine wpAny_bind (wpAny_field hz rfl (x := .bool false) rfl ?_)
  show wpAny _ _ (field (.ref z) 3 >>= _) _ _ _
  refine wpAny_bind (wpAny_field hz rfl (x := .ref TI) rfl ?_)
  refine wpAny_bind (wpAny_seqItems hTI rfl ?_)
  show wpAny _ _ (Builtin.SmallTypes.ownedTupleIsFree (.ref z) >>= _) _ _ _
  refine wpAny_bind ?_
  unfold Builtin.SmallTypes.ownedTupleIsFree
  refine wpAny_bind (wpAny_field hz rfl (x := .none) rfl (wpAny_pure ?_))
  simp only [if_true]
  refine wpAny_bind (wpAny_rule ?_)
  refine wpAny_bind (wpAny_field hz rfl (x := .ref TO) rfl ?_)
  refine wpAny_bind (wpAny_setField_rec hz (by simp) fun h₁ hz₁ hs₁ => ?_)
  replace hz₁ : IsZip h₁ z TI TO .ellipsis := hz₁
  refine wpAny_bind ?_
  simp only [List.zipIdx_cons, List.zipIdx_nil, List.forIn_cons, List.forIn_nil]
  refine wpAny_bind (wpAny_bind (wpAny_onRaise ?_))
  show wpAny _ _ (Builtin.SmallTypes.nextOf (.ref i1) >>= _) _ _ _
  refine wpAny_bind (nextB_item (h1.at fun o e => hs₁.extBut _ _ D.i1z e) (hl1.at fun o e => hs₁.extBut _ _ D.l1z e) hx fun h₂ h1₂ hs₂ => wpAny_pure ?_)
  have hTO₂ : IsPair h₂ TO a b := hs₂.extBut _ _ D.TOi1 (hs₁.extBut _ _ D.TOz hTO)
  refine wpAny_bind (wpAny_seqItems hTO₂ rfl ?_)
  refine wpAny_bind (wpAny_updateSeq_pair hTO₂ fun h₃ hTO₃ hs₃ => ?_)
  replace hTO₃ : IsPair h₃ TO x b := hTO₃
  refine wpAny_bind (wpAny_letGo (wpAny_pure ?_))
  refine wpAny_bind (wpAny_bind (wpAny_onRaise ?_))
  show wpAny _ _ (Builtin.SmallTypes.nextOf (.ref i2) >>= _) _ _ _
  refine wpAny_bind (nextB_item (h2.at fun o e => hs₃.extBut _ _ D.TOi2.symm (hs₂.extBut _ _ D.i12.symm (hs₁.extBut _ _ D.i2z e)))
    (hl2.at fun o e => hs₃.extBut _ _ D.l2TO (hs₂.extBut _ _ D.l2i1 (hs₁.extBut _ _ D.l2z e))) hy fun h₄ h2₄ hs₄ => wpAny_pure ?_)
  have hTO₄ : IsPair h₄ TO x b := hs₄.extBut _ _ D.TOi2 hTO₃
  refine wpAny_bind (wpAny_seqItems hTO₄ rfl ?_)
  refine wpAny_bind (wpAny_updateSeq_pair hTO₄ fun h₅ hTO₅ hs₅ => ?_)
  replace hTO₅ : IsPair h₅ TO x y := hTO₅
  refine wpAny_bind (wpAny_letGo (wpAny_pure (wpAny_pure ?_)))
  refine wpAny_bind (wpAny_seqItems hTO₅ rfl ?_)
  refine wpAny_bind (wpAny_newTuple ?_)
  have hsz : h₅.objs.size = s.heap.objs.size := by rw [hs₅.1, hs₄.1, hs₃.1, hs₂.1, hs₁.1]
  have hz₅ : IsZip h₅ z TI TO .ellipsis := hs₅.extBut _ _ D.TOz.symm (hs₄.extBut _ _ D.i2z.symm (hs₃.extBut _ _ D.TOz.symm (hs₂.extBut _ _ D.i1z.symm hz₁)))
  have hk₅ : ∀ c o, c ≠ z → c ≠ TO → c ≠ i1 → c ≠ i2 → s.heap.get? c = some o → h₅.get? c = some o := fun c o c1 c2 c3 c4 e =>
    hs₅.extBut _ _ c2 (hs₄.extBut _ _ c4 (hs₃.extBut _ _ c2 (hs₂.extBut _ _ c3 (hs₁.extBut _ _ c1 e))))
  have h1₅ : ItB b1 h₅ i1 l1 (k1 + 1) := h1₂.at fun o e => hs₅.extBut _ _ D.TOi1.symm (hs₄.extBut _ _ D.i12 (hs₃.extBut _ _ D.TOi1.symm e))
  have h2₅ : ItB b2 h₅ i2 l2 (k2 + 1) := h2₄.at fun o e => hs₅.extBut _ _ D.TOi2.symm e
  have hzlt : z < h₅.objs.size := Heap.lt_size hz₅
  show wpAny _ _ (Builtin.SmallTypes.ownedTupleHandOut (.ref z) (.ref h₅.objs.size) >>= _) _ _ _
  refine wpAny_bind ?_
  unfold Builtin.SmallTypes.ownedTupleHandOut
  have hz₆ : IsZip (h₅.push { cls := .type "tuple", data := .seq #[x, y] }) z TI TO .ellipsis := Heap.get?_push_of_some _ hz₅
  refine wpAny_bind (wpAny_setField_rec hz₆ (by simp) fun h₇ hz₇ hs₇ => ?_)
  replace hz₇ : IsZip h₇ z TI TO (rawInt h₅.objs.size) := hz₇
  refine wpAny_setField_rec hz₇ (by simp) fun h₈ hz₈ hs₈ => ?_
  replace hz₈ : IsZip h₈ z TI TO (rawInt h₅.objs.size) := hz₈
  have up : ∀ c o, c ≠ z → h₅.get? c = some o → h₈.get? c = some o := fun c o c1 e => hs₈.extBut _ _ c1 (hs₇.extBut _ _ c1 (Heap.get?_push_of_some _ e))
  have hT₈ : IsPair h₈ h₅.objs.size x y := hs₈.extBut _ _ (Nat.ne_of_gt hzlt) (hs₇.extBut _ _ (Nat.ne_of_gt hzlt) (Heap.get?_push_size _ rfl))
  have hz8 : h₈.objs.size = h₅.objs.size + 1 := by rw [hs₈.1, hs₇.1, Heap.size_push]
  rw [hsz] at hz₈ hT₈ hz8
  refine wpAny_pure ⟨_, rfl, wpAny_pure ?_⟩
  show Q (some (.ref h₅.objs.size)) _
  rw [hsz]
  exact hQ h₈ hz₈ (up _ _ D.TOz hTO₅) (h1₅.at fun o e => up _ o D.i1z e) (h2₅.at fun o e => up _ o D.i2z e) hT₈ hz8 fun c o c1 c2 c3 c4 e => up c o c1 (hk₅ c o c1 c2 c3 c4 e)
theorem zipB_end {b1 b2 : Bool} {z TI TO i1 i2 l1 l2 : Addr} {k1 k2 : Nat} {xs ys : Array Value} {a b : Value} {Q : Option Value → Shared → Prop} (hh : A.handled = none) (D : ZipApart z TI TO i1 i2 l1 l2)
    (hz : IsZip s.heap z TI TO .none) (hTI : IsPair s.heap TI (.ref i1) (.ref i2)) (hTO : IsPair s.heap TO a b)
    (h1 : ItB b1 s.heap i1 l1 k1) (h2 : ItB b2 s.heap i2 l2 k2) (hl1 : seqB b1 s.heap l1 xs) (hl2 : seqB b2 s.heap l2 ys) (hend : xs[k1]? = none ∨ ys[k2]? = none)
    (hQ : ∀ h', (∀ c o, c ≠ z → c ≠ TO → c ≠ i1 → c ≠ i2 → s.heap.get? c = some o → h'.get? c = some o) → Q none { s with heap := h' }) : wpAny (model prog w) A (pyNext (.ref z)) Q E s := by
  have hT : s.TypeIs (.ref z) "zip" := ⟨_, hz, rfl⟩
  unfold pyNext
  refine wpAny_bind (wpAny_attempt (wpAny_callSpecial?_slot (name := Str.ofString "__next__") hT F.slot_zip_next (wpAny_call_entry F.slot_zip_next hT F.entry_zip_next (Q := _) ?_ (F.args_zip_next_1 _))))
  show wpAny _ _ (field (.ref z) 2 >>= _) _ _ _
  refine wpAny_bind (wpAny_field hz rfl (x := .bool false) rfl ?_)
  show wpAny _ _ (field (.ref z) 3 >>= _) _ _ _
  refine wpAny_bind (wpAny_field hz rfl (x := .ref TI) rfl ?_)
  refine wpAny_bind (wpAny_seqItems hTI rfl ?_)
  show wpAny _ _ (Builtin.SmallTypes.ownedTupleIsFree (.ref z) >>= _) _ _ _
  refine wpAny_bind ?_
  unfold Builtin.SmallTypes.ownedTupleIsFree
  refine wpAny_bind (wpAny_field hz rfl (x := .none) rfl (wpAny_pure ?_))
  simp only [if_true]
  refine wpAny_bind (wpAny_rule ?_)
  refine wpAny_bind (wpAny_field hz rfl (x := .ref TO) rfl ?_)
  refine wpAny_bind (wpAny_setField_rec hz (by simp) fun h₁ hz₁ hs₁ => ?_)
  replace hz₁ : IsZip h₁ z TI TO .ellipsis := hz₁
  refine wpAny_bind ?_
  simp only [List.zipIdx_cons, List.zipIdx_nil, List.forIn_cons, List.forIn_nil]
  refine wpAny_bind (wpAny_bind (wpAny_onRaise ?_))
  show wpAny _ _ (Builtin.SmallTypes.nextOf (.ref i1) >>= _) _ _ _
  cases hx : xs[k1]? with
  | none =>
    refine wpAny_bind (nextB_end hh (h1.at fun o e => hs₁.extBut _ _ D.i1z e) (hl1.at fun o e => hs₁.extBut _ _ D.l1z e) hx fun h₂ e hs₂ he => ?_)
    obtain ⟨oe, hoe, hce⟩ := he
    have hz₂ : IsZip h₂ z TI TO .ellipsis := hs₂ _ _ D.i1z.symm hz₁
    have hez : e ≠ z := fun x => by subst x; rw [hz₂] at hoe; cases hoe; simp at hce
    refine wpAny_setField_rec hz₂ (by simp) fun h₃ _ hs₃ => ?_
    refine wpAny_bind (wpAny_isInstance (T := "StopIteration") (b := true) ⟨oe, hs₃.extBut _ _ hez hoe, hce⟩ isSubtype_stop ?_)
    exact wpAny_pure (hQ h₃ fun c o c1 _ c3 _ x => hs₃.extBut _ _ c1 (hs₂ _ _ c3 (hs₁.extBut _ _ c1 x)))
  | some x =>
    have hy : ys[k2]? = none := by rcases hend with h | h; rw [hx] at h; cases h; exact h
    refine wpAny_bind (nextB_item (h1.at fun o e => hs₁.extBut _ _ D.i1z e) (hl1.at fun o e => hs₁.extBut _ _ D.l1z e) hx fun h₂ h1₂ hs₂ => wpAny_pure ?_)
    have hTO₂ : IsPair h₂ TO a b := hs₂.extBut _ _ D.TOi1 (hs₁.extBut _ _ D.TOz hTO)
    refine wpAny_bind (wpAny_seqItems hTO₂ rfl ?_)
    refine wpAny_bind (wpAny_updateSeq_pair hTO₂ fun h₃ hTO₃ hs₃ => ?_)
    refine wpAny_bind (wpAny_letGo (wpAny_pure ?_))
    refine wpAny_bind (wpAny_bind (wpAny_onRaise ?_))
    show wpAny _ _ (Builtin.SmallTypes.nextOf (.ref i2) >>= _) _ _ _
    refine wpAny_bind (nextB_end hh (h2.at fun o e => hs₃.extBut _ _ D.TOi2.symm (hs₂.extBut _ _ D.i12.symm (hs₁.extBut _ _ D.i2z e)))
      (hl2.at fun o e => hs₃.extBut _ _ D.l2TO (hs₂.extBut _ _ D.l2i1 (hs₁.extBut _ _ D.l2z e))) hy fun h₄ e hs₄ he => ?_)
    obtain ⟨oe, hoe, hce⟩ := he
    have hz₄ : IsZip h₄ z TI TO .ellipsis := hs₄ _ _ D.i2z.symm (hs₃.extBut _ _ D.TOz.symm (hs₂.extBut _ _ D.i1z.symm hz₁))
    have hez : e ≠ z := fun x => by subst x; rw [hz₄] at hoe; cases hoe; simp at hce
    refine wpAny_setField_rec hz₄ (by simp) fun h₅ _ hs₅ => ?_
    refine wpAny_bind (wpAny_isInstance (T := "StopIteration") (b := true) ⟨oe, hs₅.extBut _ _ hez hoe, hce⟩ isSubtype_stop ?_)
    exact wpAny_pure (hQ h₅ fun c o c1 c2 c3 c4 x => hs₅.extBut _ _ c1 (hs₄ _ _ c4 (hs₃.extBut _ _ c2 (hs₂.extBut _ _ c3 (hs₁.extBut _ _ c1 x)))))
end
noncomputable abbrev zB1 (b1 : Bool) (h : Heap) (l1 : Addr) : Heap := h.push { cls := .type (nmB b1), data := .fields #[.ref l1, .int 0 0] }
noncomputable abbrev zB2 (b1 b2 : Bool) (h : Heap) (l1 l2 : Addr) : Heap := (zB1 b1 h l1).push { cls := .type (nmB b2), data := .fields #[.ref l2, .int 0 0] }
noncomputable abbrev zB3 (b1 b2 : Bool) (h : Heap) (l1 l2 : Addr) : Heap := (zB2 b1 b2 h l1 l2).push { cls := .type "tuple", data := .seq #[.ref h.objs.size, .ref (zB1 b1 h l1).objs.size] }
noncomputable abbrev zB4 (b1 b2 : Bool) (h : Heap) (l1 l2 : Addr) : Heap := (zB3 b1 b2 h l1 l2).push { cls := .type "tuple", data := .seq #[.none, .none] }
noncomputable abbrev zB5 (b1 b2 : Bool) (h : Heap) (l1 l2 : Addr) : Heap := (zB4 b1 b2 h l1 l2).push { cls := .type "zip", data := .fields #[.none, .bool false, .bool false, .ref (zB2 b1 b2 h l1 l2).objs.size, .ref (zB3 b1 b2 h l1 l2).objs.size] }
theorem meets_zipB (b1 b2 : Bool) (l1 l2 : Addr) (xs ys : Array Value) :
    Meets (Builtin.«zip.__new__» ⟨[.type "zip", .ref l1, .ref l2], []⟩) (fun _ R s => seqB b1 s.heap l1 xs ∧ seqB b2 s.heap l2 ys ∧
      R (.ok (.ret (.ref (zB4 b1 b2 s.heap l1 l2).objs.size))) { s with heap := zB5 b1 b2 s.heap l1 l2 }) :=
  .of_wp fun prog w A R s h => by
    obtain ⟨hp, g, d, tk, os⟩ := s; obtain ⟨hl1, hl2, h⟩ := h
    have hsub := sub_zip
    have hL1 : seqB b1 (Shared.heap ⟨hp, g, d, tk, os⟩) l1 xs := hl1
    have hL2 : seqB b2 (Shared.heap ⟨hp.push { cls := .type (nmB b1), data := .fields #[.ref l1, .int 0 0] }, g, d, tk, os⟩) l2 ys := hl2.at fun o e => Heap.get?_push_of_some _ e
    wp_walk using iterB hL1, iterB hL2
    exact ⟨_, rfl, h⟩
theorem call_zipB {prog : Program} {w : World} {A : Around} {E : Value → Shared → Prop} {s : Shared} {b1 b2 : Bool} {l1 l2 : Addr} {xs ys : Array Value} {Q : Value → Shared → Prop} (hl1 : seqB b1 s.heap l1 xs) (hl2 : seqB b2 s.heap l2 ys)
    (h : ∀ h', IsZip h' (s.heap.objs.size + 4) (s.heap.objs.size + 2) (s.heap.objs.size + 3) .none → IsPair h' (s.heap.objs.size + 2) (.ref s.heap.objs.size) (.ref (s.heap.objs.size + 1)) →
      IsPair h' (s.heap.objs.size + 3) .none .none → ItB b1 h' s.heap.objs.size l1 0 → ItB b2 h' (s.heap.objs.size + 1) l2 0 →
      (∀ c o, s.heap.get? c = some o → h'.get? c = some o) → Q (.ref (s.heap.objs.size + 4)) { s with heap := h' }) :
    wpAny (model prog w) A (call (.type "zip") [.ref l1, .ref l2]) Q E s := by
  refine callType_new F.called_zip (by decide) (F.typeCall_zip_2 _ _) (F.newCall_zip_2 _ _) (fun obj => F.args_object_init_3 obj _ _) F.entry_zip_new
    (meets_zipB b1 b2 l1 l2 xs ys) ⟨hl1, hl2, ?_⟩
  have z1 : (zB1 b1 s.heap l1).objs.size = s.heap.objs.size + 1 := Heap.size_push ..
  have z2 : (zB2 b1 b2 s.heap l1 l2).objs.size = s.heap.objs.size + 2 := by rw [Heap.size_push, z1]
  have z3 : (zB3 b1 b2 s.heap l1 l2).objs.size = s.heap.objs.size + 3 := by rw [Heap.size_push, z2]
  have z4 : (zB4 b1 b2 s.heap l1 l2).objs.size = s.heap.objs.size + 4 := by rw [Heap.size_push, z3]
  have g5 : (zB5 b1 b2 s.heap l1 l2).get? (zB4 b1 b2 s.heap l1 l2).objs.size = some _ := Heap.get?_push_size _ rfl
  have g4 : (zB5 b1 b2 s.heap l1 l2).get? (zB3 b1 b2 s.heap l1 l2).objs.size = some _ := Heap.get?_push_of_some _ (Heap.get?_push_size _ rfl)
  have g3 : (zB5 b1 b2 s.heap l1 l2).get? (zB2 b1 b2 s.heap l1 l2).objs.size = some _ := Heap.get?_push_of_some _ (Heap.get?_push_of_some _ (Heap.get?_push_size _ rfl))
  have u2 : ∀ c o, (zB2 b1 b2 s.heap l1 l2).get? c = some o → (zB5 b1 b2 s.heap l1 l2).get? c = some o := fun c o e => Heap.get?_push_of_some _ (Heap.get?_push_of_some _ (Heap.get?_push_of_some _ e))
  have g2 : ItB b2 (zB5 b1 b2 s.heap l1 l2) (zB1 b1 s.heap l1).objs.size l2 0 := iterB_new.at fun o e => u2 _ o e
  have g1 : ItB b1 (zB5 b1 b2 s.heap l1 l2) s.heap.objs.size l1 0 := iterB_new.at fun o e => u2 _ o (Heap.get?_push_of_some _ e)
  show _ ∧ _
  rw [z2, z3, z4] at g5
  rw [z1, z2] at g3
  rw [z3] at g4
  rw [z1] at g2
  rw [z4]
  exact ⟨⟨_, g5, rfl⟩, h _ g5 g3 g4 g1 g2 fun c o x => u2 c o (Heap.get?_push_of_some _ (Heap.get?_push_of_some _ x))⟩
end L2
namespace L2
open PySem PySem.Spec PyProof.Rows
section
variable {X : Cx} {pins : List (Addr × Obj)} {σ : St} {H : Hp} {s : Shared} {h' : Heap}
theorem Inv.seqB {b : Bool} {a : Addr} {xs : List V} (I : Inv X pins σ H s) (h : SqB b X.K H a xs) : ∃ its : List Value, Vals xs its ∧ L2.seqB b s.heap a its.toArray := by
  cases b
  · obtain ⟨its, rv, p, _⟩ := I.list h
    exact ⟨its, rv, p.isList⟩
  · obtain ⟨its, rv, p, _⟩ := I.tuple h
    exact ⟨its, rv, p⟩
theorem Inv.seqB_inj {b : Bool} {a : Addr} {xs ys : List V} (I : Inv X pins σ H s) (h : SqB b X.K H a xs) (h2 : SqB b X.K H a ys) : xs = ys := by
  cases b
  · exact I.list_inj h h2
  · exact I.tuple_inj h h2
/-- what is read is no iterator's own object -/
theorem Inv.seq_ne {b : Bool} {a f : Addr} {xs : List V} (I : Inv X pins σ H s) (h : SqB b X.K H a xs) (hf : FpOk X pins H f) : a ≠ f := by
  have rd : ∀ u, Rd H a u → a ≠ f := fun u r z => by
    subst z
    rcases r with r | ⟨o, r⟩ <;> (rw [hf.1] at r; cases r)
  have kk : ∀ o, X.K.lookup a = some o → a ≠ f := fun o e z => by
    subst z
    have q := I.mod.kin a o e
    rcases hf.2.2.2.1 with w | w
    · exact I.ok.noex _ _ q w
    · exact absurd (Nat.lt_of_lt_of_le (Heap.lt_size q) (Nat.le_trans I.ok.bsz w)) (Nat.lt_irrefl _)
  cases b
  · rcases h with h | ⟨o, its, n, hk, _⟩
    · exact rd _ h
    · exact kk _ hk
  · rcases h with h | ⟨o, its, n, hk, _⟩
    · exact rd _ h
    · exact kk _ hk
/-- untracked records of ours have turned, a new object has come -/
theorem Inv.turnedNew {fp : List Addr} {n : Addr} {u : HO} {t' : Nat} (I : Inv X pins σ H s) (hf : ∀ b ∈ fp, FpOk X pins H b) (k : ∀ b o, b ∉ fp → s.heap.get? b = some o → h'.get? b = some o) (hn : s.heap.objs.size ≤ n)
    (new : ObjOk X.prog X.w (upd H n u) h' n u) : Inv X pins σ (upd H n u) { s with heap := h', toks := t' } := by
  have fn := I.hok.fresh hn
  have nfp : ∀ b v, H b = some v → b ∉ fp := fun b v e z => by rw [(hf b z).1] at e; cases e
  have nl : X.env.locals ∉ fp := fun z => (hf _ z).2.1 rfl
  refine I.step (g' := s.gens) (d' := s.drawn) (ch := fp) (fun b hb => ?_) (fun b o _ _ hc e _ => k b o hc e) (fun b o _ _ hc e _ => ⟨o.slots, k b o hc e⟩) (fun b o _ e z => ?_)
    (fun b o hc e => ⟨o, k b o hc e⟩) (fun b xs e => ?_) (fun b o v e => ?_) (fun b ps e => ⟨#[], ?_⟩) (fun m hm => ?_) (fun b v e => ?_) I.bare
  · obtain ⟨f0, f1, f2, f3, f4, f5⟩ := hf b hb
    exact ⟨f3, f1, f4, f5⟩
  · rw [upd_ne (Nat.ne_of_lt (Nat.lt_of_lt_of_le (Heap.lt_size e) hn))]
    exact z
  · rw [upd_ne (ne_of_none e fn)]; exact e
  · rw [upd_ne (ne_of_none e fn)]; exact e
  · rw [upd_ne (ne_of_none e fn), e]; simp
  · obtain ⟨o, es, ep, ho, r⟩ := hm
    exact ⟨o, es, ep, k _ o nl ho, r⟩
  · by_cases hb : b = n
    · subst hb
      rw [upd_same] at e
      cases e
      exact new
    · rw [upd_ne hb] at e
      refine (I.hok b v e).stay (fun c x hc q => k c x ?_ q) (fun c q => by rw [upd_ne (ne_of_none q fn)]; exact q) fun c xs q => by rw [upd_ne (ne_of_none q fn)]; exact q
      rcases hc with z | z
      · rw [z]; exact nfp b v e
      · exact nfp c _ z
theorem Inv.turnedL {fp : List Addr} {t' : Nat} (I : Inv X pins σ H s) (hf : ∀ b ∈ fp, FpOk X pins H b) (k : ∀ b o, b ∉ fp → s.heap.get? b = some o → h'.get? b = some o) : Inv X pins σ H { s with heap := h', toks := t' } := by
  have nfp : ∀ b v, H b = some v → b ∉ fp := fun b v e z => by rw [(hf b z).1] at e; cases e
  have nl : X.env.locals ∉ fp := fun z => (hf _ z).2.1 rfl
  refine I.step (g' := s.gens) (d' := s.drawn) (ch := fp) (fun b hb => ?_) (fun b o _ _ hc e _ => k b o hc e) (fun b o _ _ hc e _ => ⟨o.slots, k b o hc e⟩) (fun b o _ e z => z)
    (fun b o hc e => ⟨o, k b o hc e⟩) (fun b xs e => e) (fun b o v e => e) (fun b ps e => ⟨#[], by rw [e]; simp⟩) (fun m hm => ?_) (fun b v e => ?_) I.bare
  · obtain ⟨f0, f1, f2, f3, f4, f5⟩ := hf b hb
    exact ⟨f3, f1, f4, f5⟩
  · obtain ⟨o, es, ep, ho, r⟩ := hm
    exact ⟨o, es, ep, k _ o nl ho, r⟩
  · refine (I.hok b v e).stay (fun c x hc q => k c x ?_ q) (fun c q => q) fun c xs q => q
    rcases hc with z | z
    · rw [z]; exact nfp b v e
    · exact nfp c _ z
end
/-- two sequences side by side -/
noncomputable def Itz (K : PySem.W.Frag) (b1 : Bool) (l1 : Addr) (b2 : Bool) (l2 : Addr) : It :=
  ⟨fun i H => ∃ xs ys x y, SqB b1 K H l1 xs ∧ SqB b2 K H l2 ys ∧ xs[i]? = some x ∧ ys[i]? = some y,
   fun i H v H' => ∃ p x y, v = .ref p ∧ H p = none ∧ H' = upd H p (.tup [x, y]) ∧ (∀ xs, SqB b1 K H l1 xs → xs[i]? = some x) ∧ ∀ ys, SqB b2 K H l2 ys → ys[i]? = some y,
   fun i H => ∃ xs ys, SqB b1 K H l1 xs ∧ SqB b2 K H l2 ys ∧ (xs[i]? = none ∨ ys[i]? = none)⟩
theorem vals_at {xs : List V} {its : List Value} {i : Nat} (r : Vals xs its) : xs[i]? = none → its.toArray[i]? = none := fun h => by
  have := r.none_of h
  simpa using this
theorem turn_zip {P : Program} {w : World} {K : PySem.W.Frag} {es : List Expr} {k : Nat} {pos : Pos} {b1 b2 : Bool} {z TI TO i1 i2 l1 l2 : Addr} (hd : [z, TI, TO, i1, i2].Nodup) :
    Turn P w K (.Tuple es k pos) (Itz K b1 l1 b2 l2) [z, TI, TO, i1, i2] z (fun i h => IsZip h z TI TO .none ∧ IsPair h TI (.ref i1) (.ref i2) ∧ (∃ a b, IsPair h TO a b) ∧ ItB b1 h i1 l1 i ∧ ItB b2 h i2 l2 i) where
  mem := by simp
  obj := fun i h ⟨hz, hTI, ⟨a, b, hTO⟩, h1, h2⟩ c hc => by
    simp only [List.mem_cons, List.not_mem_nil, or_false] at hc
    rcases hc with e | e | e | e | e <;> subst e
    · exact ⟨_, hz, fun v q => by have q' : Data.fields _ = Data.cell v := q; cases q'⟩
    · exact ⟨_, hTI, fun v q => by have q' : Data.seq _ _ = Data.cell v := q; cases q'⟩
    · exact ⟨_, hTO, fun v q => by have q' : Data.seq _ _ = Data.cell v := q; cases q'⟩
    · exact h1.lt
    · exact h2.lt
  keep := fun i h h' ⟨hz, hTI, ⟨a, b, hTO⟩, h1, h2⟩ kk => ⟨kk z (by simp) _ hz, kk TI (by simp) _ hTI, ⟨a, b, kk TO (by simp) _ hTO⟩, h1.at fun o e => kk i1 (by simp) o e, h2.at fun o e => kk i2 (by simp) o e⟩
  item := by
    intro X hP hw hK hc i pins s σ H E I hf st hg
    subst hP hw hK
    obtain ⟨hz, hTI, ⟨a, b, hTO⟩, h1, h2⟩ := st
    obtain ⟨xs, ys, x, y, q1, q2, e1, e2⟩ := hg
    obtain ⟨its1, r1, p1⟩ := I.seqB q1
    obtain ⟨its2, r2, p2⟩ := I.seqB q2
    obtain ⟨u1, hu1, ru1⟩ := r1.get e1
    obtain ⟨u2, hu2, ru2⟩ := r2.get e2
    have ne1 : ∀ f ∈ [z, TI, TO, i1, i2], l1 ≠ f := fun f hff => I.seq_ne q1 (hf f hff)
    have ne2 : ∀ f ∈ [z, TI, TO, i1, i2], l2 ≠ f := fun f hff => I.seq_ne q2 (hf f hff)
    simp only [List.nodup_cons, List.mem_cons, List.not_mem_nil, or_false, not_or, List.nodup_nil, and_true, not_false_eq_true] at hd
    obtain ⟨⟨d1, d2, d3, d4⟩, ⟨d5, d6, d7⟩, ⟨d8, d9⟩, d10⟩ := hd
    have D : ZipApart z TI TO i1 i2 l1 l2 := ⟨Ne.symm d1, Ne.symm d2, Ne.symm d3, Ne.symm d4, d5, d6, d7, d8, d9, d10, ne1 z (by simp), ne1 TO (by simp), ne1 i1 (by simp), ne1 i2 (by simp), ne2 z (by simp), ne2 TO (by simp), ne2 i1 (by simp), ne2 i2 (by simp)⟩
    refine zipB_item D hz hTI hTO h1 h2 p1 p2 (x := u1) (y := u2) (by simpa using hu1) (by simpa using hu2) fun h' a1 a2 a3 a4 a5 a6 a7 => ⟨_, rfl, ?_⟩
    refine wpAny_letOwnedTupleGo_zip a1 fun h'' hz' hs' => ?_
    have up : ∀ c o, c ∉ [z, TI, TO, i1, i2] → s.heap.get? c = some o → h''.get? c = some o := fun c o hc' e => by
      simp only [List.mem_cons, List.not_mem_nil, or_false, not_or] at hc'
      obtain ⟨c1, c2, c3, c4, c5⟩ := hc'
      exact hs'.extBut _ _ c1 (a7 c o c1 c3 c4 c5 e)
    have nz : s.heap.objs.size ≠ z := Nat.ne_of_gt (Heap.lt_size hz)
    have new : ObjOk X.prog X.w (upd H s.heap.objs.size (.tup [x, y])) h'' s.heap.objs.size (.tup [x, y]) :=
      ⟨by show 2 ≤ sizeLine; decide, [u1, u2], .cons ru1 (.cons ru2 .nil), ⟨_, hs'.extBut _ _ nz a5, rfl, _, rfl⟩⟩
    have I2 : Inv X pins σ (upd H s.heap.objs.size (.tup [x, y])) { s with heap := h'' } := I.turnedNew (t' := s.toks) hf up (Nat.le_refl _) new
    refine ⟨.ref s.heap.objs.size, _, I2, rfl, ⟨_, x, y, rfl, I.fresh, rfl, fun xs' q => by rw [I.seqB_inj q q1]; exact e1, fun ys' q => by rw [I.seqB_inj q q2]; exact e2⟩, ⟨hz', hs'.extBut _ _ D.TIz (a7 _ _ D.TIz D.TITO D.TIi1 D.TIi2 hTI), ⟨_, _, hs'.extBut _ _ D.TOz a2⟩, a3.at fun o e => hs'.extBut _ _ D.i1z e, a4.at fun o e => hs'.extBut _ _ D.i2z e⟩, fun c hc' => ?_⟩
    have hcf := (hf c hc').1
    rw [upd_ne]
    · exact hcf
    · intro e
      subst e
      simp only [List.mem_cons, List.not_mem_nil, or_false] at hc'
      rcases hc' with e | e | e | e | e
      · exact nz e
      · exact absurd (Heap.lt_size hTI) (by rw [← e]; exact Nat.lt_irrefl _)
      · exact absurd (Heap.lt_size hTO) (by rw [← e]; exact Nat.lt_irrefl _)
      · obtain ⟨o, q, _⟩ := h1.lt; exact absurd (Heap.lt_size q) (by rw [← e]; exact Nat.lt_irrefl _)
      · obtain ⟨o, q, _⟩ := h2.lt; exact absurd (Heap.lt_size q) (by rw [← e]; exact Nat.lt_irrefl _)
  done := by
    intro X hP hw hK hc i pins s σ H E I hf st hg
    subst hP hw hK
    obtain ⟨hz, hTI, ⟨a, b, hTO⟩, h1, h2⟩ := st
    obtain ⟨xs, ys, q1, q2, e1⟩ := hg
    obtain ⟨its1, r1, p1⟩ := I.seqB q1
    obtain ⟨its2, r2, p2⟩ := I.seqB q2
    have ne1 : ∀ f ∈ [z, TI, TO, i1, i2], l1 ≠ f := fun f hff => I.seq_ne q1 (hf f hff)
    have ne2 : ∀ f ∈ [z, TI, TO, i1, i2], l2 ≠ f := fun f hff => I.seq_ne q2 (hf f hff)
    simp only [List.nodup_cons, List.mem_cons, List.not_mem_nil, or_false, not_or, List.nodup_nil, and_true, not_false_eq_true] at hd
    obtain ⟨⟨d1, d2, d3, d4⟩, ⟨d5, d6, d7⟩, ⟨d8, d9⟩, d10⟩ := hd
    have D : ZipApart z TI TO i1 i2 l1 l2 := ⟨Ne.symm d1, Ne.symm d2, Ne.symm d3, Ne.symm d4, d5, d6, d7, d8, d9, d10, ne1 z (by simp), ne1 TO (by simp), ne1 i1 (by simp), ne1 i2 (by simp), ne2 z (by simp), ne2 TO (by simp), ne2 i1 (by simp), ne2 i2 (by simp)⟩
    refine zipB_end (I.ok.hd hc) D hz hTI hTO h1 h2 p1 p2 (e1.imp (vals_at r1) (vals_at r2)) fun h' a7 => ⟨rfl, I.turnedL (t' := s.toks) hf fun c o hc' e => ?_⟩
    simp only [List.mem_cons, List.not_mem_nil, or_false, not_or] at hc'
    obtain ⟨c1, c2, c3, c4, c5⟩ := hc'
    exact a7 c o c1 c3 c4 c5 e
  self := fun _ _ _ _ _ st h => wpAny_pyIter_zip st.1 h
section
variable {X : Cx}
noncomputable def iZip (K : PySem.W.Frag) (ta : TA) : TI := fun σ H R => ta σ H fun vs H1 => ∃ b1 b2 l1 l2, vs = [.ref l1, .ref l2] ∧ (∃ xs, SqB b1 K H1 l1 xs) ∧ (∃ ys, SqB b2 K H1 l2 ys) ∧ R (Itz K b1 l1 b2 l2) H1
theorem pi_zip {a b : Expr} {ta : TA} {es : List Expr} {k : Nat} {tp p pos : Pos} (hg : Gl X "zip") (hm : X.mg "zip" = none) (ha : PA X [a, b] ta) (hv : bootBuiltins "zip" = some (.type "zip") := by decide +kernel)
    (hs : starEach [a, b] X.env = [(false, eval a X.env), (false, eval b X.env)] := by rfl) (hs2 : starEach [b] X.env = [(false, eval b X.env)] := by rfl) :
    PI X (.Tuple es k tp) (.Call (.Name "zip" p) [a, b] [] pos) (iZip X.K ta) := by
  intro pins s σ H R I h
  refine Call_ (ld_blt I hg hm hv (PyProof.Rows.callWith_type1 (thn (ha pos pins s σ H _ I h) fun us s1 ⟨vs, H1, I1, r1, q1⟩ => ?_) (by rw [hs, hs2]) (by rw [hs2]; rfl)))
  obtain ⟨b1, b2, l1, l2, e, ⟨xs, q1⟩, ⟨ys, q2⟩, q⟩ := q1
  subst e
  cases r1 with
  | cons r rr =>
    cases rr with
    | cons r' rr =>
      cases rr
      cases r
      cases r'
      obtain ⟨its1, v1, p1⟩ := I1.seqB q1
      obtain ⟨its2, v2, p2⟩ := I1.seqB q2
      refine call_zipB p1 p2 fun h' a1 a2 a3 a4 a5 kp => ?_
      refine wpAny_pyIter_zip a1 ?_
      have lt : ∀ j, j ≤ 4 → s1.heap.objs.size ≤ s1.heap.objs.size + j := fun j _ => Nat.le_add_right _ _
      refine ⟨s1.heap.objs.size + 4, [s1.heap.objs.size + 4, s1.heap.objs.size + 2, s1.heap.objs.size + 3, s1.heap.objs.size, s1.heap.objs.size + 1], _, _, H1, rfl, I1.kept (t' := s1.toks) kp, turn_zip (b1 := b1) (b2 := b2) (l1 := l1) (l2 := l2) ?_, ⟨a1, a2, ⟨_, _, a3⟩, a4, a5⟩, fun c hc => ?_, q⟩
      · simp
      · have hle : s1.heap.objs.size ≤ c := by
          simp only [List.mem_cons, List.not_mem_nil, or_false] at hc
          rcases hc with e | e | e | e | e <;> subst e <;> first | exact Nat.le_refl _ | exact Nat.le_add_right _ _
        exact I1.fpOk hle (I1.hok.fresh hle)
end
end L2

/-! ENUMERATE, SUM. -/
namespace L2
open PySem PySem.Spec PyProof.Rows
open AutoSeq1 (wpAny_loadPart')
set_option maxRecDepth 100000 in
section
variable {X : Cx}
end
end L2

/-! SEQUENCES OF EITHER KIND; the forms of comprehensions. -/
namespace L2
open PySem PySem.Spec PyProof.Rows
theorem SqB.or {b : Bool} {K : PySem.W.Frag} {H : Hp} {a : Addr} {xs : List V} (h : SqB b K H a xs) : SqL K H a xs ∨ SqT K H a xs := by
  cases b
  · exact .inl h
  · exact .inr h
theorem SqB.up {b : Bool} {K : PySem.W.Frag} {H H' : Hp} {a : Addr} {xs : List V} (h : SqB b K H a xs) (s : Same H H') : SqB b K H' a xs := by
  cases b
  · exact s.seq h
  · exact s.tup h
theorem SqB.lst {K : PySem.W.Frag} {H : Hp} {a : Addr} {xs : List V} (h : H a = some (.lst xs)) : SqB false K H a xs := SqL.of h
theorem SqB.tup {K : PySem.W.Frag} {H : Hp} {a : Addr} {xs : List V} (h : H a = some (.tup xs)) : SqB true K H a xs := SqT.of h
noncomputable def Its (K : PySem.W.Frag) (b : Bool) (a : Addr) : It := match b with | false => Itl K a | true => Itt K a
theorem Its.go {K : PySem.W.Frag} {b : Bool} {a : Addr} {xs : List V} {x : V} {i : Nat} {H : Hp} (h : SqB b K H a xs) (e : xs[i]? = some x) : (Its K b a).go i H := by
  cases b
  · exact ⟨xs, x, h, e⟩
  · exact ⟨xs, x, h, e⟩
theorem Its.stop {K : PySem.W.Frag} {b : Bool} {a : Addr} {xs : List V} {i : Nat} {H : Hp} (h : SqB b K H a xs) (e : xs.length ≤ i) : (Its K b a).stop i H := by
  cases b
  · exact ⟨xs, h, e⟩
  · exact ⟨xs, h, e⟩
theorem Its.yld {K : PySem.W.Frag} {b : Bool} {a : Addr} {xs : List V} {i : Nat} {H H' : Hp} {x : V} (h : SqB b K H a xs) (y : (Its K b a).yld i H x H') : H' = H ∧ xs[i]? = some x := by
  cases b
  · exact ⟨y.1, y.2 xs h⟩
  · exact ⟨y.1, y.2 xs h⟩
section
variable {X : Cx}
noncomputable def iSeq (K : PySem.W.Frag) (tl : TE) : TI := fun σ H R => tl σ H fun x H1 => ∃ b a, x = .ref a ∧ (∃ xs, SqB b K H1 a xs) ∧ R (Its K b a) H1
theorem pi_seq {tg l : Expr} {tl : TE} (hl : PE X l tl) : PI X tg l (iSeq X.K tl) := by
  intro pins s σ H R I h
  refine thn (hl pins s σ H _ I h) fun v s1 ⟨x, H1, I1, r1, q1⟩ => ?_
  obtain ⟨b, a, e, ⟨xs, hq⟩, q⟩ := q1
  subst e
  cases r1
  cases b
  · obtain ⟨its, rv, p, hz⟩ := I1.list hq
    refine wpAny_pyIter_list p.isList ?_
    refine ⟨s1.heap.objs.size, [s1.heap.objs.size], _, _, H1, rfl, I1.kept (t' := s1.toks) fun b o e => Heap.get?_push_of_some _ e, turn_list a _, ⟨_, Heap.get?_push_size _ rfl, rfl, rfl⟩, fun b hb => ?_, q⟩
    have e : b = s1.heap.objs.size := by simpa using hb
    subst e
    exact I1.fpOk (Nat.le_refl _) (I1.hok.fresh (Nat.le_refl _))
  · obtain ⟨its, rv, p, hz⟩ := I1.tuple hq
    refine wpAny_pyIter_tuple (show s1.heap.IsTuple a its.toArray from p) ?_
    refine ⟨s1.heap.objs.size, [s1.heap.objs.size], _, _, H1, rfl, I1.kept (t' := s1.toks) fun b o e => Heap.get?_push_of_some _ e, turn_tuple a _, ⟨_, Heap.get?_push_size _ rfl, rfl, rfl⟩, fun b hb => ?_, q⟩
    have e : b = s1.heap.objs.size := by simpa using hb
    subst e
    exact I1.fpOk (Nat.le_refl _) (I1.hok.fresh (Nat.le_refl _))
noncomputable def rIxB (K : PySem.W.Frag) : R2 := fun x y H Q => ∃ b p xs i v, x = .ref p ∧ y = .int i ∧ SqB b K H p xs ∧ atI xs i = some v ∧ Q v H
theorem ix_B : IxR X (rIxB X.K) := by
  intro value slice pins s σ H x y v u Q I rx ry h
  obtain ⟨b, p, xs, i, v', e1, e2, hq, ha, q⟩ := h
  cases b
  · exact ix_list value slice pins s σ H x y v u Q I rx ry ⟨p, xs, i, v', e1, e2, hq, ha, q⟩
  · exact ix_tup value slice pins s σ H x y v u Q I rx ry ⟨p, xs, i, v', e1, e2, hq, ha, q⟩
noncomputable def rLenB (K : PySem.W.Frag) : List V → Hp → VK → Prop := fun xs H Q => ∃ b p ys, xs = [.ref p] ∧ SqB b K H p ys ∧ Q (.int ys.length) H
theorem call_lenB : CallR X (.builtin "len") (rLenB X.K) := by
  intro pins s σ H xs us Q I r h
  obtain ⟨b, p, ys, e, hq, q⟩ := h
  exact call_len_seq pins s σ H xs us Q I r ⟨p, ys, e, hq.or, q⟩
noncomputable def rListB (K : PySem.W.Frag) : List V → Hp → VK → Prop := fun xs H Q => ∃ b p ys, xs = [.ref p] ∧ SqB b K H p ys ∧ ∀ l, H l = none → Q (.ref l) (upd H l (.lst ys))
theorem call_listB : CallR X (.type "list") (rListB X.K) := by
  intro pins s σ H xs us Q I r h
  obtain ⟨b, p, ys, e, hq, q⟩ := h
  exact call_list_of pins s σ H xs us Q I r ⟨p, ys, e, hq.or, q⟩
noncomputable def rTupB (K : PySem.W.Frag) : List V → Hp → VK → Prop := fun xs H Q => ∃ p ys, xs = [.ref p] ∧ ((SqL K H p ys ∧ ∀ l, H l = none → Q (.ref l) (upd H l (.tup ys))) ∨ (SqT K H p ys ∧ Q (.ref p) H))
theorem call_tupB : CallR X (.type "tuple") (rTupB X.K) := call_tuple_of
end
/-! ### for, over a sequence that stays -/
theorem for_seq {K : PySem.W.Frag} {b : Bool} {a : Addr} {xs : List V} {g : TG} {tb : TS} {D : Ends} {σ : St} {H : Hp} (Pv : Nat → St → Hp → Prop) (h0 : Pv 0 σ H) (hl : ∀ i σ H, i ≤ xs.length → Pv i σ H → SqB b K H a xs)
    (hs : ∀ i x σ H, xs[i]? = some x → Pv i σ H → g x σ H fun σ2 H2 => tb { D with nx := Pv (i + 1), ct := Pv (i + 1), bk := D.nx } σ2 H2) (hd : ∀ σ H, Pv xs.length σ H → D.nx σ H) :
    ∃ W : Nat → Nat → St → Hp → Prop, (∃ m, W 0 m σ H) ∧ ∀ i m σ H, W i m σ H →
      ((Its K b a).stop i H ∧ D.nx σ H) ∨ ((Its K b a).go i H ∧ ∃ N : St → Hp → Prop, (∀ σ' H', N σ' H' → ∃ m', m' < m ∧ W (i + 1) m' σ' H') ∧ ∀ x H', (Its K b a).yld i H x H' → g x σ H' fun σ2 H2 => tb { D with nx := N, ct := N, bk := D.nx } σ2 H2) := by
  cases b
  · exact for_list Pv h0 hl hs hd
  · exact for_tup Pv h0 hl hs hd
/-! ### comprehensions -/
/-- all that stood but at a stands still -/
noncomputable def SameX (a : Addr) (H H' : Hp) : Prop := ∀ b o, b ≠ a → H b = some o → H' b = some o
theorem Same.x {a : Addr} {H H' : Hp} (s : Same H H') : SameX a H H' := fun b o _ e => s b o e
section
variable {J : It} {g : TG} {tt : TOx} {te : TE} {n : Nat} {fr : List (Str × Nat)} {σ : St} {a : Addr} {H : Hp} {Q : VK} {K : PySem.W.Frag}
/-- P i zs H: behind i turns the list is zs -/
theorem cg_inv (len : Nat) (P : Nat → List V → Hp → Prop) (ha : H a = none) (hz : len ≤ 1000) (h0 : P 0 [] (upd H a (.lst [])))
    (hl : ∀ i zs H1, P i zs H1 → zs.length ≤ i) (mono : ∀ i zs H1 H2, P i zs H1 → SameX a H1 H2 → P i zs H2)
    (hgo : ∀ i H1, i < len → Same H H1 → J.go i H1) (hstop : ∀ H1, Same H H1 → J.stop len H1)
    (he : ∀ i H1 zs, i < len → Same H H1 → H1 a = some (.lst zs) → P i zs H1 → ∀ (ys : St) x H3, ys.length = n → J.yld i H1 x H3 → ∀ C : Option V → Hp → Prop,
      (∀ y H2, Same H1 H2 → P (i + 1) (zs ++ [y]) H2 → C (some y) H2) → (∀ H2, Same H1 H2 → P (i + 1) zs H2 → C none H2) →
      g x (ys ++ frees fr σ) H3 fun σ4 H4 => (∃ ys' : St, ys'.length = n ∧ σ4 = ys' ++ frees fr σ) ∧ tt σ4 H4 C)
    (hd : ∀ H1 ys, Same H H1 → H1 a = some (.lst ys) → P len ys H1 → Q (.ref a) H1) : CompWG J g tt n fr σ a H Q := by
  refine ⟨fun i m H1 => m = len - i ∧ i ≤ len ∧ Same H H1 ∧ ∃ zs, H1 a = some (.lst zs) ∧ P i zs H1, ⟨len, by simp, Nat.zero_le _, Same.new ha, [], upd_same, h0⟩, ?_⟩
  rintro i m H1 ⟨rfl, hi, s1, zs, ez, p⟩
  by_cases hlt : i < len
  · refine .inr ⟨hgo i H1 hlt s1, fun H' => i + 1 ≤ len ∧ Same H H' ∧ ∃ zs, H' a = some (.lst zs) ∧ P (i + 1) zs H', fun H' q => ⟨len - (i + 1), by omega, rfl, q⟩, fun ys x H3 hys hy => ?_⟩
    refine he i H1 zs hlt s1 ez p ys x H3 hys hy _ (fun y H2 s2 p2 => ?_) fun H2 s2 p2 => ?_
    · refine ⟨zs, s2 _ _ ez, small1000 (by have := hl i zs H1 p; omega), hlt, Same.over ha (s1.trans s2), _, upd_same, mono _ _ _ _ p2 fun b o hb e => ?_⟩
      rw [upd_ne hb]
      exact e
    · exact ⟨hlt, s1.trans s2, zs, s2 _ _ ez, p2⟩
  · have e : i = len := by omega
    subst e
    exact .inl ⟨hstop H1 s1, hd H1 zs s1 ez p⟩
/-- R i y H: the element of turn i is y -/
theorem cg_rel (len : Nat) (R : Nat → V → Hp → Prop) (ha : H a = none) (hz : len ≤ 1000) (mono : ∀ i y H1 H2, R i y H1 → SameX a H1 H2 → R i y H2)
    (hgo : ∀ i H1, i < len → Same H H1 → J.go i H1) (hstop : ∀ H1, Same H H1 → J.stop len H1)
    (he : ∀ i H1 zs, i < len → Same H H1 → H1 a = some (.lst zs) → ∀ (ys : St) x H3, ys.length = n → J.yld i H1 x H3 → ∀ Q' : VK, (∀ y H2, Same H1 H2 → R i y H2 → Q' y H2) →
      g x (ys ++ frees fr σ) H3 fun σ4 H4 => (∃ ys' : St, ys'.length = n ∧ σ4 = ys' ++ frees fr σ) ∧ te σ4 H4 Q')
    (hd : ∀ H1 ys, Same H H1 → H1 a = some (.lst ys) → ys.length = len → (∀ j y, ys[j]? = some y → R j y H1) → Q (.ref a) H1) : CompWG J g (tEl te) n fr σ a H Q := by
  refine cg_inv len (fun i zs H1 => zs.length = i ∧ ∀ j y, zs[j]? = some y → R j y H1) ha hz ⟨rfl, fun j y e => by simp at e⟩ (fun i zs H1 p => Nat.le_of_eq p.1) (fun i zs H1 H2 p s => ⟨p.1, fun j y e => mono _ _ _ _ (p.2 j y e) s⟩) hgo hstop ?_ fun H1 ys s e p => hd H1 ys s e p.1 p.2
  intro i H1 zs hi s1 ez p ys x H3 hys hy C hC _
  refine he i H1 zs hi s1 ez ys x H3 hys hy _ fun y H2 s2 r => hC y H2 s2 ⟨by simp [p.1], fun j z e => ?_⟩
  by_cases hj : j < zs.length
  · rw [List.getElem?_append_left hj] at e
    exact mono _ _ _ _ (p.2 j z e) s2.x
  · rw [List.getElem?_append_right (by omega)] at e
    have e0 : j - zs.length = 0 := by
      by_cases h0 : j - zs.length = 0
      · exact h0
      · rw [List.getElem?_eq_none (by simp; omega)] at e; cases e
    rw [e0] at e
    cases Option.some.inj e
    have : j = i := by have := p.1; omega
    rw [this]
    exact r
/-- a name over a sequence -/
theorem cg_seq {b : Bool} {l : Addr} {xs : List V} (R : Nat → V → Hp → Prop) (ha : H a = none) (hS : SqB b K H l xs) (hz : xs.length ≤ 1000) (mono : ∀ i y H1 H2, R i y H1 → SameX a H1 H2 → R i y H2)
    (he : ∀ i x H1 zs, xs[i]? = some x → Same H H1 → H1 a = some (.lst zs) → ∀ Q' : VK, (∀ y H2, Same H1 H2 → R i y H2 → Q' y H2) → te (some x :: frees fr σ) H1 Q')
    (hd : ∀ H1 ys, Same H H1 → H1 a = some (.lst ys) → ys.length = xs.length → (∀ j y, ys[j]? = some y → R j y H1) → Q (.ref a) H1) : CompWG (Its K b l) (gName 0) (tEl te) 1 fr σ a H Q := by
  refine cg_rel xs.length R ha hz mono (fun i H1 hi s => Its.go (hS.up s) (x := xs[i]) (by simp [hi])) (fun H1 s => Its.stop (hS.up s) (Nat.le_refl _)) ?_ hd
  intro i H1 zs hi s1 ez ys x H3 hys hy Q' hQ'
  obtain ⟨e1, e2⟩ := Its.yld (hS.up s1) hy
  subst e1
  match ys, hys with
  | [o], _ => exact ⟨⟨[some x], rfl, rfl⟩, he i x H3 zs e2 s1 ez Q' hQ'⟩
/-- a name over a range -/
theorem cg_range {lo : Int} {len : Nat} (R : Nat → V → Hp → Prop) (ha : H a = none) (hz : len ≤ 1000) (mono : ∀ i y H1 H2, R i y H1 → SameX a H1 H2 → R i y H2)
    (he : ∀ (i : Nat) H1 zs, i < len → Same H H1 → H1 a = some (.lst zs) → ∀ Q' : VK, (∀ y H2, Same H1 H2 → R i y H2 → Q' y H2) → te (some (.int (lo + i)) :: frees fr σ) H1 Q')
    (hd : ∀ H1 ys, Same H H1 → H1 a = some (.lst ys) → ys.length = len → (∀ j y, ys[j]? = some y → R j y H1) → Q (.ref a) H1) : CompWG (Itr lo len) (gName 0) (tEl te) 1 fr σ a H Q := by
  refine cg_rel len R ha hz mono (fun i H1 hi s => hi) (fun H1 s => Nat.le_refl _) ?_ hd
  intro i H1 zs hi s1 ez ys x H3 hys hy Q' hQ'
  obtain ⟨e1, e2⟩ := hy
  subst e1 e2
  match ys, hys with
  | [o], _ => exact ⟨⟨[_], rfl, rfl⟩, he i H3 zs hi s1 ez Q' hQ'⟩
/-- two names over two sequences -/
theorem cg_zip {b1 b2 : Bool} {l1 l2 : Addr} {xs ys : List V} (R : Nat → V → Hp → Prop) (ha : H a = none) (hS1 : SqB b1 K H l1 xs) (hS2 : SqB b2 K H l2 ys) (hlen : xs.length = ys.length) (hz : xs.length ≤ 1000) (mono : ∀ i y H1 H2, R i y H1 → SameX a H1 H2 → R i y H2)
    (he : ∀ i x y H1 zs, xs[i]? = some x → ys[i]? = some y → Same H H1 → H1 a = some (.lst zs) → ∀ Q' : VK, (∀ y H2, Same H1 H2 → R i y H2 → Q' y H2) → te (some x :: some y :: frees fr σ) H1 Q')
    (hd : ∀ H1 zs, Same H H1 → H1 a = some (.lst zs) → zs.length = xs.length → (∀ j y, zs[j]? = some y → R j y H1) → Q (.ref a) H1) :
    CompWG (Itz K b1 l1 b2 l2) (gTup K 2 (gCons (gName 0) (gCons (gName 1) gNil))) (tEl te) 2 fr σ a H Q := by
  refine cg_rel xs.length R ha hz mono (fun i H1 hi s => ⟨xs, ys, xs[i], ys[i], hS1.up s, hS2.up s, by simp [hi], by simp⟩) (fun H1 s => ⟨xs, ys, hS1.up s, hS2.up s, .inl (by simp)⟩) ?_ hd
  intro i H1 zs hi s1 ez os x H3 hos hy Q' hQ'
  obtain ⟨p, x, y, rfl, hp, rfl, hx, hy⟩ := hy
  refine ⟨p, [x, y], rfl, SqT.of upd_same, rfl, x, [y], rfl, y, [], rfl, rfl, ?_⟩
  match os, hos with
  | [o, o'], _ =>
    refine ⟨⟨[some x, some y], rfl, rfl⟩, he i x y _ zs (hx xs (hS1.up s1)) (hy ys (hS2.up s1)) (s1.trans (Same.new hp)) (Same.new hp _ _ ez) Q' fun y H2 s2 r => hQ' y H2 ((Same.new hp).trans s2) r⟩
end
/-! ### rows of ints -/
/-- rows of ints at a: a list (false) or tuple (true) of lists or tuples -/
noncomputable def MatB (b1 b2 : Bool) (K : PySem.W.Frag) (H : Hp) (a : Addr) (rows : List (List Int)) : Prop := ∃ ps : List Addr, SqB b1 K H a (ps.map V.ref) ∧ ps.length = rows.length ∧ ∀ (i : Nat) (p : Addr) (r : List Int), ps[i]? = some p → rows[i]? = some r → SqB b2 K H p (r.map V.int)
theorem MatB.up {b1 b2 : Bool} {K : PySem.W.Frag} {H H' : Hp} {a : Addr} {rows : List (List Int)} (h : MatB b1 b2 K H a rows) (s : Same H H') : MatB b1 b2 K H' a rows := let ⟨ps, h1, h2, h3⟩ := h; ⟨ps, h1.up s, h2, fun i p r e1 e2 => (h3 i p r e1 e2).up s⟩
/-- a list of new lists of ints, at turn j of a comprehension that makes a -/
noncomputable def RowR (a : Addr) (f : Nat → List Int) (j : Nat) (y : V) (H : Hp) : Prop := ∃ p, y = .ref p ∧ p ≠ a ∧ H p = some (.lst ((f j).map V.int))
theorem RowR.mono {a : Addr} {f : Nat → List Int} (i : Nat) (y : V) (H1 H2 : Hp) (h : RowR a f i y H1) (s : SameX a H1 H2) : RowR a f i y H2 := let ⟨p, e, n, q⟩ := h; ⟨p, e, n, s _ _ n q⟩
theorem MatB.of {K : PySem.W.Frag} {H : Hp} {a : Addr} {f : Nat → List Int} {ys : List V} (h : H a = some (.lst ys)) (hr : ∀ (j : Nat) y, ys[j]? = some y → RowR a f j y H) : MatB false false K H a ((List.range ys.length).map f) := by
  have hp : ∃ ps : List Addr, ys = ps.map V.ref := by
    clear h
    have : ∀ (zs : List V) (k : Nat), (∀ (j : Nat) y, zs[j]? = some y → RowR a f (j + k) y H) → ∃ ps : List Addr, zs = ps.map V.ref := by
      intro zs
      induction zs with
      | nil => intro k _; exact ⟨[], rfl⟩
      | cons z r ih =>
        intro k hz
        obtain ⟨p, e, _⟩ := hz 0 z rfl
        obtain ⟨ps, e2⟩ := ih (k + 1) fun j y q => by
          have := hz (j + 1) y (by simpa using q)
          rwa [Nat.add_assoc, Nat.add_comm 1 k] at this
        exact ⟨p :: ps, by rw [e, e2]; rfl⟩
    exact this ys 0 hr
  obtain ⟨ps, rfl⟩ := hp
  refine ⟨ps, SqB.lst h, by simp, fun i p r e1 e2 => ?_⟩
  obtain ⟨p', e, _, q⟩ := hr i (.ref p) (by simp [e1])
  cases e
  have hi : i < ps.length := (List.getElem?_eq_some_iff.mp e1).1
  have : r = f i := by
    rw [List.getElem?_map, List.length_map, List.getElem?_range hi] at e2
    exact (Option.some.inj e2).symm
  rw [this]
  exact SqB.lst q
end L2

/-! TREES OF INTS as data: what == and != ask of them. -/
namespace L2
open PySem PySem.Spec PyProof.Rows
/-- a tree of ints, of lists and tuples, at most n deep -/
noncomputable def iT : Nat → PyData → Bool
  | _, .int _ => true
  | n + 1, .list xs => xs.all (iT n)
  | n + 1, .tuple xs => xs.all (iT n)
  | _, _ => false
theorem iT_lay : ∀ (n : Nat) (d : PyData), iT n d = true → d.canLay0 = true ∧ d.depth ≤ n
  | 0, .int _, _ => by simp [PyData.canLay0, PyData.depth]
  | n + 1, .int _, _ => by simp [PyData.canLay0, PyData.depth]
  | n + 1, .list xs, h => by
    have all : ∀ ys : List PyData, ys.all (iT n) = true → PyData.canLayAll0 ys = true ∧ PyData.depthAll ys ≤ n := by
      intro ys
      induction ys with
      | nil => intro _; simp [PyData.canLayAll0, PyData.depthAll]
      | cons y r ih =>
        intro hy
        rw [List.all_cons, Bool.and_eq_true] at hy
        have h1 := iT_lay n y hy.1
        have h2 := ih hy.2
        simp only [PyData.canLayAll0, PyData.depthAll, Bool.and_eq_true]
        exact ⟨⟨h1.1, h2.1⟩, by omega⟩
    have := all xs (by simpa [iT] using h)
    simp only [PyData.canLay0, PyData.depth]
    exact ⟨this.1, by omega⟩
  | n + 1, .tuple xs, h => by
    have all : ∀ ys : List PyData, ys.all (iT n) = true → PyData.canLayAll0 ys = true ∧ PyData.depthAll ys ≤ n := by
      intro ys
      induction ys with
      | nil => intro _; simp [PyData.canLayAll0, PyData.depthAll]
      | cons y r ih =>
        intro hy
        rw [List.all_cons, Bool.and_eq_true] at hy
        have h1 := iT_lay n y hy.1
        have h2 := ih hy.2
        simp only [PyData.canLayAll0, PyData.depthAll, Bool.and_eq_true]
        exact ⟨⟨h1.1, h2.1⟩, by omega⟩
    have := all xs (by simpa [iT] using h)
    simp only [PyData.canLay0, PyData.depth]
    exact ⟨this.1, by omega⟩
theorem iT_mix : ∀ (n : Nat) (d d' : PyData), iT n d = true → iT n d' = true → SeqAt.noMix d d' = true := by
  intro n
  induction n with
  | zero => intro d d' h h'; cases d <;> simp [iT] at h <;> cases d' <;> simp [iT] at h' <;> simp [SeqAt.noMix]
  | succ n ih =>
    have all : ∀ ys zs : List PyData, ys.all (iT n) = true → zs.all (iT n) = true → SeqAt.noMixAll ys zs = true := by
      intro ys
      induction ys with
      | nil => intro zs _ _; cases zs <;> simp [SeqAt.noMixAll]
      | cons y r ihr =>
        intro zs hy hz
        cases zs with
        | nil => simp [SeqAt.noMixAll]
        | cons z t =>
          rw [List.all_cons, Bool.and_eq_true] at hy hz
          simp only [SeqAt.noMixAll, Bool.and_eq_true]
          exact ⟨ih y z hy.1 hz.1, ihr t hy.2 hz.2⟩
    intro d d' h h'
    cases d <;> simp only [iT, Bool.false_eq_true] at h <;> cases d' <;> simp only [iT, Bool.false_eq_true] at h' <;> simp only [SeqAt.noMix]
    · exact all _ _ h h'
    · exact all _ _ h h'
theorem iT_same : ∀ (n : Nat) (d d' : PyData), iT n d = true → iT n d' = true → (same d d' = true ↔ d = d') := by
  intro n
  induction n with
  | zero => intro d d' h h'; cases d <;> simp [iT] at h <;> cases d' <;> simp [iT] at h' <;> simp [same]
  | succ n ih =>
    have all : ∀ ys zs : List PyData, ys.all (iT n) = true → zs.all (iT n) = true → (sameAll ys zs = true ↔ ys = zs) := by
      intro ys
      induction ys with
      | nil => intro zs _ _; cases zs <;> simp [sameAll]
      | cons y r ihr =>
        intro zs hy hz
        cases zs with
        | nil => simp [sameAll]
        | cons z t =>
          rw [List.all_cons, Bool.and_eq_true] at hy hz
          simp only [sameAll, Bool.and_eq_true, List.cons.injEq]
          rw [ih y z hy.1 hz.1, ihr t hy.2 hz.2]
    intro d d' h h'
    cases d <;> simp only [iT, Bool.false_eq_true] at h <;> cases d' <;> simp only [iT, Bool.false_eq_true] at h' <;> simp only [same, beq_iff_eq, PyData.int.injEq, PyData.list.injEq, PyData.tuple.injEq, reduceCtorEq, Bool.false_eq_true]
    · exact all _ _ h h'
    · exact all _ _ h h'
theorem iT_shaped {n : Nat} {d : PyData} (hn : n ≤ 64) (h : iT n d = true) : SeqAt.shaped d = true := by
  have := iT_lay n d h
  unfold SeqAt.shaped
  rw [Bool.and_eq_true]
  exact ⟨this.1, decide_eq_true (by omega)⟩
section
variable {K : PySem.W.Frag} {H : Hp} {x y : V} {d d' : PyData} {Q : VK}
/-- x == y -/
theorem eqD_of (n : Nat) (hn : n ≤ 64) (h1 : Dt K H x d) (h2 : Dt K H y d') (t1 : iT n d = true) (t2 : iT n d' = true) {b : Bool} (hb : b = true ↔ d = d') (q : Q (.bl b) H) : rEqD K x y H Q := by
  refine ⟨d, d', h1, h2, iT_shaped hn t1, iT_shaped hn t2, iT_mix n d d' t1 t2, ?_⟩
  have := iT_same n d d' t1 t2
  have e : same d d' = b := by
    cases hs : same d d' <;> cases b <;> simp_all
  rw [e]
  exact q
theorem neD_of (n : Nat) (hn : n ≤ 64) (h1 : Dt K H x d) (h2 : Dt K H y d') (t1 : iT n d = true) (t2 : iT n d' = true) {b : Bool} (hb : b = true ↔ d = d') (q : Q (.bl (!b)) H) : rNeD K x y H Q := by
  refine ⟨d, d', h1, h2, iT_shaped hn t1, iT_shaped hn t2, iT_mix n d d' t1 t2, ?_⟩
  have := iT_same n d d' t1 t2
  have e : same d d' = b := by
    cases hs : same d d' <;> cases b <;> simp_all
  rw [e]
  exact q
end
/-- rows as data -/
noncomputable def seqD (b : Bool) (ds : List PyData) : PyData := match b with | false => .list ds | true => .tuple ds
noncomputable def intsD (b : Bool) (ns : List Int) : PyData := seqD b (ns.map PyData.int)
theorem iT_ints (b : Bool) (n : Nat) (ns : List Int) : iT (n + 1) (intsD b ns) = true := by
  have : (ns.map PyData.int).all (iT n) = true := by
    rw [List.all_eq_true]
    intro d hd
    obtain ⟨i, _, rfl⟩ := List.mem_map.mp hd
    cases n <;> rfl
  cases b <;> simpa [intsD, seqD, iT] using this
theorem Dt.seqB {b : Bool} {K : PySem.W.Frag} {H : Hp} {a : Addr} {xs : List V} {ds : List PyData} (h : SqB b K H a xs) (hd : Dts K H xs ds) : Dt K H (.ref a) (seqD b ds) := by
  cases b
  · exact .lst h hd
  · exact .tup h hd
theorem Dt.intsB {b : Bool} {K : PySem.W.Frag} {H : Hp} {a : Addr} {ns : List Int} (h : SqB b K H a (ns.map V.int)) : Dt K H (.ref a) (intsD b ns) := Dt.seqB h (Dts.ints ns)
end L2

/-! SMALL WORDS, II; rows of whole numbers. -/
namespace L2
open PySem PySem.Spec PyProof.Rows
section
variable {wi : TI} {g : TG} {tt : TOx} {te : TE} {tc : TT} {n : Nat} {fr : List (Str × Nat)} {σ : St} {H : Hp} {Q : VK}
theorem compE_st (h : ∀ B : TE, B = te → wi σ H fun J H1 => ∀ a, H1 a = none → CompWG J g (tEl B) n fr σ a H1 Q) : tCompG wi g (tEl te) n fr σ H Q := h _ rfl
theorem compI_st (h : ∀ (C : TT) (B : TE), C = tc → B = te → wi σ H fun J H1 => ∀ a, H1 a = none → CompWG J g (tElIf C B) n fr σ a H1 Q) : tCompG wi g (tElIf tc te) n fr σ H Q := h _ _ rfl rfl
end
noncomputable def seqO (b : Bool) (xs : List V) : HO := match b with | false => .lst xs | true => .tup xs
noncomputable def rSlB (K : PySem.W.Frag) : V → Option Int → Option Int → Hp → VK → Prop := fun x lo hi H Q => ∃ b a xs, x = .ref a ∧ SqB b K H a xs ∧
  (b = true → ¬ (HT.sIx xs.length 0 lo = 0 ∧ HT.sIx xs.length xs.length hi = xs.length)) ∧ ∀ p, H p = none → Q (.ref p) (upd H p (seqO b (cutV xs lo hi)))
theorem sl_B {X : Cx} : SlR X (rSlB X.K) := by
  intro pins s σ H x v vl vu lo hi sl Q I rx hs pl pu h
  obtain ⟨b, a, xs, e, hq, hw, q⟩ := h
  cases b
  · exact sl_list pins s σ H x v vl vu lo hi sl Q I rx hs pl pu ⟨a, xs, e, hq, q⟩
  · exact sl_tup pins s σ H x v vl vu lo hi sl Q I rx hs pl pu ⟨a, xs, e, hq, hw rfl, q⟩
/-- a new list of new lists of ints -/
noncomputable def MatL (H : Hp) (a : Addr) (rows : List (List Int)) : Prop := ∃ ps : List Addr, H a = some (.lst (ps.map V.ref)) ∧ ps.length = rows.length ∧ ∀ (i : Nat) (p : Addr) (r : List Int), ps[i]? = some p → rows[i]? = some r → p ≠ a ∧ H p = some (.lst (r.map V.int))
theorem MatL.b {K : PySem.W.Frag} {H : Hp} {a : Addr} {rows : List (List Int)} (h : MatL H a rows) : MatB false false K H a rows := let ⟨ps, h1, h2, h3⟩ := h; ⟨ps, SqB.lst h1, h2, fun i p r e1 e2 => SqB.lst (h3 i p r e1 e2).2⟩
theorem MatL.up {H H' : Hp} {a : Addr} {rows : List (List Int)} (h : MatL H a rows) (s : Same H H') : MatL H' a rows := let ⟨ps, h1, h2, h3⟩ := h; ⟨ps, s _ _ h1, h2, fun i p r e1 e2 => ⟨(h3 i p r e1 e2).1, s _ _ (h3 i p r e1 e2).2⟩⟩
theorem MatL.of {H : Hp} {a : Addr} {f : Nat → List Int} {ys : List V} (h : H a = some (.lst ys)) (hr : ∀ (j : Nat) y, ys[j]? = some y → RowR a f j y H) : MatL H a ((List.range ys.length).map f) := by
  have hp : ∃ ps : List Addr, ys = ps.map V.ref := by
    clear h
    have : ∀ (zs : List V) (k : Nat), (∀ (j : Nat) y, zs[j]? = some y → RowR a f (j + k) y H) → ∃ ps : List Addr, zs = ps.map V.ref := by
      intro zs
      induction zs with
      | nil => intro k _; exact ⟨[], rfl⟩
      | cons z r ih =>
        intro k hz
        obtain ⟨p, e, _⟩ := hz 0 z rfl
        obtain ⟨ps, e2⟩ := ih (k + 1) fun j y q => by
          have := hz (j + 1) y (by simpa using q)
          rwa [Nat.add_assoc, Nat.add_comm 1 k] at this
        exact ⟨p :: ps, by rw [e, e2]; rfl⟩
    exact this ys 0 hr
  obtain ⟨ps, rfl⟩ := hp
  refine ⟨ps, h, by simp, fun i p r e1 e2 => ?_⟩
  obtain ⟨p', e, n, q⟩ := hr i (.ref p) (by simp [e1])
  cases e
  have hi : i < ps.length := (List.getElem?_eq_some_iff.mp e1).1
  have : r = f i := by
    rw [List.getElem?_map, List.length_map, List.getElem?_range hi] at e2
    exact (Option.some.inj e2).symm
  rw [this]
  exact ⟨n, q⟩
theorem MatB.row {b1 b2 : Bool} {K : PySem.W.Frag} {H : Hp} {a : Addr} {rows : List (List Int)} (h : MatB b1 b2 K H a rows) {i : Nat} {r : List Int} (e : rows[i]? = some r) : ∃ ps : List Addr, ∃ p, SqB b1 K H a (ps.map V.ref) ∧ (ps.map V.ref)[i]? = some (.ref p) ∧ (ps.map V.ref).length = rows.length ∧ SqB b2 K H p (r.map V.int) := by
  obtain ⟨ps, h1, h2, h3⟩ := h
  have hi : i < ps.length := by have := (List.getElem?_eq_some_iff.mp e).1; omega
  exact ⟨ps, ps[i], h1, by simp [hi], by simp [h2], h3 i _ r (by simp [hi]) e⟩
/-- .. walked -/
theorem MatB.walk {b1 b2 : Bool} {K : PySem.W.Frag} {H : Hp} {a : Addr} {rows : List (List Int)} (h : MatB b1 b2 K H a rows) : ∃ xs : List V, SqB b1 K H a xs ∧ xs.length = rows.length ∧ ∀ (i : Nat) x, xs[i]? = some x → ∃ p r, x = .ref p ∧ rows[i]? = some r ∧ SqB b2 K H p (r.map V.int) := by
  obtain ⟨ps, h1, h2, h3⟩ := h
  refine ⟨_, h1, by simp [h2], fun i x e => ?_⟩
  rw [List.getElem?_map] at e
  cases q : ps[i]? with
  | none => rw [q] at e; cases e
  | some p =>
    rw [q] at e
    have hi : i < rows.length := by have := (List.getElem?_eq_some_iff.mp q).1; omega
    exact ⟨p, rows[i], (Option.some.inj e).symm, by simp [hi], h3 i p _ q (by simp [hi])⟩
theorem atI_at {α : Type} {xs : List α} {k : Nat} {x : α} {i : Int} (h : xs[k]? = some x) (hi : i = k) : atI xs i = some x := by
  subst hi
  exact atI_nat h
theorem ints_at {ns : List Int} {i : Nat} {x : V} (h : (ns.map V.int)[i]? = some x) : ∃ n, ns[i]? = some n ∧ x = .int n := by
  rw [List.getElem?_map] at h
  cases e : ns[i]? with
  | none => rw [e] at h; cases h
  | some n => rw [e] at h; exact ⟨n, rfl, (Option.some.inj h).symm⟩
theorem int_at {ns : List Int} {i : Nat} {n : Int} (h : ns[i]? = some n) : (ns.map V.int)[i]? = some (.int n) := by rw [List.getElem?_map, h]; rfl
theorem getD_at {ns : List Int} {k : Nat} (h : k < ns.length) : ns[k]? = some (ns.getD k 0) := by simp [h]
/-! ### what is reckoned -/
noncomputable def colI (k : Nat) (rows : List (List Int)) : List Int := rows.map fun r => r.getD k 0
noncomputable def dotI (ms ns : List Int) : Int := (List.zipWith (· * ·) ms ns).sum
noncomputable def turnM (w : Nat) (rows : List (List Int)) : List (List Int) := (List.range w).map fun k => colI k rows
noncomputable def mulM (w : Nat) (A B : List (List Int)) : List (List Int) := A.map fun r => (List.range w).map fun k => dotI r (colI k B)
end L2
namespace L2
open PySem PySem.Spec PyProof.Rows
section
variable {K : PySem.W.Frag} {g : TG} {tb : TS} {σ : St} {H : Hp} {nx : St → Hp → Prop} {rt : VK}
/-- the loops, with the ways out one by one -/
noncomputable abbrev LoopW (J : It) (g : TG) (tb : TS) (nx : St → Hp → Prop) (rt : VK) (σ : St) (H : Hp) : Prop := ∃ W : Nat → Nat → St → Hp → Prop, (∃ m, W 0 m σ H) ∧ ∀ i m σ H, W i m σ H →
  (J.stop i H ∧ nx σ H) ∨ (J.go i H ∧ ∃ N : St → Hp → Prop, (∀ σ' H', N σ' H' → ∃ m', m' < m ∧ W (i + 1) m' σ' H') ∧ ∀ x H', J.yld i H x H' → g x σ H' fun σ2 H2 => tb { nx := N, rt := rt, bk := nx, ct := N } σ2 H2)
theorem fr_seq {b : Bool} {a : Addr} {xs : List V} (Pv : Nat → St → Hp → Prop) (h0 : Pv 0 σ H) (hl : ∀ i σ H, i ≤ xs.length → Pv i σ H → SqB b K H a xs)
    (hs : ∀ i x σ H, xs[i]? = some x → Pv i σ H → g x σ H fun σ2 H2 => tb { nx := Pv (i + 1), rt := rt, bk := nx, ct := Pv (i + 1) } σ2 H2) (hd : ∀ σ H, Pv xs.length σ H → nx σ H) : LoopW (Its K b a) g tb nx rt σ H :=
  for_seq (D := { nx := nx, rt := rt, bk := nx, ct := nx }) Pv h0 hl hs hd
end
/-- a[i][k] of rows -/
theorem mat_ix {b1 b2 : Bool} {K : PySem.W.Frag} {H : Hp} {a : Addr} {rows : List (List Int)} {i k : Nat} {r : List Int} {x : Int} {I J : Int} {Q : VK} (h : MatB b1 b2 K H a rows) (e : rows[i]? = some r) (e2 : r[k]? = some x) (hi : I = i) (hk : J = k) (q : Q (.int x) H) :
    rIxB K (.ref a) (.int I) H fun v H1 => rIxB K v (.int J) H1 Q := by
  obtain ⟨ps, p, k1, k2, k3, k4⟩ := h.row e
  exact ⟨b1, a, _, _, _, rfl, rfl, k1, atI_at k2 hi, b2, p, _, _, _, rfl, rfl, k4, atI_at (int_at e2) hk, q⟩
/-- a[i] of rows -/
theorem mat_row {b1 b2 : Bool} {K : PySem.W.Frag} {H : Hp} {a : Addr} {rows : List (List Int)} {i : Nat} {r : List Int} {I : Int} {Q : VK} (h : MatB b1 b2 K H a rows) (e : rows[i]? = some r) (hi : I = i) (q : ∀ p, SqB b2 K H p (r.map V.int) → Q (.ref p) H) :
    rIxB K (.ref a) (.int I) H Q := by
  obtain ⟨ps, p, k1, k2, k3, k4⟩ := h.row e
  exact ⟨b1, a, _, _, _, rfl, rfl, k1, atI_at k2 hi, q p k4⟩
/-- len(a) of rows -/
theorem mat_len {b1 b2 : Bool} {K : PySem.W.Frag} {H : Hp} {a : Addr} {rows : List (List Int)} {Q : VK} (h : MatB b1 b2 K H a rows) (q : Q (.int rows.length) H) : rLenB K [.ref a] H Q := by
  obtain ⟨ps, h1, h2, h3⟩ := h
  refine ⟨b1, a, _, rfl, h1, ?_⟩
  rw [List.length_map, h2]
  exact q
/-- len(p) of ints -/
theorem ints_len {b : Bool} {K : PySem.W.Frag} {H : Hp} {a : Addr} {ns : List Int} {Q : VK} (h : SqB b K H a (ns.map V.int)) (q : Q (.int ns.length) H) : rLenB K [.ref a] H Q := by
  refine ⟨b, a, _, rfl, h, ?_⟩
  rw [List.length_map]
  exact q
end L2

/-! RANGES WITH A STEP; names op= ..; lists of new rows, by turns. -/
namespace L2
open PySem PySem.Spec PyProof.Rows
section
variable {X : Cx} {tg : Expr}
end
section
variable {g : TG} {tb : TS} {σ : St} {H : Hp} {nx : St → Hp → Prop} {rt : VK}
end
/-- zs are new lists of ints -/
noncomputable def RefRows (a : Addr) (H : Hp) (zs : List V) (M : List (List Int)) : Prop := ∃ ps : List Addr, zs = ps.map V.ref ∧ ps.length = M.length ∧ ∀ (j : Nat) (p : Addr) (r : List Int), ps[j]? = some p → M[j]? = some r → p ≠ a ∧ H p = some (.lst (r.map V.int))
theorem RefRows.nil {a : Addr} {H : Hp} : RefRows a H [] [] := ⟨[], rfl, rfl, fun j p r e => by simp at e⟩
theorem RefRows.len {a : Addr} {H : Hp} {zs : List V} {M : List (List Int)} (h : RefRows a H zs M) : zs.length = M.length := let ⟨ps, e, l, _⟩ := h; by rw [e, List.length_map, l]
theorem RefRows.mono {a : Addr} {H H' : Hp} {zs : List V} {M : List (List Int)} (h : RefRows a H zs M) (s : SameX a H H') : RefRows a H' zs M := let ⟨ps, e, l, q⟩ := h; ⟨ps, e, l, fun j p r e1 e2 => ⟨(q j p r e1 e2).1, s _ _ (q j p r e1 e2).1 (q j p r e1 e2).2⟩⟩
/-- cuts of ints -/
theorem cut_ints (ns : List Int) (lo hi : Option Int) : cutV (ns.map V.int) lo hi = ((ns.drop (HT.sIx ns.length 0 lo)).take (HT.sIx ns.length ns.length hi - HT.sIx ns.length 0 lo)).map V.int := by
  unfold cutV
  rw [List.length_map, List.map_take, List.map_drop]
end L2

/-! COPIES OF ROWS. -/
namespace L2
open PySem PySem.Spec PyProof.Rows
section
variable {K : PySem.W.Frag} {H : Hp} {a a1 : Addr} {M : List (List Int)} {σ : St} {Q : VK} {b1 b2 : Bool}
/-- a new list of new tuples of ints -/
noncomputable def MatT (H : Hp) (a : Addr) (rows : List (List Int)) : Prop := ∃ ps : List Addr, H a = some (.lst (ps.map V.ref)) ∧ ps.length = rows.length ∧ ∀ (i : Nat) (p : Addr) (r : List Int), ps[i]? = some p → rows[i]? = some r → H p = some (.tup (r.map V.int))
/-- [tuple(row) for row in rows], of lists -/
theorem copy_tup (hM : MatB b1 false K H a M) (hl : M.length ≤ 1000) (ha1 : H a1 = none) (hQ : ∀ H1, Same H H1 → MatT H1 a1 M → Q (.ref a1) H1) : CompWG (Its K b1 a) (gName 0) (tEl (tCB (rTupB K) (tCons (tVar 0) tNil))) 1 [] σ a1 H Q := by
  obtain ⟨xs, x1, x2, x3⟩ := hM.walk
  refine cg_seq (fun j y H1 => ∃ p r, y = .ref p ∧ M[j]? = some r ∧ p ≠ a1 ∧ H1 p = some (.tup (r.map V.int))) ha1 x1 (by omega) (fun i y H1 H2 ⟨p, r, e1, e2, e3, e4⟩ s => ⟨p, r, e1, e2, e3, s _ _ e3 e4⟩) ?_ ?_
  · intro i x H1 zs ex s1 ez Q' hQ'
    obtain ⟨p, r, rfl, er, hp⟩ := x3 i x ex
    exact ⟨_, rfl, p, _, rfl, .inl ⟨hp.up s1, fun l hl1 => hQ' _ _ (Same.new hl1) ⟨l, r, rfl, er, Ne.symm (ne_of_none ez hl1), upd_same⟩⟩⟩
  · intro H1 ys s1 e1 hly hr1
    have hps : ∃ ps : List Addr, ys = ps.map V.ref := by
      clear e1 hly
      have : ∀ (zs : List V), (∀ (j : Nat) y, zs[j]? = some y → ∃ p : Addr, y = .ref p) → ∃ ps : List Addr, zs = ps.map V.ref := by
        intro zs
        induction zs with
        | nil => intro _; exact ⟨[], rfl⟩
        | cons z r ih =>
          intro hz
          obtain ⟨p, e⟩ := hz 0 z rfl
          obtain ⟨ps, e2⟩ := ih fun j y q => hz (j + 1) y (by simpa using q)
          exact ⟨p :: ps, by rw [e, e2]; rfl⟩
      exact this ys fun j y e => let ⟨p, r, e1, _⟩ := hr1 j y e; ⟨p, e1⟩
    obtain ⟨ps, rfl⟩ := hps
    refine hQ H1 s1 ⟨ps, e1, by simp at hly; omega, fun i p r e2 e3 => ?_⟩
    obtain ⟨p', r', e4, e5, _, e6⟩ := hr1 i (.ref p) (by simp [e2])
    cases e4
    rw [e3] at e5
    cases e5
    exact e6
/-- tuple(..) of it -/
theorem MatT.tuple {l : Addr} (h : MatT H a M) (hl : H l = none) : ∃ zs, H a = some (.lst zs) ∧ MatB true true K (upd H l (.tup zs)) l M := by
  obtain ⟨ps, h1, h2, h3⟩ := h
  exact ⟨_, h1, ps, SqB.tup upd_same, h2, fun i p r e1 e2 => SqB.tup (Same.new hl _ _ (h3 i p r e1 e2))⟩
end
end L2

/-! NAMES OF THE MODULE that stand for an int or a text. -/
namespace L2
open PySem PySem.Spec PyProof.Rows
end L2
/-! LITERALS: lists of ints, rows, lists of rows, as they are written. -/
namespace L2
open PySem PySem.Spec PyProof.Rows
noncomputable def MkI (te : TE) (n : Int) : Prop := ∀ σ H Q, Q (.int n) H → te σ H Q
theorem MkI.pos (n : Int) : MkI (tC (.int n)) n := fun _ _ _ q => q
theorem MkI.neg (n : Int) : MkI (tUn (rU fun i => .int (-i)) (tC (.int n))) (-n) := fun _ _ _ q => ⟨n, rfl, q⟩
noncomputable def MkIs (ta : TA) (ns : List Int) : Prop := ∀ σ H Q, Q (ns.map V.int) H → ta σ H Q
theorem MkIs.nil : MkIs tNil [] := fun _ _ _ q => q
theorem MkIs.cons {te : TE} {ta : TA} {n : Int} {ns : List Int} (h : MkI te n) (h2 : MkIs ta ns) : MkIs (tCons te ta) (n :: ns) := fun σ H Q q => h σ H _ (h2 σ H _ q)
noncomputable def MkR (te : TE) (ns : List Int) : Prop := ∀ σ H Q, (∀ p H', Same H H' → H p = none → H' p = some (.lst (ns.map V.int)) → Q (.ref p) H') → te σ H Q
theorem MkR.of {ta : TA} {ns : List Int} (h : MkIs ta ns) (hz : ns.length ≤ 1000) : MkR (tLst ta) ns := fun σ H Q q => h σ H _ ⟨by rw [List.length_map]; exact Nat.le_of_lt (small1000 hz), fun l hl => q l _ (Same.new hl) hl upd_same⟩
/-- rows one after another, all new -/
noncomputable def MkRs (ta : TA) (M : List (List Int)) : Prop := ∀ σ H Q, (∀ ps H', Same H H' → RefRowsN H H' ps M → Q (ps.map V.ref) H') → ta σ H Q
where RefRowsN (H H' : Hp) (ps : List Addr) (M : List (List Int)) : Prop := ps.length = M.length ∧ ∀ (j : Nat) (p : Addr) (r : List Int), ps[j]? = some p → M[j]? = some r → H' p = some (.lst (r.map V.int))
theorem MkRs.nil : MkRs tNil [] := fun _ H Q q => q [] H (Same.refl _) ⟨rfl, fun j p r e => by simp at e⟩
theorem MkRs.cons {te : TE} {ta : TA} {ns : List Int} {M : List (List Int)} (h : MkR te ns) (h2 : MkRs ta M) : MkRs (tCons te ta) (ns :: M) := fun σ H Q q => h σ H _ fun p H1 s1 hp e1 => h2 σ H1 _ fun ps H2 s2 r => q (p :: ps) H2 (s1.trans s2) ⟨by simp [r.1], fun j p' r' e e' => by
  cases j with
  | zero => simp at e e'; subst e e'; exact s2 _ _ e1
  | succ j => exact r.2 j p' r' (by simpa using e) (by simpa using e')⟩
noncomputable def MkM (te : TE) (M : List (List Int)) : Prop := ∀ σ H Q, (∀ p H', Same H H' → H p = none → MatL H' p M → Q (.ref p) H') → te σ H Q
theorem MkM.of {ta : TA} {M : List (List Int)} (h : MkRs ta M) (hz : M.length ≤ 1000) : MkM (tLst ta) M := fun σ H Q q => h σ H _ fun ps H1 s1 r => ⟨by rw [List.length_map, r.1]; exact Nat.le_of_lt (small1000 hz), fun l hl => by
  have hn : H l = none := by cases e : H l with | none => rfl | some o => rw [s1 _ _ e] at hl; cases hl
  exact q l _ (s1.trans (Same.new hl)) hn ⟨ps, upd_same, r.1, fun i p z e1 e2 => ⟨ne_of_none (r.2 i p z e1 e2) hl, Same.new hl _ _ (r.2 i p z e1 e2)⟩⟩⟩
/-- a list of rows' lists -/
noncomputable def Mats (H : Hp) (p : Addr) (Ms : List (List (List Int))) : Prop := ∃ ps : List Addr, H p = some (.lst (ps.map V.ref)) ∧ ps.length = Ms.length ∧ ∀ (i : Nat) (q : Addr) (M : List (List Int)), ps[i]? = some q → Ms[i]? = some M → MatL H q M
theorem Mats.up {H H' : Hp} {p : Addr} {Ms : List (List (List Int))} (h : Mats H p Ms) (s : Same H H') : Mats H' p Ms := let ⟨ps, h1, h2, h3⟩ := h; ⟨ps, s _ _ h1, h2, fun i q M e1 e2 => (h3 i q M e1 e2).up s⟩
noncomputable def MkMs (ta : TA) (Ms : List (List (List Int))) : Prop := ∀ σ H Q, (∀ (ps : List Addr) H', Same H H' → ps.length = Ms.length → (∀ (i : Nat) (q : Addr) (M : List (List Int)), ps[i]? = some q → Ms[i]? = some M → MatL H' q M) → Q (ps.map V.ref) H') → ta σ H Q
theorem MkMs.nil : MkMs tNil [] := fun _ H Q q => q [] H (Same.refl _) rfl fun j p r e => by simp at e
theorem MkMs.cons {te : TE} {ta : TA} {M : List (List Int)} {Ms : List (List (List Int))} (h : MkM te M) (h2 : MkMs ta Ms) : MkMs (tCons te ta) (M :: Ms) := fun σ H Q q => h σ H _ fun p H1 s1 _ e1 => h2 σ H1 _ fun ps H2 s2 l r => q (p :: ps) H2 (s1.trans s2) (by simp [l]) fun j p' r' e e' => by
  cases j with
  | zero => simp at e e'; subst e e'; exact e1.up s2
  | succ j => exact r j p' r' (by simpa using e) (by simpa using e')
theorem MkMs.lst {ta : TA} {Ms : List (List (List Int))} (h : MkMs ta Ms) (hz : Ms.length ≤ 1000) {σ : St} {H : Hp} {Q : VK} (q : ∀ p H', Same H H' → Mats H' p Ms → Q (.ref p) H') : tLst ta σ H Q := h σ H _ fun ps H1 s1 l r => ⟨by rw [List.length_map, l]; exact Nat.le_of_lt (small1000 hz), fun a ha =>
  q a _ (s1.trans (Same.new ha)) ⟨ps, upd_same, l, fun i q M e1 e2 => (r i q M e1 e2).up (Same.new ha)⟩⟩
theorem Mats.at {K : PySem.W.Frag} {H : Hp} {p : Addr} {Ms : List (List (List Int))} {i : Nat} {M : List (List Int)} {I : Int} {Q : VK} (h : Mats H p Ms) (e : Ms[i]? = some M) (hi : I = i) (k : ∀ q, MatL H q M → Q (.ref q) H) : rIxB K (.ref p) (.int I) H Q := by
  obtain ⟨ps, h1, h2, h3⟩ := h
  have hlt : i < ps.length := by have := (List.getElem?_eq_some_iff.mp e).1; omega
  exact ⟨false, p, _, _, _, rfl, rfl, SqB.lst h1, atI_at (show (ps.map V.ref)[i]? = some (.ref ps[i]) by simp [hlt]) hi, k _ (h3 i _ M (by simp [hlt]) e)⟩
/-! ### rows that are changed in place: all of them apart -/
noncomputable def MatD (H0 H : Hp) (a : Addr) (rows : List (List Int)) : Prop := ∃ ps : List Addr, H a = some (.lst (ps.map V.ref)) ∧ ps.length = rows.length ∧ ps.Nodup ∧ ∀ (i : Nat) (p : Addr) (r : List Int), ps[i]? = some p → rows[i]? = some r → p ≠ a ∧ H0 p = none ∧ H p = some (.lst (r.map V.int))
theorem MatD.l {H0 H : Hp} {a : Addr} {rows : List (List Int)} (h : MatD H0 H a rows) : MatL H a rows := let ⟨ps, h1, h2, _, h3⟩ := h; ⟨ps, h1, h2, fun i p r e1 e2 => ⟨(h3 i p r e1 e2).1, (h3 i p r e1 e2).2.2⟩⟩
theorem MatD.up {H0 H H' : Hp} {a : Addr} {rows : List (List Int)} (h : MatD H0 H a rows) (s : Same H H') : MatD H0 H' a rows := let ⟨ps, h1, h2, n, h3⟩ := h; ⟨ps, s _ _ h1, h2, n, fun i p r e1 e2 => ⟨(h3 i p r e1 e2).1, (h3 i p r e1 e2).2.1, s _ _ (h3 i p r e1 e2).2.2⟩⟩
/-- a row's list and its change -/
theorem MatD.row {H0 H : Hp} {a : Addr} {rows : List (List Int)} {i : Nat} {r : List Int} (h : MatD H0 H a rows) (e : rows[i]? = some r) : ∃ zs p, H a = some (.lst zs) ∧ zs[i]? = some (.ref p) ∧ zs.length = rows.length ∧ p ≠ a ∧ H0 p = none ∧ H p = some (.lst (r.map V.int)) ∧ ∀ r', MatD H0 (upd H p (.lst (r'.map V.int))) a (rows.set i r') := by
  obtain ⟨ps, h1, h2, hn, h3⟩ := h
  have hi : i < ps.length := by have := (List.getElem?_eq_some_iff.mp e).1; omega
  have hp := h3 i ps[i] r (by simp [hi]) e
  refine ⟨_, ps[i], h1, by simp [hi], by simp [h2], hp.1, hp.2.1, hp.2.2, fun r' => ⟨ps, by rw [upd_ne (Ne.symm hp.1)]; exact h1, by simp [h2], hn, fun j q z e1 e2 => ?_⟩⟩
  by_cases hj : j = i
  · subst hj
    have eq : q = ps[j] := by simp [hi] at e1; exact e1.symm
    subst eq
    rw [List.getElem?_set_self (by omega)] at e2
    cases e2
    exact ⟨hp.1, hp.2.1, upd_same⟩
  · rw [List.getElem?_set_ne (Ne.symm hj)] at e2
    obtain ⟨n1, n3, n2⟩ := h3 j q z e1 e2
    have : q ≠ ps[i] := fun w => by
      have hjl := (List.getElem?_eq_some_iff.mp e1)
      obtain ⟨hjl, ej⟩ := hjl
      exact hj ((List.getElem_inj hn).mp (ej.trans w))
    exact ⟨n1, n3, by rw [upd_ne this]; exact n2⟩
section
variable {K : PySem.W.Frag} {H : Hp} {a a1 : Addr} {M : List (List Int)} {σ : St} {Q : VK} {b1 b2 : Bool}
end
end L2
/-! LITERALS, all at once: what is written decides it. -/
namespace L2
open PySem PySem.Spec PyProof.Rows
section
variable {X : Cx}
end
end L2
namespace L2
open PySem
end L2
namespace L2
open PySem PySem.Spec PyProof.Rows
noncomputable def isList : Expr → Bool
  | .List _ _ => true
  | _ => false
end L2

/-! ANY. -/
namespace L2
open PySem PySem.Spec PyProof.Rows
section
variable {X : Cx}
end
end L2

/-! CHAINS of three comparisons; targets (x, y, ..) of a list. -/
namespace L2
open PySem PySem.Spec PyProof.Rows
section
variable {X : Cx} {a b c d : Expr} {ta tb tc td : TE} {pos : Pos}
noncomputable def tChain3 (r r' r'' : R2) (ta tb tc td : TE) : TE := fun σ H Q => ta σ H fun x H1 => tb σ H1 fun y H2 => r x y H2 fun z H3 => ∃ k, z = .bl k ∧
  (if k = true then tc σ H3 fun w' H4 => r' y w' H4 fun z2 H5 => ∃ k2, z2 = .bl k2 ∧ (if k2 = true then td σ H5 fun w2 H6 => r'' w' w2 H6 Q else Q (.bl false) H5) else Q (.bl false) H3)
theorem pe_chain3 {op op' op'' : CmpOp} {r r' r'' : R2} (ho : OpR X (compareOp op) r) (ho' : OpR X (compareOp op') r') (ho'' : OpR X (compareOp op'') r'') (ha : PE X a ta) (hb : PE X b tb) (hc : PE X c tc) (hd : PE X d td)
    (hm : lastMarks [op, op', op''] [b, c, d] = false := by with_unfolding_all rfl) : PE X (.Compare a [op, op', op''] [b, c, d] pos) (tChain3 r r' r'' ta tb tc td) := by
  intro pins s σ H Q I h
  refine Compare_chain (thn (ha pins s σ H _ I h) fun v s1 ⟨x, H1, I1, r1, q1⟩ => chain_link (thn (hb pins s1 σ H1 _ I1 q1) fun u s2 ⟨y, H2, I2, r2, q2⟩ =>
    thn (ho pins s2 σ H2 x y v u _ I2 r1 r2 q2) fun dd s3 ⟨z, H3, I3, r3, k, e, q3⟩ => ?_)) hm
  subst e
  cases r3
  refine wpAny_truthy_bool ?_
  cases k with
  | false => exact ite_ff ⟨.bl false, H3, I3, rfl, q3⟩
  | true =>
    refine ite_tt (chain_link (thn (hc pins s3 σ H3 _ I3 q3) fun w' s4 ⟨z', H4, I4, r4, q4⟩ => thn (ho' pins s4 σ H4 y z' u w' _ I4 r2 r4 q4) fun d' s5 ⟨z2, H5, I5, r5, k2, e2, q5⟩ => ?_))
    subst e2
    cases r5
    refine wpAny_truthy_bool ?_
    cases k2 with
    | false => exact ite_ff ⟨.bl false, H5, I5, rfl, q5⟩
    | true => exact ite_tt (chain_last (thn (hd pins s5 σ H5 _ I5 q5) fun w2 s6 ⟨z6, H6, I6, r6, q6⟩ => ho'' pins s6 σ H6 z' z6 w' w2 Q I6 r4 r6 q6))
end
section
variable {prog : Program} {w : World} {A : Around} {E : Value → Shared → Prop} {s : Shared}
theorem assign_Tuple_list {env : Env} {elts : List Expr} {x1} {pos : Pos} {t : Addr} {items : Array Value} {Q : Unit → Shared → Prop} (hh : A.handled = none) (ht : s.heap.IsList t items)
    (hn : (assignEach elts env).length = items.size) (hstar : (assignEach elts env).findIdx? (·.1) = none)
    (h : ∀ h', Heap.ExtBut s.heap.objs.size s.heap h' → wpAny (model prog w) A (assignInOrder ((assignEach elts env).map (·.2)) items.toList) Q E { s with heap := h' }) :
    wpAny (model prog w) A (assign (.Tuple elts x1 pos) env (.ref t)) Q E s := by
  rw [assign_Tuple]
  refine wpAny_bind (wpAny_standAt ?_)
  unfold unpack
  rw [hn, hstar]
  exact wpAny_bind (wpAny_holding (PySem.W.kun_itemsOf hh ht h))
end
section
variable {X : Cx} {pos : Pos}
/-- (x, y, ..) = a list or a tuple -/
noncomputable def gTupB (K : PySem.W.Frag) (n : Nat) (t : TGs) : TG := fun v σ H Q => ∃ b a xs, v = .ref a ∧ SqB b K H a xs ∧ xs.length = n ∧ t xs σ H Q
theorem pg_tupB {es : List Expr} {k : Nat} {t : TGs} {n : Nat} (hc : X.calm = true) (h : PGs X es t)
    (hn : (assignEach es X.env).length = n := by rfl) (hst : (assignEach es X.env).findIdx? (·.1) = none := by rfl) : PG X (.Tuple es k pos) (gTupB X.K n t) := by
  intro pins s σ H v u Q I r hw
  obtain ⟨b, a, xs, e1, hq, hl, hw⟩ := hw
  cases b with
  | true => exact pg_tup hc h hn hst pins s σ H v u Q I r ⟨a, xs, e1, hq, hl, hw⟩
  | false =>
    subst e1
    cases r
    obtain ⟨its, rv, pl, hz⟩ := I.list hq
    refine assign_Tuple_list (I.ok.hd hc) pl.isList (by simp [hn, ← hl, rv.length]) hst fun h' hx => ?_
    have I1 : Inv X pins σ H { s with heap := h' } := I.kept (t' := s.toks) fun b o e => hx b o (Nat.ne_of_lt (Heap.lt_size e)) e
    exact h pins _ σ H xs _ Q I1 (by simpa using rv) hw
end
end L2

/-! PART V: defs that are called while an exception is handled, and that walk over lists. -/
namespace L2
open PySem PySem.Spec PyProof.Rows
structure FnOkH (P : Program) (w : World) (K : PySem.W.Frag) (mg : Str → Option Value) (base : Heap) (k : Nat) (f : Addr) (fd : FuncData) (ps : List Str) (sp : Sp) : Prop where
  len : ∀ vs H Q E, sp vs H Q E → vs.length = ps.length
  run : ∀ (A : Around) (outer : List Env) (s : Shared) (H : Hp) (args : Args) (us : List Value) (vs : List V) (Q : VK) (E : XK) (e : Addr) (C : Value), RoomA k A → A.handled = some (.ref e) → H e = some (ExcAt e C) → Env0 P w K mg base A outer s H → BindsTo s fd args (ps.zip us) → Vals vs us → sp vs H Q E →
    codeAny (model P w) A (.call (.ref f) args) (CR CX0 outer P w H s Q E) s
section
variable {P : Program} {w : World} {K : PySem.W.Frag} {mg : Str → Option Value} {base : Heap}
theorem Fun.okH {x qual : Str} {st : Stmt} {f : Addr} {fd : FuncData} {N ps : List Str} {k : Nat} {sp : Sp} (F : Fun K x qual st f fd) (S : FnScope N ps (defScope st)) (len : ∀ vs H Q E, sp vs H Q E → vs.length = ps.length)
    (hbody : ∀ (cdv : Value) (A : Around) (outer : List Env) (s : Shared) (H : Hp) (vs : List V) (Q : VK) (E : XK) (e : Addr) (C : Value), A.handled = some (.ref e) → H e = some (ExcAt e C) → RoomA k (A.deeper (envOfC qual (defScope st) s.heap.objs.size f cdv)) → sp vs H Q E →
      ∃ t, PSs (cxA P w K mg base N qual (defScope st) f cdv A outer s H E) (defBody st) t ∧ t { nx := fun _ H' => Q .non H', rt := Q } (start N vs) H) : FnOkH P w K mg base (k + 1) f fd ps sp := by
  obtain ⟨oc, od, kV, doc, pm, an, cdv, ct, osl, rfl, lk, hcd⟩ := F.ex
  refine ⟨len, fun A outer s H args us vs Q E e C hr hh he e0 hb r hsp => ?_⟩
  have hl := len _ _ _ _ hsp
  have kp : ∀ b o, base.get? b = some o → s.heap.get? b = some o := fun b o e => (e0.bs b o e).1
  have hkind : ∀ y ∈ ps.zip us, (defScope st).names.lookup y.1 = some .local ∨ ((defScope st).names.lookup y.1 = some .cell ∧ ((cellsFrom (s.heap.objs.size + 1) (defScope st).names []).lookup y.1).isSome = true) := fun ⟨n, v⟩ hy => by
    rcases S.par n (List.of_mem_zip hy).1 with q | q
    · exact .inl q
    · exact .inr ⟨q, PySem.W.cellsFrom_some _ _ _ (.inl q)⟩
  refine codeAny_call_function (by have := hr.dp; omega) (e0.mod.kin.keeps kp _ _ lk) rfl S.co S.gen rfl (PySem.W.codeRec_of (e0.mod.kin.keeps kp) hcd) (hb _ _ _ _ ?_)
  refine wpAny_newFunctionEnv_cells S.kind hkind fun env henv s1 x => ?_
  subst henv
  refine ⟨(e0.mod.nolimit.keeps kp).keeps x.toInCall.keep, codeAny_func ?_⟩
  obtain ⟨t, ht, hq⟩ := hbody cdv A outer s H vs Q E e C hh he (hr.deeper _) hsp
  have I0 : Inv (cxOf CX0 P w K mg base N qual (defScope st) f cdv { A with handled := none } outer s H E) [] (start N vs) H s1 :=
    inv_start S rfl (⟨e0.frames, e0.mod, e0.bs, e0.bsz, e0.funs, e0.frf, e0.hok, e0.bare⟩ : Env0 P w K mg base { A with handled := none } outer s H) hl r x
  have I : Inv (cxA P w K mg base N qual (defScope st) f cdv A outer s H E) [] (start N vs) H s1 :=
    ⟨⟨I0.ok.mod, I0.ok.kind, I0.ok.glob, I0.ok.blt, I0.ok.above, I0.ok.inj, I0.ok.has, I0.ok.cab, (fun z => by cases z), Around.frames_deeper e0.frames, I0.ok.stk, I0.ok.exf, I0.ok.bs, I0.ok.bsz, I0.ok.noex, I0.ok.exfs, I0.ok.funs, I0.ok.frf⟩,
      I0.os, I0.bare, I0.base, I0.loc, I0.cell, I0.free, I0.freeC, I0.pin, I0.hok, I0.len⟩
  refine wpAny_mono (ht [] s1 (start N vs) H _ I hq) (fun fl s' hs => ?_) fun _ _ z => z.elim
  cases fl with
  | ret u => obtain ⟨v, σ', H', J, rv, q⟩ := hs; exact ⟨v, H', J.os, J.bare, J.base, J.hok, rv, q⟩
  | next => obtain ⟨σ', H', J, q⟩ := hs; exact ⟨.non, H', J.os, J.bare, J.base, J.hok, rfl, q⟩
  | brk => obtain ⟨_, _, _, q⟩ := hs; exact q.elim
  | cont => obtain ⟨_, _, _, q⟩ := hs; exact q.elim
end
section
variable {X : Cx} {k : Nat} {f : Addr} {fd : FuncData} {ps : List Str} {sp : Sp} {dvs : List V} {ds : List Value} {x : Str} {p pos : Pos} {e : Expr} {es : List Expr} {t : TA} {ea : Addr}
/-- a call while the exception at ea is handled -/
noncomputable def tCallH (ea : Addr) (sp : Sp) (dvs : List V) (t : TA) : TE := fun σ H Q => t σ H fun vs H1 => (∃ C, H1 ea = some (ExcAt ea C)) ∧ sp (vs ++ dvs) H1 Q E0
theorem pe_callH (F : FnOkH X.prog X.w X.K X.mg X.base k f fd ps sp) (hr : RoomA k X.A) (hh : X.A.handled = some (.ref ea)) (hg : Gl X x) (hm : X.mg x = some (.ref f)) (hk : PySem.W.keepIn X.K (.ref f) = true) (hb : Binds X.K fd ps ds) (hd : Vals dvs ds)
    (ha : PA X (e :: es) t) (hdb : (x == ("__debug__" : Str)) = false := by decide) (he : starEach (e :: es) X.env = (false, eval e X.env) :: starEach es X.env := by rfl) (hpl : (backTo pos (starEach es X.env)).any (·.1) = false := by rfl) :
    PE X (.Call (.Name x p) (e :: es) [] pos) (tCallH ea sp dvs t) := by
  intro pins s σ H Q I h
  refine wpAny_Call_Name_kw (ld_glob I hg hm ?_ hdb)
  refine PySem.W.callWith_K (h₀ := X.base) I.ok.mod.kin hk (thn (ha pos pins s σ H _ I h) fun us s1 ⟨vs, H1, I1, r, ⟨C, hC⟩, q⟩ => ⟨I1.kIn, ?_⟩) he hpl
  have r2 : Vals (vs ++ dvs) (us ++ ds) := r.append hd
  have hl : (us ++ ds).length = ps.length := by rw [← r2.length]; exact F.len _ _ _ _ q
  refine wpAny_call (codeAny_mono (F.run X.A X.stack s1 H1 ⟨us, []⟩ (us ++ ds) (vs ++ dvs) Q E0 ea C hr hh hC I1.env0 (hb s1 us I1.kIn hl) r2 q) fun r s' hq => ?_)
  cases r with
  | error e => exact False.elim hq
  | ok fl =>
    cases fl with
    | ret u => exact I1.after hq
    | next => exact False.elim hq
    | brk => exact False.elim hq
    | cont => exact False.elim hq
end
/-- for, over a list, while the exception at ea is handled -/
noncomputable def tForH (K : PySem.W.Frag) (ea : Addr) (tl : TE) (g : TG) (tb : TS) : TS := fun D σ H => tl σ H fun v H1 => ∃ a, v = .ref a ∧ (∃ xs, SqL K H1 a xs) ∧ ∃ W : Nat → Nat → St → Hp → Prop, (∃ m, W 0 m σ H1) ∧ ∀ i m σ H, W i m σ H →
  ((Itl K a).stop i H ∧ (∃ C, H ea = some (ExcAt ea C)) ∧ D.nx σ H) ∨ ((Itl K a).go i H ∧ ∃ N : St → Hp → Prop, (∀ σ' H', N σ' H' → ∃ m', m' < m ∧ W (i + 1) m' σ' H') ∧ ∀ x H', (Itl K a).yld i H x H' → g x σ H' fun σ2 H2 => tb { D with nx := N, ct := N, bk := D.nx } σ2 H2)
section
variable {X : Cx} {tg : Expr} {ea : Addr}
theorem ps_forH {iter : Expr} {body : List Stmt} {tl : TE} {g : TG} {tb : TS} {pos : Pos} (hp : PassesOwn (model X.prog X.w) X.A X.env X.xe) (hh : X.A.handled = some (.ref ea)) (hi : PE X iter tl) (hg : PG X tg g) (hb : PSs X body tb)
    (hs : ∀ x, foldedSetIterable iter X.env x = pure x := by intro _; rfl) : PS X (.For tg iter body [] pos) (tForH X.K ea tl g tb) := by
  intro pins s σ H D I h
  refine wpAny_For (thn (hi pins s σ H _ I h) fun v s1 ⟨v1, H1, I1, r1, q1⟩ => ?_) hs
  obtain ⟨a, e, ⟨xs, hq⟩, W, ⟨m0, w0⟩, turn⟩ := q1
  subst e
  cases r1
  obtain ⟨its, rv, p, hz⟩ := I1.list hq
  refine wpAny_pyIter_list p.isList ?_
  generalize hit : s1.heap.objs.size = it
  have I2 : Inv X pins σ H1 { s1 with heap := s1.heap.push { cls := .type "list_iterator", data := .fields #[.ref a, .int 0 0] } } := I1.kept (t' := s1.toks) fun b o e => Heap.get?_push_of_some _ e
  have st2 : (s1.heap.push { cls := .type "list_iterator", data := .fields #[.ref a, .int 0 0] }).IsListIter it a 0 := ⟨_, by rw [← hit]; exact Heap.get?_push_size _ rfl, rfl, rfl⟩
  have f2 : FpOk X pins H1 it := by rw [← hit]; exact I1.fpOk (Nat.le_refl _) (I1.hok.fresh (Nat.le_refl _))
  have stat : ∀ {H' : Hp}, H' it = none → FpOk X pins H' it := fun hn => ⟨hn, f2.2⟩
  refine codeAny_forLoop_any (fun n s' => ∃ i σ' H', Inv X pins σ' H' s' ∧ s'.heap.IsListIter it a i ∧ H' it = none ∧ W i n σ' H') ?_ m0 ⟨0, σ, H1, I2, st2, f2.1, w0⟩
  rintro n s3 ⟨i, σ3, H3, I3, st3, fr3, w3⟩
  obtain ⟨f0, f1, _, f3, f4, f5⟩ := stat fr3
  rcases turn i n σ3 H3 w3 with ⟨⟨ys, hy, hlen⟩, ⟨C, hC⟩, qn⟩ | ⟨⟨ys, y, hy, hyi⟩, N, hN, step⟩
  · obtain ⟨it3, rv3, p3, _⟩ := I3.list hy
    obtain ⟨⟨oe, g1, _, vs, gd, g2⟩, _, _⟩ := (show ObjOk X.prog X.w H3 s3.heap _ (ExcAt _ _) from I3.hok _ _ hC)
    have hl := rv3.length
    have ne : ea ≠ it := fun z => by rw [z, fr3] at hC; cases hC
    refine wpAny_passesOwn hp (next_end_over hh g1 gd g2 ne st3 p3.isList (by simp; omega) fun h' eb => ?_)
    exact wpAny_execs_nil ⟨σ3, H3, I3.turned (t' := s3.toks) (fun b o hb e => eb b o hb e) f0 f1 f3 f4 f5, qn⟩
  · obtain ⟨it3, rv3, p3, _⟩ := I3.list hy
    obtain ⟨u, hu, ru⟩ := rv3.get hyi
    refine wpAny_passesOwn hp (wpAny_pyNext_list_item st3 p3.isList (x := u) (by simpa using hu) fun h' st4 sb => ?_)
    have I4 : Inv X pins σ3 H3 { s3 with heap := h' } := I3.turned (t' := s3.toks) (fun b o hb e => (sb.2 b hb).trans e) f0 f1 f3 f4 f5
    obtain ⟨o4, e4, c4, d4⟩ := id st4
    refine wpAny_passesOwn hp (go_of (s := { s3 with heap := h' }) e4 c4 d4 (by decide) ?_)
    have I5 : Inv X (pins ++ [(it, o4)]) σ3 H3 { s3 with heap := h' } := I4.pins_of fun p hp => (List.mem_append.mp hp).elim (fun z => I4.pin p (List.mem_append_right _ z)) fun z => by
      have z' : p = (it, o4) := by simpa using z
      subst z'
      obtain ⟨q0, q1, q2, _⟩ := stat fr3
      exact ⟨e4, q0, q1, q2, fun v z => by rw [d4] at z; cases z⟩
    refine wpAny_passesOwn hp (thn (hg _ _ σ3 H3 y u _ I5 ru (step y H3 ⟨rfl, fun zs hz => by rw [I3.list_inj hz hy]; exact hyi⟩)) fun _ s6 ⟨σ6, H6, I6, q6⟩ => ?_)
    refine wpAny_passesOwn hp (thn (hb _ s6 σ6 H6 _ I6 q6) fun f s7 q7 => ?_)
    have again : ∀ {σ7 : St} {H7 : Hp}, Inv X (pins ++ [(it, o4)]) σ7 H7 s7 → N σ7 H7 → ∃ m, m < n ∧ ∃ i σ' H', Inv X pins σ' H' s7 ∧ s7.heap.IsListIter it a i ∧ H' it = none ∧ W i m σ' H' := fun {σ7 H7} I7 n7 => by
      obtain ⟨m', hm, w7⟩ := hN σ7 H7 n7
      have pn := I7.pin (it, o4) (List.mem_append_right _ (List.mem_append_right _ (by simp)))
      exact ⟨m', hm, i + 1, σ7, H7, I7.unpinned, ⟨o4, pn.1, c4, d4⟩, pn.2.1, w7⟩
    cases f with
    | next => obtain ⟨σ7, H7, I7, n7⟩ := q7; exact again I7 n7
    | cont => obtain ⟨σ7, H7, I7, n7⟩ := q7; exact again I7 n7
    | brk => obtain ⟨σ7, H7, I7, q7⟩ := q7; exact ⟨σ7, H7, I7.unpinned, q7⟩
    | ret v => obtain ⟨x7, σ7, H7, I7, r7, q7⟩ := q7; exact ⟨x7, σ7, H7, I7.unpinned, r7, q7⟩
end
end L2

namespace Cw
open PySem L2
noncomputable def top (i : Nat) : Stmt := PySem.Challenge.pw_crystalwords_k54_whole_least_forms.main.body.getD i (.Pass ⟨0, 0, 0, 0⟩)
noncomputable abbrev s_nearest : Stmt := top 11
noncomputable abbrev N_nearest : List Str := ["one", "other"]
noncomputable abbrev s_turned : Stmt := top 13
noncomputable abbrev N_turned : List Str := ["rows"]
noncomputable abbrev s_less : Stmt := top 15
noncomputable abbrev N_less : List Str := ["one", "other", "count"]
noncomputable abbrev s_least_form : Stmt := top 17
noncomputable abbrev N_least_form : List Str := ["a", "b", "c", "first", "second", "held", "count", "rows"]
noncomputable abbrev s_law_cell : Stmt := top 19
noncomputable abbrev N_law_cell : List Str := ["_law_script", "_law_k"]
noncomputable abbrev s_law_int : Stmt := top 20
noncomputable abbrev N_law_int : List Str := ["_law_thing"]
noncomputable abbrev s_law_form : Stmt := top 21
noncomputable abbrev N_law_form : List Str := ["_law_script", "_law_start", "_law_a", "_law_most", "_law_b", "_law_c"]
noncomputable abbrev s_law_step : Stmt := top 22
noncomputable abbrev N_law_step : List Str := ["_law_form_here", "_law_cell_here", "_law_a", "_law_b", "_law_c", "_law_way", "_law_by"]
noncomputable abbrev s_law_measured : Stmt := top 23
noncomputable abbrev N_law_measured : List Str := ["_law_form_here", "_law_one", "_law_other", "_law_a", "_law_b", "_law_c", "_law_found"]
noncomputable abbrev s_law_is_two : Stmt := top 24
noncomputable abbrev N_law_is_two : List Str := ["_law_found"]
noncomputable abbrev s_law_right : Stmt := top 25
noncomputable abbrev N_law_right : List Str := ["_law_found", "_law_form_here", "_law_least", "_law_rows", "_law_one", "_law_other", "_law_a", "_law_b", "_law_c"]
noncomputable abbrev s_law_another : Stmt := top 26
noncomputable abbrev N_law_another : List Str := ["_law_e", "_law_other"]
noncomputable abbrev s_law_refused : Stmt := top 27
noncomputable abbrev N_law_refused : List Str := ["_law_a", "_law_b", "_law_c", "_law_good", "_law_e"]
noncomputable abbrev s_law : Stmt := top 28
noncomputable abbrev N_law : List Str := ["_law_script", "_law_form_here", "_law_start", "_law_found", "_law_other", "_law_cell_here", "_law_more"]
theorem sc_nearest : FnScope N_nearest ["one", "other"] (defScope s_nearest) := ⟨rfl, rfl, rfl, by decide +kernel, rfl, by decide +kernel, by decide +kernel⟩
theorem sc_turned : FnScope N_turned ["rows"] (defScope s_turned) := ⟨rfl, rfl, rfl, by decide +kernel, rfl, by decide +kernel, by decide +kernel⟩
theorem sc_less : FnScope N_less ["one", "other", "count"] (defScope s_less) := ⟨rfl, rfl, rfl, by decide +kernel, rfl, by decide +kernel, by decide +kernel⟩
theorem sc_least_form : FnScope N_least_form ["a", "b", "c"] (defScope s_least_form) := ⟨rfl, rfl, rfl, by decide +kernel, rfl, by decide +kernel, by decide +kernel⟩
theorem sc_law_cell : FnScope N_law_cell ["_law_script", "_law_k"] (defScope s_law_cell) := ⟨rfl, rfl, rfl, by decide +kernel, rfl, by decide +kernel, by decide +kernel⟩
theorem sc_law_int : FnScope N_law_int ["_law_thing"] (defScope s_law_int) := ⟨rfl, rfl, rfl, by decide +kernel, rfl, by decide +kernel, by decide +kernel⟩
theorem sc_law_form : FnScope N_law_form ["_law_script"] (defScope s_law_form) := ⟨rfl, rfl, rfl, by decide +kernel, rfl, by decide +kernel, by decide +kernel⟩
theorem sc_law_step : FnScope N_law_step ["_law_form_here", "_law_cell_here"] (defScope s_law_step) := ⟨rfl, rfl, rfl, by decide +kernel, rfl, by decide +kernel, by decide +kernel⟩
theorem sc_law_measured : FnScope N_law_measured ["_law_form_here", "_law_one", "_law_other"] (defScope s_law_measured) := ⟨rfl, rfl, rfl, by decide +kernel, rfl, by decide +kernel, by decide +kernel⟩
theorem sc_law_is_two : FnScope N_law_is_two ["_law_found"] (defScope s_law_is_two) := ⟨rfl, rfl, rfl, by decide +kernel, rfl, by decide +kernel, by decide +kernel⟩
theorem sc_law_right : FnScope N_law_right ["_law_found", "_law_form_here"] (defScope s_law_right) := ⟨rfl, rfl, rfl, by decide +kernel, rfl, by decide +kernel, by decide +kernel⟩
theorem sc_law_another : FnScope N_law_another ["_law_e"] (defScope s_law_another) := ⟨rfl, rfl, rfl, by decide +kernel, rfl, by decide +kernel, by decide +kernel⟩
theorem sc_law_refused : FnScope N_law_refused ["_law_a", "_law_b", "_law_c"] (defScope s_law_refused) := ⟨rfl, rfl, rfl, by decide +kernel, rfl, by decide +kernel, by decide +kernel⟩
theorem sc_law : FnScope N_law ["_law_script"] (defScope s_law) := ⟨rfl, rfl, rfl, by decide +kernel, rfl, by decide +kernel, by decide +kernel⟩
structure Adr where
  a_nearest : Addr
  d_nearest : FuncData
  a_turned : Addr
  d_turned : FuncData
  a_less : Addr
  d_less : FuncData
  a_least_form : Addr
  d_least_form : FuncData
  a_law_cell : Addr
  d_law_cell : FuncData
  a_law_int : Addr
  d_law_int : FuncData
  a_law_form : Addr
  d_law_form : FuncData
  a_law_step : Addr
  d_law_step : FuncData
  a_law_measured : Addr
  d_law_measured : FuncData
  a_law_is_two : Addr
  d_law_is_two : FuncData
  a_law_right : Addr
  d_law_right : FuncData
  a_law_another : Addr
  d_law_another : FuncData
  a_law_refused : Addr
  d_law_refused : FuncData
  a_law : Addr
  d_law : FuncData
  a_CrystalError : Addr
  a_NoPlace : Addr
  a_NoDeed : Addr
  a_NoNumber : Addr
  a_TooMany : Addr
  a_NoChange : Addr
  a_NotKept : Addr
  a_NoForm : Addr
structure Txt (K : PySem.W.Frag) (mg : Str → Option Value) (t : Adr) : Prop where
  F_nearest : Fun K "nearest" "nearest" s_nearest t.a_nearest t.d_nearest
  m_nearest : mg "nearest" = some (.ref t.a_nearest)
  b_nearest : Binds K t.d_nearest ["one", "other"] []
  F_turned : Fun K "turned" "turned" s_turned t.a_turned t.d_turned
  m_turned : mg "turned" = some (.ref t.a_turned)
  b_turned : Binds K t.d_turned ["rows"] []
  F_less : Fun K "less" "less" s_less t.a_less t.d_less
  m_less : mg "less" = some (.ref t.a_less)
  b_less : Binds K t.d_less ["one", "other", "count"] []
  F_least_form : Fun K "least_form" "least_form" s_least_form t.a_least_form t.d_least_form
  m_least_form : mg "least_form" = some (.ref t.a_least_form)
  b_least_form : Binds K t.d_least_form ["a", "b", "c"] []
  F_law_cell : Fun K "_law_cell" "_law_cell" s_law_cell t.a_law_cell t.d_law_cell
  m_law_cell : mg "_law_cell" = some (.ref t.a_law_cell)
  b_law_cell : Binds K t.d_law_cell ["_law_script", "_law_k"] []
  F_law_int : Fun K "_law_int" "_law_int" s_law_int t.a_law_int t.d_law_int
  m_law_int : mg "_law_int" = some (.ref t.a_law_int)
  b_law_int : Binds K t.d_law_int ["_law_thing"] []
  F_law_form : Fun K "_law_form" "_law_form" s_law_form t.a_law_form t.d_law_form
  m_law_form : mg "_law_form" = some (.ref t.a_law_form)
  b_law_form : Binds K t.d_law_form ["_law_script"] []
  F_law_step : Fun K "_law_step" "_law_step" s_law_step t.a_law_step t.d_law_step
  m_law_step : mg "_law_step" = some (.ref t.a_law_step)
  b_law_step : Binds K t.d_law_step ["_law_form_here", "_law_cell_here"] []
  F_law_measured : Fun K "_law_measured" "_law_measured" s_law_measured t.a_law_measured t.d_law_measured
  m_law_measured : mg "_law_measured" = some (.ref t.a_law_measured)
  b_law_measured : Binds K t.d_law_measured ["_law_form_here", "_law_one", "_law_other"] []
  F_law_is_two : Fun K "_law_is_two" "_law_is_two" s_law_is_two t.a_law_is_two t.d_law_is_two
  m_law_is_two : mg "_law_is_two" = some (.ref t.a_law_is_two)
  b_law_is_two : Binds K t.d_law_is_two ["_law_found"] []
  F_law_right : Fun K "_law_right" "_law_right" s_law_right t.a_law_right t.d_law_right
  m_law_right : mg "_law_right" = some (.ref t.a_law_right)
  b_law_right : Binds K t.d_law_right ["_law_found", "_law_form_here"] []
  F_law_another : Fun K "_law_another" "_law_another" s_law_another t.a_law_another t.d_law_another
  m_law_another : mg "_law_another" = some (.ref t.a_law_another)
  b_law_another : Binds K t.d_law_another ["_law_e"] []
  F_law_refused : Fun K "_law_refused" "_law_refused" s_law_refused t.a_law_refused t.d_law_refused
  m_law_refused : mg "_law_refused" = some (.ref t.a_law_refused)
  b_law_refused : Binds K t.d_law_refused ["_law_a", "_law_b", "_law_c"] []
  F_law : Fun K "law" "law" s_law t.a_law t.d_law
  m_law : mg "law" = some (.ref t.a_law)
  b_law : Binds K t.d_law ["_law_script"] []
  z_range : mg "range" = none
  z_zip : mg "zip" = none
  z_len : mg "len" = none
  z_abs : mg "abs" = none
  z_isinstance : mg "isinstance" = none
  z_int : mg "int" = none
  z_bool : mg "bool" = none
  z_list : mg "list" = none
  z_tuple : mg "tuple" = none
  z_ValueError : mg "ValueError" = none
  m_CrystalError : mg "CrystalError" = some (.ref t.a_CrystalError)
  m_NoPlace : mg "NoPlace" = some (.ref t.a_NoPlace)
  m_NoDeed : mg "NoDeed" = some (.ref t.a_NoDeed)
  m_NoNumber : mg "NoNumber" = some (.ref t.a_NoNumber)
  m_TooMany : mg "TooMany" = some (.ref t.a_TooMany)
  m_NoChange : mg "NoChange" = some (.ref t.a_NoChange)
  m_NotKept : mg "NotKept" = some (.ref t.a_NotKept)
  m_NoForm : mg "NoForm" = some (.ref t.a_NoForm)
  k_int : PySem.W.kitOne K (.type "int") (.type "int") = some true
  k_ib : PySem.W.kitOne K (.type "int") (.type "bool") = some false
  k_tt : PySem.W.kitOne K (.type "tuple") (.type "tuple") = some true
  x_NoForm : PySem.W.excIn K t.a_NoForm [.type "ValueError", .type "Exception", .type "BaseException", .type "object"] "ValueError.__new__" = true
  xm : PySem.W.exmOne K (.ref t.a_NoForm) (.ref t.a_CrystalError) = some true
  e_ga : PySem.W.findIn K (.ref t.a_NoForm) "__getattribute__" = some (some (.builtin "BaseException.__getattribute__"))
  e_gt : PySem.W.findIn K (.ref t.a_NoForm) "__getattr__" = some none
  e_ca : PySem.W.findIn K (.ref t.a_NoForm) "__class__" = some (some (.builtin "object.__class__"))
  e_cg : PySem.W.specialIn K (.builtin "object.__class__") "__get__" = some (some (.builtin "getset_descriptor.__get__"))
  e_tk : PySem.W.takesIn K (.builtin "object.__class__") = some true
  e_ob : PySem.W.mroIn K t.a_NoForm (.type "object") = some true
  e_bx : PySem.W.mroIn K t.a_NoForm (.type "BaseException") = some true
  i_VE : PySem.W.kitOne K (.ref t.a_NoForm) (.type "ValueError") = some true
  i_NoForm : PySem.W.kitOne K (.ref t.a_NoForm) (.ref t.a_NoForm) = some true
  i_NoChange : PySem.W.kitOne K (.ref t.a_NoForm) (.ref t.a_NoChange) = some false
  i_NoDeed : PySem.W.kitOne K (.ref t.a_NoForm) (.ref t.a_NoDeed) = some false
  i_NoNumber : PySem.W.kitOne K (.ref t.a_NoForm) (.ref t.a_NoNumber) = some false
  i_NoPlace : PySem.W.kitOne K (.ref t.a_NoForm) (.ref t.a_NoPlace) = some false
  i_NotKept : PySem.W.kitOne K (.ref t.a_NoForm) (.ref t.a_NotKept) = some false
  i_TooMany : PySem.W.kitOne K (.ref t.a_NoForm) (.ref t.a_TooMany) = some false
  bl : ∀ (s : Shared) (u : Value), BindsTo s t.d_law ⟨[u], []⟩ [("_law_script", u)]
local macro_rules | `(tactic| walk_at "rd2") => `(tactic| simp only [tSeq, tAsg, gName, tVar, tC, tOp, rd_rI0, rd_rI, rd_rU, tUn, tTest, tB, tIfS, tIf, tAnd, tOr, tNot, tAndV, tOrV, tNotV, tRet, tRetN, tNext, tDrop, tCall, tCallX, tCons, tNil, tCB, tTup, tLst, tPar, tSetC, tBM, tBM0, tSl, tPart, tNoPart, List.getElem?_cons_zero, List.getElem?_cons_succ, Option.some.injEq, exists_eq_left', exists_eq_left, List.set_cons_zero, List.set_cons_succ, List.cons.injEq, V.int.injEq, V.bl.injEq, V.ref.injEq, and_true, true_and, List.append_nil, ne_eq, exists_and_left, and_assoc, ↓reduceIte, Bool.not_true, Bool.not_false, Bool.false_eq_true])
noncomputable def frm (a b c x y x' y' : Int) : Int := a * x * x' + c * y * y' + b * x * y' + b * y * x'
noncomputable def Eqv (a b c a' b' c' : Int) : Prop := ∃ p q r s : Int, (p * s - q * r = 1 ∨ p * s - q * r = -1) ∧ a' = frm a b c p r p r ∧ b' = frm a b c p r q s ∧ c' = frm a b c q s q s
noncomputable def Least (a b c : Int) : Prop := 0 < a ∧ 0 ≤ 2 * b ∧ 2 * b ≤ a ∧ a ≤ c
theorem Eqv.refl (a b c : Int) : Eqv a b c a b c := ⟨1, 0, 0, 1, by omega, by unfold frm; grind, by unfold frm; grind, by unfold frm; grind⟩
theorem Eqv.trans {a b c a' b' c' a2 b2 c2 : Int} (h : Eqv a b c a' b' c') (k : Eqv a' b' c' a2 b2 c2) : Eqv a b c a2 b2 c2 := by
  obtain ⟨p, q, r, s, d, rfl, rfl, rfl⟩ := h
  obtain ⟨p', q', r', s', d', rfl, rfl, rfl⟩ := k
  refine ⟨p * p' + q * r', p * q' + q * s', r * p' + s * r', r * q' + s * s', ?_, ?_, ?_, ?_⟩
  · have e : (p * p' + q * r') * (r * q' + s * s') - (p * q' + q * s') * (r * p' + s * r') = (p * s - q * r) * (p' * s' - q' * r') := by grind
    rw [e]
    rcases d with d | d <;> rcases d' with d' | d' <;> rw [d, d'] <;> decide
  all_goals (unfold frm; grind)
theorem Eqv.symm {a b c a' b' c' : Int} (h : Eqv a b c a' b' c') : Eqv a' b' c' a b c := by
  obtain ⟨p, q, r, s, d, rfl, rfl, rfl⟩ := h
  have e : ∃ e : Int, e * e = 1 ∧ p * s - q * r = e := by rcases d with d | d <;> exact ⟨_, by decide, d⟩
  obtain ⟨e, e1, e2⟩ := e
  have k1 : (e * s) * (e * p) - (-(e * q)) * (-(e * r)) = p * s - q * r := by grind
  refine ⟨e * s, -(e * q), -(e * r), e * p, by rw [k1]; exact d, ?_, ?_, ?_⟩
  · have : e * e * (p * s - q * r) * (p * s - q * r) = 1 := by rw [e2]; grind
    unfold frm; grind
  · have : e * e * (p * s - q * r) * (p * s - q * r) = 1 := by rw [e2]; grind
    unfold frm; grind
  · have : e * e * (p * s - q * r) * (p * s - q * r) = 1 := by rw [e2]; grind
    unfold frm; grind
theorem low1 {a b c X Y : Int} (h : Least a b c) (hX : 1 ≤ X) (hY : 1 ≤ Y) : c ≤ a * X * X - 2 * b * X * Y + c * Y * Y := by
  obtain ⟨h0, h1, h2, h3⟩ := h
  have m1 : 0 ≤ (a - 2 * b) * (X * Y) := Int.mul_nonneg (by omega) (Int.mul_nonneg (by omega) (by omega))
  rcases Int.lt_or_le X Y with l | l
  · have m2 : 0 ≤ (c - a) * (X * (Y - X)) := Int.mul_nonneg (by omega) (Int.mul_nonneg (by omega) (by omega))
    have m3 : 0 ≤ c * (Y * (Y - X) + X * X - 1) := by
      refine Int.mul_nonneg (by omega) ?_
      have := Int.mul_nonneg (show 0 ≤ Y by omega) (show 0 ≤ Y - X by omega)
      have := Int.mul_le_mul hX hX (by omega) (by omega)
      omega
    grind
  · have m2 : 0 ≤ a * (X * (X - Y)) := Int.mul_nonneg (by omega) (Int.mul_nonneg (by omega) (by omega))
    have m3 : 0 ≤ c * (Y * Y - 1) := by
      refine Int.mul_nonneg (by omega) ?_
      have := Int.mul_le_mul hY hY (by omega) (by omega)
      omega
    grind
theorem low2 {a b c x y : Int} (h : Least a b c) (hy : y ≠ 0) : c ≤ frm a b c x y x y := by
  have h' := h
  obtain ⟨h0, h1, h2, h3⟩ := h'
  have pos : ∀ {x y : Int}, 0 ≤ x → 1 ≤ y → c ≤ a * x * x + 2 * b * x * y + c * y * y := fun {x y} hx hy => by
    have m1 : 0 ≤ a * (x * x) := Int.mul_nonneg (by omega) (Int.mul_nonneg hx hx)
    have m2 : 0 ≤ 2 * b * (x * y) := Int.mul_nonneg (by omega) (Int.mul_nonneg hx (by omega))
    have m3 : 0 ≤ c * (y * y - 1) := by
      refine Int.mul_nonneg (by omega) ?_
      have := Int.mul_le_mul hy hy (by omega) (by omega)
      omega
    grind
  unfold frm
  rcases Int.lt_or_le y 0 with ly | ly
  · rcases Int.lt_or_le 0 x with lx | lx
    · have := low1 (X := x) (Y := -y) h (by omega) (by omega); grind
    · have := pos (x := -x) (y := -y) (by omega) (by omega); grind
  · rcases Int.lt_or_le x 0 with lx | lx
    · have := low1 (X := -x) (Y := y) h (by omega) (by omega); grind
    · have := pos (x := x) (y := y) (by omega) (by omega); grind
theorem low3 {a b c x : Int} (h : Least a b c) (hx : x ≠ 0) : a ≤ frm a b c x 0 x 0 := by
  unfold frm
  have : 1 ≤ x * x := by
    rcases Int.lt_or_le x 0 with l | l
    · have := Int.mul_le_mul (show 1 ≤ -x by omega) (show 1 ≤ -x by omega) (by omega) (by omega); grind
    · have := Int.mul_le_mul (show 1 ≤ x by omega) (show 1 ≤ x by omega) (by omega) (by omega); grind
  have := Int.mul_nonneg (show 0 ≤ a by have := h.1; omega) (show 0 ≤ x * x - 1 by omega)
  grind
theorem le_of_eqv {a b c a' b' c' : Int} (h : Least a b c) (h' : Least a' b' c') (k : Eqv a b c a' b' c') : a ≤ a' ∧ c ≤ c' ∧ a' * c' - b' * b' = a * c - b * b := by
  obtain ⟨p, q, r, s, d, e1, e2, e3⟩ := k
  have d' : a' * c' - b' * b' = a * c - b * b := by
    have : (p * s - q * r) * (p * s - q * r) = 1 := by rcases d with d | d <;> rw [d] <;> decide
    rw [e1, e2, e3]; unfold frm; grind
  by_cases hr : r = 0
  · subst hr
    have hp : p ≠ 0 := fun z => by subst z; rcases d with d | d <;> simp at d
    have hs : s ≠ 0 := fun z => by subst z; rcases d with d | d <;> simp at d
    exact ⟨e1 ▸ low3 h hp, e3 ▸ low2 h hs, d'⟩
  · have w1 : c ≤ a' := e1 ▸ low2 h hr
    have w2 := h'.2.2.2
    have w3 := h.2.2.2
    exact ⟨by omega, by omega, d'⟩
theorem least_uniq {a b c a' b' c' : Int} (h : Least a b c) (h' : Least a' b' c') (k : Eqv a b c a' b' c') : a = a' ∧ b = b' ∧ c = c' := by
  have k1 := le_of_eqv h h' k
  have k2 := le_of_eqv h' h k.symm
  have ea : a = a' := by omega
  have ec : c = c' := by omega
  subst ea ec
  refine ⟨rfl, ?_, rfl⟩
  have hb : (b - b') * (b + b') = 0 := by have := k1.2.2; grind
  have p1 := h.2.1
  have p2 := h'.2.1
  rcases Int.mul_eq_zero.mp hb with z | z <;> omega
theorem sqnn (x : Int) : 0 ≤ x * x := by
  rcases Int.lt_or_le x 0 with l | l
  · have := Int.mul_nonneg (show 0 ≤ -x by omega) (show 0 ≤ -x by omega); grind
  · exact Int.mul_nonneg l l
/-- the state of the loop: the form in the base (p, r), (q, s) -/
structure LS (a0 b0 c0 N a b c p r q s : Int) : Prop where
  ea : a = frm a0 b0 c0 p r p r
  eb : b = frm a0 b0 c0 p r q s
  ec : c = frm a0 b0 c0 q s q s
  d : p * s - q * r = 1 ∨ p * s - q * r = -1
  pa : 0 < a
  pc : 0 < c
  la : a ≤ N
  lc : c ≤ N
noncomputable def Pos (a b c N : Int) : Prop := 0 < a ∧ b * b < a * c ∧ a ≤ N ∧ c ≤ N
theorem Pos.pc {a b c N : Int} (h : Pos a b c N) : 0 < c := by
  obtain ⟨h1, h2, _, _⟩ := h
  rcases Int.lt_or_le 0 c with l | l
  · exact l
  · have := Int.mul_nonneg (show 0 ≤ a by omega) (show 0 ≤ -c by omega)
    have := sqnn b
    grind
theorem LS.start {a b c N : Int} (h : Pos a b c N) : LS a b c N a b c 1 0 0 1 := ⟨by unfold frm; grind, by unfold frm; grind, by unfold frm; grind, by omega, h.1, h.pc, h.2.2.1, h.2.2.2⟩
theorem LS.disc {a0 b0 c0 N a b c p r q s : Int} (h : LS a0 b0 c0 N a b c p r q s) : a * c - b * b = a0 * c0 - b0 * b0 := by
  have : (p * s - q * r) * (p * s - q * r) = 1 := by rcases h.d with d | d <;> rw [d] <;> decide
  rw [h.ea, h.eb, h.ec]; unfold frm; grind
theorem LS.swap {a0 b0 c0 N a b c p r q s : Int} (h : LS a0 b0 c0 N a b c p r q s) : LS a0 b0 c0 N c b a q s p r :=
  ⟨h.ec, by rw [h.eb]; unfold frm; grind, h.ea, h.d.elim (fun d => .inr (by grind)) (fun d => .inl (by grind)), h.pc, h.pa, h.lc, h.la⟩
theorem LS.less {a0 b0 c0 N a b c p r q s : Int} (h : LS a0 b0 c0 N a b c p r q s) (h0 : Pos a0 b0 c0 N) (k : Int) (hk : -a ≤ 2 * (b - k * a)) (hk2 : 2 * (b - k * a) < a) :
    LS a0 b0 c0 N a (b - k * a) (c - 2 * k * b + k * k * a) p r (q - k * p) (s - k * r) := by
  have d := h.disc
  have h1 : a * (c - 2 * k * b + k * k * a) - (b - k * a) * (b - k * a) = a0 * c0 - b0 * b0 := by grind
  have hp : 0 < a * (c - 2 * k * b + k * k * a) := by
    have := h0.2.1
    have := sqnn (b - k * a)
    omega
  have hpa := h.pa
  have hpc : 0 < c - 2 * k * b + k * k * a := by
    rcases Int.lt_or_le 0 (c - 2 * k * b + k * k * a) with l | l
    · exact l
    · have := Int.mul_nonneg (show 0 ≤ a by omega) (show 0 ≤ -(c - 2 * k * b + k * k * a) by omega)
      grind
  refine ⟨h.ea, by rw [h.ea, h.eb]; unfold frm; grind, by rw [h.ea, h.eb, h.ec]; unfold frm; grind, h.d.elim (fun d => .inl (by grind)) (fun d => .inr (by grind)), h.pa, hpc, h.la, ?_⟩
  have : c - 2 * k * b + k * k * a ≤ c := by
    rcases Int.lt_or_le 0 k with l | l
    · have m1 := Int.mul_nonneg (show 0 ≤ k - 1 by omega) (show 0 ≤ a by omega)
      have m2 : 0 ≤ b + (b - k * a) := by grind
      have m3 := Int.mul_nonneg (show 0 ≤ k by omega) m2
      grind
    · rcases Int.lt_or_le k 0 with l2 | l2
      · have m1 := Int.mul_nonneg (show 0 ≤ -k - 1 by omega) (show 0 ≤ a by omega)
        have m2 : 0 ≤ -(b + (b - k * a)) := by grind
        have m3 := Int.mul_nonneg (show 0 ≤ -k by omega) m2
        grind
      · have : k = 0 := by omega
        subst this; grind
  have := h.lc
  omega
theorem sq_le {x N : Int} (hN : 0 ≤ N) (h : x * x ≤ N * N) : -N ≤ x ∧ x ≤ N := by
  constructor
  · rcases Int.lt_or_le x (-N) with l | l
    · have := Int.mul_nonneg (show 0 ≤ -x - N - 1 by omega) (show 0 ≤ -x + N by omega); grind
    · exact l
  · rcases Int.lt_or_le N x with l | l
    · have := Int.mul_nonneg (show 0 ≤ x - N - 1 by omega) (show 0 ≤ x + N by omega); grind
    · exact l
theorem vec_le {a b c N x y : Int} (h0 : Pos a b c N) (h : frm a b c x y x y ≤ N) : (-N ≤ x ∧ x ≤ N) ∧ -N ≤ y ∧ y ≤ N := by
  have hc := h0.pc
  obtain ⟨h1, h2, h3, h4⟩ := h0
  have hN : 0 ≤ N := by omega
  have e1 : a * frm a b c x y x y = (a * x + b * y) * (a * x + b * y) + (a * c - b * b) * (y * y) := by unfold frm; grind
  have e2 : c * frm a b c x y x y = (c * y + b * x) * (c * y + b * x) + (a * c - b * b) * (x * x) := by unfold frm; grind
  have g : ∀ {u z v : Int}, 0 < u → u ≤ N → u * frm a b c x y x y = v * v + (a * c - b * b) * (z * z) → z * z ≤ N * N := fun {u z v} hu hn e => by
    have s1 := sqnn v
    have s2 := Int.mul_nonneg (show 0 ≤ a * c - b * b - 1 by omega) (sqnn z)
    have s3 := Int.mul_le_mul_of_nonneg_left h (show 0 ≤ u by omega)
    have s4 := Int.mul_le_mul_of_nonneg_right hn hN
    grind
  exact ⟨sq_le hN (g hc h4 e2), sq_le hN (g h1 h3 e1)⟩
theorem LS.bb {a0 b0 c0 N a b c p r q s : Int} (h : LS a0 b0 c0 N a b c p r q s) (h0 : Pos a0 b0 c0 N) : -N ≤ b ∧ b ≤ N := by
  have d := h.disc
  have := h.pa
  have := h.pc
  have := h.la
  have := h.lc
  have := h0.2.1
  refine sq_le (by omega) ?_
  have := Int.mul_le_mul h.la h.lc (by omega) (by omega)
  omega
/-- the nearest number -/
theorem near {b a : Int} (h : 0 < a) : -a ≤ 2 * (b - (2 * b + a).fdiv (2 * a) * a) ∧ 2 * (b - (2 * b + a).fdiv (2 * a) * a) < a := by
  have e1 := Int.mul_fdiv_add_fmod (2 * b + a) (2 * a)
  have e2 := Int.fmod_nonneg_of_pos (2 * b + a) (show 0 < 2 * a by omega)
  have e3 := Int.fmod_lt_of_pos (2 * b + a) (show 0 < 2 * a by omega)
  have e4 : 2 * a * (2 * b + a).fdiv (2 * a) = 2 * ((2 * b + a).fdiv (2 * a) * a) := by grind
  omega
theorem near_le {b a N : Int} (h : 0 < a) (hb : -N ≤ b ∧ b ≤ N) : -(N + 1) ≤ (2 * b + a).fdiv (2 * a) ∧ (2 * b + a).fdiv (2 * a) ≤ N + 1 := by
  obtain ⟨k1, k2⟩ := near (b := b) h
  generalize (2 * b + a).fdiv (2 * a) = k at k1 k2
  constructor
  · rcases Int.lt_or_le k (-(N + 1)) with l | l
    · have := Int.mul_nonneg (show 0 ≤ -k - (N + 2) by omega) (show 0 ≤ a by omega)
      have := Int.mul_nonneg (show 0 ≤ N + 1 by omega) (show 0 ≤ a - 1 by omega)
      grind
    · exact l
  · rcases Int.lt_or_le (N + 1) k with l | l
    · have := Int.mul_nonneg (show 0 ≤ k - (N + 2) by omega) (show 0 ≤ a by omega)
      have := Int.mul_nonneg (show 0 ≤ N + 1 by omega) (show 0 ≤ a - 1 by omega)
      grind
    · exact l
noncomputable def sp_dot (K : PySem.W.Frag) : Sp := fun vs H Q _ => ∃ (b1 b2 : Bool) (p q : Addr) (ms ns : List Int), vs = [.ref p, .ref q] ∧ SqB b1 K H p (ms.map V.int) ∧ SqB b2 K H q (ns.map V.int) ∧ ms.length = ns.length ∧ ms.length ≤ 1000 ∧
  (∀ (i : Nat) m n, ms[i]? = some m → ns[i]? = some n → IntMulOk m n) ∧ ∀ H', Same H H' → Q (.int (dotI ms ns)) H'
noncomputable def sp_turned (K : PySem.W.Frag) : Sp := fun vs H Q _ => ∃ (b1 b2 : Bool) (a : Addr) (rows : List (List Int)) (w : Nat), vs = [.ref a] ∧ MatB b1 b2 K H a rows ∧ rows ≠ [] ∧ (∀ r ∈ rows, r.length = w) ∧ w ≤ 1000 ∧ rows.length ≤ 1000 ∧
  ∀ r H', H r = none → Same H H' → MatL H' r (turnM w rows) → Q (.ref r) H'
/-- what may be multiplied -/
noncomputable def MulOkM (A B : List (List Int)) : Prop := ∀ r ∈ A, ∀ x ∈ r, ∀ r' ∈ B, ∀ y ∈ r', IntMulOk x y
noncomputable def sp_times (K : PySem.W.Frag) : Sp := fun vs H Q _ => ∃ (b1 b2 b3 b4 : Bool) (a b : Addr) (A B : List (List Int)) (w : Nat), vs = [.ref a, .ref b] ∧ MatB b1 b2 K H a A ∧ MatB b3 b4 K H b B ∧ B ≠ [] ∧ (∀ r ∈ B, r.length = w) ∧ (∀ r ∈ A, r.length = B.length) ∧
  w ≤ 1000 ∧ A.length ≤ 1000 ∧ B.length ≤ 1000 ∧ MulOkM A B ∧ ∀ r H', H r = none → Same H H' → MatL H' r (mulM w A B) → Q (.ref r) H'

noncomputable def bnd (B : Nat) (x : Int) : Prop := x.natAbs < 2 ^ B
theorem bnd.up {B C : Nat} {x : Int} (h : bnd B x) (hl : B ≤ C) : bnd C x := Nat.lt_of_lt_of_le h (Nat.pow_le_pow_right (by decide) hl)
theorem bnd.mul {B C : Nat} {x y : Int} (h : bnd B x) (h' : bnd C y) : bnd (B + C) (x * y) := by
  unfold bnd
  rw [Int.natAbs_mul, Nat.pow_add]
  exact Nat.mul_lt_mul'' h h'
theorem bits_of {x : Int} {B : Nat} (h : x.natAbs < 2 ^ B) : Builtin.Int.intBits x ≤ B := intBits_le_iff.mpr h
theorem bnd.ok {B C : Nat} {x y : Int} (h : bnd B x) (h' : bnd C y) (hs : B + C ≤ 134217728 := by decide) : IntMulOk x y :=
  PyProof.Rows.mulOk_of_bits (bits_of h) (bits_of h') hs
structure Red (a b c A B C p q r s : Int) : Prop where
  least : Least A B C
  d : p * s - q * r = 1 ∨ p * s - q * r = -1
  ea : A = frm a b c p r p r
  eb : B = frm a b c p r q s
  ec : C = frm a b c q s q s
  bp : bnd 1001 p
  bq : bnd 1001 q
  br : bnd 1001 r
  bs : bnd 1001 s
theorem LS.neg {a0 b0 c0 N a b c p r q s : Int} (h : LS a0 b0 c0 N a b c p r q s) : LS a0 b0 c0 N a (-b) c p r (-q) (-s) :=
  ⟨h.ea, by rw [h.eb]; unfold frm; grind, by rw [h.ec]; unfold frm; grind, h.d.elim (fun d => .inr (by grind)) (fun d => .inl (by grind)), h.pa, h.pc, h.la, h.lc⟩
theorem bndN {x N : Int} (hN : N.natAbs < 2 ^ 1000) (h : -N ≤ x ∧ x ≤ N) : bnd 1000 x := by
  unfold bnd
  have : x.natAbs ≤ N.natAbs := by omega
  omega
theorem red_of {a0 b0 c0 N a b c p r q s : Int} (h : LS a0 b0 c0 N a b c p r q s) (h0 : Pos a0 b0 c0 N) (hN : N.natAbs < 2 ^ 1000) (h1 : 0 ≤ b) (h2 : 2 * b ≤ a) (h3 : a ≤ c) : Red a0 b0 c0 a b c p q r s := by
  have v1 := vec_le (x := p) (y := r) h0 (by rw [← h.ea]; exact h.la)
  have v2 := vec_le (x := q) (y := s) h0 (by rw [← h.ec]; exact h.lc)
  exact ⟨⟨h.pa, by omega, h2, h3⟩, h.d, h.ea, h.eb, h.ec, (bndN hN v1.1).up (by decide), (bndN hN v2.1).up (by decide), (bndN hN v1.2).up (by decide), (bndN hN v2.2).up (by decide)⟩
theorem Red.eqv {a b c A B C p q r s : Int} (h : Red a b c A B C p q r s) : Eqv a b c A B C := ⟨p, q, r, s, h.d, h.ea, h.eb, h.ec⟩
theorem Eqv.pos {a b c a' b' c' : Int} (h : Eqv a b c a' b' c') (h0 : 0 < a) (h1 : b * b < a * c) : 0 < a' ∧ b' * b' < a' * c' := by
  obtain ⟨p, q, r, s, d, rfl, rfl, rfl⟩ := h
  have e2 : (p * s - q * r) * (p * s - q * r) = 1 := by rcases d with d | d <;> rw [d] <;> decide
  have e1 : a * frm a b c p r p r = (a * p + b * r) * (a * p + b * r) + (a * c - b * b) * (r * r) := by unfold frm; grind
  have k1 : 0 < frm a b c p r p r := by
    have s1 := sqnn (a * p + b * r)
    have s2 := sqnn r
    have pos : 0 < a * frm a b c p r p r := by
      rw [e1]
      by_cases hr : r = 0
      · subst hr
        have hp : p ≠ 0 := fun z => by subst z; simp at e2
        have : 0 < p * p := by
          rcases Int.lt_or_le p 0 with l | l
          · have := Int.mul_pos (show 0 < -p by omega) (show 0 < -p by omega); grind
          · exact Int.mul_pos (by omega) (by omega)
        have := Int.mul_pos (Int.mul_pos h0 h0) this
        grind
      · have : 0 < r * r := by
          rcases Int.lt_or_le r 0 with l | l
          · have := Int.mul_pos (show 0 < -r by omega) (show 0 < -r by omega); grind
          · exact Int.mul_pos (by omega) (by omega)
        have := Int.mul_pos (show 0 < a * c - b * b by omega) this
        omega
    rcases Int.lt_or_le 0 (frm a b c p r p r) with l | l
    · exact l
    · have := Int.mul_nonneg (show 0 ≤ a by omega) (show 0 ≤ -frm a b c p r p r by omega)
      grind
  refine ⟨k1, ?_⟩
  have : frm a b c p r p r * frm a b c q s q s - frm a b c p r q s * frm a b c p r q s = (a * c - b * b) * ((p * s - q * r) * (p * s - q * r)) := by unfold frm; grind
  rw [e2] at this
  omega
noncomputable def FormAt (K : PySem.W.Frag) (H : Hp) (z : Addr) (a b c p q r s : Int) : Prop := ∃ l m : Addr, H z = some (.tup [.ref l, .ref m]) ∧ H l = some (.tup [.int a, .int b, .int c]) ∧ MatB true true K H m [[p, q], [r, s]]
theorem FormAt.up {K : PySem.W.Frag} {H H' : Hp} {z : Addr} {a b c p q r s : Int} (h : FormAt K H z a b c p q r s) (k : Same H H') : FormAt K H' z a b c p q r s :=
  let ⟨l, m, h1, h2, h3⟩ := h; ⟨l, m, k _ _ h1, k _ _ h2, h3.up k⟩
noncomputable def sp_nearest : Sp := fun vs H Q _ => ∃ b a : Int, vs = [.int b, .int a] ∧ 0 < a ∧ bnd 2000 a ∧ Q (.int ((2 * b + a).fdiv (2 * a))) H
noncomputable def sp_less (K : PySem.W.Frag) : Sp := fun vs H Q _ => ∃ (p q : Addr) (x y x' y' k : Int), vs = [.ref p, .ref q, .int k] ∧ SqL K H p [.int x, .int y] ∧ SqL K H q [.int x', .int y'] ∧ IntMulOk k x' ∧ IntMulOk k y' ∧
  ∀ r H', Same H H' → H' r = some (.lst [.int (x - k * x'), .int (y - k * y')]) → Q (.ref r) H'
noncomputable def sp_least_form (K : PySem.W.Frag) (C : Addr) : Sp := fun vs H Q E => ∃ a b c : Int, vs = [.int a, .int b, .int c] ∧ bnd 900 a ∧ bnd 900 b ∧ bnd 900 c ∧
  ((a ≤ 0 ∨ a * c ≤ b * b) → E (.ref C) none H) ∧ (0 < a → b * b < a * c → ∀ z H' A B C' p q r s, Same H H' → FormAt K H' z A B C' p q r s → Red a b c A B C' p q r s → Q (.ref z) H')
noncomputable def sp_law_cell (K : PySem.W.Frag) : Sp := fun vs H Q _ => ∃ (p : Addr) (ns : List Int) (k : Int), vs = [.ref p, .int k] ∧ SqL K H p (ns.map V.int) ∧ 0 ≤ k ∧ Q (.int (ns.getD k.toNat 0)) H
noncomputable def sp_law_int : Sp := fun vs H Q _ => ∃ i, vs = [.int i] ∧ Q (.bl true) H
noncomputable def sp_law_form (K : PySem.W.Frag) : Sp := fun vs H Q _ => ∃ (p : Addr) (ns : List Int), vs = [.ref p] ∧ SqL K H p (ns.map V.int) ∧
  ∀ l H' a b c, Same H H' → SqL K H' l [.int a, .int b, .int c] → 0 < a → b * b < a * c → bnd 210 a → bnd 210 b → bnd 210 c → Q (.ref l) H'
noncomputable def sp_law_step (K : PySem.W.Frag) : Sp := fun vs H Q _ => ∃ (p : Addr) (a b c x : Int) (B : Nat), vs = [.ref p, .int x] ∧ SqL K H p [.int a, .int b, .int c] ∧ bnd B a ∧ bnd B b ∧ bnd B c ∧ B ≤ 400 ∧
  ∀ l H' a' b' c', Same H H' → SqL K H' l [.int a', .int b', .int c'] → Eqv a b c a' b' c' → bnd (B + 4) a' → bnd (B + 4) b' → bnd (B + 4) c' → Q (.ref l) H'
noncomputable def sp_law_measured (K : PySem.W.Frag) : Sp := fun vs H Q _ => ∃ (f u v : Addr) (a b c x y x' y' : Int), vs = [.ref f, .ref u, .ref v] ∧ SqL K H f [.int a, .int b, .int c] ∧ H u = some (.tup [.int x, .int y]) ∧ H v = some (.tup [.int x', .int y']) ∧
  bnd 900 a ∧ bnd 900 b ∧ bnd 900 c ∧ bnd 1001 x ∧ bnd 1001 y ∧ bnd 1001 x' ∧ bnd 1001 y' ∧ Q (.int (frm a b c x y x' y')) H
noncomputable def sp_law_is_two (K : PySem.W.Frag) : Sp := fun vs H Q _ => ∃ (p : Addr) (x y : Int), vs = [.ref p] ∧ SqB true K H p ([x, y].map V.int) ∧ Q (.bl true) H
noncomputable def sp_law_right (K : PySem.W.Frag) : Sp := fun vs H Q _ => ∃ (z f : Addr) (a b c A B C p q r s : Int), vs = [.ref z, .ref f] ∧ FormAt K H z A B C p q r s ∧ SqL K H f [.int a, .int b, .int c] ∧ Red a b c A B C p q r s ∧ bnd 900 a ∧ bnd 900 b ∧ bnd 900 c ∧ ∀ H', Same H H' → Q (.bl true) H'
noncomputable def sp_law_another (C : Addr) : Sp := fun vs H Q _ => ∃ e, vs = [.ref e] ∧ H e = some (ExcAt e (.ref C)) ∧ ∀ H', Same H H' → Q (.bl false) H'
noncomputable def sp_law_refused : Sp := fun vs H Q _ => ∃ a b c : Int, vs = [.int a, .int b, .int c] ∧ bnd 900 a ∧ bnd 900 b ∧ bnd 900 c ∧ (a ≤ 0 ∨ a * c ≤ b * b) ∧ ∀ H', Same H H' → Q (.bl true) H'
section
variable {P : Program} {w : World} {K : PySem.W.Frag} {mg : Str → Option Value} {base : Heap} {t : Adr}
theorem call_isiK {X : Cx} (h : X.K = K) : CallR X (.builtin "isinstance") (rIsi K) := by
  subst h
  exact call_isi
theorem ix_BK {X : Cx} (h : X.K = K) : IxR X (rIxB K) := by
  subst h
  exact ix_B

theorem ok_turned (T : Txt K mg t) : FnOk P w K mg base CX0 1 t.a_turned t.d_turned ["rows"] (sp_turned K) := by
  refine T.F_turned.ok sc_turned (fun vs H Q E h => ?_) (fun cdv A outer s H vs Q E hr h => ?_)
  · obtain ⟨b1, b2, a, rows, w, rfl, _⟩ := h
    rfl
  · obtain ⟨b1, b2, a, rows, w, rfl, hM, hne, hw, hw1, hl1, hQ⟩ := h
    refine ⟨_, (pss_one (ps_ret (pe_compG (xs := ["k"]) (fr := [("rows", 0)]) (g := (gName 0)) (tt := (tEl (tCompG (iSeq K (tVar 1)) (gName 0) (tEl (tOp (rIxB K) (tVar 0) (tVar 1))) 1 [("k", 0)]))) (compG_ok (sc := defScope s_turned) (N := N_turned) rfl rfl (by decide +kernel)) rfl (pi_range1 rfl T.z_range (pa_cons (pe_callB call_lenB rfl T.z_len (by decide +kernel) (pa_cons (pe_ix ix_B (pv 0) pe_int (fun _ _ => rfl)) pa_nil)) pa_nil)) (fun _ _ _ hE1 => (pg_ownC (N := ["k", "rows"]) (i := 0) hE1 rfl (by decide +kernel) rfl)) (fun _ _ _ hE1 => (po_el (pe_compG (xs := ["row"]) (fr := [("k", 0)]) (g := (gName 0)) (tt := (tEl (tOp (rIxB K) (tVar 0) (tVar 1)))) (compG_ok (N := ["k", "rows"]) hE1 rfl (by decide +kernel)) rfl (pi_seq (pv 1)) (fun _ _ _ hE2 => (pg_own (N := ["row", "k"]) (i := 0) hE2 rfl (by decide +kernel))) (fun _ _ _ hE2 => (po_el (pe_ix ix_B (pv 0) (pv 1) (fun _ _ => rfl)))))))))), ?_⟩
    show tRet _ _ [some (.ref a)] H
    walk_at "rd2"
    refine compE_st fun B eB => ?_
    simp only [iRng1]
    walk_at "rd2"
    obtain ⟨r0, e0⟩ : ∃ r0, rows[0]? = some r0 := by cases rows with | nil => exact absurd rfl hne | cons r _ => exact ⟨r, rfl⟩
    have w0 : r0.length = w := hw r0 (List.mem_of_getElem? e0)
    obtain ⟨ps, p, k1, k2, k3, k4⟩ := hM.row e0
    refine ⟨b1, a, _, 0, _, rfl, rfl, k1, atI_at k2 rfl, b2, p, _, rfl, k4, ?_⟩
    rw [List.length_map, w0]
    refine ⟨_, rfl, by omega, by omega, fun a1 ha1 => ?_⟩
    rw [Int.toNat_natCast]
    refine cg_range (RowR a1 fun k => colI k rows) ha1 hw1 (RowR.mono (a := a1)) ?_ ?_
    · intro i H1 zs hi s1 ez Q' hQ'
      subst eB
      show tCompG _ _ _ _ _ [some (.int (0 + (i : Int))), some (.ref a)] H1 Q'
      refine compE_st fun B eB => ?_
      simp only [iSeq]
      walk_at "rd2"
      obtain ⟨xs, x1, x2, x3⟩ := (hM.up s1).walk
      refine ⟨b1, ⟨_, x1⟩, fun a2 ha2 => ?_⟩
      refine cg_seq (fun j y _ => ∃ r, rows[j]? = some r ∧ y = .int (r.getD i 0)) ha2 x1 (by omega) (fun _ _ _ _ r _ => r) ?_ ?_
      · intro j x H2 zs2 ex s2 ez2 Q2 hQ2
        obtain ⟨p, r, rfl, er, hp⟩ := x3 j x ex
        subst eB
        show tOp _ _ _ [some (.ref p), some (.int (0 + (i : Int)))] H2 Q2
        walk_at "rd2"
        have hri : i < r.length := by rw [hw r (List.mem_of_getElem? er)]; exact hi
        exact ⟨b2, p, _, _, _, rfl, rfl, hp.up s2, atI_at (int_at (getD_at hri)) (by omega), hQ2 _ _ (Same.refl _) ⟨r, er, rfl⟩⟩
      · intro H2 ys s2 e2 hly hr2
        have ey : ys = (colI i rows).map V.int := by
          refine list_is (by simp [colI]; omega) fun j y e => ?_
          obtain ⟨r, er, rfl⟩ := hr2 j y e
          exact ⟨r.getD i 0, by unfold colI; rw [List.getElem?_map, er]; rfl, rfl⟩
        subst ey
        exact hQ' _ _ s2 ⟨a2, rfl, Ne.symm (ne_of_none ez ha2), e2⟩
    · intro H1 ys s1 e1 hly hr1
      have := MatL.of e1 hr1
      rw [hly] at this
      exact hQ a1 H1 ha1 s1 this

theorem ok_nearest (T : Txt K mg t) : FnOk P w K mg base CX0 1 t.a_nearest t.d_nearest ["one", "other"] sp_nearest := by
  refine T.F_nearest.ok sc_nearest (fun vs H Q E h => ?_) (fun cdv A outer s H vs Q E hr h => ?_)
  · obtain ⟨b, a, rfl, _⟩ := h
    rfl
  · obtain ⟨b, a, rfl, h0, hb, q⟩ := h
    refine ⟨_, (pss_one (ps_ret (pe_op op_fdivB (pe_op op_add (pe_op op_mulB pe_int (pv 0)) (pv 1)) (pe_op op_mulB pe_int (pv 1))))), ?_⟩
    show tRet _ _ [some (.int b), some (.int a)] H
    walk_at "rd2"
    have hd : CDivB (2 * b + a) (2 * a) := by
      refine ⟨by omega, Nat.lt_of_lt_of_le ((Nat.log2_lt (by omega)).mpr (show (2 * a).natAbs < 2 ^ 2001 from ?_)) (by decide)⟩
      have e : (2 : Nat) ^ 2001 = 2 * 2 ^ 2000 := by rw [Nat.pow_succ]; omega
      have hb' : a.natAbs < 2 ^ 2000 := hb
      rw [e]
      generalize (2 : Nat) ^ 2000 = M at hb'
      omega
    exact ⟨IntMulOk.of_left (by decide), IntMulOk.of_left (by decide), hd, q⟩
theorem ok_less (T : Txt K mg t) : FnOk P w K mg base CX0 1 t.a_less t.d_less ["one", "other", "count"] (sp_less K) := by
  refine T.F_less.ok sc_less (fun vs H Q E h => ?_) (fun cdv A outer s H vs Q E hr h => ?_)
  · obtain ⟨p, q, x, y, x', y', k, rfl, _⟩ := h
    rfl
  · obtain ⟨p, q, x, y, x', y', k, rfl, h1, h2, m1, m2, hQ⟩ := h
    have h1' : SqB false K H p ([x, y].map V.int) := h1
    have h2' : SqB false K H q ([x', y'].map V.int) := h2
    refine ⟨_, (pss_one (ps_ret (pe_compG (xs := ["left", "right"]) (fr := [("count", 2)]) (g := (gTup K 2 (gCons (gName 0) (gCons (gName 1) gNil)))) (tt := (tEl (tOp (rI0 fun i j => .int (i - j)) (tVar 0) (tOp (rI (fun i j => IntMulOk i j) fun i j => .int (i * j)) (tVar 2) (tVar 1))))) (compG_ok (sc := defScope s_less) (N := N_less) rfl rfl (by decide +kernel)) rfl (pi_zip rfl T.z_zip (pa_cons (pv 0) (pa_cons (pv 1) pa_nil))) (fun _ _ _ hE1 => (pg_tup rfl (pgs_cons (pg_own (N := ["left", "right", "count"]) (i := 0) hE1 rfl (by decide +kernel)) (pgs_cons (pg_own (N := ["left", "right", "count"]) (i := 1) hE1 rfl (by decide +kernel)) pgs_nil)))) (fun _ _ _ hE1 => (po_el (pe_op op_sub (pv 0) (pe_op op_mulB (pv 2) (pv 1)))))))), ?_⟩
    show tRet _ _ [some (.ref p), some (.ref q), some (.int k)] H
    walk_at "rd2"
    refine compE_st fun B eB => ?_
    simp only [iZip]
    walk_at "rd2"
    refine ⟨false, ⟨_, h1'⟩, false, ⟨_, h2'⟩, fun a ha => ?_⟩
    refine cg_zip (fun j z _ => ∃ m n, [x, y][j]? = some m ∧ [x', y'][j]? = some n ∧ z = .int (m - k * n)) ha h1' h2' rfl (by simp) (fun _ _ _ _ r _ => r) ?_ ?_
    · intro i x1 y1 H1 zs ex ey s1 ez Q' hQ'
      obtain ⟨m, em, rfl⟩ := ints_at ex
      obtain ⟨n, en, rfl⟩ := ints_at ey
      subst eB
      show tOp _ _ _ [some (.int m), some (.int n), some (.int k)] H1 Q'
      walk_at "rd2"
      refine ⟨?_, hQ' _ _ (Same.refl _) ⟨m, n, em, en, rfl⟩⟩
      have := List.mem_of_getElem? en
      simp only [List.mem_cons, List.not_mem_nil, or_false] at this
      rcases this with rfl | rfl <;> assumption
    · intro H1 zs s1 ez hlz hr'
      have ey : zs = [x - k * x', y - k * y'].map V.int := by
        refine list_is (by simp at hlz ⊢; omega) fun j z e => ?_
        obtain ⟨m, n, em, en, rfl⟩ := hr' j z e
        refine ⟨m - k * n, ?_, rfl⟩
        match j, em, en with
        | 0, em, en => simp at em en; simp [em, en]
        | 1, em, en => simp at em en; simp [em, en]
        | j + 2, em, en => simp at em
      subst ey
      exact hQ a H1 s1 ez
noncomputable def mea (a b : Int) : Nat := (2 * a).toNat + (if a < 2 * (if b < 0 then -b else b) then 1 else 0)
theorem ite_or {c d A B : Prop} [Decidable c] [Decidable d] (h1 : c ∨ d → A) (h2 : ¬ c → ¬ d → B) : if c then A else if d then A else B := by
  by_cases hc : c
  · rw [if_pos hc]; exact h1 (.inl hc)
  · rw [if_neg hc]
    by_cases hd : d
    · rw [if_pos hd]; exact h1 (.inr hd)
    · rw [if_neg hd]; exact h2 hc hd
theorem ok_least_form (T : Txt K mg t) : FnOk P w K mg base (CX1 P w) 2 t.a_least_form t.d_least_form ["a", "b", "c"] (sp_least_form K t.a_NoForm) := by
  have G_nearest : FnOk P w K mg base CX0 1 t.a_nearest t.d_nearest ["one", "other"] sp_nearest := ok_nearest T
  have G_less : FnOk P w K mg base CX0 1 t.a_less t.d_less ["one", "other", "count"] (sp_less K) := ok_less T
  have G_turned : FnOk P w K mg base CX0 1 t.a_turned t.d_turned ["rows"] (sp_turned K) := ok_turned T
  refine T.F_least_form.okX sc_least_form (fun vs H Q E h => ?_) (fun cdv A outer s H vs Q E hr h => ?_)
  · obtain ⟨a, b, c, rfl, _⟩ := h
    rfl
  · obtain ⟨a0, b0, c0, rfl, ba, bb, bc, hE, hQ⟩ := h
    refine ⟨_, (pss_cons (ps_if (PW.pt (pw_or (pt_cmpR op_le (pv 0) pe_int (nomark _)) (pw_or1 (pt_cmpR op_le (pe_op op_mulB (pv 0) (pv 2)) (pe_op op_mulB (pv 1) (pv 1)) (nomark _)))))
      (pss_one (ps_raise rfl landsN_def rfl T.m_NoForm T.x_NoForm PySem.F.excBase_ValueError (pa_cons pe_str pa_nil)))
      pss_nil)
      (pss_cons (ps_set (i := 3) sc_least_form.nd rfl (Or.inl rfl) (pe_lst (pa_cons pe_int (pa_cons pe_int pa_nil))))
      (pss_cons (ps_set (i := 4) sc_least_form.nd rfl (Or.inl rfl) (pe_lst (pa_cons pe_int (pa_cons pe_int pa_nil))))
      (pss_cons (PS.nox (ps_while PassesOwn.never (PW.pt (pw_or (pt_cmpR op_gt (pe_op op_mulB pe_int (pe_callB call_abs rfl T.z_abs (by decide +kernel) (pa_cons (pv 1) pa_nil))) (pv 0) (nomark _)) (pw_or1 (pt_cmpR op_gt (pv 0) (pv 2) (nomark _)))))
      (pss_cons (ps_if (pt_cmpR op_gt (pv 0) (pv 2) (nomark _))
      (pss_cons (ps_set (i := 5) sc_least_form.nd rfl (Or.inl rfl) (pv 3))
      (pss_cons (ps_set (i := 3) sc_least_form.nd rfl (Or.inl rfl) (pv 4))
      (pss_cons (ps_set (i := 4) sc_least_form.nd rfl (Or.inl rfl) (pv 5))
      (pss_cons (ps_set (i := 5) sc_least_form.nd rfl (Or.inl rfl) (pv 0))
      (pss_cons (ps_set (i := 0) sc_least_form.nd rfl (Or.inl rfl) (pv 2))
      (pss_one (ps_set (i := 2) sc_least_form.nd rfl (Or.inl rfl) (pv 5))))))))
      pss_nil)
      (pss_cons (ps_set (i := 6) sc_least_form.nd rfl (Or.inl rfl) (pe_call G_nearest (hr.mono (by omega)) rfl T.m_nearest T.F_nearest.kp T.b_nearest .nil pass0 (pa_cons (pv 1) (pa_cons (pv 0) pa_nil))))
      (pss_cons (ps_set (i := 4) sc_least_form.nd rfl (Or.inl rfl) (pe_call G_less (hr.mono (by omega)) rfl T.m_less T.F_less.kp T.b_less .nil pass0 (pa_cons (pv 4) (pa_cons (pv 3) (pa_cons (pv 6) pa_nil)))))
      (pss_cons (ps_set (i := 2) sc_least_form.nd rfl (Or.inl rfl) (pe_op op_add (pe_op op_sub (pv 2) (pe_op op_mulB (pe_op op_mulB pe_int (pv 6)) (pv 1))) (pe_op op_mulB (pe_op op_mulB (pv 6) (pv 6)) (pv 0))))
      (pss_one (ps_set (i := 1) sc_least_form.nd rfl (Or.inl rfl) (pe_op op_sub (pv 1) (pe_op op_mulB (pv 6) (pv 0)))))))))))
      (pss_cons (ps_if (pt_cmpR op_lt (pv 1) pe_int (nomark _))
      (pss_cons (ps_setCG (i := 4) (xs := ["number"]) (fr := []) (g := (gName 0)) (tt := (tEl (tUn (rU fun i => .int (-i)) (tVar 0)))) (compG_ok (sc := defScope s_least_form) (N := N_least_form) rfl rfl (by decide +kernel)) rfl sc_least_form.nd rfl rfl (pi_seq (pv 4)) (fun _ _ _ hE1 => (pg_own (N := ["number"]) (i := 0) hE1 rfl (by decide +kernel))) (fun _ _ _ hE1 => (po_el (pe_un un_neg (pv 0)))))
      (pss_one (ps_set (i := 1) sc_least_form.nd rfl (Or.inl rfl) (pe_un un_neg (pv 1)))))
      pss_nil)
      (pss_cons (ps_set (i := 7) sc_least_form.nd rfl (Or.inl rfl) (pe_call G_turned (hr.mono (by omega)) rfl T.m_turned T.F_turned.kp T.b_turned .nil pass0 (pa_cons (pe_lst (pa_cons (pv 3) (pa_cons (pv 4) pa_nil))) pa_nil)))
      (pss_one (ps_ret (pe_tup (pa_cons (pe_tup (pa_cons (pv 0) (pa_cons (pv 1) (pa_cons (pv 2) pa_nil)))) (pa_cons (pe_callTy call_tupB rfl T.z_tuple (by decide +kernel) (pa_cons (pe_compG (xs := ["row"]) (fr := []) (g := (gName 0)) (tt := (tEl (tCB (rTupB K) (tCons (tVar 0) tNil)))) (compG_ok (sc := defScope s_least_form) (N := N_least_form) rfl rfl (by decide +kernel)) rfl (pi_seq (pv 7)) (fun _ _ _ hE1 => (pg_own (N := ["row"]) (i := 0) hE1 rfl (by decide +kernel))) (fun _ _ _ hE1 => (po_el (pe_callTy call_tupB rfl T.z_tuple (by decide +kernel) (pa_cons (pv 0) pa_nil))))) pa_nil)) pa_nil))))))))))), ?_⟩
    show tSeq _ _ _ [some (.int a0), some (.int b0), some (.int c0), none, none, none, none, none] H
    refine st fun N1 e1 => ?_
    simp only [tRaise]
    walk_at "rd2"
    refine ite2 (fun z => ⟨by decide, hE (.inl (of_decide_eq_true z))⟩) (fun z => ⟨ba.ok bc, bb.ok bb, ite2 (fun z2 => ⟨by decide, hE (.inr (of_decide_eq_true z2))⟩) (fun z2 => ?_)⟩)
    have h0 : 0 < a0 := by
      rcases Int.lt_or_le 0 a0 with l | l
      · exact l
      · exact absurd (decide_eq_true l) z
    have h1 : b0 * b0 < a0 * c0 := by
      rcases Int.lt_or_le (b0 * b0) (a0 * c0) with l | l
      · exact l
      · exact absurd (decide_eq_true l) z2
    replace hQ := hQ h0 h1
    obtain ⟨N, hN, l1, l2⟩ : ∃ N : Int, N.natAbs < 2 ^ 900 ∧ a0 ≤ N ∧ c0 ≤ N := by
      by_cases l : a0 ≤ c0
      · exact ⟨c0, bc, l, Int.le_refl _⟩
      · exact ⟨a0, ba, Int.le_refl _, by omega⟩
    have hP : Pos a0 b0 c0 N := ⟨h0, h1, l1, l2⟩
    replace hN : N.natAbs < 2 ^ 1000 := Nat.lt_of_lt_of_le hN (Nat.pow_le_pow_right (by decide) (by decide))
    subst e1
    refine st fun N1 e1 => ?_
    walk_at "rd2"
    refine ⟨by show 2 ≤ sizeLine; decide, fun f hf => ?_⟩
    subst e1
    refine st fun N1 e1 => ?_
    walk_at "rd2"
    refine ⟨by show 2 ≤ sizeLine; decide, fun g hg => ?_⟩
    have s0 := (Same.new (o := HO.lst [.int 1, .int 0]) hf).trans (Same.new (o := HO.lst [.int 0, .int 1]) hg)
    have eg : (upd (upd H f (.lst [.int 1, .int 0])) g (.lst [.int 0, .int 1])) g = some (.lst [.int 0, .int 1]) := upd_same
    have ef : (upd (upd H f (.lst [.int 1, .int 0])) g (.lst [.int 0, .int 1])) f = some (.lst [.int 1, .int 0]) := by rw [upd_ne (ne_of_none upd_same hg)]; exact upd_same
    generalize (upd (upd H f (.lst [.int 1, .int 0])) g (.lst [.int 0, .int 1])) = H0 at s0 eg ef
    subst e1
    refine st fun N1 e1 => while_st fun B eB => ?_
    refine ⟨fun m σ H1 => ∃ (a b c p r q s : Int) (f g : Addr) (v5 v6 : Option V), σ = [some (.int a), some (.int b), some (.int c), some (.ref f), some (.ref g), v5, v6, none] ∧ Same H H1 ∧ H1 f = some (.lst [.int p, .int r]) ∧ H1 g = some (.lst [.int q, .int s]) ∧ LS a0 b0 c0 N a b c p r q s ∧ m = mea a b,
      ⟨_, a0, b0, c0, 1, 0, 0, 1, f, g, none, none, rfl, s0, ef, eg, LS.start hP, rfl⟩, ?_⟩
    clear s0 ef eg
    rintro m σ H1 ⟨a, b, c, p, r, q, s, f, g, v5, v6, rfl, s1, ef, eg, hL, rfl⟩
    walk_at "rd2"
    refine ⟨IntMulOk.of_left (by decide), ite_or (fun hc => ?_) (fun n1 n2 => ?_)⟩
    · refine ⟨fun σ' H' => ∃ (a' b' c' p r q s : Int) (f g : Addr) (v5 v6 : Option V), σ' = [some (.int a'), some (.int b'), some (.int c'), some (.ref f), some (.ref g), v5, v6, none] ∧ Same H H' ∧ H' f = some (.lst [.int p, .int r]) ∧ H' g = some (.lst [.int q, .int s]) ∧ LS a0 b0 c0 N a' b' c' p r q s ∧ mea a' b' < mea a b, ?_, ?_⟩
      · rintro σ' H' ⟨a', b', c', p, r, q, s, f, g, v5, v6, rfl, s2, ef, eg, hL', hlt⟩
        exact ⟨_, hlt, a', b', c', p, r, q, s, f, g, v5, v6, rfl, s2, ef, eg, hL', rfl⟩
      subst eB
      refine st fun N2 e2 => ?_
      have key : ∀ (a' c' p' r' q' s' : Int) (f' g' : Addr) (v5' : Option V), LS a0 b0 c0 N a' b c' p' r' q' s' → (a' < a ∨ (a' = a ∧ a < 2 * (if b < 0 then -b else b))) → H1 f' = some (.lst [.int p', .int r']) → H1 g' = some (.lst [.int q', .int s']) →
          N2 [some (.int a'), some (.int b), some (.int c'), some (.ref f'), some (.ref g'), v5', v6, none] H1 := by
        intro a' c' p' r' q' s' f' g' v5' hL' hlt ef' eg'
        have nk := near (b := b) hL'.pa
        have bbd := hL'.bb hP
        have nl := near_le hL'.pa bbd
        have pa := hL'.pa
        have la := hL'.la
        have v1 := vec_le (x := p') (y := r') hP (by rw [← hL'.ea]; exact hL'.la)
        have bA : bnd 1000 a' := bndN hN ⟨by omega, by omega⟩
        subst e2
        refine st fun N3 e3 => ?_
        walk_at "rd2"
        refine ⟨b, a', rfl, hL'.pa, bA.up (by decide), ?_⟩
        generalize (2 * b + a').fdiv (2 * a') = k at nk nl
        have bk : bnd 1001 k := by
          unfold bnd
          have : k.natAbs ≤ N.natAbs + 1 := by omega
          have e : (2 : Nat) ^ 1001 = 2 * 2 ^ 1000 := by rw [Nat.pow_succ]; omega
          have := Nat.two_pow_pos 1000
          rw [e]
          omega
        subst e3
        refine st fun N3 e3 => ?_
        walk_at "rd2"
        refine ⟨g', f', q', s', p', r', k, rfl, SqL.of eg', SqL.of ef', bk.ok (bndN hN v1.1), bk.ok (bndN hN v1.2), fun z H2 s2 ez => ?_⟩
        subst e3
        refine st fun N3 e3 => ?_
        walk_at "rd2"
        have b2 : bnd 2 2 := by unfold bnd; decide
        refine ⟨IntMulOk.of_left (by decide), (b2.mul bk).ok (bndN hN bbd), bk.ok bk, (bk.mul bk).ok bA, ?_⟩
        subst e3
        walk_at "rd2"
        refine ⟨bk.ok bA, ?_⟩
        refine ⟨s1.trans s2, p', r', s2 _ _ ef', q' - k * p', s' - k * r', ez, hL'.less hP k nk.1 nk.2, ?_⟩
        unfold mea
        rw [if_neg (show ¬ a' < 2 * (if b - k * a' < 0 then -(b - k * a') else b - k * a') by split <;> omega)]
        rcases hlt with hlt | ⟨rfl, hlt⟩
        · omega
        · rw [if_pos hlt]; omega
      walk_at "rd2"
      refine ite2 (fun z => ?_) (fun z => ?_)
      · exact key c a q s p r g f _ hL.swap (.inl (of_decide_eq_true z)) eg ef
      · refine key a c p r q s f g v5 hL (.inr ⟨rfl, ?_⟩) ef eg
        rcases hc with hc | hc
        · exact of_decide_eq_true hc
        · exact absurd hc z
    · have u1 : 2 * (if b < 0 then -b else b) ≤ a := by
        rcases Int.lt_or_le a (2 * (if b < 0 then -b else b)) with l | l
        · exact absurd (decide_eq_true l) n1
        · exact l
      have u2 : a ≤ c := by
        rcases Int.lt_or_le c a with l | l
        · exact absurd (decide_eq_true l) n2
        · exact l
      subst e1
      refine st fun N2 e2 => ?_
      have tail : ∀ (b q s : Int) (g : Addr) (H2 : Hp), LS a0 b0 c0 N a b c p r q s → 0 ≤ b → 2 * b ≤ a → Same H H2 → H2 f = some (.lst [.int p, .int r]) → H2 g = some (.lst [.int q, .int s]) → N2 [some (.int a), some (.int b), some (.int c), some (.ref f), some (.ref g), v5, v6, none] H2 := by
        intro b q s g H2 hL w1 w2 s2 ef eg
        have hR := red_of hL hP hN w1 w2 u2
        subst e2
        refine st fun N3 e3 => ?_
        walk_at "rd2"
        refine ⟨by show 2 ≤ sizeLine; decide, fun m hm => ?_⟩
        have s3 : Same H2 (upd H2 m (.lst [.ref f, .ref g])) := Same.new hm
        have em : (upd H2 m (.lst [.ref f, .ref g])) m = some (.lst [.ref f, .ref g]) := upd_same
        generalize upd H2 m (.lst [.ref f, .ref g]) = H3 at s3 em
        have hM : MatB false false K H3 m [[p, r], [q, s]] := ⟨[f, g], SqB.lst em, rfl, fun i z row k1 k2 => by
          match i, k1, k2 with
          | 0, k1, k2 => simp at k1 k2; subst k1 k2; exact SqB.lst (s3 _ _ ef)
          | 1, k1, k2 => simp at k1 k2; subst k1 k2; exact SqB.lst (s3 _ _ eg)
          | i + 2, k1, k2 => simp at k1⟩
        refine ⟨false, false, m, _, 2, rfl, hM, by simp, by simp, by decide, by show 2 ≤ 1000; decide, fun z H4 _ s4 hT => ?_⟩
        have eT : turnM 2 [[p, r], [q, s]] = [[p, q], [r, s]] := rfl
        rw [eT] at hT
        subst e3
        walk_at "rd2"
        refine ⟨by show 3 ≤ sizeLine; decide, fun l hl => ?_⟩
        have s5 : Same H4 (upd H4 l (.tup [.int a, .int b, .int c])) := Same.new hl
        have el : (upd H4 l (.tup [.int a, .int b, .int c])) l = some (.tup [.int a, .int b, .int c]) := upd_same
        generalize upd H4 l (.tup [.int a, .int b, .int c]) = H5 at s5 el
        refine compE_st fun B2 eB2 => ?_
        simp only [iSeq]
        walk_at "rd2"
        obtain ⟨xs, x1, _⟩ := ((hT.up s5).b (K := K)).walk
        refine ⟨false, ⟨_, x1⟩, fun a1 ha1 => ?_⟩
        subst eB2
        refine copy_tup ((hT.up s5).b (K := K)) (by show 2 ≤ 1000; decide) ha1 fun H6 s6 hT6 => ?_
        obtain ⟨zs, hz, _⟩ := id hT6
        refine ⟨a1, _, rfl, .inl ⟨SqL.of hz, fun l2 hl2 => ?_⟩⟩
        obtain ⟨zs', hz', hB⟩ := hT6.tuple (K := K) hl2
        rw [hz] at hz'
        cases hz'
        refine ⟨by show 2 ≤ sizeLine; decide, fun y hy => ?_⟩
        have s7 := fun o : HO => s6.trans (Same.new (o := o) hl2)
        have s8 := Same.new (o := HO.tup [.ref l, .ref l2]) hy
        exact hQ y _ a b c p q r s (((((s2.trans s3).trans s4).trans s5).trans (s7 _)).trans s8) ⟨l, l2, upd_same, s8 _ _ (s7 _ _ _ el), hB.up s8⟩ hR
      walk_at "rd2"
      refine ite2 (fun z => ?_) (fun z => ?_)
      · have hb0 := of_decide_eq_true z
        rw [if_pos hb0] at u1
        refine compE_st fun B2 eB2 => ?_
        simp only [iSeq]
        walk_at "rd2"
        have eg' : SqB false K H1 g ([q, s].map V.int) := SqB.lst eg
        refine ⟨false, ⟨_, eg'⟩, fun a1 ha1 => ?_⟩
        refine cg_seq (fun j y _ => ∃ n, [q, s][j]? = some n ∧ y = .int (-n)) ha1 eg' (by show 2 ≤ 1000; decide) (fun _ _ _ _ r _ => r) ?_ ?_
        · intro i x H2 zs hx _ _ Q' hQ'
          obtain ⟨n, hn, rfl⟩ := ints_at hx
          subst eB2
          show tUn _ _ [some (.int n)] H2 Q'
          walk_at "rd2"
          exact hQ' _ H2 (Same.refl _) ⟨n, hn, rfl⟩
        · intro H2 ys s2 e2 hly hr2
          have ey : ys = [-q, -s].map V.int := by
            refine list_is (by simpa using hly) fun j y e => ?_
            obtain ⟨n, hn, rfl⟩ := hr2 j y e
            refine ⟨-n, ?_, rfl⟩
            match j, hn with
            | 0, hn => simp at hn; simp [hn]
            | 1, hn => simp at hn; simp [hn]
            | j + 2, hn => simp at hn
          subst ey
          try walk_at "rd2"
          exact tail (-b) (-q) (-s) a1 H2 hL.neg (by omega) u1 (s1.trans s2) (s2 _ _ ef) e2
      · have hb0 : ¬ b < 0 := fun h => z (decide_eq_true h)
        rw [if_neg hb0] at u1
        exact tail b q s g H1 hL (by omega) u1 s1 ef eg
theorem dvs (x y : Int) (h1 : y ≠ 0) (h2 : y.natAbs < 1073741824) : CDivB x y := ⟨h1, Nat.lt_of_lt_of_le ((Nat.log2_lt (by omega)).mpr (show y.natAbs < 2 ^ 30 from h2)) (by decide)⟩
theorem fms (x y : Int) (h : 0 < y) : 0 ≤ x.fmod y ∧ x.fmod y < y := ⟨Int.fmod_nonneg_of_pos x h, Int.fmod_lt_of_pos x h⟩
theorem atI_ints {ns : List Int} {k : Int} (h0 : 0 ≤ k) (h1 : k < ns.length) : atI (ns.map V.int) k = some (.int (ns.getD k.toNat 0)) := by
  obtain ⟨j, rfl⟩ := Int.eq_ofNat_of_zero_le h0
  exact atI_at (int_at (getD_at (by omega))) rfl
theorem ok_law_cell (T : Txt K mg t) : FnOk P w K mg base CX0 1 t.a_law_cell t.d_law_cell ["_law_script", "_law_k"] (sp_law_cell K) := by
  refine T.F_law_cell.ok sc_law_cell (fun vs H Q E h => ?_) (fun cdv A outer s H vs Q E hr h => ?_)
  · obtain ⟨p, ns, k, rfl, _⟩ := h
    rfl
  · obtain ⟨p, ns, k, rfl, hS, h0, q⟩ := h
    refine ⟨_, (pss_one (ps_ret (pe_ifExp (pt_cmpR op_lt (pv 1) (pe_callB call_lenB rfl T.z_len (by decide +kernel) (pa_cons (pv 0) pa_nil)) (nomark _)) (pe_ix ix_B (pv 0) (pv 1) (fun _ _ => rfl)) pe_int))), ?_⟩
    show tRet _ _ [some (.ref p), some (.int k)] H
    walk_at "rd2"
    refine ints_len (b := false) hS ?_
    walk_at "rd2"
    by_cases z : k < ns.length
    · rw [decide_eq_true z]
      exact iteT ⟨false, p, _, _, _, rfl, rfl, hS, atI_ints h0 z, q⟩
    · rw [decide_eq_false z]
      refine iteF ?_
      have e : ns.getD k.toNat 0 = 0 := by
        rw [List.getD_eq_getElem?_getD, List.getElem?_eq_none (by omega)]
        rfl
      rw [e] at q
      exact q
theorem ok_law_int (T : Txt K mg t) : FnOk P w K mg base CX0 1 t.a_law_int t.d_law_int ["_law_thing"] sp_law_int := by
  refine T.F_law_int.ok sc_law_int (fun vs H Q E h => ?_) (fun cdv A outer s H vs Q E hr h => ?_)
  · obtain ⟨i, rfl, _⟩ := h
    rfl
  · obtain ⟨i, rfl, q⟩ := h
    refine ⟨_, (pss_one (ps_ret (pe_and (pe_not (pe_callB call_isi rfl T.z_isinstance (by decide +kernel) (pa_cons (pv 0) (pa_cons (pe_bltn (v := .ty "bool") rfl T.z_bool (by decide +kernel) rfl) pa_nil)))) (pe_one (pe_callB call_isi rfl T.z_isinstance (by decide +kernel) (pa_cons (pv 0) (pa_cons (pe_bltn (v := .ty "int") rfl T.z_int (by decide +kernel) rfl) pa_nil))))))), ?_⟩
    show tRet _ _ [some (.int i)] H
    walk_at "rd2"
    refine ⟨_, _, _, _, rfl, .ty (.int i), rfl, T.k_ib, ?_⟩
    walk_at "rd2"
    refine ⟨_, _, _, _, rfl, .ty (.int i), rfl, T.k_int, ?_⟩
    exact q
theorem ix2 {H : Hp} {l : Addr} {x y c : Int} {Q : VK} (h : H l = some (.lst [.int x, .int y])) (q : ∀ z, z = x ∨ z = y → Q (.int z) H) : rIxB K (.ref l) (.int (c.fmod 2)) H Q := by
  have f := fms c 2 (by decide)
  rcases (show c.fmod 2 = 0 ∨ c.fmod 2 = 1 by omega) with e | e <;> rw [e]
  · exact ⟨false, l, _, 0, _, rfl, rfl, SqB.lst h, rfl, q x (.inl rfl)⟩
  · exact ⟨false, l, _, 1, _, rfl, rfl, SqB.lst h, rfl, q y (.inr rfl)⟩
theorem form_c {a b m : Int} (h0 : 0 < a) (hb : -1000000000000000000000000000000 ≤ b ∧ b ≤ 1000000000000000000000000000000) (hm : 0 ≤ m ∧ m < 1000000000000000000000000000000) : b * b < a * ((b * b).fdiv a + 1 + m) ∧ bnd 210 ((b * b).fdiv a + 1 + m) := by
  have e1 := Int.mul_fdiv_add_fmod (b * b) a
  have e2 := fms (b * b) a h0
  have e3 : a * ((b * b).fdiv a + 1 + m) = a * (b * b).fdiv a + a + a * m := by grind
  have e4 := Int.mul_nonneg (Int.le_of_lt h0) hm.1
  refine ⟨by omega, ?_⟩
  have sq : 0 ≤ b * b := sqnn b
  have sq2 : b * b ≤ 1000000000000000000000000000000 * 1000000000000000000000000000000 := by
    have := Int.mul_nonneg (show 0 ≤ 1000000000000000000000000000000 - b by omega) (show 0 ≤ 1000000000000000000000000000000 + b by omega)
    grind
  have f0 : 0 ≤ (b * b).fdiv a := Int.fdiv_nonneg sq (Int.le_of_lt h0)
  have f1 : (b * b).fdiv a ≤ b * b := by
    have := Int.mul_nonneg (show 0 ≤ a - 1 by omega) f0
    grind
  have e210 : (2 : Nat) ^ 210 = 1645504557321206042154969182557350504982735865633579863348609024 := by decide +kernel
  unfold bnd
  rw [e210]
  omega
theorem ok_law_form (T : Txt K mg t) : FnOk P w K mg base CX0 2 t.a_law_form t.d_law_form ["_law_script"] (sp_law_form K) := by
  have G_law_cell : FnOk P w K mg base CX0 1 t.a_law_cell t.d_law_cell ["_law_script", "_law_k"] (sp_law_cell K) := ok_law_cell T
  refine T.F_law_form.ok sc_law_form (fun vs H Q E h => ?_) (fun cdv A outer s H vs Q E hr h => ?_)
  · obtain ⟨p, ns, rfl, _⟩ := h
    rfl
  · obtain ⟨p, ns, rfl, hS, hQ⟩ := h
    refine ⟨_, (pss_cons (ps_set (i := 1) sc_law_form.nd rfl (Or.inl rfl) (pe_call G_law_cell (hr.mono (by omega)) rfl T.m_law_cell T.F_law_cell.kp T.b_law_cell .nil pass0 (pa_cons (pv 0) (pa_cons pe_int pa_nil))))
      (pss_cons (ps_set (i := 2) sc_law_form.nd rfl (Or.inl rfl) (pe_op op_add pe_int (pe_op op_modN (pe_call G_law_cell (hr.mono (by omega)) rfl T.m_law_cell T.F_law_cell.kp T.b_law_cell .nil pass0 (pa_cons (pv 0) (pa_cons pe_int pa_nil))) (pe_ix ix_B (pe_lst (pa_cons pe_int (pa_cons (pe_op op_pow pe_int pe_int) pa_nil))) (pe_op op_modN (pv 1) pe_int) (fun _ _ => rfl)))))
      (pss_cons (ps_set (i := 3) sc_law_form.nd rfl (Or.inl rfl) (pe_ix ix_B (pe_lst (pa_cons pe_int (pa_cons (pe_op op_pow pe_int pe_int) pa_nil))) (pe_op op_modN (pe_op op_fdivB (pv 1) pe_int) pe_int) (fun _ _ => rfl)))
      (pss_cons (ps_set (i := 4) sc_law_form.nd rfl (Or.inl rfl) (pe_op op_sub (pe_op op_modN (pe_op op_add (pe_call G_law_cell (hr.mono (by omega)) rfl T.m_law_cell T.F_law_cell.kp T.b_law_cell .nil pass0 (pa_cons (pv 0) (pa_cons pe_int pa_nil))) (pv 3)) (pe_op op_add (pe_op op_mulB pe_int (pv 3)) pe_int)) (pv 3)))
      (pss_cons (ps_set (i := 5) sc_law_form.nd rfl (Or.inl rfl) (pe_op op_add (pe_op op_add (pe_op op_fdivB (pe_op op_mulB (pv 4) (pv 4)) (pv 2)) pe_int) (pe_op op_modN (pe_call G_law_cell (hr.mono (by omega)) rfl T.m_law_cell T.F_law_cell.kp T.b_law_cell .nil pass0 (pa_cons (pv 0) (pa_cons pe_int pa_nil))) (pe_ix ix_B (pe_lst (pa_cons pe_int (pa_cons (pe_op op_pow pe_int pe_int) pa_nil))) (pe_op op_modN (pe_op op_fdivB (pv 1) pe_int) pe_int) (fun _ _ => rfl)))))
      (pss_one (ps_ret (pe_lst (pa_cons (pv 2) (pa_cons (pv 4) (pa_cons (pv 5) pa_nil))))))))))), ?_⟩
    show tSeq _ _ _ [some (.ref p), none, none, none, none, none] H
    have p30 : CPow 10 30 := ⟨by decide, by decide, by decide⟩
    have e30 : (10 : Int) ^ Int.toNat 30 = 1000000000000000000000000000000 := by decide +kernel
    refine st fun N1 e1 => ?_
    walk_at "rd2"
    refine ⟨p, ns, 0, rfl, hS, by decide, ?_⟩
    generalize ns.getD (Int.toNat 0) 0 = c0
    subst e1
    refine st fun N1 e1 => ?_
    walk_at "rd2"
    refine ⟨p, ns, 1, rfl, hS, by decide, p30, by show 2 ≤ sizeLine; decide, fun l1 hl1 => ⟨by decide, ?_⟩⟩
    have s1 : Same H (upd H l1 (.lst [.int 60, .int (10 ^ Int.toNat 30)])) := Same.new hl1
    have el1 : (upd H l1 (.lst [.int 60, .int (10 ^ Int.toNat 30)])) l1 = some (.lst [.int 60, .int (10 ^ Int.toNat 30)]) := upd_same
    generalize upd H l1 (.lst [.int 60, .int (10 ^ Int.toNat 30)]) = H1 at s1 el1
    rw [e30] at el1
    refine ix2 el1 fun z hz => ?_
    generalize ns.getD (Int.toNat 1) 0 = c1
    try walk_at "rd2"
    have f1 := fms c1 z (by omega)
    refine ⟨by omega, ?_⟩
    have ha : 0 < 1 + c1.fmod z ∧ 1 + c1.fmod z ≤ 1000000000000000000000000000000 := by omega
    generalize 1 + c1.fmod z = a at ha
    clear hz f1
    subst e1
    refine st fun N1 e1 => ?_
    walk_at "rd2"
    refine ⟨p30, by show 2 ≤ sizeLine; decide, fun l2 hl2 => ⟨dvs _ 2 (by decide) (by decide), by decide, ?_⟩⟩
    have s2 : Same H1 (upd H1 l2 (.lst [.int 200, .int (10 ^ Int.toNat 30)])) := Same.new hl2
    have el2 : (upd H1 l2 (.lst [.int 200, .int (10 ^ Int.toNat 30)])) l2 = some (.lst [.int 200, .int (10 ^ Int.toNat 30)]) := upd_same
    generalize upd H1 l2 (.lst [.int 200, .int (10 ^ Int.toNat 30)]) = H2 at s2 el2
    rw [e30] at el2
    refine ix2 el2 fun m hm => ?_
    subst e1
    refine st fun N1 e1 => ?_
    walk_at "rd2"
    refine ⟨p, ns, 2, rfl, (s1.trans s2).seq hS, by decide, ?_⟩
    generalize ns.getD (Int.toNat 2) 0 = c2
    try walk_at "rd2"
    have f2 := fms (c2 + m) (2 * m + 1) (by omega)
    refine ⟨IntMulOk.of_left (by decide), by omega, ?_⟩
    have hb : -1000000000000000000000000000000 ≤ (c2 + m).fmod (2 * m + 1) - m ∧ (c2 + m).fmod (2 * m + 1) - m ≤ 1000000000000000000000000000000 := by omega
    generalize (c2 + m).fmod (2 * m + 1) - m = b at hb
    have e210 : (2 : Nat) ^ 210 = 1645504557321206042154969182557350504982735865633579863348609024 := by decide +kernel
    have ba : bnd 210 a := by unfold bnd; rw [e210]; omega
    have bb : bnd 210 b := by unfold bnd; rw [e210]; omega
    subst e1
    refine st fun N1 e1 => ?_
    walk_at "rd2"
    refine ⟨bb.ok bb, ⟨by omega, Nat.lt_of_lt_of_le ((Nat.log2_lt (by omega)).mpr ba) (by decide)⟩, ?_⟩
    refine ⟨p, ns, 3, rfl, (s1.trans s2).seq hS, by decide, p30, by show 2 ≤ sizeLine; decide, fun l3 hl3 => ⟨dvs _ 4 (by decide) (by decide), by decide, ?_⟩⟩
    have s3 : Same H2 (upd H2 l3 (.lst [.int 40, .int (10 ^ Int.toNat 30)])) := Same.new hl3
    have el3 : (upd H2 l3 (.lst [.int 40, .int (10 ^ Int.toNat 30)])) l3 = some (.lst [.int 40, .int (10 ^ Int.toNat 30)]) := upd_same
    generalize upd H2 l3 (.lst [.int 40, .int (10 ^ Int.toNat 30)]) = H3 at s3 el3
    rw [e30] at el3
    refine ix2 el3 fun z hz => ?_
    generalize ns.getD (Int.toNat 3) 0 = c3
    try walk_at "rd2"
    have f3 := fms c3 z (by omega)
    refine ⟨by omega, ?_⟩
    obtain ⟨k1, k2⟩ := form_c (a := a) (b := b) (m := c3.fmod z) ha.1 hb (by omega)
    generalize (b * b).fdiv a + 1 + c3.fmod z = c at k1 k2
    subst e1
    walk_at "rd2"
    refine ⟨by show 3 ≤ sizeLine; decide, fun l4 hl4 => hQ l4 _ a b c (((s1.trans s2).trans s3).trans (Same.new hl4)) (SqL.of upd_same) ha.1 k1 ba bb k2⟩
theorem step_b {B : Nat} {a b c y : Int} (ha : bnd B a) (hb : bnd B b) (hc : bnd B c) (hy : -3 ≤ y ∧ y ≤ 3) : bnd (B + 4) (b + y * a) ∧ bnd (B + 4) (c + 2 * y * b + y * y * a) := by
  unfold bnd at *
  have e : 2 ^ (B + 4) = 16 * 2 ^ B := by rw [Nat.pow_add]; omega
  rw [e]
  generalize (2 : Nat) ^ B = M at *
  rcases (show y = -3 ∨ y = -2 ∨ y = -1 ∨ y = 0 ∨ y = 1 ∨ y = 2 ∨ y = 3 by omega) with rfl | rfl | rfl | rfl | rfl | rfl | rfl <;> constructor <;> omega
theorem ok_law_step (T : Txt K mg t) : FnOk P w K mg base CX0 1 t.a_law_step t.d_law_step ["_law_form_here", "_law_cell_here"] (sp_law_step K) := by
  refine T.F_law_step.ok sc_law_step (fun vs H Q E h => ?_) (fun cdv A outer s H vs Q E hr h => ?_)
  · obtain ⟨p, a, b, c, x, B, rfl, _⟩ := h
    rfl
  · obtain ⟨p, a, b, c, x, B, rfl, hF, ha, hb, hc, hB, hQ⟩ := h
    refine ⟨_, (pss_cons (ps_asg (pv 0) (pg_tupB rfl (pgs_cons (pg_name (i := 2) sc_law_step.nd rfl (Or.inl rfl)) (pgs_cons (pg_name (i := 3) sc_law_step.nd rfl (Or.inl rfl)) (pgs_cons (pg_name (i := 4) sc_law_step.nd rfl (Or.inl rfl)) pgs_nil)))))
      (pss_cons (ps_set (i := 5) sc_law_step.nd rfl (Or.inl rfl) (pe_op op_modN (pv 1) pe_int))
      (pss_cons (ps_set (i := 6) sc_law_step.nd rfl (Or.inl rfl) (pe_op op_sub (pe_op op_modN (pe_op op_fdivB (pv 1) pe_int) pe_int) pe_int))
      (pss_cons (ps_if (pt_cmpR op_eqZ (pv 5) pe_int (nomark _))
      (pss_one (ps_ret (pe_lst (pa_cons (pv 2) (pa_cons (pe_op op_add (pv 3) (pe_op op_mulB (pv 6) (pv 2))) (pa_cons (pe_op op_add (pe_op op_add (pv 4) (pe_op op_mulB (pe_op op_mulB pe_int (pv 6)) (pv 3))) (pe_op op_mulB (pe_op op_mulB (pv 6) (pv 6)) (pv 2))) pa_nil))))))
      pss_nil)
      (pss_cons (ps_if (pt_cmpR op_eqZ (pv 5) pe_int (nomark _))
      (pss_one (ps_ret (pe_lst (pa_cons (pe_op op_add (pe_op op_add (pv 2) (pe_op op_mulB (pe_op op_mulB pe_int (pv 6)) (pv 3))) (pe_op op_mulB (pe_op op_mulB (pv 6) (pv 6)) (pv 4))) (pa_cons (pe_op op_add (pv 3) (pe_op op_mulB (pv 6) (pv 4))) (pa_cons (pv 4) pa_nil))))))
      pss_nil)
      (pss_cons (ps_if (pt_cmpR op_eqZ (pv 5) pe_int (nomark _))
      (pss_one (ps_ret (pe_lst (pa_cons (pv 4) (pa_cons (pv 3) (pa_cons (pv 2) pa_nil))))))
      pss_nil)
      (pss_one (ps_ret (pe_lst (pa_cons (pv 2) (pa_cons (pe_un un_neg (pv 3)) (pa_cons (pv 4) pa_nil)))))))))))), ?_⟩
    show tSeq _ _ _ [some (.ref p), some (.int x), none, none, none, none, none] H
    refine st fun N1 e1 => ?_
    walk_at "rd2"
    simp only [gTupB, gCons, gNil]
    walk_at "rd2"
    refine ⟨false, _, hF, rfl, _, _, rfl, _, _, rfl, _, _, rfl, rfl, ?_⟩
    subst e1
    refine st fun N1 e1 => ?_
    walk_at "rd2"
    refine ⟨by decide, ?_⟩
    subst e1
    refine st fun N1 e1 => ?_
    walk_at "rd2"
    refine ⟨dvs x 4 (by decide) (by decide), by decide, ?_⟩
    have f4 := fms x 4 (by decide)
    have f7 := fms (x.fdiv 4) 7 (by decide)
    have hy : -3 ≤ (x.fdiv 4).fmod 7 - 3 ∧ (x.fdiv 4).fmod 7 - 3 ≤ 3 := by omega
    generalize (x.fdiv 4).fmod 7 - 3 = y at hy
    generalize x.fmod 4 = w at f4
    have my : ∀ z, IntMulOk y z := fun z => IntMulOk.of_left (intBits_le_64 (by omega) (by omega))
    have m2 : ∀ z, IntMulOk 2 z := fun z => IntMulOk.of_left (by decide)
    have m2y : ∀ z, IntMulOk (2 * y) z := fun z => IntMulOk.of_left (intBits_le_64 (by omega) (by omega))
    have myy : ∀ z, IntMulOk (y * y) z := fun z => IntMulOk.of_left (by
      rcases (show y = -3 ∨ y = -2 ∨ y = -1 ∨ y = 0 ∨ y = 1 ∨ y = 2 ∨ y = 3 by omega) with rfl | rfl | rfl | rfl | rfl | rfl | rfl <;> decide)
    have up : ∀ {z : Int}, bnd B z → bnd (B + 4) z := fun h => h.up (by omega)
    subst e1
    refine st fun N1 e1 => ?_
    walk_at "rd2"
    refine ite2 (fun z => ⟨my a, m2 y, m2y b, my y, myy a, by show 3 ≤ sizeLine; decide, fun l hl => hQ l _ _ _ _ (Same.new hl) (SqL.of upd_same) ⟨1, y, 0, 1, .inl (by omega), by unfold frm; grind, by unfold frm; grind, by unfold frm; grind⟩ (up ha) (step_b ha hb hc hy).1 (step_b ha hb hc hy).2⟩) (fun z => ?_)
    subst e1
    refine st fun N1 e1 => ?_
    walk_at "rd2"
    refine ite2 (fun z => ⟨m2 y, m2y b, my y, myy c, my c, by show 3 ≤ sizeLine; decide, fun l hl => hQ l _ _ _ _ (Same.new hl) (SqL.of upd_same) ⟨1, 0, y, 1, .inl (by omega), by unfold frm; grind, by unfold frm; grind, by unfold frm; grind⟩ (step_b hc hb ha hy).2 (step_b hc hb ha hy).1 (up hc)⟩) (fun z => ?_)
    subst e1
    refine st fun N1 e1 => ?_
    walk_at "rd2"
    refine ite2 (fun z => ⟨by show 3 ≤ sizeLine; decide, fun l hl => hQ l _ _ _ _ (Same.new hl) (SqL.of upd_same) ⟨0, 1, 1, 0, .inr (by omega), by unfold frm; grind, by unfold frm; grind, by unfold frm; grind⟩ (up hc) (up hb) (up ha)⟩) (fun z => ?_)
    subst e1
    walk_at "rd2"
    have hb' : bnd B (-b) := by unfold bnd at *; omega
    exact ⟨by show 3 ≤ sizeLine; decide, fun l hl => hQ l _ _ _ _ (Same.new hl) (SqL.of upd_same) ⟨1, 0, 0, -1, .inr (by omega), by unfold frm; grind, by unfold frm; grind, by unfold frm; grind⟩ (up ha) (up hb') (up hc)⟩
theorem ok_law_measured (T : Txt K mg t) : FnOk P w K mg base CX0 1 t.a_law_measured t.d_law_measured ["_law_form_here", "_law_one", "_law_other"] (sp_law_measured K) := by
  refine T.F_law_measured.ok sc_law_measured (fun vs H Q E h => ?_) (fun cdv A outer s H vs Q E hr h => ?_)
  · obtain ⟨f, u, v, a, b, c, x, y, x', y', rfl, _⟩ := h
    rfl
  · obtain ⟨f, u, v, a, b, c, x, y, x', y', rfl, hF, hu, hv, ha, hb, hc, hx, hy, hx', hy', q⟩ := h
    refine ⟨_, (pss_cons (ps_asg (pv 0) (pg_tupB rfl (pgs_cons (pg_name (i := 3) sc_law_measured.nd rfl (Or.inl rfl)) (pgs_cons (pg_name (i := 4) sc_law_measured.nd rfl (Or.inl rfl)) (pgs_cons (pg_name (i := 5) sc_law_measured.nd rfl (Or.inl rfl)) pgs_nil)))))
      (pss_cons (ps_set (i := 6) sc_law_measured.nd rfl (Or.inl rfl) (pe_op op_add (pe_op op_mulB (pe_op op_mulB (pv 3) (pe_ix ix_B (pv 1) pe_int (fun _ _ => rfl))) (pe_ix ix_B (pv 2) pe_int (fun _ _ => rfl))) (pe_op op_mulB (pe_op op_mulB (pv 5) (pe_ix ix_B (pv 1) pe_int (fun _ _ => rfl))) (pe_ix ix_B (pv 2) pe_int (fun _ _ => rfl)))))
      (pss_cons (ps_set (i := 6) sc_law_measured.nd rfl (Or.inl rfl) (pe_op op_add (pv 6) (pe_op op_mulB (pe_op op_mulB (pv 4) (pe_ix ix_B (pv 1) pe_int (fun _ _ => rfl))) (pe_ix ix_B (pv 2) pe_int (fun _ _ => rfl)))))
      (pss_one (ps_ret (pe_op op_add (pv 6) (pe_op op_mulB (pe_op op_mulB (pv 4) (pe_ix ix_B (pv 1) pe_int (fun _ _ => rfl))) (pe_ix ix_B (pv 2) pe_int (fun _ _ => rfl))))))))), ?_⟩
    show tSeq _ _ _ [some (.ref f), some (.ref u), some (.ref v), none, none, none, none] H
    have u0 : ∀ Q' : VK, Q' (.int x) H → rIxB K (.ref u) (.int 0) H Q' := fun Q' q => ⟨true, u, _, _, _, rfl, rfl, SqB.tup hu, rfl, q⟩
    have u1 : ∀ Q' : VK, Q' (.int y) H → rIxB K (.ref u) (.int 1) H Q' := fun Q' q => ⟨true, u, _, _, _, rfl, rfl, SqB.tup hu, rfl, q⟩
    have v0 : ∀ Q' : VK, Q' (.int x') H → rIxB K (.ref v) (.int 0) H Q' := fun Q' q => ⟨true, v, _, _, _, rfl, rfl, SqB.tup hv, rfl, q⟩
    have v1 : ∀ Q' : VK, Q' (.int y') H → rIxB K (.ref v) (.int 1) H Q' := fun Q' q => ⟨true, v, _, _, _, rfl, rfl, SqB.tup hv, rfl, q⟩
    refine st fun N1 e1 => ?_
    walk_at "rd2"
    simp only [gTupB, gCons, gNil]
    walk_at "rd2"
    refine ⟨false, _, hF, rfl, _, _, rfl, _, _, rfl, _, _, rfl, rfl, ?_⟩
    subst e1
    refine st fun N1 e1 => ?_
    walk_at "rd2"
    refine u0 _ ?_
    walk_at "rd2"
    refine ⟨ha.ok hx, v0 _ ?_⟩
    walk_at "rd2"
    refine ⟨(ha.mul hx).ok hx', u1 _ ?_⟩
    walk_at "rd2"
    refine ⟨hc.ok hy, v1 _ ?_⟩
    walk_at "rd2"
    refine ⟨(hc.mul hy).ok hy', ?_⟩
    subst e1
    refine st fun N1 e1 => ?_
    walk_at "rd2"
    refine u0 _ ?_
    walk_at "rd2"
    refine ⟨hb.ok hx, v1 _ ?_⟩
    walk_at "rd2"
    refine ⟨(hb.mul hx).ok hy', ?_⟩
    subst e1
    walk_at "rd2"
    refine u1 _ ?_
    walk_at "rd2"
    refine ⟨hb.ok hy, v0 _ ?_⟩
    walk_at "rd2"
    exact ⟨(hb.mul hy).ok hx', q⟩
theorem ok_law_is_two (T : Txt K mg t) : FnOk P w K mg base CX0 2 t.a_law_is_two t.d_law_is_two ["_law_found"] (sp_law_is_two K) := by
  have G_law_int : FnOk P w K mg base CX0 1 t.a_law_int t.d_law_int ["_law_thing"] sp_law_int := ok_law_int T
  refine T.F_law_is_two.ok sc_law_is_two (fun vs H Q E h => ?_) (fun cdv A outer s H vs Q E hr h => ?_)
  · obtain ⟨p, x, y, rfl, _⟩ := h
    rfl
  · obtain ⟨p, x, y, rfl, hp, q⟩ := h
    refine ⟨_, (pss_cons (ps_if (PW.pt (pw_or (pt_not (pt_val (pe_callB call_isi rfl T.z_isinstance (by decide +kernel) (pa_cons (pv 0) (pa_cons (pe_bltn (v := .ty "tuple") rfl T.z_tuple (by decide +kernel) rfl) pa_nil))))) (pw_or1 (pt_cmpR op_neZ (pe_callB call_lenB rfl T.z_len (by decide +kernel) (pa_cons (pv 0) pa_nil)) pe_int (nomark _)))))
      (pss_one (ps_ret pe_bl))
      pss_nil)
      (pss_one (ps_ret (pe_and (pe_call G_law_int (hr.mono (by omega)) rfl T.m_law_int T.F_law_int.kp T.b_law_int .nil pass0 (pa_cons (pe_ix ix_B (pv 0) pe_int (fun _ _ => rfl)) pa_nil)) (pe_one (pe_call G_law_int (hr.mono (by omega)) rfl T.m_law_int T.F_law_int.kp T.b_law_int .nil pass0 (pa_cons (pe_ix ix_B (pv 0) pe_int (fun _ _ => rfl)) pa_nil))))))), ?_⟩
    show tSeq _ _ _ [some (.ref p)] H
    refine st fun N1 e1 => ?_
    walk_at "rd2"
    refine ⟨_, _, _, _, rfl, .tupS hp, rfl, T.k_tt, ?_⟩
    walk_at "rd2"
    refine ⟨true, p, _, rfl, hp, ?_⟩
    walk_at "rd2"
    refine iteF ?_
    subst e1
    walk_at "rd2"
    refine ⟨true, p, _, _, _, rfl, rfl, hp, rfl, x, rfl, ?_⟩
    walk_at "rd2"
    exact ⟨true, p, _, _, _, rfl, rfl, hp, rfl, y, rfl, q⟩
theorem ecls (T : Txt K mg t) : ExcCls K t.a_NoForm := ⟨T.e_ga, T.e_gt, T.e_ca, T.e_cg, T.e_tk, T.e_ob, T.e_bx, by
  have q := T.e_ob
  unfold PySem.W.mroIn at q
  cases e : PySem.W.clsIn K t.a_NoForm with
  | none => rw [e] at q; cases q
  | some c => rfl⟩
theorem ok_law_another (T : Txt K mg t) : FnOkH P w K mg base 1 t.a_law_another t.d_law_another ["_law_e"] (sp_law_another t.a_NoForm) := by
  refine T.F_law_another.okH sc_law_another (fun vs H Q E h => ?_) (fun cdv A outer s H vs Q E ea C hh hea hr h => ?_)
  · obtain ⟨e, rfl, _⟩ := h
    rfl
  · obtain ⟨e, rfl, he, q⟩ := h
    refine ⟨_, (pss_cons (ps_forH PassesOwn.never hh (pe_lst (pa_cons (pe_callB call_isi rfl T.z_isinstance (by decide +kernel) (pa_cons (pv 0) (pa_cons (pe_glob (v := .ref t.a_NoChange) rfl T.m_NoChange rfl) pa_nil))) (pa_cons (pe_callB call_isi rfl T.z_isinstance (by decide +kernel) (pa_cons (pv 0) (pa_cons (pe_glob (v := .ref t.a_NoDeed) rfl T.m_NoDeed rfl) pa_nil))) (pa_cons (pe_callB call_isi rfl T.z_isinstance (by decide +kernel) (pa_cons (pv 0) (pa_cons (pe_glob (v := .ref t.a_NoNumber) rfl T.m_NoNumber rfl) pa_nil))) (pa_cons (pe_callB call_isi rfl T.z_isinstance (by decide +kernel) (pa_cons (pv 0) (pa_cons (pe_glob (v := .ref t.a_NoPlace) rfl T.m_NoPlace rfl) pa_nil))) pa_nil))))) (pg_name (i := 1) sc_law_another.nd rfl (Or.inl rfl))
      (pss_one (ps_if (pt_val (pv 1))
      (pss_one (ps_ret pe_bl))
      pss_nil)))
      (pss_one (ps_ret (pe_or (pe_callB call_isi rfl T.z_isinstance (by decide +kernel) (pa_cons (pv 0) (pa_cons (pe_glob (v := .ref t.a_NotKept) rfl T.m_NotKept rfl) pa_nil))) (pe_one (pe_callB call_isi rfl T.z_isinstance (by decide +kernel) (pa_cons (pv 0) (pa_cons (pe_glob (v := .ref t.a_TooMany) rfl T.m_TooMany rfl) pa_nil)))))))), ?_⟩
    show tSeq _ _ _ [some (.ref e), none] H
    have isi : ∀ (H1 : Hp) (c : V) (b : Bool) (Q' : VK), Same H H1 → isCls c = true → PySem.W.kitOne K (.ref t.a_NoForm) (clsV c) = some b → Q' (.bl b) H1 → rIsi K [.ref e, c] H1 Q' := fun H1 c b Q' s1 h1 h2 h3 => ⟨_, _, _, _, rfl, .exc (s1 _ _ he) (ecls T), h1, h2, h3⟩
    refine st fun N1 e1 => ?_
    simp only [tForH]
    walk_at "rd2"
    refine isi H _ _ _ (Same.refl _) rfl T.i_NoChange (isi H _ _ _ (Same.refl _) rfl T.i_NoDeed (isi H _ _ _ (Same.refl _) rfl T.i_NoNumber (isi H _ _ _ (Same.refl _) rfl T.i_NoPlace ?_)))
    refine ⟨by show 4 ≤ sizeLine; decide, fun p hp => ?_⟩
    have s1 : Same H (upd H p (.lst [.bl false, .bl false, .bl false, .bl false])) := Same.new hp
    have e2 : (upd H p (.lst [.bl false, .bl false, .bl false, .bl false])) p = some (.lst [.bl false, .bl false, .bl false, .bl false]) := upd_same
    generalize upd H p (.lst [.bl false, .bl false, .bl false, .bl false]) = H1 at s1 e2
    have hL : SqL K H1 p [.bl false, .bl false, .bl false, .bl false] := SqL.of e2
    refine ⟨⟨_, hL⟩, fun i m σ H2 => m = 4 - i ∧ i ≤ 4 ∧ (∃ v, σ = [some (.ref e), v]) ∧ H2 = H1, ⟨4, by decide, by decide, ⟨none, rfl⟩, rfl⟩, ?_⟩
    rintro i m σ H2 ⟨rfl, hi, ⟨v, rfl⟩, e3⟩
    subst e3
    by_cases hlt : i < 4
    · refine .inr ⟨⟨_, .bl false, hL, ?_⟩, fun σ' H' => (∃ v, σ' = [some (.ref e), v]) ∧ H' = H2, fun σ' H' ⟨h1, h2⟩ => ⟨4 - (i + 1), by omega, rfl, by omega, h1, h2⟩, fun x H' y => ?_⟩
      · rcases (show i = 0 ∨ i = 1 ∨ i = 2 ∨ i = 3 by omega) with rfl | rfl | rfl | rfl <;> rfl
      · obtain ⟨e4, y⟩ := y
        subst e4
        have hx := y _ hL
        have ex : x = .bl false := by
          rcases (show i = 0 ∨ i = 1 ∨ i = 2 ∨ i = 3 by omega) with rfl | rfl | rfl | rfl <;> exact (Option.some.inj hx).symm
        subst ex
        exact ⟨.bl false, rfl, false, rfl, iteF ⟨⟨_, rfl⟩, rfl⟩⟩
    · have hi4 : i = 4 := by omega
      subst hi4
      refine .inl ⟨⟨_, hL, by decide⟩, ⟨C, s1 _ _ hea⟩, ?_⟩
      subst e1
      walk_at "rd2"
      exact isi _ _ _ _ s1 rfl T.i_NotKept ⟨_, rfl, iteF (isi _ _ _ _ s1 rfl T.i_TooMany (q _ s1))⟩
theorem ok_law_refused (T : Txt K mg t) : FnOk P w K mg base CX0 3 t.a_law_refused t.d_law_refused ["_law_a", "_law_b", "_law_c"] sp_law_refused := by
  have G_least_form : FnOk P w K mg base (CX1 P w) 2 t.a_least_form t.d_least_form ["a", "b", "c"] (sp_least_form K t.a_NoForm) := ok_least_form T
  have G_law_another : FnOkH P w K mg base 1 t.a_law_another t.d_law_another ["_law_e"] (sp_law_another t.a_NoForm) := ok_law_another T
  refine T.F_law_refused.ok sc_law_refused (fun vs H Q E h => ?_) (fun cdv A outer s H vs Q E hr h => ?_)
  · obtain ⟨a, b, c, rfl, _⟩ := h
    rfl
  · obtain ⟨a, b, c, rfl, ba, bb, bc, hbad, hQ⟩ := h
    refine ⟨_, (pss_cons (ps_set (i := 3) sc_law_refused.nd rfl (Or.inl rfl) pe_bl)
      (pss_cons (ps_tryE (i := 4) rfl rfl rfl sc_law_refused.nd rfl rfl rfl T.m_CrystalError (fun _ _ _ hL =>
      (pss_one (ps_expr (pe_callX G_least_form (hr.mono (by omega)) rfl T.m_least_form T.F_least_form.kp T.b_least_form .nil hL (pa_cons (pv 0) (pa_cons (pv 1) (pa_cons (pv 2) pa_nil))))))) (fun e1 =>
      (pss_one (ps_set (i := 3) sc_law_refused.nd rfl (Or.inl rfl) (pe_and (pe_callB (call_isiK (K := K) rfl) rfl T.z_isinstance (by decide +kernel) (pa_cons (pv 4) (pa_cons (pe_glob (v := .ref t.a_NoForm) rfl T.m_NoForm rfl) pa_nil))) (pe_and (pe_callB (call_isiK (K := K) rfl) rfl T.z_isinstance (by decide +kernel) (pa_cons (pv 4) (pa_cons (pe_bltn (v := .ty "ValueError") rfl T.z_ValueError (by decide +kernel) rfl) pa_nil))) (pe_one (pe_not (pe_callH (ea := e1) G_law_another ((hr.a.mark _).mono (by omega)) rfl rfl T.m_law_another T.F_law_another.kp T.b_law_another .nil (pa_cons (pv 4) pa_nil))))))))))
      (pss_one (ps_ret (pv 3))))), ?_⟩
    show tSeq _ _ _ [some (.int a), some (.int b), some (.int c), none, none] H
    refine st fun N1 e1 => ?_
    walk_at "rd2"
    subst e1
    refine st fun N1 e1 => ?_
    simp only [tTryE, tCallX, tCallH]
    walk_at "rd2"
    refine ⟨a, b, c, rfl, ba, bb, bc, fun _ => ⟨T.xm, fun e he => ?_⟩, fun h1 h2 => by rcases hbad with z | z <;> omega⟩
    have s1 : Same H (upd H e (ExcAt e (.ref t.a_NoForm))) := Same.new he
    have e2 : (upd H e (ExcAt e (.ref t.a_NoForm))) e = some (ExcAt e (.ref t.a_NoForm)) := upd_same
    generalize upd H e (ExcAt e (.ref t.a_NoForm)) = H1 at s1 e2
    refine ⟨_, _, _, _, rfl, .exc e2 (ecls T), rfl, T.i_NoForm, _, rfl, iteT ?_⟩
    refine ⟨_, _, _, _, rfl, .exc e2 (ecls T), rfl, T.i_VE, _, rfl, iteT ?_⟩
    simp only [tCallH]
    try walk_at "rd2"
    refine ⟨⟨_, e2⟩, e, rfl, e2, fun H2 s2 => ?_⟩
    try walk_at "rd2"
    show N1 [some (.int a), some (.int b), some (.int c), some (.bl true), none] H2
    subst e1
    try walk_at "rd2"
    exact hQ _ (s1.trans s2)
section
variable {tt : TOx} {fr : List (Str × Nat)} {σ : St} {a : Addr} {H : Hp} {Q : VK}
/-- a name over a sequence, with a condition -/
theorem cg_seqI {b : Bool} {l : Addr} {xs : List V} (P : Nat → List V → Hp → Prop) (ha : H a = none) (hS : SqB b K H l xs) (hz : xs.length ≤ 1000) (h0 : P 0 [] (upd H a (.lst [])))
    (hl : ∀ i zs H1, P i zs H1 → zs.length ≤ i) (mono : ∀ i zs H1 H2, P i zs H1 → SameX a H1 H2 → P i zs H2)
    (he : ∀ i x H1 zs, xs[i]? = some x → Same H H1 → H1 a = some (.lst zs) → P i zs H1 → ∀ C : Option V → Hp → Prop,
      (∀ y H2, Same H1 H2 → P (i + 1) (zs ++ [y]) H2 → C (some y) H2) → (∀ H2, Same H1 H2 → P (i + 1) zs H2 → C none H2) → tt (some x :: frees fr σ) H1 C)
    (hd : ∀ H1 ys, Same H H1 → H1 a = some (.lst ys) → P xs.length ys H1 → Q (.ref a) H1) : CompWG (Its K b l) (gName 0) tt 1 fr σ a H Q := by
  refine cg_inv xs.length P ha hz h0 hl mono (fun i H1 hi s => Its.go (hS.up s) (x := xs[i]) (by simp [hi])) (fun H1 s => Its.stop (hS.up s) (Nat.le_refl _)) ?_ hd
  intro i H1 zs hi s1 ez p ys x H3 hys hy C hC1 hC2
  obtain ⟨e1, e2⟩ := Its.yld (hS.up s1) hy
  subst e1
  match ys, hys with
  | [o], _ => exact ⟨⟨[some x], rfl, rfl⟩, he i x H3 zs e2 s1 ez p C hC1 hC2⟩
end
theorem ok_law_right (T : Txt K mg t) : FnOk P w K mg base CX0 3 t.a_law_right t.d_law_right ["_law_found", "_law_form_here"] (sp_law_right K) := by
  have G_law_int : FnOk P w K mg base CX0 1 t.a_law_int t.d_law_int ["_law_thing"] sp_law_int := ok_law_int T
  have G_law_is_two : FnOk P w K mg base CX0 2 t.a_law_is_two t.d_law_is_two ["_law_found"] (sp_law_is_two K) := ok_law_is_two T
  have G_law_measured : FnOk P w K mg base CX0 1 t.a_law_measured t.d_law_measured ["_law_form_here", "_law_one", "_law_other"] (sp_law_measured K) := ok_law_measured T
  refine T.F_law_right.ok sc_law_right (fun vs H Q E h => ?_) (fun cdv A outer s H vs Q E hr h => ?_)
  · obtain ⟨z, f, a, b, c, A, B, C, p, q, r, s, rfl, _⟩ := h
    rfl
  · obtain ⟨z, f, a, b, c, A1, B1, C1, p, q, r, s1, rfl, hF, hS, hR, ba, bb, bc, hQ⟩ := h
    obtain ⟨l, m, z1, z2, z3⟩ := id hF
    have hu := hr.units
    refine ⟨_, (pss_cons (ps_if (PW.pt (pw_or (pt_not (pt_val (pe_callB call_isi rfl T.z_isinstance (by decide +kernel) (pa_cons (pv 0) (pa_cons (pe_bltn (v := .ty "tuple") rfl T.z_tuple (by decide +kernel) rfl) pa_nil))))) (pw_or1 (pt_cmpR op_neZ (pe_callB call_lenB rfl T.z_len (by decide +kernel) (pa_cons (pv 0) pa_nil)) pe_int (nomark _)))))
      (pss_one (ps_ret pe_bl))
      pss_nil)
      (pss_cons (ps_asg (pv 0) (pg_tup rfl (pgs_cons (pg_name (i := 2) sc_law_right.nd rfl (Or.inl rfl)) (pgs_cons (pg_name (i := 3) sc_law_right.nd rfl (Or.inl rfl)) pgs_nil))))
      (pss_cons (ps_if (PW.pt (pw_or (pt_not (pt_val (pe_callB call_isi rfl T.z_isinstance (by decide +kernel) (pa_cons (pv 2) (pa_cons (pe_bltn (v := .ty "tuple") rfl T.z_tuple (by decide +kernel) rfl) pa_nil))))) (pw_or (pt_cmpR op_neZ (pe_callB call_lenB rfl T.z_len (by decide +kernel) (pa_cons (pv 2) pa_nil)) pe_int (nomark _)) (pw_or (pt_not (pt_val (pe_callB call_isi rfl T.z_isinstance (by decide +kernel) (pa_cons (pv 3) (pa_cons (pe_bltn (v := .ty "tuple") rfl T.z_tuple (by decide +kernel) rfl) pa_nil))))) (pw_or1 (pt_cmpR op_neZ (pe_callB call_lenB rfl T.z_len (by decide +kernel) (pa_cons (pv 3) pa_nil)) pe_int (nomark _)))))))
      (pss_one (ps_ret pe_bl))
      pss_nil)
      (pss_cons (ps_if (PW.pt (pw_or (pt_cmpR (op_neD hu) (pe_compG (xs := ["_law_number"]) (fr := []) (g := (gName 0)) (tt := (tElIf (tNot (tB (tCall (sp_law_int) [] E0 (tCons (tVar 0) tNil)))) (tVar 0))) (compG_ok (sc := defScope s_law_right) (N := N_law_right) rfl rfl (by decide +kernel)) rfl (pi_seq (pv 2)) (fun _ _ _ hE1 => (pg_own (N := ["_law_number"]) (i := 0) hE1 rfl (by decide +kernel))) (fun _ _ _ hE1 => (po_if (pt_not (pt_val (pe_call G_law_int (hr.mono (by omega)) rfl T.m_law_int T.F_law_int.kp T.b_law_int .nil pass0 (pa_cons (pv 0) pa_nil)))) (pv 0)))) (pe_lst pa_nil) (nomark _)) (pw_or1 (pt_not (pt_val (pe_call G_law_is_two (hr.mono (by omega)) rfl T.m_law_is_two T.F_law_is_two.kp T.b_law_is_two .nil pass0 (pa_cons (pe_ix ix_B (pv 3) pe_int (fun _ _ => rfl)) pa_nil)))))))
      (pss_one (ps_ret pe_bl))
      pss_nil)
      (pss_cons (ps_if (PW.pt (pw_or (pt_not (pt_val (pe_call G_law_is_two (hr.mono (by omega)) rfl T.m_law_is_two T.F_law_is_two.kp T.b_law_is_two .nil pass0 (pa_cons (pe_ix ix_B (pv 3) pe_int (fun _ _ => rfl)) pa_nil)))) (pw_or1 (pt_cmpR op_neZ (pe_callB call_abs rfl T.z_abs (by decide +kernel) (pa_cons (pe_op op_sub (pe_op op_mulB (pe_ix ix_B (pe_ix ix_B (pv 3) pe_int (fun _ _ => rfl)) pe_int (fun _ _ => rfl)) (pe_ix ix_B (pe_ix ix_B (pv 3) pe_int (fun _ _ => rfl)) pe_int (fun _ _ => rfl))) (pe_op op_mulB (pe_ix ix_B (pe_ix ix_B (pv 3) pe_int (fun _ _ => rfl)) pe_int (fun _ _ => rfl)) (pe_ix ix_B (pe_ix ix_B (pv 3) pe_int (fun _ _ => rfl)) pe_int (fun _ _ => rfl)))) pa_nil)) pe_int (nomark _)))))
      (pss_one (ps_ret pe_bl))
      pss_nil)
      (pss_cons (ps_set (i := 4) sc_law_right.nd rfl (Or.inl rfl) (pe_tup (pa_cons (pe_ix ix_B (pe_ix ix_B (pv 3) pe_int (fun _ _ => rfl)) pe_int (fun _ _ => rfl)) (pa_cons (pe_ix ix_B (pe_ix ix_B (pv 3) pe_int (fun _ _ => rfl)) pe_int (fun _ _ => rfl)) pa_nil))))
      (pss_cons (ps_set (i := 5) sc_law_right.nd rfl (Or.inl rfl) (pe_tup (pa_cons (pe_ix ix_B (pe_ix ix_B (pv 3) pe_int (fun _ _ => rfl)) pe_int (fun _ _ => rfl)) (pa_cons (pe_ix ix_B (pe_ix ix_B (pv 3) pe_int (fun _ _ => rfl)) pe_int (fun _ _ => rfl)) pa_nil))))
      (pss_cons (ps_set (i := 6) sc_law_right.nd rfl (Or.inl rfl) (pe_call G_law_measured (hr.mono (by omega)) rfl T.m_law_measured T.F_law_measured.kp T.b_law_measured .nil pass0 (pa_cons (pv 1) (pa_cons (pv 4) (pa_cons (pv 4) pa_nil)))))
      (pss_cons (ps_set (i := 7) sc_law_right.nd rfl (Or.inl rfl) (pe_call G_law_measured (hr.mono (by omega)) rfl T.m_law_measured T.F_law_measured.kp T.b_law_measured .nil pass0 (pa_cons (pv 1) (pa_cons (pv 4) (pa_cons (pv 5) pa_nil)))))
      (pss_cons (ps_set (i := 8) sc_law_right.nd rfl (Or.inl rfl) (pe_call G_law_measured (hr.mono (by omega)) rfl T.m_law_measured T.F_law_measured.kp T.b_law_measured .nil pass0 (pa_cons (pv 1) (pa_cons (pv 5) (pa_cons (pv 5) pa_nil)))))
      (pss_one (ps_ret (pe_and (pe_cmpR (op_eqD hu) (pv 2) (pe_tup (pa_cons (pv 6) (pa_cons (pv 7) (pa_cons (pv 8) pa_nil)))) (nomark _)) (pe_one (pe_chain3 op_le op_le op_le pe_int (pe_op op_mulB pe_int (pv 7)) (pv 6) (pv 8)))))))))))))))), ?_⟩
    show tSeq _ _ _ [some (.ref z), some (.ref f), none, none, none, none, none, none, none] H
    refine st fun N1 e1 => ?_
    walk_at "rd2"
    refine ⟨_, _, _, _, rfl, .tupS (SqT.of z1), rfl, T.k_tt, ?_⟩
    walk_at "rd2"
    refine ⟨true, z, _, rfl, SqB.tup z1, ?_⟩
    try walk_at "rd2"
    refine iteF ?_
    subst e1
    refine st fun N1 e1 => ?_
    walk_at "rd2"
    simp only [gTup, gCons, gNil]
    try walk_at "rd2"
    refine ⟨_, SqT.of z1, rfl, _, _, rfl, _, _, rfl, rfl, ?_⟩
    subst e1
    refine st fun N1 e1 => ?_
    walk_at "rd2"
    refine ⟨_, _, _, _, rfl, .tupS (SqT.of z2), rfl, T.k_tt, ?_⟩
    walk_at "rd2"
    refine ⟨true, l, _, rfl, SqB.tup z2, ?_⟩
    try walk_at "rd2"
    refine iteF ?_
    obtain ⟨mxs, m1, m2, m3⟩ := z3.walk
    refine ⟨_, _, _, _, rfl, .tupS m1, rfl, T.k_tt, ⟨_, rfl, iteF ?_⟩⟩
    refine mat_len z3 ?_
    try walk_at "rd2"
    refine iteF ?_
    subst e1
    refine st fun N1 e1 => ?_
    walk_at "rd2"
    refine compI_st fun C0 B0 eC eB => ?_
    simp only [iSeq]
    walk_at "rd2"
    have hL : SqB true K H l ([A1, B1, C1].map V.int) := SqB.tup z2
    refine ⟨true, ⟨_, hL⟩, fun a1 ha1 => ?_⟩
    refine cg_seqI (fun _ zs _ => zs = []) ha1 hL (by simp) rfl (fun _ _ _ h => by rw [h]; simp) (fun _ _ _ _ h _ => h) ?_ ?_
    · intro j y H3 zs hj s3 ez e0 C' hC1 hC2
      obtain ⟨n, en, rfl⟩ := ints_at hj
      subst eC eB
      show tElIf _ _ [some (.int n)] H3 C'
      simp only [tElIf]
      walk_at "rd2"
      refine ⟨n, rfl, ?_⟩
      try walk_at "rd2"
      exact hC2 H3 (Same.refl _) e0
    intro H3 ys s3 e3 h0
    subst h0
    try walk_at "rd2"
    refine ⟨by show 0 ≤ sizeLine; decide, fun p0 hp0 => ?_⟩
    have s4 : Same H3 (upd H3 p0 (.lst [])) := Same.new hp0
    have e4 : (upd H3 p0 (.lst [])) p0 = some (.lst []) := upd_same
    generalize upd H3 p0 (.lst []) = H4 at s4 e4
    refine neD_of 1 (by decide) (.lst (SqL.of (s4 _ _ e3)) .nil) (.lst (SqL.of e4) .nil) rfl rfl (b := true) (by simp) ⟨_, rfl, iteF ?_⟩
    have s04 := s3.trans s4
    have z34 := z3.up s04
    refine mat_row z34 (i := 0) rfl rfl fun p1 hp1 => ?_
    refine ⟨p1, p, q, rfl, hp1, ⟨_, rfl, iteF ?_⟩⟩
    subst e1
    refine st fun N1 e1 => ?_
    walk_at "rd2"
    refine mat_row z34 (i := 1) rfl rfl fun p2 hp2 => ?_
    refine ⟨p2, r, s1, rfl, hp2, ?_⟩
    try walk_at "rd2"
    refine mat_ix z34 (i := 0) (k := 0) rfl rfl rfl rfl ?_
    try walk_at "rd2"
    refine mat_ix z34 (i := 1) (k := 1) rfl rfl rfl rfl ?_
    try walk_at "rd2"
    refine ⟨hR.bp.ok hR.bs, mat_ix z34 (i := 0) (k := 1) rfl rfl rfl rfl ?_⟩
    try walk_at "rd2"
    refine mat_ix z34 (i := 1) (k := 0) rfl rfl rfl rfl ?_
    try walk_at "rd2"
    refine ⟨hR.bq.ok hR.br, ?_⟩
    have hd := hR.d
    have habs : (if p * s1 - q * r < 0 then -(p * s1 - q * r) else p * s1 - q * r) = 1 := by
      rcases hd with hd | hd <;> rw [hd] <;> decide
    rw [habs]
    rw [decide_eq_true rfl]
    refine iteF ?_
    subst e1
    refine st fun N1 e1 => ?_
    walk_at "rd2"
    refine mat_ix z34 (i := 0) (k := 0) rfl rfl rfl rfl ?_
    try walk_at "rd2"
    refine mat_ix z34 (i := 1) (k := 0) rfl rfl rfl rfl ?_
    try walk_at "rd2"
    refine ⟨by show 2 ≤ sizeLine; decide, fun u hu1 => ?_⟩
    have s5 : Same H4 (upd H4 u (.tup [.int p, .int r])) := Same.new hu1
    have e5 : (upd H4 u (.tup [.int p, .int r])) u = some (.tup [.int p, .int r]) := upd_same
    generalize upd H4 u (.tup [.int p, .int r]) = H5 at s5 e5
    have z35 := z34.up s5
    subst e1
    refine st fun N1 e1 => ?_
    walk_at "rd2"
    refine mat_ix z35 (i := 0) (k := 1) rfl rfl rfl rfl ?_
    try walk_at "rd2"
    refine mat_ix z35 (i := 1) (k := 1) rfl rfl rfl rfl ?_
    try walk_at "rd2"
    refine ⟨by show 2 ≤ sizeLine; decide, fun v hv1 => ?_⟩
    have s6 : Same H5 (upd H5 v (.tup [.int q, .int s1])) := Same.new hv1
    have e6 : (upd H5 v (.tup [.int q, .int s1])) v = some (.tup [.int q, .int s1]) := upd_same
    generalize upd H5 v (.tup [.int q, .int s1]) = H6 at s6 e6
    have s06 := (s04.trans s5).trans s6
    have e56 := s6 _ _ e5
    have hS6 : SqB false K H6 f [.int a, .int b, .int c] := SqB.up (b := false) hS s06
    subst e1
    refine st fun N1 e1 => ?_
    walk_at "rd2"
    refine ⟨f, u, u, a, b, c, p, r, p, r, rfl, hS6, e56, e56, ba, bb, bc, hR.bp, hR.br, hR.bp, hR.br, ?_⟩
    rw [← hR.ea]
    subst e1
    refine st fun N1 e1 => ?_
    walk_at "rd2"
    refine ⟨f, u, v, a, b, c, p, r, q, s1, rfl, hS6, e56, e6, ba, bb, bc, hR.bp, hR.br, hR.bq, hR.bs, ?_⟩
    rw [← hR.eb]
    subst e1
    refine st fun N1 e1 => ?_
    walk_at "rd2"
    refine ⟨f, v, v, a, b, c, q, s1, q, s1, rfl, hS6, e6, e6, ba, bb, bc, hR.bq, hR.bs, hR.bq, hR.bs, ?_⟩
    rw [← hR.ec]
    subst e1
    try walk_at "rd2"
    refine ⟨by show 3 ≤ sizeLine; decide, fun w1 hw1 => ?_⟩
    have s7 : Same H6 (upd H6 w1 (.tup [.int A1, .int B1, .int C1])) := Same.new hw1
    have e7 : (upd H6 w1 (.tup [.int A1, .int B1, .int C1])) w1 = some (.tup ([A1, B1, C1].map V.int)) := upd_same
    generalize upd H6 w1 (.tup [.int A1, .int B1, .int C1]) = H7 at s7 e7
    have s07 := s06.trans s7
    refine eqD_of 1 (by decide) (Dt.intsB (hL.up s07)) (Dt.intsB (b := true) (SqB.tup e7)) (iT_ints true 0 _) (iT_ints true 0 _) (b := true) (by simp) ?_
    try walk_at "rd2"
    obtain ⟨l1, l2, l3, l4⟩ := hR.least
    simp only [tChain3]
    try walk_at "rd2"
    rw [decide_eq_true l2, decide_eq_true l3, decide_eq_true l4]
    refine ⟨CMul.ok (.inl ⟨by decide, by decide⟩), ?_⟩
    exact iteT (iteT (hQ _ s07))
theorem cut_len5 {ns : List Int} : ∃ ms : List Int, cutV (ns.map V.int) (some 5) (some 25) = ms.map V.int ∧ ms.length ≤ 20 := by
  refine ⟨_, cut_ints ns (some 5) (some 25), ?_⟩
  have e1 : HT.sIx ns.length 0 (some 5) = min 5 ns.length := HT.sIx_nat ns.length 0 5
  have e2 : HT.sIx ns.length ns.length (some 25) = min 25 ns.length := HT.sIx_nat ns.length ns.length 25
  rw [e1, e2, List.length_take, List.length_drop]
  omega
theorem fdiv_sq {x y : Int} (h : 0 < x) : x * (y * y).fdiv x ≤ y * y ∧ ((y * y).fdiv x).natAbs ≤ (y * y).natAbs := by
  have e1 := Int.mul_fdiv_add_fmod (y * y) x
  have e2 := fms (y * y) x h
  have sq : 0 ≤ y * y := sqnn y
  have f0 : 0 ≤ (y * y).fdiv x := Int.fdiv_nonneg sq (Int.le_of_lt h)
  have f1 : (y * y).fdiv x ≤ y * y := by
    have := Int.mul_nonneg (show 0 ≤ x - 1 by omega) f0
    grind
  exact ⟨by omega, by omega⟩
theorem ok_law (T : Txt K mg t) : FnOk P w K mg base CX0 4 t.a_law t.d_law ["_law_script"] (spLaw K) := by
  have G_law_cell : FnOk P w K mg base CX0 1 t.a_law_cell t.d_law_cell ["_law_script", "_law_k"] (sp_law_cell K) := ok_law_cell T
  have G_law_form : FnOk P w K mg base CX0 2 t.a_law_form t.d_law_form ["_law_script"] (sp_law_form K) := ok_law_form T
  have G_law_refused : FnOk P w K mg base CX0 3 t.a_law_refused t.d_law_refused ["_law_a", "_law_b", "_law_c"] sp_law_refused := ok_law_refused T
  have G_least_form : FnOk P w K mg base (CX1 P w) 2 t.a_least_form t.d_least_form ["a", "b", "c"] (sp_least_form K t.a_NoForm) := ok_least_form T
  have G_law_right : FnOk P w K mg base CX0 3 t.a_law_right t.d_law_right ["_law_found", "_law_form_here"] (sp_law_right K) := ok_law_right T
  have G_law_step : FnOk P w K mg base CX0 1 t.a_law_step t.d_law_step ["_law_form_here", "_law_cell_here"] (sp_law_step K) := ok_law_step T
  refine T.F_law.ok sc_law (fun vs H Q E h => ?_) (fun cdv A outer s H vs Q E hr h => ?_)
  · obtain ⟨a, ns, rfl, _⟩ := h
    rfl
  · obtain ⟨a, ns, rfl, hS0, hlen, hbits, q⟩ := h
    have hu := hr.units
    have hS : SqB false K H a (ns.map V.int) := hS0
    refine ⟨_, (pss_cons (ps_set (i := 1) sc_law.nd rfl (Or.inl rfl) (pe_call G_law_form (hr.mono (by omega)) rfl T.m_law_form T.F_law_form.kp T.b_law_form .nil pass0 (pa_cons (pv 0) pa_nil)))
      (pss_cons (ps_set (i := 2) sc_law.nd rfl (Or.inl rfl) (pe_op op_fdivB (pe_call G_law_cell (hr.mono (by omega)) rfl T.m_law_cell T.F_law_cell.kp T.b_law_cell .nil pass0 (pa_cons (pv 0) (pa_cons pe_int pa_nil))) pe_int))
      (pss_cons (ps_if (pt_cmpR op_eqZ (pe_op op_modN (pv 2) pe_int) pe_int (nomark _))
      (pss_one (ps_ret (pe_call G_law_refused (hr.mono (by omega)) rfl T.m_law_refused T.F_law_refused.kp T.b_law_refused .nil pass0 (pa_cons (pe_op op_sub pe_int (pe_ix ix_B (pv 1) pe_int (fun _ _ => rfl))) (pa_cons (pe_ix ix_B (pv 1) pe_int (fun _ _ => rfl)) (pa_cons (pe_ix ix_B (pv 1) pe_int (fun _ _ => rfl)) pa_nil))))))
      pss_nil)
      (pss_cons (ps_if (pt_cmpR op_eqZ (pe_op op_modN (pv 2) pe_int) pe_int (nomark _))
      (pss_one (ps_ret (pe_call G_law_refused (hr.mono (by omega)) rfl T.m_law_refused T.F_law_refused.kp T.b_law_refused .nil pass0 (pa_cons (pe_op op_sub pe_int (pe_ix ix_B (pv 1) pe_int (fun _ _ => rfl))) (pa_cons (pe_ix ix_B (pv 1) pe_int (fun _ _ => rfl)) (pa_cons (pe_op op_sub pe_int (pe_ix ix_B (pv 1) pe_int (fun _ _ => rfl))) pa_nil))))))
      pss_nil)
      (pss_cons (ps_if (pt_cmpR op_eqZ (pe_op op_modN (pv 2) pe_int) pe_int (nomark _))
      (pss_one (ps_ret (pe_call G_law_refused (hr.mono (by omega)) rfl T.m_law_refused T.F_law_refused.kp T.b_law_refused .nil pass0 (pa_cons (pe_ix ix_B (pv 1) pe_int (fun _ _ => rfl)) (pa_cons (pe_ix ix_B (pv 1) pe_int (fun _ _ => rfl)) (pa_cons (pe_op op_fdivB (pe_op op_mulB (pe_ix ix_B (pv 1) pe_int (fun _ _ => rfl)) (pe_ix ix_B (pv 1) pe_int (fun _ _ => rfl))) (pe_ix ix_B (pv 1) pe_int (fun _ _ => rfl))) pa_nil))))))
      pss_nil)
      (pss_cons (ps_set (i := 3) sc_law.nd rfl (Or.inl rfl) (pe_call G_least_form (hr.mono (by omega)) rfl T.m_least_form T.F_least_form.kp T.b_least_form .nil passes1 (pa_cons (pe_ix ix_B (pv 1) pe_int (fun _ _ => rfl)) (pa_cons (pe_ix ix_B (pv 1) pe_int (fun _ _ => rfl)) (pa_cons (pe_ix ix_B (pv 1) pe_int (fun _ _ => rfl)) pa_nil)))))
      (pss_cons (ps_if (pt_not (pt_val (pe_call G_law_right (hr.mono (by omega)) rfl T.m_law_right T.F_law_right.kp T.b_law_right .nil pass0 (pa_cons (pv 3) (pa_cons (pv 1) pa_nil)))))
      (pss_one (ps_ret pe_bl))
      pss_nil)
      (pss_cons (ps_set (i := 4) sc_law.nd rfl (Or.inl rfl) (pe_callTy call_listB rfl T.z_list (by decide +kernel) (pa_cons (pv 1) pa_nil)))
      (pss_cons (ps_for PassesOwn.never rfl (pi_seq (pe_slice sl_B (pv 0) (po_some pe_int) (po_some pe_int))) (pg_name (i := 5) sc_law.nd rfl (Or.inl rfl))
      (pss_one (ps_set (i := 4) sc_law.nd rfl (Or.inl rfl) (pe_call G_law_step (hr.mono (by omega)) rfl T.m_law_step T.F_law_step.kp T.b_law_step .nil pass0 (pa_cons (pv 4) (pa_cons (pv 5) pa_nil))))))
      (pss_cons (ps_set (i := 6) sc_law.nd rfl (Or.inl rfl) (pe_call G_least_form (hr.mono (by omega)) rfl T.m_least_form T.F_least_form.kp T.b_least_form .nil passes1 (pa_cons (pe_ix ix_B (pv 4) pe_int (fun _ _ => rfl)) (pa_cons (pe_ix ix_B (pv 4) pe_int (fun _ _ => rfl)) (pa_cons (pe_ix ix_B (pv 4) pe_int (fun _ _ => rfl)) pa_nil)))))
      (pss_one (ps_ret (pe_and (pe_call G_law_right (hr.mono (by omega)) rfl T.m_law_right T.F_law_right.kp T.b_law_right .nil pass0 (pa_cons (pv 6) (pa_cons (pv 4) pa_nil))) (pe_one (pe_cmpR (op_eqD hu) (pe_ix ix_B (pv 6) pe_int (fun _ _ => rfl)) (pe_ix ix_B (pv 3) pe_int (fun _ _ => rfl)) (nomark _)))))))))))))))), ?_⟩
    show tSeq _ _ _ [some (.ref a), none, none, none, none, none, none] H
    refine st fun N1 e1 => ?_
    walk_at "rd2"
    refine ⟨a, ns, rfl, hS0, fun l H1 x y z s1 hl x0 hxy bx by1 bz => ?_⟩
    have hL : SqB false K H1 l [.int x, .int y, .int z] := hl
    have i0 : ∀ Q' : VK, Q' (.int x) H1 → rIxB K (.ref l) (.int 0) H1 Q' := fun Q' q => ⟨false, l, _, _, _, rfl, rfl, hL, rfl, q⟩
    have i1 : ∀ Q' : VK, Q' (.int y) H1 → rIxB K (.ref l) (.int 1) H1 Q' := fun Q' q => ⟨false, l, _, _, _, rfl, rfl, hL, rfl, q⟩
    have i2 : ∀ Q' : VK, Q' (.int z) H1 → rIxB K (.ref l) (.int 2) H1 Q' := fun Q' q => ⟨false, l, _, _, _, rfl, rfl, hL, rfl, q⟩
    have nb : ∀ {u : Int}, bnd 210 u → bnd 900 (0 - u) := fun {u} h => by
      have : bnd 210 (0 - u) := by unfold bnd at *; omega
      exact this.up (by decide)
    subst e1
    refine st fun N1 e1 => ?_
    walk_at "rd2"
    refine ⟨a, ns, 0, rfl, hS.up s1, by decide, ?_⟩
    try walk_at "rd2"
    refine ⟨dvs _ _ (by decide) (by decide), ?_⟩
    generalize (ns.getD (Int.toNat 0) 0).fdiv 8 = st0
    subst e1
    refine st fun N1 e1 => ?_
    walk_at "rd2"
    refine ⟨by decide, ?_⟩
    refine ite2 (fun zc => ?_) (fun zc => ?_)
    · clear e1
      try walk_at "rd2"
      refine i0 _ ?_
      try walk_at "rd2"
      refine i1 _ (i2 _ ?_)
      try walk_at "rd2"
      refine ⟨1 - x, y, z, rfl, ?_, by1.up (by decide), bz.up (by decide), .inl (by omega), fun H2 _ => q H2⟩
      have : bnd 211 (1 - x) := by unfold bnd at *; omega
      exact this.up (by decide)
    subst e1
    refine st fun N1 e1 => ?_
    walk_at "rd2"
    refine ⟨by decide, ?_⟩
    refine ite2 (fun zc => ?_) (fun zc => ?_)
    · clear e1
      try walk_at "rd2"
      refine i0 _ ?_
      try walk_at "rd2"
      refine i1 _ (i2 _ ?_)
      try walk_at "rd2"
      exact ⟨0 - x, y, 0 - z, rfl, nb bx, by1.up (by decide), nb bz, .inl (by omega), fun H2 _ => q H2⟩
    subst e1
    refine st fun N1 e1 => ?_
    walk_at "rd2"
    refine ⟨by decide, ?_⟩
    refine ite2 (fun zc => ?_) (fun zc => ?_)
    · clear e1
      try walk_at "rd2"
      refine i0 _ (i1 _ (i1 _ (i1 _ ?_)))
      try walk_at "rd2"
      refine ⟨by1.ok by1, i0 _ ?_⟩
      try walk_at "rd2"
      have f := fdiv_sq (y := y) x0
      have b2 : bnd 420 ((y * y).fdiv x) := Nat.lt_of_le_of_lt f.2 (by1.mul by1)
      exact ⟨⟨by omega, Nat.lt_of_lt_of_le ((Nat.log2_lt (by omega)).mpr bx) (by decide)⟩, x, y, _, rfl, bx.up (by decide), by1.up (by decide), b2.up (by decide), .inr f.1, fun H2 _ => q H2⟩
    subst e1
    refine st fun N1 e1 => ?_
    walk_at "rd2"
    refine i0 _ (i1 _ (i2 _ ?_))
    refine ⟨x, y, z, rfl, bx.up (by decide), by1.up (by decide), bz.up (by decide), fun zz => by rcases zz with zz | zz <;> omega, fun _ _ f H2 A1 B1 C1 p q1 r s1' s2 hF hR => ?_⟩
    subst e1
    refine st fun N1 e1 => ?_
    walk_at "rd2"
    refine ⟨f, l, x, y, z, A1, B1, C1, p, q1, r, s1', rfl, hF, hL.up s2, hR, bx.up (by decide), by1.up (by decide), bz.up (by decide), fun H3 s3 => ?_⟩
    try walk_at "rd2"
    have s13 := s2.trans s3
    subst e1
    refine st fun N1 e1 => ?_
    walk_at "rd2"
    refine ⟨false, l, _, rfl, hL.up s13, fun o ho => ?_⟩
    have s4 : Same H3 (upd H3 o (.lst [.int x, .int y, .int z])) := Same.new ho
    have e4 : (upd H3 o (.lst [.int x, .int y, .int z])) o = some (.lst [.int x, .int y, .int z]) := upd_same
    generalize upd H3 o (.lst [.int x, .int y, .int z]) = H4 at s4 e4
    have s04 := s1.trans (s13.trans s4)
    have hF4 := hF.up (s3.trans s4)
    subst e1
    refine st fun N1 e1 => for_st fun B eB => ?_
    simp only [iSeq]
    walk_at "rd2"
    refine ⟨false, a, _, rfl, hS.up s04, (fun zz => by cases zz), fun p5 hp5 => ?_⟩
    obtain ⟨ms, ems, hml⟩ := cut_len5 (ns := ns)
    rw [ems]
    have s5 : Same H4 (upd H4 p5 (seqO false (ms.map V.int))) := Same.new hp5
    have e5 : (upd H4 p5 (seqO false (ms.map V.int))) p5 = some (.lst (ms.map V.int)) := upd_same
    generalize upd H4 p5 (seqO false (ms.map V.int)) = H5 at s5 e5
    refine ⟨false, p5, rfl, ⟨_, SqB.lst e5⟩, ?_⟩
    refine fr_seq (g := gName 5) (tb := B) (fun i σ H6 => ∃ (o' : Addr) (a' b' c' : Int) (v5 : Option V), σ = [some (.ref a), some (.ref l), some (.int st0), some (.ref f), some (.ref o'), v5, none] ∧ Same H5 H6 ∧ SqL K H6 o' [.int a', .int b', .int c'] ∧ Eqv x y z a' b' c' ∧ bnd (210 + 4 * i) a' ∧ bnd (210 + 4 * i) b' ∧ bnd (210 + 4 * i) c')
      ⟨o, x, y, z, none, rfl, Same.refl _, SqL.of (s5 _ _ e4), Eqv.refl x y z, bx, by1, bz⟩ (fun i σ H6 _ ⟨_, _, _, _, _, _, e, _⟩ => SqB.lst (e _ _ e5)) ?_ ?_
    · rintro i v σ H6 hi ⟨o', a', b', c', v5, rfl, s6, ho', he', b1, b2, b3⟩
      obtain ⟨n, en, rfl⟩ := ints_at hi
      have hi20 : i < ms.length := (List.getElem?_eq_some_iff.mp en).1
      subst eB
      try walk_at "rd2"
      refine ⟨o', a', b', c', n, 210 + 4 * i, rfl, ho', b1, b2, b3, by omega, fun o2 H7 a2 b2' c2 s7 ho2 he2 d1 d2 d3 => ?_⟩
      exact ⟨o2, rfl, s6.trans s7, a2, b2', c2, ho2, he'.trans he2, d1.up (by omega), d2.up (by omega), d3.up (by omega)⟩
    · rintro σ H6 ⟨o', a', b', c', v5, rfl, s6, ho', he', b1, b2, b3⟩
      rw [List.length_map] at b1 b2 b3
      obtain ⟨pp1, pp2⟩ := he'.pos x0 hxy
      have hO : SqB false K H6 o' [.int a', .int b', .int c'] := ho'
      have j0 : ∀ Q' : VK, Q' (.int a') H6 → rIxB K (.ref o') (.int 0) H6 Q' := fun Q' q => ⟨false, o', _, _, _, rfl, rfl, hO, rfl, q⟩
      have j1 : ∀ Q' : VK, Q' (.int b') H6 → rIxB K (.ref o') (.int 1) H6 Q' := fun Q' q => ⟨false, o', _, _, _, rfl, rfl, hO, rfl, q⟩
      have j2 : ∀ Q' : VK, Q' (.int c') H6 → rIxB K (.ref o') (.int 2) H6 Q' := fun Q' q => ⟨false, o', _, _, _, rfl, rfl, hO, rfl, q⟩
      have k1 : bnd 900 a' := b1.up (by omega)
      have k2 : bnd 900 b' := b2.up (by omega)
      have k3 : bnd 900 c' := b3.up (by omega)
      subst e1
      refine st fun N1 e1 => ?_
      try walk_at "rd2"
      refine j0 _ (j1 _ (j2 _ ?_))
      refine ⟨a', b', c', rfl, k1, k2, k3, fun zz => by rcases zz with zz | zz <;> omega, fun _ _ g H7 A2 B2 C2 p2 q2 r2 s2' s7 hG hR2 => ?_⟩
      subst e1
      try walk_at "rd2"
      refine ⟨g, o', a', b', c', A2, B2, C2, p2, q2, r2, s2', rfl, hG, hO.up s7, hR2, k1, k2, k3, fun H8 s8 => ?_⟩
      try walk_at "rd2"
      have eqs := least_uniq hR.least hR2.least (hR.eqv.symm.trans (he'.trans hR2.eqv))
      obtain ⟨u1, u2, u3⟩ := eqs
      subst u1 u2 u3
      obtain ⟨gl, gm, g1, g2, g3⟩ := hG.up s8
      obtain ⟨fl, fm, f1, f2, f3⟩ := hF4.up (s5.trans (s6.trans (s7.trans s8)))
      refine ⟨true, g, _, 0, .ref gl, rfl, rfl, SqB.tup g1, rfl, ?_⟩
      try walk_at "rd2"
      refine ⟨true, f, _, 0, .ref fl, rfl, rfl, SqB.tup f1, rfl, ?_⟩
      exact eqD_of 1 (by decide) (Dt.intsB (b := true) (ns := [A1, B1, C1]) (SqB.tup g2)) (Dt.intsB (b := true) (ns := [A1, B1, C1]) (SqB.tup f2)) (iT_ints true 0 _) (iT_ints true 0 _) (b := true) (by simp) (q _)

end
theorem txt_mk {K : PySem.W.Frag} {h : Heap} {mg : Str → Option Value} (X : K.In h) (G : h.Ns mainGlobals mg)
    {f_nearest : Addr} {od_nearest an_nearest : Option Addr} {sl_nearest : Array (Option Value)} {oc_nearest kV_nearest dc_nearest pm_nearest cd_nearest ct_nearest : Value}
    {f_turned : Addr} {od_turned an_turned : Option Addr} {sl_turned : Array (Option Value)} {oc_turned kV_turned dc_turned pm_turned cd_turned ct_turned : Value}
    {f_less : Addr} {od_less an_less : Option Addr} {sl_less : Array (Option Value)} {oc_less kV_less dc_less pm_less cd_less ct_less : Value}
    {f_least_form : Addr} {od_least_form an_least_form : Option Addr} {sl_least_form : Array (Option Value)} {oc_least_form kV_least_form dc_least_form pm_least_form cd_least_form ct_least_form : Value}
    {f_law_cell : Addr} {od_law_cell an_law_cell : Option Addr} {sl_law_cell : Array (Option Value)} {oc_law_cell kV_law_cell dc_law_cell pm_law_cell cd_law_cell ct_law_cell : Value}
    {f_law_int : Addr} {od_law_int an_law_int : Option Addr} {sl_law_int : Array (Option Value)} {oc_law_int kV_law_int dc_law_int pm_law_int cd_law_int ct_law_int : Value}
    {f_law_form : Addr} {od_law_form an_law_form : Option Addr} {sl_law_form : Array (Option Value)} {oc_law_form kV_law_form dc_law_form pm_law_form cd_law_form ct_law_form : Value}
    {f_law_step : Addr} {od_law_step an_law_step : Option Addr} {sl_law_step : Array (Option Value)} {oc_law_step kV_law_step dc_law_step pm_law_step cd_law_step ct_law_step : Value}
    {f_law_measured : Addr} {od_law_measured an_law_measured : Option Addr} {sl_law_measured : Array (Option Value)} {oc_law_measured kV_law_measured dc_law_measured pm_law_measured cd_law_measured ct_law_measured : Value}
    {f_law_is_two : Addr} {od_law_is_two an_law_is_two : Option Addr} {sl_law_is_two : Array (Option Value)} {oc_law_is_two kV_law_is_two dc_law_is_two pm_law_is_two cd_law_is_two ct_law_is_two : Value}
    {f_law_right : Addr} {od_law_right an_law_right : Option Addr} {sl_law_right : Array (Option Value)} {oc_law_right kV_law_right dc_law_right pm_law_right cd_law_right ct_law_right : Value}
    {f_law_another : Addr} {od_law_another an_law_another : Option Addr} {sl_law_another : Array (Option Value)} {oc_law_another kV_law_another dc_law_another pm_law_another cd_law_another ct_law_another : Value}
    {f_law_refused : Addr} {od_law_refused an_law_refused : Option Addr} {sl_law_refused : Array (Option Value)} {oc_law_refused kV_law_refused dc_law_refused pm_law_refused cd_law_refused ct_law_refused : Value}
    {f_law : Addr} {od_law an_law : Option Addr} {sl_law : Array (Option Value)} {oc_law kV_law dc_law pm_law cd_law ct_law : Value}
    {C_CrystalError : Addr}
    {C_NoPlace : Addr}
    {C_NoDeed : Addr}
    {C_NoNumber : Addr}
    {C_TooMany : Addr}
    {C_NoChange : Addr}
    {C_NotKept : Addr}
    {C_NoForm : Addr}
    (n_nearest : PySem.W.nsIn K mainGlobals "nearest" = some (some (.ref f_nearest)))
    (l_nearest : K.lookup f_nearest = some ⟨oc_nearest, od_nearest, .func (PySem.W.fnOf "nearest" "nearest" (defArgs s_nearest) (defBody s_nearest) (defScope s_nearest) .none kV_nearest dc_nearest pm_nearest an_nearest cd_nearest ct_nearest), sl_nearest⟩)
    (c_nearest : PySem.W.codeIn K cd_nearest "nearest" = true)
    (k_nearest : PySem.W.keepIn K (.ref f_nearest) = true)
    (n_turned : PySem.W.nsIn K mainGlobals "turned" = some (some (.ref f_turned)))
    (l_turned : K.lookup f_turned = some ⟨oc_turned, od_turned, .func (PySem.W.fnOf "turned" "turned" (defArgs s_turned) (defBody s_turned) (defScope s_turned) .none kV_turned dc_turned pm_turned an_turned cd_turned ct_turned), sl_turned⟩)
    (c_turned : PySem.W.codeIn K cd_turned "turned" = true)
    (k_turned : PySem.W.keepIn K (.ref f_turned) = true)
    (n_less : PySem.W.nsIn K mainGlobals "less" = some (some (.ref f_less)))
    (l_less : K.lookup f_less = some ⟨oc_less, od_less, .func (PySem.W.fnOf "less" "less" (defArgs s_less) (defBody s_less) (defScope s_less) .none kV_less dc_less pm_less an_less cd_less ct_less), sl_less⟩)
    (c_less : PySem.W.codeIn K cd_less "less" = true)
    (k_less : PySem.W.keepIn K (.ref f_less) = true)
    (n_least_form : PySem.W.nsIn K mainGlobals "least_form" = some (some (.ref f_least_form)))
    (l_least_form : K.lookup f_least_form = some ⟨oc_least_form, od_least_form, .func (PySem.W.fnOf "least_form" "least_form" (defArgs s_least_form) (defBody s_least_form) (defScope s_least_form) .none kV_least_form dc_least_form pm_least_form an_least_form cd_least_form ct_least_form), sl_least_form⟩)
    (c_least_form : PySem.W.codeIn K cd_least_form "least_form" = true)
    (k_least_form : PySem.W.keepIn K (.ref f_least_form) = true)
    (n_law_cell : PySem.W.nsIn K mainGlobals "_law_cell" = some (some (.ref f_law_cell)))
    (l_law_cell : K.lookup f_law_cell = some ⟨oc_law_cell, od_law_cell, .func (PySem.W.fnOf "_law_cell" "_law_cell" (defArgs s_law_cell) (defBody s_law_cell) (defScope s_law_cell) .none kV_law_cell dc_law_cell pm_law_cell an_law_cell cd_law_cell ct_law_cell), sl_law_cell⟩)
    (c_law_cell : PySem.W.codeIn K cd_law_cell "_law_cell" = true)
    (k_law_cell : PySem.W.keepIn K (.ref f_law_cell) = true)
    (n_law_int : PySem.W.nsIn K mainGlobals "_law_int" = some (some (.ref f_law_int)))
    (l_law_int : K.lookup f_law_int = some ⟨oc_law_int, od_law_int, .func (PySem.W.fnOf "_law_int" "_law_int" (defArgs s_law_int) (defBody s_law_int) (defScope s_law_int) .none kV_law_int dc_law_int pm_law_int an_law_int cd_law_int ct_law_int), sl_law_int⟩)
    (c_law_int : PySem.W.codeIn K cd_law_int "_law_int" = true)
    (k_law_int : PySem.W.keepIn K (.ref f_law_int) = true)
    (n_law_form : PySem.W.nsIn K mainGlobals "_law_form" = some (some (.ref f_law_form)))
    (l_law_form : K.lookup f_law_form = some ⟨oc_law_form, od_law_form, .func (PySem.W.fnOf "_law_form" "_law_form" (defArgs s_law_form) (defBody s_law_form) (defScope s_law_form) .none kV_law_form dc_law_form pm_law_form an_law_form cd_law_form ct_law_form), sl_law_form⟩)
    (c_law_form : PySem.W.codeIn K cd_law_form "_law_form" = true)
    (k_law_form : PySem.W.keepIn K (.ref f_law_form) = true)
    (n_law_step : PySem.W.nsIn K mainGlobals "_law_step" = some (some (.ref f_law_step)))
    (l_law_step : K.lookup f_law_step = some ⟨oc_law_step, od_law_step, .func (PySem.W.fnOf "_law_step" "_law_step" (defArgs s_law_step) (defBody s_law_step) (defScope s_law_step) .none kV_law_step dc_law_step pm_law_step an_law_step cd_law_step ct_law_step), sl_law_step⟩)
    (c_law_step : PySem.W.codeIn K cd_law_step "_law_step" = true)
    (k_law_step : PySem.W.keepIn K (.ref f_law_step) = true)
    (n_law_measured : PySem.W.nsIn K mainGlobals "_law_measured" = some (some (.ref f_law_measured)))
    (l_law_measured : K.lookup f_law_measured = some ⟨oc_law_measured, od_law_measured, .func (PySem.W.fnOf "_law_measured" "_law_measured" (defArgs s_law_measured) (defBody s_law_measured) (defScope s_law_measured) .none kV_law_measured dc_law_measured pm_law_measured an_law_measured cd_law_measured ct_law_measured), sl_law_measured⟩)
    (c_law_measured : PySem.W.codeIn K cd_law_measured "_law_measured" = true)
    (k_law_measured : PySem.W.keepIn K (.ref f_law_measured) = true)
    (n_law_is_two : PySem.W.nsIn K mainGlobals "_law_is_two" = some (some (.ref f_law_is_two)))
    (l_law_is_two : K.lookup f_law_is_two = some ⟨oc_law_is_two, od_law_is_two, .func (PySem.W.fnOf "_law_is_two" "_law_is_two" (defArgs s_law_is_two) (defBody s_law_is_two) (defScope s_law_is_two) .none kV_law_is_two dc_law_is_two pm_law_is_two an_law_is_two cd_law_is_two ct_law_is_two), sl_law_is_two⟩)
    (c_law_is_two : PySem.W.codeIn K cd_law_is_two "_law_is_two" = true)
    (k_law_is_two : PySem.W.keepIn K (.ref f_law_is_two) = true)
    (n_law_right : PySem.W.nsIn K mainGlobals "_law_right" = some (some (.ref f_law_right)))
    (l_law_right : K.lookup f_law_right = some ⟨oc_law_right, od_law_right, .func (PySem.W.fnOf "_law_right" "_law_right" (defArgs s_law_right) (defBody s_law_right) (defScope s_law_right) .none kV_law_right dc_law_right pm_law_right an_law_right cd_law_right ct_law_right), sl_law_right⟩)
    (c_law_right : PySem.W.codeIn K cd_law_right "_law_right" = true)
    (k_law_right : PySem.W.keepIn K (.ref f_law_right) = true)
    (n_law_another : PySem.W.nsIn K mainGlobals "_law_another" = some (some (.ref f_law_another)))
    (l_law_another : K.lookup f_law_another = some ⟨oc_law_another, od_law_another, .func (PySem.W.fnOf "_law_another" "_law_another" (defArgs s_law_another) (defBody s_law_another) (defScope s_law_another) .none kV_law_another dc_law_another pm_law_another an_law_another cd_law_another ct_law_another), sl_law_another⟩)
    (c_law_another : PySem.W.codeIn K cd_law_another "_law_another" = true)
    (k_law_another : PySem.W.keepIn K (.ref f_law_another) = true)
    (n_law_refused : PySem.W.nsIn K mainGlobals "_law_refused" = some (some (.ref f_law_refused)))
    (l_law_refused : K.lookup f_law_refused = some ⟨oc_law_refused, od_law_refused, .func (PySem.W.fnOf "_law_refused" "_law_refused" (defArgs s_law_refused) (defBody s_law_refused) (defScope s_law_refused) .none kV_law_refused dc_law_refused pm_law_refused an_law_refused cd_law_refused ct_law_refused), sl_law_refused⟩)
    (c_law_refused : PySem.W.codeIn K cd_law_refused "_law_refused" = true)
    (k_law_refused : PySem.W.keepIn K (.ref f_law_refused) = true)
    (n_law : PySem.W.nsIn K mainGlobals "law" = some (some (.ref f_law)))
    (l_law : K.lookup f_law = some ⟨oc_law, od_law, .func (PySem.W.fnOf "law" "law" (defArgs s_law) (defBody s_law) (defScope s_law) .none kV_law dc_law pm_law an_law cd_law ct_law), sl_law⟩)
    (c_law : PySem.W.codeIn K cd_law "law" = true)
    (k_law : PySem.W.keepIn K (.ref f_law) = true)
    (n_CrystalError : PySem.W.nsIn K mainGlobals "CrystalError" = some (some (.ref C_CrystalError)))
    (n_NoPlace : PySem.W.nsIn K mainGlobals "NoPlace" = some (some (.ref C_NoPlace)))
    (n_NoDeed : PySem.W.nsIn K mainGlobals "NoDeed" = some (some (.ref C_NoDeed)))
    (n_NoNumber : PySem.W.nsIn K mainGlobals "NoNumber" = some (some (.ref C_NoNumber)))
    (n_TooMany : PySem.W.nsIn K mainGlobals "TooMany" = some (some (.ref C_TooMany)))
    (n_NoChange : PySem.W.nsIn K mainGlobals "NoChange" = some (some (.ref C_NoChange)))
    (n_NotKept : PySem.W.nsIn K mainGlobals "NotKept" = some (some (.ref C_NotKept)))
    (n_NoForm : PySem.W.nsIn K mainGlobals "NoForm" = some (some (.ref C_NoForm)))
    (y_range : PySem.W.nsIn K mainGlobals "range" = some none)
    (y_zip : PySem.W.nsIn K mainGlobals "zip" = some none)
    (y_len : PySem.W.nsIn K mainGlobals "len" = some none)
    (y_abs : PySem.W.nsIn K mainGlobals "abs" = some none)
    (y_isinstance : PySem.W.nsIn K mainGlobals "isinstance" = some none)
    (y_int : PySem.W.nsIn K mainGlobals "int" = some none)
    (y_bool : PySem.W.nsIn K mainGlobals "bool" = some none)
    (y_list : PySem.W.nsIn K mainGlobals "list" = some none)
    (y_tuple : PySem.W.nsIn K mainGlobals "tuple" = some none)
    (y_ValueError : PySem.W.nsIn K mainGlobals "ValueError" = some none)
    (q_k_int : PySem.W.kitOne K (.type "int") (.type "int") = some true)
    (q_k_ib : PySem.W.kitOne K (.type "int") (.type "bool") = some false)
    (q_k_tt : PySem.W.kitOne K (.type "tuple") (.type "tuple") = some true)
    (q_x_NoForm : PySem.W.excIn K C_NoForm [.type "ValueError", .type "Exception", .type "BaseException", .type "object"] "ValueError.__new__" = true)
    (q_xm : PySem.W.exmOne K (.ref C_NoForm) (.ref C_CrystalError) = some true)
    (q_e_ga : PySem.W.findIn K (.ref C_NoForm) "__getattribute__" = some (some (.builtin "BaseException.__getattribute__")))
    (q_e_gt : PySem.W.findIn K (.ref C_NoForm) "__getattr__" = some none)
    (q_e_ca : PySem.W.findIn K (.ref C_NoForm) "__class__" = some (some (.builtin "object.__class__")))
    (q_e_cg : PySem.W.specialIn K (.builtin "object.__class__") "__get__" = some (some (.builtin "getset_descriptor.__get__")))
    (q_e_tk : PySem.W.takesIn K (.builtin "object.__class__") = some true)
    (q_e_ob : PySem.W.mroIn K C_NoForm (.type "object") = some true)
    (q_e_bx : PySem.W.mroIn K C_NoForm (.type "BaseException") = some true)
    (q_i_VE : PySem.W.kitOne K (.ref C_NoForm) (.type "ValueError") = some true)
    (q_i_NoForm : PySem.W.kitOne K (.ref C_NoForm) (.ref C_NoForm) = some true)
    (q_i_NoChange : PySem.W.kitOne K (.ref C_NoForm) (.ref C_NoChange) = some false)
    (q_i_NoDeed : PySem.W.kitOne K (.ref C_NoForm) (.ref C_NoDeed) = some false)
    (q_i_NoNumber : PySem.W.kitOne K (.ref C_NoForm) (.ref C_NoNumber) = some false)
    (q_i_NoPlace : PySem.W.kitOne K (.ref C_NoForm) (.ref C_NoPlace) = some false)
    (q_i_NotKept : PySem.W.kitOne K (.ref C_NoForm) (.ref C_NotKept) = some false)
    (q_i_TooMany : PySem.W.kitOne K (.ref C_NoForm) (.ref C_TooMany) = some false)
    : ∃ t, Txt K mg t := by
  have F_nearest := fun_mk (st := s_nearest) l_nearest c_nearest k_nearest
  have b_nearest := F_nearest.binds (ps := ["one", "other"]) fun _ _ _ _ _ _ us hl => match us, hl with | [_, _], _ => rfl
  have F_turned := fun_mk (st := s_turned) l_turned c_turned k_turned
  have b_turned := F_turned.binds (ps := ["rows"]) fun _ _ _ _ _ _ us hl => match us, hl with | [_], _ => rfl
  have F_less := fun_mk (st := s_less) l_less c_less k_less
  have b_less := F_less.binds (ps := ["one", "other", "count"]) fun _ _ _ _ _ _ us hl => match us, hl with | [_, _, _], _ => rfl
  have F_least_form := fun_mk (st := s_least_form) l_least_form c_least_form k_least_form
  have b_least_form := F_least_form.binds (ps := ["a", "b", "c"]) fun _ _ _ _ _ _ us hl => match us, hl with | [_, _, _], _ => rfl
  have F_law_cell := fun_mk (st := s_law_cell) l_law_cell c_law_cell k_law_cell
  have b_law_cell := F_law_cell.binds (ps := ["_law_script", "_law_k"]) fun _ _ _ _ _ _ us hl => match us, hl with | [_, _], _ => rfl
  have F_law_int := fun_mk (st := s_law_int) l_law_int c_law_int k_law_int
  have b_law_int := F_law_int.binds (ps := ["_law_thing"]) fun _ _ _ _ _ _ us hl => match us, hl with | [_], _ => rfl
  have F_law_form := fun_mk (st := s_law_form) l_law_form c_law_form k_law_form
  have b_law_form := F_law_form.binds (ps := ["_law_script"]) fun _ _ _ _ _ _ us hl => match us, hl with | [_], _ => rfl
  have F_law_step := fun_mk (st := s_law_step) l_law_step c_law_step k_law_step
  have b_law_step := F_law_step.binds (ps := ["_law_form_here", "_law_cell_here"]) fun _ _ _ _ _ _ us hl => match us, hl with | [_, _], _ => rfl
  have F_law_measured := fun_mk (st := s_law_measured) l_law_measured c_law_measured k_law_measured
  have b_law_measured := F_law_measured.binds (ps := ["_law_form_here", "_law_one", "_law_other"]) fun _ _ _ _ _ _ us hl => match us, hl with | [_, _, _], _ => rfl
  have F_law_is_two := fun_mk (st := s_law_is_two) l_law_is_two c_law_is_two k_law_is_two
  have b_law_is_two := F_law_is_two.binds (ps := ["_law_found"]) fun _ _ _ _ _ _ us hl => match us, hl with | [_], _ => rfl
  have F_law_right := fun_mk (st := s_law_right) l_law_right c_law_right k_law_right
  have b_law_right := F_law_right.binds (ps := ["_law_found", "_law_form_here"]) fun _ _ _ _ _ _ us hl => match us, hl with | [_, _], _ => rfl
  have F_law_another := fun_mk (st := s_law_another) l_law_another c_law_another k_law_another
  have b_law_another := F_law_another.binds (ps := ["_law_e"]) fun _ _ _ _ _ _ us hl => match us, hl with | [_], _ => rfl
  have F_law_refused := fun_mk (st := s_law_refused) l_law_refused c_law_refused k_law_refused
  have b_law_refused := F_law_refused.binds (ps := ["_law_a", "_law_b", "_law_c"]) fun _ _ _ _ _ _ us hl => match us, hl with | [_, _, _], _ => rfl
  have F_law := fun_mk (st := s_law) l_law c_law k_law
  have b_law := F_law.binds (ps := ["_law_script"]) fun _ _ _ _ _ _ us hl => match us, hl with | [_], _ => rfl
  exact ⟨⟨f_nearest, _, f_turned, _, f_less, _, f_least_form, _, f_law_cell, _, f_law_int, _, f_law_form, _, f_law_step, _, f_law_measured, _, f_law_is_two, _, f_law_right, _, f_law_another, _, f_law_refused, _, f_law, _, C_CrystalError, C_NoPlace, C_NoDeed, C_NoNumber, C_TooMany, C_NoChange, C_NotKept, C_NoForm⟩, ⟨F_nearest, PySem.W.mg_of X G n_nearest, b_nearest, F_turned, PySem.W.mg_of X G n_turned, b_turned, F_less, PySem.W.mg_of X G n_less, b_less, F_least_form, PySem.W.mg_of X G n_least_form, b_least_form, F_law_cell, PySem.W.mg_of X G n_law_cell, b_law_cell, F_law_int, PySem.W.mg_of X G n_law_int, b_law_int, F_law_form, PySem.W.mg_of X G n_law_form, b_law_form, F_law_step, PySem.W.mg_of X G n_law_step, b_law_step, F_law_measured, PySem.W.mg_of X G n_law_measured, b_law_measured, F_law_is_two, PySem.W.mg_of X G n_law_is_two, b_law_is_two, F_law_right, PySem.W.mg_of X G n_law_right, b_law_right, F_law_another, PySem.W.mg_of X G n_law_another, b_law_another, F_law_refused, PySem.W.mg_of X G n_law_refused, b_law_refused, F_law, PySem.W.mg_of X G n_law, b_law, PySem.W.mg_none_of X G y_range, PySem.W.mg_none_of X G y_zip, PySem.W.mg_none_of X G y_len, PySem.W.mg_none_of X G y_abs, PySem.W.mg_none_of X G y_isinstance, PySem.W.mg_none_of X G y_int, PySem.W.mg_none_of X G y_bool, PySem.W.mg_none_of X G y_list, PySem.W.mg_none_of X G y_tuple, PySem.W.mg_none_of X G y_ValueError, PySem.W.mg_of X G n_CrystalError, PySem.W.mg_of X G n_NoPlace, PySem.W.mg_of X G n_NoDeed, PySem.W.mg_of X G n_NoNumber, PySem.W.mg_of X G n_TooMany, PySem.W.mg_of X G n_NoChange, PySem.W.mg_of X G n_NotKept, PySem.W.mg_of X G n_NoForm, q_k_int, q_k_ib, q_k_tt, q_x_NoForm, q_xm, q_e_ga, q_e_gt, q_e_ca, q_e_cg, q_e_tk, q_e_ob, q_e_bx, q_i_VE, q_i_NoForm, q_i_NoChange, q_i_NoDeed, q_i_NoNumber, q_i_NoPlace, q_i_NotKept, q_i_TooMany, fun s v => .of_eq rfl⟩⟩
end Cw
open PySem PySem.W PyProof.Rows
set_option maxRecDepth 100000 in
set_option maxHeartbeats 0 in
theorem PySem.Challenge.cw_crystalwords_k54_whole_least_forms_holds : PySem.Challenge.rw_crystalwords_k54_whole_least_forms.Holds := by
  w_on; o_law; k_head; (case hw => w_witness2)
  k_fill
  refine L2.walkB (l := PySem.Challenge.rw_crystalwords_k54_whole_least_forms) (k := 4) (x := "_law_script") rfl rfl ⟨rfl, by decide, by decide⟩ (fun w h Y => PySem.W.kIn_of Y) ?F
  case F =>
    intro w mg fa h KX G hmg
    have T : ∃ t, Cw.Txt (L2.KOf KX) mg t := by
      dsimp only [L2.KOf]
      refine' Cw.txt_mk KX G ?n_nearest ?l_nearest ?c_nearest ?k_nearest ?n_turned ?l_turned ?c_turned ?k_turned ?n_less ?l_less ?c_less ?k_less ?n_least_form ?l_least_form ?c_least_form ?k_least_form ?n_law_cell ?l_law_cell ?c_law_cell ?k_law_cell ?n_law_int ?l_law_int ?c_law_int ?k_law_int ?n_law_form ?l_law_form ?c_law_form ?k_law_form ?n_law_step ?l_law_step ?c_law_step ?k_law_step ?n_law_measured ?l_law_measured ?c_law_measured ?k_law_measured ?n_law_is_two ?l_law_is_two ?c_law_is_two ?k_law_is_two ?n_law_right ?l_law_right ?c_law_right ?k_law_right ?n_law_another ?l_law_another ?c_law_another ?k_law_another ?n_law_refused ?l_law_refused ?c_law_refused ?k_law_refused ?n_law ?l_law ?c_law ?k_law ?n_CrystalError ?n_NoPlace ?n_NoDeed ?n_NoNumber ?n_TooMany ?n_NoChange ?n_NotKept ?n_NoForm ?y_range ?y_zip ?y_len ?y_abs ?y_isinstance ?y_int ?y_bool ?y_list ?y_tuple ?y_ValueError ?q_k_int ?q_k_ib ?q_k_tt ?q_x_NoForm ?q_xm ?q_e_ga ?q_e_gt ?q_e_ca ?q_e_cg ?q_e_tk ?q_e_ob ?q_e_bx ?q_i_VE ?q_i_NoForm ?q_i_NoChange ?q_i_NoDeed ?q_i_NoNumber ?q_i_NoPlace ?q_i_NotKept ?q_i_TooMany
      (case n_nearest => k_is)
      (case l_nearest => k_is)
      (case c_nearest => k_is)
      (case k_nearest => k_is)
      (case n_turned => k_is)
      (case l_turned => k_is)
      (case c_turned => k_is)
      (case k_turned => k_is)
      (case n_less => k_is)
      (case l_less => k_is)
      (case c_less => k_is)
      (case k_less => k_is)
      (case n_least_form => k_is)
      (case l_least_form => k_is)
      (case c_least_form => k_is)
      (case k_least_form => k_is)
      (case n_law_cell => k_is)
      (case l_law_cell => k_is)
      (case c_law_cell => k_is)
      (case k_law_cell => k_is)
      (case n_law_int => k_is)
      (case l_law_int => k_is)
      (case c_law_int => k_is)
      (case k_law_int => k_is)
      (case n_law_form => k_is)
      (case l_law_form => k_is)
      (case c_law_form => k_is)
      (case k_law_form => k_is)
      (case n_law_step => k_is)
      (case l_law_step => k_is)
      (case c_law_step => k_is)
      (case k_law_step => k_is)
      (case n_law_measured => k_is)
      (case l_law_measured => k_is)
      (case c_law_measured => k_is)
      (case k_law_measured => k_is)
      (case n_law_is_two => k_is)
      (case l_law_is_two => k_is)
      (case c_law_is_two => k_is)
      (case k_law_is_two => k_is)
      (case n_law_right => k_is)
      (case l_law_right => k_is)
      (case c_law_right => k_is)
      (case k_law_right => k_is)
      (case n_law_another => k_is)
      (case l_law_another => k_is)
      (case c_law_another => k_is)
      (case k_law_another => k_is)
      (case n_law_refused => k_is)
      (case l_law_refused => k_is)
      (case c_law_refused => k_is)
      (case k_law_refused => k_is)
      (case n_law => k_is)
      (case l_law => k_is)
      (case c_law => k_is)
      (case k_law => k_is)
      (case n_CrystalError => k_is)
      (case n_NoPlace => k_is)
      (case n_NoDeed => k_is)
      (case n_NoNumber => k_is)
      (case n_TooMany => k_is)
      (case n_NoChange => k_is)
      (case n_NotKept => k_is)
      (case n_NoForm => k_is)
      (case y_range => k_is)
      (case y_zip => k_is)
      (case y_len => k_is)
      (case y_abs => k_is)
      (case y_isinstance => k_is)
      (case y_int => k_is)
      (case y_bool => k_is)
      (case y_list => k_is)
      (case y_tuple => k_is)
      (case y_ValueError => k_is)
      (case q_k_int => kit_is)
      (case q_k_ib => kit_is)
      (case q_k_tt => kit_is)
      (case q_x_NoForm => k_exc)
      (case q_xm => kts_exm)
      (case q_e_ga => k_is)
      (case q_e_gt => k_is)
      (case q_e_ca => k_is)
      (case q_e_cg => k_is)
      (case q_e_tk => k_is)
      (case q_e_ob => k_is)
      (case q_e_bx => k_is)
      (case q_i_VE => kit_is)
      (case q_i_NoForm => kit_is)
      (case q_i_NoChange => kit_is)
      (case q_i_NoDeed => kit_is)
      (case q_i_NoNumber => kit_is)
      (case q_i_NoPlace => kit_is)
      (case q_i_NotKept => kit_is)
      (case q_i_TooMany => kit_is)
    obtain ⟨t, T⟩ := T
    have e0 := hmg.symm.trans T.m_law
    cases e0
    exact ⟨t.d_law, T.bl, fun base kb nb => Cw.ok_law T⟩
#print axioms PySem.Challenge.cw_crystalwords_k54_whole_least_forms_holds
