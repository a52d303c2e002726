import PyProof.Rows.All
import Wide.All
import OpenK.AllK
import Wide.FinOn
import Lean
import PyProof.EqAt
import PyProof.EqKinds
import PyProof.TupleCall
import PySem.Challenge.RW_crystalwords_k19_places_written
set_option Elab.async false
set_option linter.all false
set_option maxRecDepth 100000
/-! THE HAND LAYER, for ints, bools, texts, own classes, LISTS and tuples (index, slices, in, append, pop ..), calls, loops. Paste it whole ahead of your own text; what your proof does not reach may be deleted. -/
namespace L2
open PySem PySem.Spec PyProof.Rows

/-- a key: an int or a str -/
noncomputable abbrev Key := Sum Int Str
noncomputable def keyIs : Key → Value → Bool
  | .inl k, v => Value.isInt k v
  | .inr x, v => Value.isStrOf x v
noncomputable def keyH (w : World) : Key → Int
  | .inl k => hashInt k
  | .inr x => hashStr w x
theorem keyIs_shape : ∀ {k : Key} {v : Value}, keyIs k v = true → (∃ i t, k = Sum.inl i ∧ v = Value.int i t) ∨ (∃ x t, k = Sum.inr x ∧ v = Value.str x t)
  | .inl i, v, h => by
    obtain ⟨t, e⟩ := Value.isInt_shape (k := i) (v := v) h
    exact .inl ⟨i, t, rfl, e⟩
  | .inr x, v, h => by
    obtain ⟨t, e⟩ := Value.isStrOf_shape (x := x) (v := v) h
    exact .inr ⟨x, t, rfl, e⟩
theorem key_ll (a b : Int) : decide ((Sum.inl a : Key) = Sum.inl b) = (a == b) := by
  by_cases e : a = b
  · subst e; simp
  · have h : ¬ (Sum.inl a : Key) = Sum.inl b := fun q => e (Sum.inl.inj q)
    rw [decide_eq_false h]
    exact (beq_eq_false_iff_ne.mpr e).symm
theorem key_rr (a b : Str) : decide ((Sum.inr a : Key) = Sum.inr b) = decide (a = b) := by
  by_cases e : a = b
  · subst e; simp
  · have h : ¬ (Sum.inr a : Key) = Sum.inr b := fun q => e (Sum.inr.inj q)
    rw [decide_eq_false h, decide_eq_false e]
theorem key_lr (a : Int) (b : Str) : decide ((Sum.inl a : Key) = Sum.inr b) = false := decide_eq_false (fun q => nomatch q)
theorem key_rl (a : Str) (b : Int) : decide ((Sum.inr a : Key) = Sum.inl b) = false := decide_eq_false (fun q => nomatch q)

noncomputable def mixKind (prog : Program) (w : World) : PySem.KeyKind prog w Key where
  is := keyIs
  hash := keyH w
  inj := fun v a b ha hb => by
    rcases keyIs_shape ha with ⟨i, t, rfl, rfl⟩ | ⟨x, t, rfl, rfl⟩
    · rcases keyIs_shape hb with ⟨j, u, rfl, e⟩ | ⟨y, u, rfl, e⟩
      · injection e with e1 _; rw [e1]
      · exact nomatch e
    · rcases keyIs_shape hb with ⟨j, u, rfl, e⟩ | ⟨y, u, rfl, e⟩
      · exact nomatch e
      · injection e with e1 _; rw [e1]
  byValue := fun k v h => by
    rcases keyIs_shape h with ⟨i, t, rfl, rfl⟩ | ⟨x, t, rfl, rfl⟩ <;> rfl
  pyHash := fun hv h => by
    rcases keyIs_shape hv with ⟨i, t, rfl, rfl⟩ | ⟨x, t, rfl, rfl⟩
    · exact wpAny_pyHash_int h
    · exact wpAny_pyHash_str h
  eqBool := fun hu hv h => by
    rcases keyIs_shape hu with ⟨i, t, rfl, rfl⟩ | ⟨x, t, rfl, rfl⟩
    · rcases keyIs_shape hv with ⟨j, u, rfl, rfl⟩ | ⟨y, u, rfl, rfl⟩
      · rw [key_ll] at h; exact wpAny_eqBool_int h
      · rw [key_lr] at h; exact SeqAt.EqAt.int_str i t y u _ _ _ _ h
    · rcases keyIs_shape hv with ⟨j, u, rfl, rfl⟩ | ⟨y, u, rfl, rfl⟩
      · rw [key_rl] at h; exact SeqAt.EqAt.str_int x t j u _ _ _ _ h
      · rw [key_rr] at h; exact wpAny_eqBool_str h
  «strs» := fun k x t v h => by
    rcases keyIs_shape h with ⟨i, u, rfl, e⟩ | ⟨y, u, rfl, e⟩
    · exact nomatch e
    · injection e with e1 _
      subst e1
      cases v <;> rfl

end L2

namespace L2
open PySem PySem.Spec PyProof.Rows

/-- a value, without the heap -/
inductive V where
  | non | bl (b : Bool) | int (i : Int) | str (x : Str) | byt (b : Array UInt8) | flt (b : UInt64) | ref (a : Addr) | ty (n : String)
  deriving DecidableEq

noncomputable def RelV : V → Value → Prop
  | .non, u => u = Value.none
  | .bl b, u => u = Value.bool b
  | .int i, u => ∃ t, u = Value.int i t
  | .str x, u => ∃ t, u = Value.str x t
  | .byt b, u => ∃ t, u = Value.bytes b t
  | .flt b, u => ∃ t, u = Value.float b t
  | .ref a, u => u = Value.ref a
  | .ty n, u => u = Value.type n

noncomputable abbrev Vals : List V → List Value → Prop := Paired RelV
theorem Vals.length {xs : List V} {us : List Value} (r : Vals xs us) : xs.length = us.length := Paired.length r
theorem Vals.get : ∀ {xs : List V} {us : List Value} {i : Nat} {x : V}, Vals xs us → xs[i]? = some x → ∃ u, us[i]? = some u ∧ RelV x u
  | _, _, _, _, .nil, e => by simp at e
  | _, _, 0, _, .cons r _, e => by simp at e; subst e; exact ⟨_, rfl, r⟩
  | _, _, i + 1, x, .cons _ t, e => by
    obtain ⟨u, h1, h2⟩ := Vals.get (i := i) (x := x) t (by simpa using e)
    exact ⟨u, by simpa using h1, h2⟩
theorem Vals.set {x : V} {u : Value} (r : RelV x u) : ∀ {xs : List V} {us : List Value} (i : Nat), Vals xs us → Vals (xs.set i x) (us.set i u)
  | _, _, _, .nil => .nil
  | _, _, 0, .cons _ t => .cons r t
  | _, _, i + 1, .cons q t => .cons q (Vals.set r i t)
theorem Vals.append : ∀ {xs ys : List V} {us ws : List Value}, Vals xs us → Vals ys ws → Vals (xs ++ ys) (us ++ ws)
  | _, _, _, _, .nil, s => s
  | _, _, _, _, .cons r t, s => .cons r (Vals.append t s)
theorem Vals.take : ∀ {xs : List V} {us : List Value} (n : Nat), Vals xs us → Vals (xs.take n) (us.take n)
  | _, _, 0, _ => .nil
  | _, _, _ + 1, .nil => .nil
  | _, _, n + 1, .cons r t => .cons r (Vals.take n t)
theorem Vals.drop : ∀ {xs : List V} {us : List Value} (n : Nat), Vals xs us → Vals (xs.drop n) (us.drop n)
  | _, _, 0, r => r
  | _, _, _ + 1, .nil => .nil
  | _, _, n + 1, .cons _ t => Vals.drop n t
noncomputable def RelO : Option V → Option Value → Prop
  | some v, some u => RelV v u
  | none, none => True
  | _, _ => False
noncomputable def KV {κ : Type} : List (κ × V) → List (κ × Value) → Prop := Paired fun (p : κ × V) (q : κ × Value) => p.1 = q.1 ∧ RelV p.2 q.2

/-- a key of a dict (00_mix): an int or a text -/
noncomputable def kV : Key → V
  | .inl i => .int i
  | .inr x => .str x

/-- what stands at a tracked address -/
inductive HO where
  /-- a list -/
  | lst (xs : List V)
  /-- a tuple (never changes) -/
  | tup (xs : List V)
  /-- a dict whose keys are ints and texts; one whose keys are tuples of ints and texts (the empty one is both) -/
  | dK (kvs : List (Key × V)) | dT (kvs : List (List Key × V))
  /-- a set of ints: its members, its size -/
  | set (S : Int → Bool) (n : Nat)
  /-- an instance of the class at C, its dict at dx, its attributes -/
  | ins (C dx : Addr) (fs : List (Str × V))
  /-- the dict of the instance at x -/
  | own (x : Addr)
  /-- the dict of an exception -/
  | xd (fs : List (Str × V))
  /-- a bound method, f of x -/
  | met (f x : Addr)
  /-- a range object lo, lo + 1, .. below hi -/
  | rng (lo hi : Int)
  /-- a thing that is known to the object (the script; a dict while a loop walks it): read, never written while it is so -/
  | frz (o : Obj) (u : HO)
  /-- a code object's table -/
  | tbl (ps : Array Value)
  /-- any other thing, by what is true of its one object (a def of one's own: SetO a S n := HO.ext fun h => ..) -/
  | ext (φ : Heap → Prop)

noncomputable abbrev Hp := Addr → Option HO
noncomputable def upd (H : Hp) (a : Addr) (o : HO) : Hp := fun b => if b = a then some o else H b
theorem upd_same {H : Hp} {a : Addr} {o : HO} : upd H a o a = some o := by unfold upd; rw [if_pos rfl]
theorem upd_ne {H : Hp} {a b : Addr} {o : HO} (h : b ≠ a) : upd H a o b = H b := by unfold upd; rw [if_neg h]
theorem ne_of_none {H : Hp} {a b : Addr} {o : HO} (h : H a = some o) (h' : H b = none) : a ≠ b := by
  intro e; subst e; rw [h] at h'; cases h'

section
variable (P : Program) (w : World)
noncomputable def ObjOk (H : Hp) (h : Heap) (a : Addr) : HO → Prop
  | .lst xs => xs.length ≤ sizeLine ∧ ∃ (its : List Value) (n : Nat), Vals xs its ∧ h.get? a = some { cls := .type "list", data := .seq its.toArray n }
  | .tup xs => xs.length ≤ sizeLine ∧ ∃ its : List Value, Vals xs its ∧ IsTup h a its.toArray
  | .dK kvs => kvs.length ≤ sizeLine ∧ (a == sysModules) = false ∧ ∃ vs, KV kvs vs ∧ h.DictOf (mixKind P w) a vs
  | .dT kvs => kvs.length ≤ sizeLine ∧ (a == sysModules) = false ∧ ∃ xs : List (List Key × Addr × Value),
      Paired (fun (p : List Key × V) (q : List Key × Addr × Value) => p.1 = q.1 ∧ H q.2.1 = some (.tup (p.1.map kV)) ∧ RelV p.2 q.2.2) kvs xs ∧
      ∃ o es ep, h.get? a = some o ∧ o.ExactDict ∧ o.data = .dict es ep ∧ es.toList = xs.map (entryOfKey (tupleKind (mixKind P w))) ∧ (xs.map (·.1)).Nodup
  | .set S n => h.SetOf (intKind P w) a S n
  | .ins C dx fs => H dx = some (.own a) ∧ fs.length ≤ 1000 ∧ dx ≠ a ∧ h.get? a = some (PySem.W.instObj C dx) ∧
      ∃ mA, h.Ns1 dx mA ∧ (∀ f, RelO (fs.lookup f) (mA f)) ∧ PySem.Within mA (fs.map (·.1))
  | .own _ => ∃ o, h.get? a = some o
  | .xd fs => ∃ mA, h.Ns1 a mA ∧ ∀ f, RelO (fs.lookup f) (mA f)
  | .rng lo hi => ∃ t u v, h.get? a = some { cls := .type "range", data := .fields #[.int lo t, .int hi u, .int 1 v] }
  | .frz o u => h.get? a = some o ∧ ObjOk H h a u
  | .tbl ps => h.get? a = some { cls := .none, data := .fields ps }
  | .met f x => h.get? a = some (PySem.W.methodObj (.ref f) (.ref x))
  | .ext φ => φ h ∧ (∃ o, h.get? a = some o) ∧ ∀ h1 h2 : Heap, φ h1 → (∀ o, h1.get? a = some o → h2.get? a = some o) → φ h2
/-- the abstract heap is held -/
noncomputable def HOk (H : Hp) (h : Heap) : Prop := ∀ a o, H a = some o → ObjOk P w H h a o
end

section
variable {P : Program} {w : World} {H H' : Hp} {h h' : Heap} {a : Addr} {o : HO}
theorem ObjOk.lt (x : ObjOk P w H h a o) : a < h.objs.size := by
  cases o with
  | lst xs => obtain ⟨_, _, _, _, e⟩ := x; exact Heap.lt_size e
  | tup xs => obtain ⟨_, _, _, p⟩ := x; exact p.lt
  | dK kvs => obtain ⟨_, _, _, _, o, _, _, e, _⟩ := x; exact Heap.lt_size e
  | dT kvs => obtain ⟨_, _, _, _, o, _, _, e, _⟩ := x; exact Heap.lt_size e
  | set S n => obtain ⟨o, _, _, _, e, _⟩ := x; exact Heap.lt_size e
  | ins C dx fs => obtain ⟨_, _, _, e, _⟩ := x; exact Heap.lt_size e
  | own y => obtain ⟨_, e⟩ := x; exact Heap.lt_size e
  | xd fs => obtain ⟨_, ⟨_, _, _, e, _⟩, _⟩ := x; exact Heap.lt_size e
  | rng lo hi => obtain ⟨_, _, _, e⟩ := x; exact Heap.lt_size e
  | frz ob u => obtain ⟨e, _⟩ := x; exact Heap.lt_size e
  | tbl ps => exact Heap.lt_size (show h.get? a = some _ from x)
  | met f y => exact Heap.lt_size (show h.get? a = some _ from x)
  | ext φ => obtain ⟨_, ⟨_, e⟩, _⟩ := x; exact Heap.lt_size e
theorem Paired.mapP {α β : Type} {F G : α → β → Prop} : ∀ {l₁ : List α} {l₂ : List β}, Paired F l₁ l₂ → (∀ a b, F a b → G a b) → Paired G l₁ l₂
  | _, _, .nil, _ => .nil
  | _, _, .cons r t, f => .cons (f _ _ r) (Paired.mapP t f)
/-- what an object's description leans on: its own object, its own dict, the tuples -/
theorem ObjOk.stay (x : ObjOk P w H h a o) (k : ∀ b u, (b = a ∨ H b = some (.own a)) → h.get? b = some u → h'.get? b = some u)
    (ho : ∀ b, H b = some (.own a) → H' b = some (.own a)) (ht : ∀ b xs, H b = some (.tup xs) → H' b = some (.tup xs)) : ObjOk P w H' h' a o := by
  induction o with
  | lst xs => obtain ⟨z, its, n, r, e⟩ := x; exact ⟨z, its, n, r, k _ _ (.inl rfl) e⟩
  | tup xs => obtain ⟨z, its, r, ob, e, c⟩ := x; exact ⟨z, its, r, ob, k _ _ (.inl rfl) e, c⟩
  | dK kvs => obtain ⟨z, y, vs, r, ob, es, ep, e, c⟩ := x; exact ⟨z, y, vs, r, ob, es, ep, k _ _ (.inl rfl) e, c⟩
  | dT kvs =>
    obtain ⟨z, y, xs, r, ob, es, ep, e, c⟩ := x
    exact ⟨z, y, xs, Paired.mapP r fun p q z => ⟨z.1, ht _ _ z.2.1, z.2.2⟩, ob, es, ep, k _ _ (.inl rfl) e, c⟩
  | set S n => obtain ⟨ob, es, ep, t, e, c⟩ := x; exact ⟨ob, es, ep, t, k _ _ (.inl rfl) e, c⟩
  | ins C dx fs =>
    obtain ⟨d, z, ne, e, mA, ⟨od, es, ep, e2, c⟩, r⟩ := x
    exact ⟨ho _ d, z, ne, k _ _ (.inl rfl) e, mA, ⟨od, es, ep, k _ _ (.inr d) e2, c⟩, r⟩
  | own y => obtain ⟨ob, e⟩ := x; exact ⟨ob, k _ _ (.inl rfl) e⟩
  | xd fs => obtain ⟨mA, ⟨od, es, ep, e, c⟩, r⟩ := x; exact ⟨mA, ⟨od, es, ep, k _ _ (.inl rfl) e, c⟩, r⟩
  | rng lo hi => obtain ⟨t, u, v, e⟩ := x; exact ⟨t, u, v, k _ _ (.inl rfl) e⟩
  | frz ob u ih => obtain ⟨e, q⟩ := x; exact ⟨k _ _ (.inl rfl) e, ih q⟩
  | tbl ps =>
    have e : h.get? a = some { cls := .none, data := .fields ps } := x
    show h'.get? a = some { cls := .none, data := .fields ps }
    exact k a _ (.inl rfl) e
  | met f y =>
    have e : h.get? a = some (PySem.W.methodObj (.ref f) (.ref y)) := x
    show h'.get? a = some (PySem.W.methodObj (.ref f) (.ref y))
    exact k a _ (.inl rfl) e
  | ext φ => obtain ⟨p, ⟨o, e⟩, st⟩ := x; exact ⟨st _ _ p fun o q => k _ _ (.inl rfl) q, ⟨o, k _ _ (.inl rfl) e⟩, st⟩
theorem HOk.lt (x : HOk P w H h) (e : H a = some o) : a < h.objs.size := (x a o e).lt
theorem HOk.fresh (x : HOk P w H h) (e : h.objs.size ≤ a) : H a = none := by
  cases q : H a with
  | none => rfl
  | some u => exact absurd (Nat.lt_of_lt_of_le (x.lt q) e) (Nat.lt_irrefl _)
/-- every object of the heap is kept -/
theorem HOk.kept (x : HOk P w H h) (k : ∀ b u, h.get? b = some u → h'.get? b = some u) : HOk P w H h' := fun a o e =>
  (x a o e).stay (fun b u _ q => k b u q) (fun _ q => q) fun _ _ q => q
/-- a new object is laid and tracked -/
theorem HOk.laid (x : HOk P w H h) (k : ∀ b u, h.get? b = some u → h'.get? b = some u) (hp : h.objs.size ≤ a) (new : ObjOk P w (upd H a o) h' a o) : HOk P w (upd H a o) h' := fun b u e => by
  have hn := x.fresh hp
  by_cases hb : b = a
  · subst hb; rw [upd_same] at e; cases e; exact new
  · rw [upd_ne hb] at e
    exact (x b u e).stay (fun c v _ q => k c v q) (fun c q => by rw [upd_ne (ne_of_none q hn)]; exact q) fun c xs q => by rw [upd_ne (ne_of_none q hn)]; exact q
end

/-- what may be read as u: it is u, or a known u -/
noncomputable def Rd (H : Hp) (a : Addr) (u : HO) : Prop := H a = some u ∨ ∃ o, H a = some (.frz o u)
theorem Rd.of {H : Hp} {a : Addr} {u : HO} (h : H a = some u) : Rd H a u := .inl h
theorem Rd.ok {P : Program} {w : World} {H : Hp} {h : Heap} {a : Addr} {u : HO} (r : Rd H a u) (x : HOk P w H h) : ObjOk P w H h a u := by
  rcases r with r | ⟨o, r⟩
  · exact x a u r
  · obtain ⟨_, q⟩ := x a _ r
    exact q
/-- what may be written -/
noncomputable def Mut : Option HO → Prop
  | some (.lst _) => True
  | some (.dK _) => True
  | some (.dT _) => True
  | some (.set _ _) => True
  | some (.ins _ _ _) => True
  | some (.ext _) => True
  | _ => False
section
variable {P : Program} {w : World} {H : Hp} {h h' : Heap} {x e : Addr} {o' : HO}
/-- the object at e is changed: x itself, or the dict of the instance x -/
theorem HOk.write (ok : HOk P w H h) (mu : Mut (H x)) (he : e = x ∨ H e = some (.own x)) (k : ∀ b u, b ≠ e → h.get? b = some u → h'.get? b = some u) (heo : ∃ u, h'.get? e = some u)
    (new : ObjOk P w (upd H x o') h' x o') : HOk P w (upd H x o') h' := fun b u q => by
  have nown : ∀ c y, H c = some (.own y) → c ≠ x := fun c y r z => by subst z; rw [r] at mu; exact mu
  have ntup : ∀ c xs, H c = some (.tup xs) → c ≠ x := fun c xs r z => by subst z; rw [r] at mu; exact mu
  by_cases hb : b = x
  · subst hb; rw [upd_same] at q; cases q; exact new
  · rw [upd_ne hb] at q
    by_cases hbe : b = e
    · have q' : H b = some (.own x) := by
        rcases he with z | z
        · exact absurd (hbe.trans z) hb
        · rw [hbe]; exact z
      rw [q] at q'; cases q'
      obtain ⟨v, hv⟩ := heo
      exact ⟨v, by rw [hbe]; exact hv⟩
    · refine (ok b u q).stay (fun c v hc r => k c v ?_ r) (fun c r => by rw [upd_ne (nown c b r)]; exact r) fun c xs r => by rw [upd_ne (ntup c xs r)]; exact r
      rcases hc with rfl | hc
      · exact hbe
      · rintro rfl
        rcases he with z | z
        · exact nown c b hc z
        · rw [hc] at z; cases z; exact hb rfl
end

/-! ### kept unless tracked; of the frames at fs (the callers') the slots may change (an exception that passes writes there); of the records at ex (iterators) nothing is said -/
structure Un (fs ex : List Addr) (H H' : Hp) (h h' : Heap) : Prop where
  keep : ∀ b o, h.get? b = some o → H b = none → b ∉ fs → b ∉ ex → h'.get? b = some o
  slot : ∀ b o, h.get? b = some o → H b = none → b ∈ fs → b ∉ ex → ∃ sl, h'.get? b = some { o with slots := sl }
  free : ∀ b o, h.get? b = some o → H b = none → b ∉ ex → H' b = none
  there : ∀ b o, h.get? b = some o → b ∉ ex → ∃ o', h'.get? b = some o'
  tups : ∀ b xs, H b = some (.tup xs) → H' b = some (.tup xs)
  frzs : ∀ b o u, H b = some (.frz o u) → H' b = some (.frz o u)
  tbls : ∀ b ps, H b = some (.tbl ps) → ∃ more, H' b = some (.tbl (ps ++ more))
section
variable {fs fs' ex ex' : List Addr} {H H1 H2 : Hp} {h h1 h2 h' : Heap} {a x e : Addr} {o : HO}
theorem Un.any (u : Un fs ex H H1 h h1) {b : Addr} {ob : Obj} (q : h.get? b = some ob) (n : H b = none) (hx : b ∉ ex) : ∃ sl, h1.get? b = some { ob with slots := sl } := by
  by_cases hb : b ∈ fs
  · exact u.slot b ob q n hb hx
  · exact ⟨ob.slots, u.keep b ob q n hb hx⟩
theorem Un.trans (a : Un fs ex H H1 h h1) (b : Un fs ex H1 H2 h1 h2) : Un fs ex H H2 h h2 where
  keep := fun c ob q n hc hx => b.keep c ob (a.keep c ob q n hc hx) (a.free c ob q n hx) hc hx
  slot := fun c ob q n hc hx => by
    obtain ⟨sl, e1⟩ := a.slot c ob q n hc hx
    obtain ⟨sl', e2⟩ := b.slot c _ e1 (a.free c ob q n hx) hc hx
    exact ⟨sl', e2⟩
  free := fun c ob q n hx => by
    obtain ⟨o', e1⟩ := a.there c ob q hx
    exact b.free c o' e1 (a.free c ob q n hx) hx
  there := fun c ob q hx => by
    obtain ⟨o', e1⟩ := a.there c ob q hx
    exact b.there c o' e1 hx
  tups := fun c xs q => b.tups c xs (a.tups c xs q)
  frzs := fun c ob xs q => b.frzs c ob xs (a.frzs c ob xs q)
  tbls := fun c ps q => by
    obtain ⟨m1, e1⟩ := a.tbls c ps q
    obtain ⟨m2, e2⟩ := b.tbls c _ e1
    exact ⟨m1 ++ m2, by rw [e2, Array.append_assoc]⟩
theorem Un.kept (k : ∀ b u, h.get? b = some u → h'.get? b = some u) : Un fs ex H H h h' :=
  ⟨fun b ob q _ _ _ => k b ob q, fun b ob q _ _ _ => ⟨ob.slots, k b ob q⟩, fun _ _ _ n _ => n, fun b ob q _ => ⟨ob, k b ob q⟩, fun _ _ q => q, fun _ _ _ q => q, fun _ ps q => ⟨#[], by rw [q]; simp⟩⟩
theorem Un.refl : Un fs ex H H h h := Un.kept fun _ _ q => q
theorem Un.laid (k : ∀ b u, h.get? b = some u → h'.get? b = some u) (hp : h.objs.size ≤ a) (hn : H a = none) : Un fs ex H (upd H a o) h h' where
  keep := fun b u q _ _ _ => k b u q
  slot := fun b u q _ _ _ => ⟨u.slots, k b u q⟩
  free := fun b u q n _ => by rw [upd_ne (Nat.ne_of_lt (Nat.lt_of_lt_of_le (Heap.lt_size q) hp))]; exact n
  there := fun b u q _ => ⟨u, k b u q⟩
  tups := fun b xs q => by rw [upd_ne (ne_of_none q hn)]; exact q
  frzs := fun b u xs q => by rw [upd_ne (ne_of_none q hn)]; exact q
  tbls := fun b ps q => ⟨#[], by rw [upd_ne (ne_of_none q hn), q]; simp⟩
theorem Un.write (mu : Mut (H x)) (he : e = x ∨ H e = some (.own x)) (k : ∀ b u, b ≠ e → h.get? b = some u → h'.get? b = some u) (heo : ∃ u, h'.get? e = some u) : Un fs ex H (upd H x o) h h' := by
  have hx : ∀ b, H b = none → b ≠ x := fun b n z => by subst z; rw [n] at mu; exact mu
  have hb : ∀ b, H b = none → b ≠ e := fun b n z => by
    subst z
    rcases he with r | r
    · exact hx b n r
    · rw [n] at r; cases r
  have hm : ∀ b u, H b = some u → ¬ Mut (some u) → b ≠ x := fun b u q nm z => by subst z; rw [q] at mu; exact nm mu
  refine ⟨fun b u q n _ _ => k b u (hb b n) q, fun b u q n _ _ => ⟨u.slots, k b u (hb b n) q⟩, fun b u q n _ => by rw [upd_ne (hx b n)]; exact n, fun b u q _ => ?_,
    fun b xs q => by rw [upd_ne (hm b _ q fun z => z)]; exact q, fun b u xs q => by rw [upd_ne (hm b _ q fun z => z)]; exact q, fun b ps q => ⟨#[], by rw [upd_ne (hm b _ q fun z => z), q]; simp⟩⟩
  by_cases hbe : b = e
  · subst hbe; exact heo
  · exact ⟨u, k b u hbe q⟩
theorem Un.mono (u : Un fs ex H H1 h h1) (hs : ∀ b ∈ fs, b ∈ fs') (hx : ∀ b ∈ ex, b ∈ ex') : Un fs' ex' H H1 h h1 :=
  ⟨fun b ob q n hb he => u.keep b ob q n (fun z => hb (hs b z)) fun z => he (hx b z), fun _ _ q n _ he => u.any q n fun z => he (hx _ z), fun b ob q n he => u.free b ob q n fun z => he (hx b z), fun b ob q he => u.there b ob q fun z => he (hx b z), u.tups, u.frzs, u.tbls⟩
end

/-! ### the heap without what is tracked -/
noncomputable def trk (h : Heap) (H : Hp) : List Addr := (List.range h.objs.size).filter fun a => (H a).isSome
noncomputable def hidT (h : Heap) (H : Hp) : Heap := PySem.W.hideAll h (trk h H)
theorem hidT_size (h : Heap) (H : Hp) : (hidT h H).objs.size = h.objs.size := PySem.W.hideAll_size _ _
theorem hidT_get {h : Heap} {H : Hp} {b : Addr} {o : Obj} (e : h.get? b = some o) (n : H b = none) : (hidT h H).get? b = some o :=
  PySem.W.hideAll_get _ e fun hm => by
    have q : (H b).isSome = true := (List.mem_filter.mp hm).2
    rw [n] at q; simp at q
theorem of_hidT {h : Heap} {H : Hp} {b : Addr} {o : Obj} (e : (hidT h H).get? b = some o) : h.get? b = some o ∧ H b = none := by
  have e' : h.get? b = some o := PySem.W.of_hideAll (trk h H) e
  refine ⟨e', ?_⟩
  cases q : H b with
  | none => rfl
  | some x =>
    have hm : b ∈ trk h H := List.mem_filter.mpr ⟨List.mem_range.mpr (Heap.lt_size e'), by simp [q]⟩
    have z : (hidT h H).get? b = none := PySem.W.hideAll_none (trk h H) hm
    rw [z] at e; cases e

/-! ### OpenK's ledger, filled with every new object but one -/
noncomputable def allNews (g h : Heap) (L : Addr) : List (Addr × Obj) := (List.range h.objs.size).filterMap fun a => if a = L ∨ (g.get? a).isSome = true then none else (h.get? a).map fun o => (a, o)
noncomputable def rest (g h : Heap) (L d : Addr) : List (Addr × Obj) := (allNews g h L).filter fun p => decide (p.1 ≠ d)
end L2

namespace L2
open PySem PySem.Spec PyProof.Rows

/-- the module's facts, over the base: the heap at the law's entry without what is tracked there -/
structure Mod (K : PySem.W.Frag) (mg : Str → Option Value) (base : Heap) : Prop where
  kin : K.In base
  glob : base.Ns mainGlobals mg
  blt : ∃ mb, base.Ns builtinsNs mb ∧ ∀ x : Str, x ≠ "__name__" → mb x = bootBuiltins x
  nolimit : base.NoLimit

/-- the context: a def's body (or a comprehension's block) running. base: fixed through the whole law; s₀, H₀: the entry; outer: the frames whose slots others may change (a def's callers); stack: all frames that run;
   ex: iterators that were made ahead of the entry and are walked here (a comprehension's); fn: the names whose cells were made at the entry (a def: all; a comprehension's block: its own); calm: not within an except suite; pn: pins that every state bears; xe: what is wanted of an exception that leaves the code -/
structure Cx where
  prog : Program
  w : World
  K : PySem.W.Frag
  mg : Str → Option Value
  base : Heap
  A : Around
  N : List Str
  s₀ : Shared
  H₀ : Hp
  env : Env
  outer : List Env
  stack : List Env
  ex : List Addr
  fn : Str → Bool
  calm : Bool
  pn : List (Addr × Obj)
  xe : Value → Shared → Prop
/-- the callers' frames -/
noncomputable def frs (l : List Env) : List Addr := l.filterMap (·.frame)
noncomputable abbrev Cx.fs (X : Cx) : List Addr := frs X.outer

noncomputable def Vis (sc : Scope) (x : Str) : Prop := sc.names.lookup x = some .local ∨ sc.names.lookup x = some .cell ∨ sc.names.lookup x = some .free
noncomputable def Loc (sc : Scope) (x : Str) : Prop := sc.names.lookup x = some .local ∨ sc.names.lookup x = some .cell
noncomputable def Look (env : Env) (h : Heap) (m : Str → Option Value) (x : Str) (u : Value) : Prop :=
  (env.kindOf x = some .local ∧ m x = some u) ∨ ((env.kindOf x = some .cell ∨ env.kindOf x = some .free) ∧ ∃ c, env.cells.lookup x = some c ∧ h.IsCell c (some u))

structure Cx.Ok (X : Cx) : Prop where
  mod : Mod X.K X.mg X.base
  kind : X.env.scope.kind = .function
  glob : X.env.globals = mainGlobals
  blt : X.env.builtins = builtinsNs
  above : X.s₀.heap.objs.size ≤ X.env.locals
  inj : ∀ x y c, X.env.cells.lookup x = some c → X.env.cells.lookup y = some c → x = y
  has : ∀ x, (X.env.kindOf x = some .cell ∨ X.env.kindOf x = some .free) → ∃ c, X.env.cells.lookup x = some c
  cab : ∀ x c, X.fn x = true → X.env.cells.lookup x = some c → X.s₀.heap.objs.size ≤ c
  hd : X.calm = true → X.A.handled = none
  frames : X.A.frames = some X.stack
  stk : X.stack = X.outer ∨ (X.stack = X.env :: X.outer ∧ X.env.frame = some X.env.locals)
  exf : ∀ b ∈ X.ex, b ≠ X.env.locals ∧ ∀ x c, X.env.cells.lookup x = some c → c ≠ b
  bs : ∀ b o, X.base.get? b = some o → X.s₀.heap.get? b = some o ∧ X.H₀ b = none
  bsz : X.base.objs.size ≤ X.s₀.heap.objs.size
  noex : ∀ b o, X.base.get? b = some o → b ∉ X.ex
  exfs : ∀ b ∈ X.ex, b ∉ X.fs
  funs : X.s₀.heap.FunFrames X.base X.outer
  frf : ∀ b ∈ X.fs, X.H₀ b = none

structure Inv (X : Cx) (pins : List (Addr × Obj)) (σ : List (Option V)) (H : Hp) (s : Shared) : Prop where
  ok : X.Ok
  os : s.os = X.s₀.os
  bare : AllBare s.gens
  base : Un X.fs X.ex X.H₀ H X.s₀.heap s.heap
  loc : ∃ m, s.heap.Ns X.env.locals m ∧ ∀ (i : Nat) (x : Str) (v : V), X.N[i]? = some x → σ[i]? = some (some v) → Vis X.env.scope x → ∃ u, RelV v u ∧ Look X.env s.heap m x u
  cell : ∀ x c, X.env.cells.lookup x = some c → ∃ v, s.heap.IsCell c v
  free : H X.env.locals = none
  freeC : ∀ x c, X.env.cells.lookup x = some c → H c = none
  pin : ∀ p ∈ X.pn ++ pins, s.heap.get? p.1 = some p.2 ∧ H p.1 = none ∧ p.1 ≠ X.env.locals ∧ p.1 ∉ X.fs ∧ ∀ v, p.2.data ≠ .cell v
  hok : HOk X.prog X.w H s.heap
  len : σ.length = X.N.length

section
variable {X : Cx} {pins : List (Addr × Obj)} {σ : List (Option V)} {H H' : Hp} {s : Shared} {h' : Heap}

theorem Cx.Ok.nofr (ok : X.Ok) {b : Addr} {o : Obj} (e : X.base.get? b = some o) : b ∉ X.fs := fun hb => by
  have := (ok.funs.mem hb).1
  rw [e] at this; cases this
theorem Inv.bs (I : Inv X pins σ H s) : ∀ b o, X.base.get? b = some o → s.heap.get? b = some o ∧ H b = none := fun b o e =>
  ⟨I.base.keep b o (I.ok.bs b o e).1 (I.ok.bs b o e).2 (I.ok.nofr e) (I.ok.noex b o e), I.base.free b o (I.ok.bs b o e).1 (I.ok.bs b o e).2 (I.ok.noex b o e)⟩
theorem Inv.bk (I : Inv X pins σ H s) : ∀ b o, X.base.get? b = some o → s.heap.get? b = some o := fun b o e => (I.bs b o e).1
theorem Inv.mod (I : Inv X pins σ H s) : Mod X.K X.mg X.base := I.ok.mod
theorem Inv.kIn (I : Inv X pins σ H s) : X.K.In s.heap := I.ok.mod.kin.keeps I.bk
theorem Inv.nolimit (I : Inv X pins σ H s) : s.heap.NoLimit := I.ok.mod.nolimit.keeps I.bk
/-- the frame over the base: for OpenK's rules (K.In X.base is I.mod.kin) -/
theorem Inv.fr (I : Inv X pins σ H s) : ∃ m, Fr X.base X.env.locals s.heap m :=
  let ⟨m, hn, _⟩ := I.loc
  ⟨m, hn, I.bk, Nat.le_trans I.ok.bsz I.ok.above⟩
theorem Inv.lt (I : Inv X pins σ H s) : X.env.locals < s.heap.objs.size := let ⟨_, hn, _⟩ := I.loc; hn.lt
theorem Inv.sz (I : Inv X pins σ H s) : X.s₀.heap.objs.size ≤ s.heap.objs.size := Nat.le_trans I.ok.above (Nat.le_of_lt I.lt)
theorem Inv.nofs (I : Inv X pins σ H s) {a : Addr} (h : s.heap.objs.size ≤ a) : a ∉ X.fs := fun hb => by
  obtain ⟨_, o, ho, _⟩ := I.ok.funs.mem hb
  exact absurd (Nat.lt_of_lt_of_le (Heap.lt_size ho) (Nat.le_trans I.sz h)) (Nat.lt_irrefl _)
theorem Inv.cne (I : Inv X pins σ H s) : ∀ x c, X.env.cells.lookup x = some c → c ≠ X.env.locals := fun x c e z => by
  obtain ⟨v, o, ho, hd⟩ := I.cell x c e
  obtain ⟨m, ⟨o', es, ep, ho', hd', _⟩, _⟩ := I.loc
  rw [z, ho'] at ho; cases ho; rw [hd'] at hd; cases hd
theorem Inv.funs (I : Inv X pins σ H s) : s.heap.FunFrames X.base X.outer := by
  have all : ∀ (l : List Env), (∀ b ∈ frs l, b ∈ X.fs) → X.s₀.heap.FunFrames X.base l → s.heap.FunFrames X.base l := by
    intro l
    induction l with
    | nil => intro _ _; trivial
    | cons env r ih =>
      intro hs hl
      obtain ⟨hk, ⟨L, o, hf, hn, ho, hd⟩, hr⟩ := hl
      have hL : L ∈ X.fs := hs L (by unfold frs; rw [List.filterMap_cons, hf]; exact List.mem_cons_self)
      obtain ⟨sl, e⟩ := I.base.slot L o ho (I.ok.frf L hL) hL fun z => I.ok.exfs L z hL
      exact ⟨hk, ⟨L, _, hf, hn, e, hd⟩, ih (fun b hb => hs b (by unfold frs; rw [List.filterMap_cons, hf]; exact List.mem_cons_of_mem _ hb)) hr⟩
  exact all X.outer (fun _ hb => hb) I.ok.funs

/-- the frames that run, for a call -/
theorem Inv.stack (I : Inv X pins σ H s) : s.heap.FunFrames X.base X.stack := by
  rcases I.ok.stk with e | ⟨e, hf⟩
  · rw [e]; exact I.funs
  · rw [e]
    obtain ⟨m, hn, _⟩ := I.loc
    refine .cons (by rw [I.ok.kind]; decide) hf hn ?_ I.funs
    exact Heap.get?_none_of_le (Nat.le_trans I.ok.bsz I.ok.above)
theorem Inv.stkSub (I : Inv X pins σ H s) : ∀ b ∈ frs X.stack, b ∈ X.env.locals :: X.fs := fun b hb => by
  rcases I.ok.stk with e | ⟨e, hf⟩
  · rw [e] at hb; exact List.mem_cons_of_mem _ hb
  · rw [e] at hb
    unfold frs at hb
    rw [List.filterMap_cons, hf] at hb
    exact hb
theorem Inv.stkFree (I : Inv X pins σ H s) : ∀ b ∈ frs X.stack, H b = none := fun b hb => by
  rcases List.mem_cons.mp (I.stkSub b hb) with e | hb
  · rw [e]; exact I.free
  · obtain ⟨_, o, ho, _⟩ := I.ok.funs.mem hb
    exact I.base.free b o ho (I.ok.frf b hb) fun z => I.ok.exfs b z hb

/-- THE STEP: the untracked objects but the frame and the records at ch are kept (the callers' frames up to slots), the frame's map is kept, the new abstract heap is held -/
theorem Inv.step {g' : Array GenState} {t' : Nat} {d' : Drawn} {ch : List Addr} (I : Inv X pins σ H s)
    (hch : ∀ b ∈ ch, (b ∈ X.ex ∨ X.s₀.heap.objs.size ≤ b) ∧ b ≠ X.env.locals ∧ (∀ x c, X.env.cells.lookup x = some c → c ≠ b) ∧ ∀ p ∈ X.pn ++ pins, p.1 ≠ b)
    (keep : ∀ b o, b ≠ X.env.locals → b ∉ X.fs → b ∉ ch → s.heap.get? b = some o → H b = none → h'.get? b = some o)
    (slot : ∀ b o, b ≠ X.env.locals → b ∈ X.fs → b ∉ ch → s.heap.get? b = some o → H b = none → ∃ sl, h'.get? b = some { o with slots := sl }) (free : ∀ b o, b ∉ ch → s.heap.get? b = some o → H b = none → H' b = none)
    (there : ∀ b o, b ∉ ch → s.heap.get? b = some o → ∃ o', h'.get? b = some o')
    (tups : ∀ b xs, H b = some (.tup xs) → H' b = some (.tup xs)) (frzs : ∀ b o u, H b = some (.frz o u) → H' b = some (.frz o u)) (tbls : ∀ b ps, H b = some (.tbl ps) → ∃ more, H' b = some (.tbl (ps ++ more)))
    (ns : ∀ m, s.heap.Ns X.env.locals m → h'.Ns X.env.locals m) (hok : HOk X.prog X.w H' h') (hg : AllBare g') :
    Inv X pins σ H' { s with heap := h', gens := g', drawn := d', toks := t' } := by
  have neL : ∀ b o, X.s₀.heap.get? b = some o → b ≠ X.env.locals := fun b o e => Nat.ne_of_lt (Nat.lt_of_lt_of_le (Heap.lt_size e) I.ok.above)
  have neC : ∀ b o, X.s₀.heap.get? b = some o → b ∉ X.ex → b ∉ ch := fun b o e hx hb => by
    rcases (hch b hb).1 with z | z
    · exact hx z
    · exact absurd (Nat.lt_of_lt_of_le (Heap.lt_size e) z) (Nat.lt_irrefl _)
  have cellK : ∀ x c, X.env.cells.lookup x = some c → ∀ v, s.heap.IsCell c v → h'.IsCell c v := fun x c e v ⟨o, ho, hd⟩ => by
    have nch : c ∉ ch := fun z => (hch c z).2.2.1 x c e rfl
    by_cases hc : c ∈ X.fs
    · obtain ⟨sl, q⟩ := slot c o (I.cne x c e) hc nch ho (I.freeC x c e)
      exact ⟨_, q, hd⟩
    · exact ⟨o, keep c o (I.cne x c e) hc nch ho (I.freeC x c e), hd⟩
  refine ⟨I.ok, I.os, hg, ⟨fun b o e n hb hx => ?_, fun b o e n hb hx => ?_, fun b o e n hx => ?_, fun b o e hx => ?_, fun b xs e => tups b xs (I.base.tups b xs e), fun b o xs e => frzs b o xs (I.base.frzs b o xs e), fun b ps e => ?_⟩, ?_, fun x c e => ?_, ?_, fun x c e => ?_, fun p hp => ?_, hok, I.len⟩
  · exact keep b o (neL b o e) hb (neC b o e hx) (I.base.keep b o e n hb hx) (I.base.free b o e n hx)
  · obtain ⟨sl, e1⟩ := I.base.slot b o e n hb hx
    obtain ⟨sl', e2⟩ := slot b _ (neL b o e) hb (neC b o e hx) e1 (I.base.free b o e n hx)
    exact ⟨sl', e2⟩
  · obtain ⟨o', e1⟩ := I.base.there b o e hx
    exact free b o' (neC b o e hx) e1 (I.base.free b o e n hx)
  · obtain ⟨o', e1⟩ := I.base.there b o e hx
    exact there b o' (neC b o e hx) e1
  · obtain ⟨m1, e1⟩ := I.base.tbls b ps e
    obtain ⟨m2, e2⟩ := tbls b _ e1
    exact ⟨m1 ++ m2, by rw [e2, Array.append_assoc]⟩
  · obtain ⟨m, hn, hl⟩ := I.loc
    refine ⟨m, ns m hn, fun i x v e1 e2 e3 => ?_⟩
    obtain ⟨u, r, l⟩ := hl i x v e1 e2 e3
    refine ⟨u, r, ?_⟩
    rcases l with l | ⟨k, c, e, z⟩
    · exact .inl l
    · exact .inr ⟨k, c, e, cellK x c e _ z⟩
  · obtain ⟨v, z⟩ := I.cell x c e
    exact ⟨v, cellK x c e v z⟩
  · obtain ⟨m, ⟨o, _, _, ho, _⟩, _⟩ := I.loc
    exact free _ o (fun z => (hch _ z).2.1 rfl) ho I.free
  · obtain ⟨v, o, ho, hd⟩ := I.cell x c e
    exact free c o (fun z => (hch c z).2.2.1 x c e rfl) ho (I.freeC x c e)
  · obtain ⟨e, n, ne, nf, d⟩ := I.pin p hp
    have nch : p.1 ∉ ch := fun z => (hch p.1 z).2.2.2 p hp rfl
    exact ⟨keep p.1 p.2 ne nf nch e n, free p.1 p.2 nch e n, ne, nf, d⟩
/-- .. where the frame's own object is kept too -/
theorem Inv.un {t' : Nat} (I : Inv X pins σ H s) (u : Un X.fs [] H H' s.heap h') (hok : HOk X.prog X.w H' h') : Inv X pins σ H' { s with heap := h', toks := t' } := by
  obtain ⟨m, ⟨o, es, ep, ho, r⟩, _⟩ := id I.loc
  obtain ⟨sl, hL⟩ := u.any ho I.free (by simp)
  exact I.step (g' := s.gens) (d' := s.drawn) (ch := []) (fun _ z => nomatch z) (fun b o _ hb _ e n => u.keep b o e n hb (by simp)) (fun b o _ hb _ e n => u.slot b o e n hb (by simp)) (fun b o _ e n => u.free b o e n (by simp)) (fun b o _ e => u.there b o e (by simp)) u.tups u.frzs u.tbls (fun m' hm => by
    obtain ⟨o', es', ep', ho', r'⟩ := hm
    rw [ho] at ho'; cases ho'
    exact ⟨_, es', ep', hL, r'⟩) hok I.bare
/-- behind a call (or a comprehension's block): the slots of this frame may have changed too, the records at ch may have turned -/
theorem Inv.call {g' : Array GenState} {t' : Nat} {d' : Drawn} {ch : List Addr} (I : Inv X pins σ H s) (u : Un (frs X.stack) ch H H' s.heap h') (hok : HOk X.prog X.w H' h') (hg : AllBare g')
    (hch : ∀ b ∈ ch, (b ∈ X.ex ∨ X.s₀.heap.objs.size ≤ b) ∧ b ≠ X.env.locals ∧ (∀ x c, X.env.cells.lookup x = some c → c ≠ b) ∧ ∀ p ∈ X.pn ++ pins, p.1 ≠ b) :
    Inv X pins σ H' { s with heap := h', gens := g', drawn := d', toks := t' } := by
  obtain ⟨m, ⟨o, es, ep, ho, r⟩, _⟩ := id I.loc
  obtain ⟨sl, hL⟩ := u.any ho I.free fun z => (hch _ z).2.1 rfl
  exact I.step (ch := ch) hch (fun b o hL hb hc e n => u.keep b o e n (fun z => (List.mem_cons.mp (I.stkSub b z)).elim hL hb) hc) (fun b o _ _ hc e n => u.any e n hc) (fun b o hc e n => u.free b o e n hc) (fun b o hc e => u.there b o e hc) u.tups u.frzs u.tbls (fun m' hm => by
    obtain ⟨o', es', ep', ho', r'⟩ := hm
    rw [ho] at ho'; cases ho'
    exact ⟨_, es', ep', hL, r'⟩) hok hg
/-- an untracked record of ours (an iterator) has turned -/
theorem Inv.turned {t' : Nat} {it : Addr} (I : Inv X pins σ H s) (k : ∀ b o, b ≠ it → s.heap.get? b = some o → h'.get? b = some o) (hn : H it = none) (hL : it ≠ X.env.locals)
    (h1 : it ∈ X.ex ∨ X.s₀.heap.objs.size ≤ it) (h2 : ∀ x c, X.env.cells.lookup x = some c → c ≠ it) (h3 : ∀ p ∈ X.pn ++ pins, p.1 ≠ it) : Inv X pins σ H { s with heap := h', toks := t' } := by
  have nit : ∀ b u, H b = some u → b ≠ it := fun b u e z => by rw [z, hn] at e; cases e
  refine I.step (g' := s.gens) (d' := s.drawn) (ch := [it]) (fun b hb => ?_) (fun b o _ _ hc e _ => k b o (fun z => hc (by simp [z])) e) (fun b o _ _ hc e _ => ⟨o.slots, k b o (fun z => hc (by simp [z])) e⟩) (fun _ _ _ _ n => n)
    (fun b o hc e => ⟨o, k b o (fun z => hc (by simp [z])) e⟩) (fun _ _ e => e) (fun _ _ _ e => e) (fun b ps e => ⟨#[], by rw [e]; simp⟩) (fun m hm => ?_) (fun b u e => ?_) I.bare
  · have e : b = it := by simpa using hb
    subst e
    exact ⟨h1, hL, h2, h3⟩
  · obtain ⟨o, es, ep, ho, r⟩ := hm
    exact ⟨o, es, ep, k _ o (Ne.symm hL) ho, r⟩
  · refine (I.hok b u e).stay (fun c v hc q => k c v ?_ q) (fun _ q => q) fun _ _ q => q
    rcases hc with z | z
    · rw [z]; exact nit b u e
    · exact nit c _ z
theorem Inv.tok (I : Inv X pins σ H s) (t : Nat) : Inv X pins σ H { s with toks := t } := I.un (h' := s.heap) (t' := t) Un.refl I.hok
/-- all objects kept -/
theorem Inv.kept {t' : Nat} (I : Inv X pins σ H s) (k : ∀ b u, s.heap.get? b = some u → h'.get? b = some u) : Inv X pins σ H { s with heap := h', toks := t' } := I.un (Un.kept k) (I.hok.kept k)
/-- a new object laid and tracked -/
theorem Inv.laid {a : Addr} {o : HO} {t' : Nat} (I : Inv X pins σ H s) (k : ∀ b u, s.heap.get? b = some u → h'.get? b = some u) (hp : s.heap.objs.size ≤ a) (new : ObjOk X.prog X.w (upd H a o) h' a o) :
    Inv X pins σ (upd H a o) { s with heap := h', toks := t' } := I.un (Un.laid k hp (I.hok.fresh hp)) (I.hok.laid k hp new)
/-- an object written -/
theorem Inv.write {x e : Addr} {o : HO} {t' : Nat} (I : Inv X pins σ H s) (mu : Mut (H x)) (he : e = x ∨ H e = some (.own x)) (k : ∀ b u, b ≠ e → s.heap.get? b = some u → h'.get? b = some u) (heo : ∃ u, h'.get? e = some u)
    (new : ObjOk X.prog X.w (upd H x o) h' x o) : Inv X pins σ (upd H x o) { s with heap := h', toks := t' } := I.un (Un.write mu he k heo) (I.hok.write mu he k heo new)
theorem Inv.pins_of {pins' : List (Addr × Obj)} (I : Inv X pins σ H s) (h : ∀ p ∈ pins', s.heap.get? p.1 = some p.2 ∧ H p.1 = none ∧ p.1 ≠ X.env.locals ∧ p.1 ∉ X.fs ∧ ∀ v, p.2.data ≠ .cell v) : Inv X pins' σ H s :=
  ⟨I.ok, I.os, I.bare, I.base, I.loc, I.cell, I.free, I.freeC, fun p hp => (List.mem_append.mp hp).elim (fun z => I.pin p (List.mem_append_left _ z)) (h p), I.hok, I.len⟩

theorem nodup_ix {N : List Str} (hN : N.Nodup) {i j : Nat} {x : Str} (a : N[i]? = some x) (b : N[j]? = some x) : i = j := by
  obtain ⟨h1, e1⟩ := List.getElem?_eq_some_iff.mp a
  obtain ⟨h2, e2⟩ := List.getElem?_eq_some_iff.mp b
  exact (List.getElem_inj hN).mp (e1.trans e2.symm)

/-- a name is stored; what changed -/
theorem store_ok2 {M : Model} {A : Around} {E : Value → Shared → Prop} {i : Nat} {x : Str} {v : V} {u : Value} {Q : Unit → Shared → Prop} (I : Inv X pins σ H s) (hN : X.N.Nodup) (hi : X.N[i]? = some x) (hx : Loc X.env.scope x) (r : RelV v u)
    (h : ∀ s', Inv X pins (σ.set i (some v)) H s' → (∃ a, Heap.SameBut a s.heap s'.heap ∧ (a = X.env.locals ∨ X.env.cells.lookup x = some a)) → Q () s') (hf : X.fn x = true ∨ X.env.scope.names.lookup x = some .local := by first | exact .inl rfl | exact .inr rfl | assumption) : wpAny M A (storeName X.env x u) Q E s := by
  obtain ⟨m, hn, hl⟩ := id I.loc
  have hcls : (X.env.scope.kind == .class || (X.env.scope.kind == .module && X.env.locals != X.env.globals)) = false := by rw [I.ok.kind]; rfl
  have hiσ : i < σ.length := by rw [I.len]; exact (List.getElem?_eq_some_iff.mp hi).1
  have cne := I.cne
  have tracked : ∀ {a : Addr} {h' : Heap}, (∃ o, s.heap.get? a = some o ∧ H a = none) → Heap.SameBut a s.heap h' → HOk X.prog X.w H h' := fun {a h'} ha hs b ob e => by
    obtain ⟨_, _, hfree⟩ := ha
    refine (I.hok b ob e).stay (fun c w' hc q => (hs.2 c ?_).trans q) (fun _ q => q) fun _ _ q => q
    rintro rfl
    rcases hc with rfl | hc
    · rw [hfree] at e; cases e
    · rw [hfree] at hc; cases hc
  rcases hx with hk | hk
  · refine wpAny_storeName_local hk hn (fun h' hn' hs => ?_) hcls
    obtain ⟨oL, _, _, hoL, _⟩ := id hn
    refine h _ ⟨I.ok, I.os, I.bare, ⟨fun b o e n hb hx => ?_, fun b o e n hb hx => ?_, I.base.free, fun b o e hx => ?_, I.base.tups, I.base.frzs, I.base.tbls⟩, ⟨_, hn', fun j y v' e1 e2 e3 => ?_⟩, fun y c e => ?_, I.free, I.freeC, fun p hp => ?_, tracked ⟨oL, hoL, I.free⟩ hs, by simpa using I.len⟩ ⟨_, hs, .inl rfl⟩
    · exact (hs.2 b (Nat.ne_of_lt (Nat.lt_of_lt_of_le (Heap.lt_size e) I.ok.above))).trans (I.base.keep b o e n hb hx)
    · obtain ⟨sl, e1⟩ := I.base.slot b o e n hb hx
      exact ⟨sl, (hs.2 b (Nat.ne_of_lt (Nat.lt_of_lt_of_le (Heap.lt_size e) I.ok.above))).trans e1⟩
    · obtain ⟨o', e1⟩ := I.base.there b o e hx
      exact ⟨o', (hs.2 b (Nat.ne_of_lt (Nat.lt_of_lt_of_le (Heap.lt_size e) I.ok.above))).trans e1⟩
    · by_cases hj : j = i
      · subst hj
        rw [hi] at e1; cases e1
        rw [List.getElem?_set_self hiσ] at e2
        cases e2
        exact ⟨u, r, .inl ⟨hk, by simp⟩⟩
      · rw [List.getElem?_set_ne (Ne.symm hj)] at e2
        obtain ⟨u', r', q⟩ := hl j y v' e1 e2 e3
        refine ⟨u', r', ?_⟩
        rcases q with ⟨k, e⟩ | ⟨k, c, e, z⟩
        · refine .inl ⟨k, ?_⟩
          have : y ≠ x := fun e => hj (nodup_ix hN e1 (e ▸ hi))
          simp [this, e]
        · exact .inr ⟨k, c, e, z.sameBut hs (cne y c e)⟩
    · obtain ⟨w', z⟩ := I.cell y c e
      exact ⟨w', z.sameBut hs (cne y c e)⟩
    · obtain ⟨e, n, ne, nf, d⟩ := I.pin p hp
      exact ⟨(hs.2 p.1 ne).trans e, n, ne, nf, d⟩
  · have hfn : X.fn x = true := by
      rcases hf with z | z
      · exact z
      · rw [z] at hk; cases hk
    obtain ⟨c, hc⟩ := I.ok.has x (.inl hk)
    obtain ⟨w', z⟩ := I.cell x c hc
    refine wpAny_storeName_cell I.ok.kind hk hc z (fun h' hc' hs => ?_)
    obtain ⟨oc, hoc, hocd⟩ := id z
    refine h { s with heap := h' } ⟨I.ok, I.os, I.bare, ⟨fun b o e n hb hx => ?_, fun b o e n hb hx => ?_, I.base.free, fun b o e hx => ?_, I.base.tups, I.base.frzs, I.base.tbls⟩, ⟨m, hn.sameBut hs (Ne.symm (cne x c hc)), fun j y v' e1 e2 e3 => ?_⟩, fun y c' e => ?_, I.free, I.freeC, fun p hp => ?_, tracked ⟨oc, hoc, I.freeC x c hc⟩ hs, by simpa using I.len⟩ ⟨c, hs, .inr hc⟩
    · exact (hs.2 b (Nat.ne_of_lt (Nat.lt_of_lt_of_le (Heap.lt_size e) (I.ok.cab x c hfn hc)))).trans (I.base.keep b o e n hb hx)
    · obtain ⟨sl, e1⟩ := I.base.slot b o e n hb hx
      exact ⟨sl, (hs.2 b (Nat.ne_of_lt (Nat.lt_of_lt_of_le (Heap.lt_size e) (I.ok.cab x c hfn hc)))).trans e1⟩
    · obtain ⟨o', e1⟩ := I.base.there b o e hx
      exact ⟨o', (hs.2 b (Nat.ne_of_lt (Nat.lt_of_lt_of_le (Heap.lt_size e) (I.ok.cab x c hfn hc)))).trans e1⟩
    · by_cases hj : j = i
      · subst hj
        rw [hi] at e1; cases e1
        rw [List.getElem?_set_self hiσ] at e2
        cases e2
        exact ⟨u, r, .inr ⟨.inl hk, c, hc, hc'⟩⟩
      · rw [List.getElem?_set_ne (Ne.symm hj)] at e2
        obtain ⟨u', r', q⟩ := hl j y v' e1 e2 e3
        refine ⟨u', r', ?_⟩
        rcases q with q | ⟨k, c', e, z'⟩
        · exact .inl q
        · refine .inr ⟨k, c', e, z'.sameBut hs ?_⟩
          rintro rfl
          exact hj (nodup_ix hN e1 (I.ok.inj _ _ _ e hc ▸ hi))
    · by_cases hcc : c' = c
      · subst hcc; exact ⟨_, hc'⟩
      · obtain ⟨w2, z2⟩ := I.cell y c' e
        exact ⟨w2, z2.sameBut hs hcc⟩
    · obtain ⟨e, n, ne, nf, d⟩ := I.pin p hp
      refine ⟨(hs.2 p.1 ?_).trans e, n, ne, nf, d⟩
      intro q
      rw [q, hoc] at e
      have q' : oc = p.2 := Option.some.inj e
      exact d w' (by rw [← q']; exact hocd)
theorem store_ok {M : Model} {A : Around} {E : Value → Shared → Prop} {i : Nat} {x : Str} {v : V} {u : Value} {Q : Unit → Shared → Prop} (I : Inv X pins σ H s) (hN : X.N.Nodup) (hi : X.N[i]? = some x) (hx : Loc X.env.scope x) (r : RelV v u)
    (h : ∀ s', Inv X pins (σ.set i (some v)) H s' → Q () s') (hf : X.fn x = true ∨ X.env.scope.names.lookup x = some .local := by first | exact .inl rfl | exact .inr rfl | assumption) : wpAny M A (storeName X.env x u) Q E s :=
  store_ok2 I hN hi hx r (fun s' I' _ => h s' I') hf
/-- behind a call or a block, the state as it is -/
theorem Inv.call' {s' : Shared} {ch : List Addr} (I : Inv X pins σ H s) (ho : s'.os = s.os) (u : Un (frs X.stack) ch H H' s.heap s'.heap) (hok : HOk X.prog X.w H' s'.heap) (hg : AllBare s'.gens)
    (hch : ∀ b ∈ ch, (b ∈ X.ex ∨ X.s₀.heap.objs.size ≤ b) ∧ b ≠ X.env.locals ∧ (∀ x c, X.env.cells.lookup x = some c → c ≠ b) ∧ ∀ p ∈ X.pn ++ pins, p.1 ≠ b) : Inv X pins σ H' s' := by
  obtain ⟨h', g', d', t', o'⟩ := s'
  have e : o' = s.os := ho
  subst e
  exact I.call (g' := g') (t' := t') (d' := d') u hok hg hch
end

/-! ### the judgements -/
/-- an exception: its class, its own dict's address (where it has one), the abstract heap behind it -/
noncomputable abbrev XK := Value → Option Addr → Hp → Prop
noncomputable abbrev St := List (Option V)
noncomputable abbrev VK := V → Hp → Prop
/-- an expression's reading; a test's; an argument list's -/
noncomputable abbrev TE := St → Hp → VK → Prop
noncomputable abbrev TT := St → Hp → (Bool → Hp → Prop) → Prop
noncomputable abbrev TA := St → Hp → (List V → Hp → Prop) → Prop
/-- what is wanted behind a statement -/
structure Ends where
  nx : St → Hp → Prop
  rt : VK
  bk : St → Hp → Prop := fun _ _ => False
  ct : St → Hp → Prop := fun _ _ => False
noncomputable abbrev TS := Ends → St → Hp → Prop

noncomputable def EP (X : Cx) (pins : List (Addr × Obj)) (σ : St) (Q : VK) (u : Value) (s' : Shared) : Prop := ∃ v H', Inv X pins σ H' s' ∧ RelV v u ∧ Q v H'
noncomputable def TP (X : Cx) (pins : List (Addr × Obj)) (σ : St) (Q : Bool → Hp → Prop) (b : Bool) (s' : Shared) : Prop := ∃ H', Inv X pins σ H' s' ∧ Q b H'
noncomputable def AP (X : Cx) (pins : List (Addr × Obj)) (σ : St) (Q : List V → Hp → Prop) (us : List Value) (s' : Shared) : Prop := ∃ vs H', Inv X pins σ H' s' ∧ Vals vs us ∧ Q vs H'
noncomputable def SP (X : Cx) (pins : List (Addr × Obj)) (D : Ends) (f : Flow) (s' : Shared) : Prop :=
  match f with
  | .next => ∃ σ' H', Inv X pins σ' H' s' ∧ D.nx σ' H'
  | .brk => ∃ σ' H', Inv X pins σ' H' s' ∧ D.bk σ' H'
  | .cont => ∃ σ' H', Inv X pins σ' H' s' ∧ D.ct σ' H'
  | .ret u => ∃ v σ' H', Inv X pins σ' H' s' ∧ RelV v u ∧ D.rt v H'

noncomputable def PE (X : Cx) (e : Expr) (t : TE) : Prop :=
  ∀ (pins : List (Addr × Obj)) (s : Shared) (σ : St) (H : Hp) (Q : VK), Inv X pins σ H s → t σ H Q → wpAny (model X.prog X.w) X.A (eval e X.env) (EP X pins σ Q) X.xe s
noncomputable def PT (X : Cx) (e : Expr) (t : TT) : Prop :=
  ∀ (pins : List (Addr × Obj)) (s : Shared) (σ : St) (H : Hp) (Q : Bool → Hp → Prop), Inv X pins σ H s → t σ H Q → wpAny (model X.prog X.w) X.A (isTrue e X.env (eval e X.env)) (TP X pins σ Q) X.xe s
/-- a test whatever its 'whole' is (and, or) -/
noncomputable def PW (X : Cx) (e : Expr) (t : TT) : Prop :=
  ∀ (whole : Sem Value) (pins : List (Addr × Obj)) (s : Shared) (σ : St) (H : Hp) (Q : Bool → Hp → Prop), Inv X pins σ H s → t σ H Q → wpAny (model X.prog X.w) X.A (isTrue e X.env whole) (TP X pins σ Q) X.xe s
theorem PW.pt {X : Cx} {e : Expr} {t : TT} (h : PW X e t) : PT X e t := h _
/-- an argument list (no star), from the left -/
noncomputable def PA (X : Cx) (es : List Expr) (t : TA) : Prop :=
  ∀ (pos : Pos) (pins : List (Addr × Obj)) (s : Shared) (σ : St) (H : Hp) (Q : List V → Hp → Prop), Inv X pins σ H s → t σ H Q → wpAny (model X.prog X.w) X.A (spliced (backTo pos (starEach es X.env))) (AP X pins σ Q) X.xe s
noncomputable def PS (X : Cx) (st : Stmt) (t : TS) : Prop :=
  ∀ (pins : List (Addr × Obj)) (s : Shared) (σ : St) (H : Hp) (D : Ends), Inv X pins σ H s → t D σ H → wpAny (model X.prog X.w) X.A (exec st X.env) (SP X pins D) X.xe s
noncomputable def PSs (X : Cx) (st : List Stmt) (t : TS) : Prop :=
  ∀ (pins : List (Addr × Obj)) (s : Shared) (σ : St) (H : Hp) (D : Ends), Inv X pins σ H s → t D σ H → wpAny (model X.prog X.w) X.A (execs st X.env) (SP X pins D) X.xe s
/-- weaken the end -/
theorem thn {α : Type} {t : Sem α} {Q Q' : α → Shared → Prop} {M : Model} {A : Around} {E : Value → Shared → Prop} {s : Shared} (h : wpAny M A t Q E s) (hQ : ∀ a s, Q a s → Q' a s) : wpAny M A t Q' E s := wpAny_mono h hQ fun _ _ x => x
end L2

namespace L2
open PySem PySem.Spec PyProof.Rows
section
variable {X : Cx}

/-! ### names and constants -/
noncomputable def tVar (i : Nat) : TE := fun σ H Q => ∃ v, σ[i]? = some (some v) ∧ Q v H
noncomputable def tC (v : V) : TE := fun _ H Q => Q v H
theorem pe_var {i : Nat} {x : Str} {pos : Pos} (hN : X.N[i]? = some x) (hv : Vis X.env.scope x) (hd : (x == ("__debug__" : Str)) = false := by decide) (hcd : (x == ("__classdict__" : Str)) = false := by decide) : PE X (.Name x pos) (tVar i) := by
  intro pins s σ H Q I h
  obtain ⟨v, e, h⟩ := h
  obtain ⟨m, hn, hl⟩ := I.loc
  obtain ⟨u, r, l⟩ := hl i x v hN e hv
  have fin : EP X pins σ Q u s := ⟨v, H, I, r, h⟩
  rcases l with ⟨hk, hm⟩ | ⟨hk, c, hc, hcell⟩
  · exact wpAny_Name (wpAny_loadName_local I.ok.kind hk hn hm fin) hd
  · rcases hk with hk | hk
    · exact wpAny_Name (wpAny_loadName_cell I.ok.kind hk hc hcell fin) hd
    · exact wpAny_Name (wpAny_loadName_free I.ok.kind hk hc hcell fin hcd) hd
theorem pe_int {i j pos} : PE X (.Constant (.int i) j pos) (tC (.int i)) := fun _ _ _ H _ I h => wpAny_Constant_int ⟨.int i, H, I.tok _, ⟨_, rfl⟩, h⟩
theorem pe_bl {b j pos} : PE X (.Constant (.bool b) j pos) (tC (.bl b)) := fun _ _ _ H _ I h => Constant_bool ⟨.bl b, H, I, rfl, h⟩
theorem pe_non {j pos} : PE X (.Constant .none j pos) (tC .non) := fun _ _ _ H _ I h => Constant_none ⟨.non, H, I, rfl, h⟩
theorem pe_str {x j pos} : PE X (.Constant (.str x) j pos) (tC (.str x)) := fun _ _ _ H _ I h => Calls.Constant_str ⟨.str x, H, I.tok _, ⟨_, rfl⟩, h⟩

/-- a global name of the def -/
noncomputable def Gl (X : Cx) (x : Str) : Prop := X.env.kindOf x = some .globalImplicit
theorem ld_glob {E : Value → Shared → Prop} {pins : List (Addr × Obj)} {s : Shared} {σ : St} {H : Hp} {x : Str} {u : Value} {pos : Pos} {Q : Value → Shared → Prop} (I : Inv X pins σ H s) (hg : Gl X x) (hm : X.mg x = some u) (h : Q u s)
    (hd : (x == ("__debug__" : Str)) = false := by decide) : wpAny (model X.prog X.w) X.A (eval (.Name x pos) X.env) Q E s :=
  Calls.Name_function_global I.ok.kind hg (Calls.loadGlobal_global (by rw [I.ok.glob]; exact I.mod.glob.keeps I.bk) hm h) hd
theorem ld_blt {E : Value → Shared → Prop} {pins : List (Addr × Obj)} {s : Shared} {σ : St} {H : Hp} {x : Str} {u : Value} {pos : Pos} {Q : Value → Shared → Prop} (I : Inv X pins σ H s) (hg : Gl X x) (hm : X.mg x = none) (hv : bootBuiltins x = some u) (h : Q u s)
    (hn : x ≠ "__name__" := by decide) (hd : (x == ("__debug__" : Str)) = false := by decide) : wpAny (model X.prog X.w) X.A (eval (.Name x pos) X.env) Q E s := by
  obtain ⟨mb, h1, h2⟩ := I.mod.blt
  exact Calls.Name_function_global I.ok.kind hg (Calls.loadGlobal_builtin (by rw [I.ok.glob]; exact I.mod.glob.keeps I.bk) hm (by rw [I.ok.blt]; exact h1.keeps I.bk) ((h2 x hn).trans hv) h) hd
/-- a module's constant, a class, a function, as a value -/
theorem pe_glob {x : Str} {v : V} {u : Value} {pos : Pos} (hg : Gl X x) (hm : X.mg x = some u) (r : RelV v u) (hd : (x == ("__debug__" : Str)) = false := by decide) : PE X (.Name x pos) (tC v) :=
  fun _ _ _ H _ I h => ld_glob I hg hm ⟨v, H, I, r, h⟩ hd
theorem pe_bltn {x : Str} {v : V} {u : Value} {pos : Pos} (hg : Gl X x) (hm : X.mg x = none) (hv : bootBuiltins x = some u) (r : RelV v u) (hn : x ≠ "__name__" := by decide) (hd : (x == ("__debug__" : Str)) = false := by decide) : PE X (.Name x pos) (tC v) :=
  fun _ _ _ H _ I h => ld_blt I hg hm hv ⟨v, H, I, r, h⟩ hn hd

/-! ### arithmetic -/
variable {a b : Expr} {ta tb : TE} {pos : Pos}
/-! ### comparisons -/
/-- a comparison as a value, as a test -/
noncomputable def tB (t : TE) : TT := fun σ H Q => t σ H fun x H1 => ∃ c, x = .bl c ∧ Q c H1
/-- an expression whose value is a bool, as a test -/
theorem pt_val {e : Expr} {t : TE} (h : PE X e t) (he : ∀ whole, isTrue e X.env whole = (do let v ← whole; standAt e.pos; holding [v] (truthy v)) := by intro _; rfl) : PT X e (tB t) := by
  intro pins s σ H Q I hw
  refine isTrue_plain (thn (h pins s σ H _ I hw) fun v s1 ⟨x, H1, I1, r1, q1⟩ => ?_) (he _)
  obtain ⟨d, rfl, q⟩ := q1
  cases r1
  exact wpAny_truthy_bool ⟨H1, I1, q⟩

/-! ### and, or, not -/
variable {tA tB' : TT} {rest : List Expr}
noncomputable def tAnd (t u : TT) : TT := fun σ H Q => t σ H fun c H1 => if c = true then u σ H1 Q else Q false H1
noncomputable def tOr (t u : TT) : TT := fun σ H Q => t σ H fun c H1 => if c = true then Q true H1 else u σ H1 Q
noncomputable def tNot (t : TT) : TT := fun σ H Q => t σ H fun c H1 => Q (!c) H1
theorem pw_and1 (ha : PT X a tA) : PW X (.BoolOp .And [a] pos) tA := by
  intro wh pins s σ H Q I h
  refine isTrue_and (thn (ha pins s σ H Q I h) fun c s1 e => ?_)
  cases c with
  | true => exact isTrue_and_nil e
  | false => exact e
theorem pw_or1 (ha : PT X a tA) : PW X (.BoolOp .Or [a] pos) tA := by
  intro wh pins s σ H Q I h
  refine isTrue_or (thn (ha pins s σ H Q I h) fun c s1 e => ?_)
  cases c with
  | false => exact isTrue_or_nil e
  | true => exact e
theorem pw_and (ha : PT X a tA) (hb : PW X (.BoolOp .And (b :: rest) pos) tB') : PW X (.BoolOp .And (a :: b :: rest) pos) (tAnd tA tB') := by
  intro wh pins s σ H Q I h
  refine isTrue_and (thn (ha pins s σ H _ I h) fun c s1 ⟨H1, I1, q1⟩ => ?_)
  cases c with
  | true => exact hb wh pins s1 σ H1 Q I1 q1
  | false => exact ⟨H1, I1, q1⟩
theorem pw_or (ha : PT X a tA) (hb : PW X (.BoolOp .Or (b :: rest) pos) tB') : PW X (.BoolOp .Or (a :: b :: rest) pos) (tOr tA tB') := by
  intro wh pins s σ H Q I h
  refine isTrue_or (thn (ha pins s σ H _ I h) fun c s1 ⟨H1, I1, q1⟩ => ?_)
  cases c with
  | true => exact ⟨H1, I1, q1⟩
  | false => exact hb wh pins s1 σ H1 Q I1 q1
theorem pt_not (ha : PT X a tA) : PT X (.UnaryOp .Not a pos) (tNot tA) := by
  intro pins s σ H Q I h
  exact isTrue_not (ha pins s σ H (fun c H1 => Q (!c) H1) I h)
/-- .. as values (bools) -/
noncomputable def tAndV (ta tb : TE) : TE := fun σ H Q => ta σ H fun x H1 => ∃ c, x = .bl c ∧ if c = true then tb σ H1 Q else Q (.bl false) H1
noncomputable def tOrV (ta tb : TE) : TE := fun σ H Q => ta σ H fun x H1 => ∃ c, x = .bl c ∧ if c = true then Q (.bl true) H1 else tb σ H1 Q
noncomputable def tNotV (ta : TE) : TE := fun σ H Q => ta σ H fun x H1 => ∃ c, x = .bl c ∧ Q (.bl (!c)) H1
theorem pe_one {op} {t : TE} (h : PE X a t) : PE X (.BoolOp op [a] pos) t := fun pins s σ H Q I hw => BoolOp_one (h pins s σ H Q I hw)
theorem pe_and (ha : PE X a ta) (hb : PE X (.BoolOp .And (b :: rest) pos) tb) : PE X (.BoolOp .And (a :: b :: rest) pos) (tAndV ta tb) := by
  intro pins s σ H Q I h
  refine BoolOp_and (thn (ha pins s σ H _ I h) fun v s1 ⟨x, H1, I1, r1, q1⟩ => ?_)
  obtain ⟨c, rfl, q1⟩ := q1
  cases r1
  refine wpAny_truthy_bool ?_
  cases c with
  | true => exact hb pins s1 σ H1 Q I1 q1
  | false => exact ⟨.bl false, H1, I1, rfl, q1⟩
theorem pe_not (ha : PE X a ta) : PE X (.UnaryOp .Not a pos) (tNotV ta) := by
  intro pins s σ H Q I h
  refine UnaryOp_ (thn (ha pins s σ H _ I h) fun v s1 ⟨x, H1, I1, r1, q1⟩ => ?_)
  obtain ⟨c, rfl, q1⟩ := q1
  cases r1
  exact not_of (wpAny_truthy_bool ⟨.bl (!c), H1, I1, rfl, q1⟩)
/-- a if t else b -/
noncomputable def tIf (t : TT) (ta tb : TE) : TE := fun σ H Q => t σ H fun c H1 => if c = true then ta σ H1 Q else tb σ H1 Q
theorem pe_ifExp {c : Expr} (hc : PT X c tA) (ha : PE X a ta) (hb : PE X b tb) : PE X (.IfExp c a b pos) (tIf tA ta tb) := by
  intro pins s σ H Q I h
  refine wpAny_IfExp (thn (hc pins s σ H _ I h) fun d s1 ⟨H1, I1, q1⟩ => ?_)
  cases d with
  | true => exact ha pins s1 σ H1 Q I1 q1
  | false => exact hb pins s1 σ H1 Q I1 q1
end
end L2

namespace L2
open PySem PySem.Spec PyProof.Rows

/-! ### a list, a tuple that is read: tracked, frozen, or an object of the module -/
noncomputable def SqL (K : PySem.W.Frag) (H : Hp) (a : Addr) (xs : List V) : Prop :=
  Rd H a (.lst xs) ∨
    ∃ (o : Obj) (its : Array Value) (n : Nat), K.lookup a = some o ∧ o.cls = .type "list" ∧ o.dict = none ∧ o.data = .seq its n ∧ its.size ≤ sizeLine ∧ Vals xs its.toList
noncomputable def SqT (K : PySem.W.Frag) (H : Hp) (a : Addr) (xs : List V) : Prop :=
  Rd H a (.tup xs) ∨
    ∃ (o : Obj) (its : Array Value) (n : Nat), K.lookup a = some o ∧ o.cls = .type "tuple" ∧ o.data = .seq its n ∧ its.size ≤ sizeLine ∧ Vals xs its.toList
noncomputable def absV : Value → Option V
  | .none => some .non
  | .bool b => some (.bl b)
  | .int i _ => some (.int i)
  | .str x _ => some (.str x)
  | .bytes b _ => some (.byt b)
  | .float b _ => some (.flt b)
  | .ref a => some (.ref a)
  | .type n => some (.ty n)
  | _ => none
theorem RelV.abs {x : V} {u : Value} (r : RelV x u) : absV u = some x := by
  cases x with
  | non => cases r; rfl
  | bl _ => cases r; rfl
  | int _ => obtain ⟨t, rfl⟩ := r; rfl
  | str _ => obtain ⟨t, rfl⟩ := r; rfl
  | byt _ => obtain ⟨t, rfl⟩ := r; rfl
  | flt _ => obtain ⟨t, rfl⟩ := r; rfl
  | ref _ => cases r; rfl
  | ty _ => cases r; rfl
theorem RelV.inj {x y : V} {u : Value} (r : RelV x u) (q : RelV y u) : x = y := Option.some.inj (r.abs.symm.trans q.abs)
theorem Vals.inj : ∀ {xs ys : List V} {us : List Value}, Vals xs us → Vals ys us → xs = ys
  | _, _, _, .nil, .nil => rfl
  | _, _, _, .cons r t, .cons r' t' => by rw [r.inj r', Vals.inj t t']
section
variable {X : Cx} {pins : List (Addr × Obj)} {σ : St} {H : Hp} {s : Shared} {a : Addr} {xs ys : List V}
theorem SqL.of {K : PySem.W.Frag} (h : H a = some (.lst xs)) : SqL K H a xs := .inl (.inl h)
theorem SqT.of {K : PySem.W.Frag} (h : H a = some (.tup xs)) : SqT K H a xs := .inl (.inl h)
theorem Inv.list (I : Inv X pins σ H s) (h : SqL X.K H a xs) : ∃ its : List Value, Vals xs its ∧ PlainL s.heap a its.toArray ∧ xs.length ≤ sizeLine := by
  rcases h with h | ⟨o, its, n, hk, hc, hd, hs, hz, r⟩
  · obtain ⟨z, its, n, r, e⟩ := h.ok I.hok
    exact ⟨its, r, ⟨_, n, e, rfl, rfl, rfl⟩, z⟩
  · refine ⟨its.toList, r, ⟨o, n, I.kIn a o hk, hc, hd, by simpa using hs⟩, ?_⟩
    have e := r.length
    simp only [Array.length_toList] at e
    omega
theorem Inv.tuple (I : Inv X pins σ H s) (h : SqT X.K H a xs) : ∃ its : List Value, Vals xs its ∧ IsTup s.heap a its.toArray ∧ xs.length ≤ sizeLine := by
  rcases h with h | ⟨o, its, n, hk, hc, hs, hz, r⟩
  · obtain ⟨z, its, r, p⟩ := h.ok I.hok
    exact ⟨its, r, p, z⟩
  · refine ⟨its.toList, r, ⟨o, I.kIn a o hk, hc, n, by simpa using hs⟩, ?_⟩
    have e := r.length
    simp only [Array.length_toList] at e
    omega
theorem Inv.list_inj (I : Inv X pins σ H s) (h : SqL X.K H a xs) (h' : SqL X.K H a ys) : xs = ys := by
  obtain ⟨its, r, ⟨o, n, e, _, _, d⟩, _⟩ := I.list h
  obtain ⟨its', r', ⟨o', n', e', _, _, d'⟩, _⟩ := I.list h'
  rw [e] at e'; cases e'
  rw [d] at d'
  injection d' with d1 _
  have : its = its' := by simpa using congrArg Array.toList d1
  subst this
  exact r.inj r'
theorem Inv.tuple_inj (I : Inv X pins σ H s) (h : SqT X.K H a xs) (h' : SqT X.K H a ys) : xs = ys := by
  obtain ⟨its, r, ⟨o, e, _, n, d⟩, _⟩ := I.tuple h
  obtain ⟨its', r', ⟨o', e', _, n', d'⟩, _⟩ := I.tuple h'
  rw [e] at e'; cases e'
  rw [d] at d'
  injection d' with d1 _
  have : its = its' := by simpa using congrArg Array.toList d1
  subst this
  exact r.inj r'
end

/-! ### another wish about exceptions -/
noncomputable abbrev Cx.wish (X : Cx) (E : Value → Shared → Prop) : Cx := { X with xe := E }
/-- no exception leaves -/
noncomputable abbrev Cx.nox (X : Cx) : Cx := X.wish fun _ _ => False
theorem Cx.Ok.wish {X : Cx} (ok : X.Ok) (E : Value → Shared → Prop) : (X.wish E).Ok :=
  ⟨ok.mod, ok.kind, ok.glob, ok.blt, ok.above, ok.inj, ok.has, ok.cab, ok.hd, ok.frames, ok.stk, ok.exf, ok.bs, ok.bsz, ok.noex, ok.exfs, ok.funs, ok.frf⟩
theorem Cx.Ok.unwish {X : Cx} {E : Value → Shared → Prop} (ok : (X.wish E).Ok) : X.Ok :=
  ⟨ok.mod, ok.kind, ok.glob, ok.blt, ok.above, ok.inj, ok.has, ok.cab, ok.hd, ok.frames, ok.stk, ok.exf, ok.bs, ok.bsz, ok.noex, ok.exfs, ok.funs, ok.frf⟩
section
variable {X : Cx} {pins : List (Addr × Obj)} {σ : St} {H : Hp} {s : Shared} {E : Value → Shared → Prop}
theorem Inv.wish (I : Inv X pins σ H s) (E : Value → Shared → Prop) : Inv (X.wish E) pins σ H s := ⟨I.ok.wish E, I.os, I.bare, I.base, I.loc, I.cell, I.free, I.freeC, I.pin, I.hok, I.len⟩
theorem Inv.unwish (I : Inv (X.wish E) pins σ H s) : Inv X pins σ H s := ⟨I.ok.unwish, I.os, I.bare, I.base, I.loc, I.cell, I.free, I.freeC, I.pin, I.hok, I.len⟩
theorem SP.unwish {D : Ends} {f : Flow} {s' : Shared} (h : SP (X.wish E) pins D f s') : SP X pins D f s' := by
  cases f with
  | next => obtain ⟨σ', H', I, q⟩ := h; exact ⟨σ', H', I.unwish, q⟩
  | brk => obtain ⟨σ', H', I, q⟩ := h; exact ⟨σ', H', I.unwish, q⟩
  | cont => obtain ⟨σ', H', I, q⟩ := h; exact ⟨σ', H', I.unwish, q⟩
  | ret u => obtain ⟨v, σ', H', I, r, q⟩ := h; exact ⟨v, σ', H', I.unwish, r, q⟩
theorem PE.nox {e : Expr} {t : TE} (h : PE X.nox e t) : PE X e t := fun pins s σ H Q I hw =>
  wpAny_mono (h pins s σ H Q (I.wish _) hw) (fun _ _ ⟨v, H', I', r, q⟩ => ⟨v, H', I'.unwish, r, q⟩) fun _ _ z => False.elim z
theorem PT.nox {e : Expr} {t : TT} (h : PT X.nox e t) : PT X e t := fun pins s σ H Q I hw =>
  wpAny_mono (h pins s σ H Q (I.wish _) hw) (fun _ _ ⟨H', I', q⟩ => ⟨H', I'.unwish, q⟩) fun _ _ z => False.elim z
theorem PSs.nox {st : List Stmt} {t : TS} (h : PSs X.nox st t) : PSs X st t := fun pins s σ H D I hw =>
  wpAny_mono (h pins s σ H D (I.wish _) hw) (fun _ _ q => q.unwish) fun _ _ z => False.elim z
end

/-! ### blocks and small statements -/
section
variable {X : Cx} {st : Stmt} {rest : List Stmt} {t u : TS} {e : Expr} {te : TE} {pos : Pos}
noncomputable def tNext : TS := fun D σ H => D.nx σ H
noncomputable def tSeq (t u : TS) : TS := fun D σ H => t { D with nx := u D } σ H
theorem pss_nil : PSs X [] tNext := fun _ _ σ H _ I h => wpAny_execs_nil ⟨σ, H, I, h⟩
theorem pss_cons (h1 : PS X st t) (h2 : PSs X rest u) : PSs X (st :: rest) (tSeq t u) := by
  intro pins s σ H D I h
  refine wpAny_execs_cons (thn (h1 pins s σ H { D with nx := u D } I h) fun f s1 q => ?_)
  cases f with
  | next =>
    obtain ⟨σ', H', I', q⟩ := q
    exact h2 pins s1 σ' H' D I' q
  | ret v => exact q
  | brk => exact q
  | cont => exact q
theorem pss_one (h1 : PS X st t) : PSs X [st] t := by
  intro pins s σ H D I h
  refine wpAny_execs_cons (thn (h1 pins s σ H D I h) fun f s1 q => ?_)
  cases f with
  | next => exact wpAny_execs_nil q
  | ret v => exact q
  | brk => exact q
  | cont => exact q
/-- in a def's body nothing is shown -/
theorem Inv.quiet {pins : List (Addr × Obj)} {σ : St} {H : Hp} {s : Shared} (I : Inv X pins σ H s) : interactive X.env = false := by simp [interactive, I.ok.kind]
/-- an expression whose value is dropped -/
noncomputable def tDrop (te : TE) : TS := fun D σ H => te σ H fun _ H1 => D.nx σ H1
theorem ps_expr (he : PE X e te) (hs : swapsWith e none pos.line X.env = pure false := by rfl) : PS X (.Expr e pos) (tDrop te) := by
  intro pins s σ H D I h
  exact wpAny_Expr_any (thn (he pins s σ H _ I h) fun v s1 ⟨x, H1, I1, r1, q1⟩ => ⟨σ, H1, I1, q1⟩) I.quiet hs
noncomputable def tRet (te : TE) : TS := fun D σ H => te σ H D.rt
theorem ps_ret (he : PE X e te) : PS X (.Return (some e) pos) (tRet te) := by
  intro pins s σ H D I h
  exact wpAny_Return_some (thn (he pins s σ H _ I h) fun v s1 ⟨x, H1, I1, r1, q1⟩ => ⟨x, σ, H1, I1, r1, q1⟩)
noncomputable def tRetN : TS := fun D _ H => D.rt .non H
noncomputable def tIfS (c : TT) (t u : TS) : TS := fun D σ H => c σ H fun b H1 => if b = true then t D σ H1 else u D σ H1
theorem ps_if {c : Expr} {a b : List Stmt} {tc : TT} (hc : PT X c tc) (ha : PSs X a t) (hb : PSs X b u) : PS X (.If c a b pos) (tIfS tc t u) := by
  intro pins s σ H D I h
  refine wpAny_If (thn (hc pins s σ H _ I h) fun d s1 ⟨H1, I1, q1⟩ => ?_)
  cases d with
  | true => exact ha pins s1 σ H1 D I1 q1
  | false => exact hb pins s1 σ H1 D I1 q1
end

/-! ### targets -/
noncomputable abbrev TG := V → St → Hp → (St → Hp → Prop) → Prop
noncomputable abbrev TGs := List V → St → Hp → (St → Hp → Prop) → Prop
noncomputable def PG (X : Cx) (target : Expr) (t : TG) : Prop :=
  ∀ (pins : List (Addr × Obj)) (s : Shared) (σ : St) (H : Hp) (v : V) (u : Value) (Q : St → Hp → Prop), Inv X pins σ H s → RelV v u → t v σ H Q →
    wpAny (model X.prog X.w) X.A (assign target X.env u) (fun _ s' => ∃ σ' H', Inv X pins σ' H' s' ∧ Q σ' H') X.xe s
/-- several targets, one after another -/
noncomputable def PGs (X : Cx) (ts : List Expr) (t : TGs) : Prop :=
  ∀ (pins : List (Addr × Obj)) (s : Shared) (σ : St) (H : Hp) (vs : List V) (us : List Value) (Q : St → Hp → Prop), Inv X pins σ H s → Vals vs us → t vs σ H Q →
    wpAny (model X.prog X.w) X.A (assignInOrder ((assignEach ts X.env).map (·.2)) us) (fun _ s' => ∃ σ' H', Inv X pins σ' H' s' ∧ Q σ' H') X.xe s
section
variable {X : Cx} {pos : Pos}
noncomputable def gName (i : Nat) : TG := fun v σ H Q => Q (σ.set i (some v)) H
theorem pg_name {i : Nat} {x : Str} (hN : X.N.Nodup) (hi : X.N[i]? = some x) (hx : Loc X.env.scope x) (hf : X.fn x = true ∨ X.env.scope.names.lookup x = some .local := by first | exact .inl rfl | exact .inr rfl | assumption) : PG X (.Name x pos) (gName i) := by
  intro pins s σ H v u Q I r h
  exact wpAny_assign_Name (store_ok I hN hi hx r (fun s' I' => ⟨_, H, I', h⟩) hf)
noncomputable def gNil : TGs := fun vs σ H Q => vs = [] ∧ Q σ H
noncomputable def gCons (t : TG) (u : TGs) : TGs := fun vs σ H Q => ∃ v r, vs = v :: r ∧ t v σ H fun σ' H' => u r σ' H' Q
theorem pgs_nil : PGs X [] gNil := by
  intro pins s σ H vs us Q I r h
  obtain ⟨e, h⟩ := h
  subst e
  cases r
  exact assignInOrder_nil ⟨σ, H, I, h⟩
theorem pgs_cons {e : Expr} {es : List Expr} {t : TG} {u : TGs} (h1 : PG X e t) (h2 : PGs X es u)
    (hs : (assignEach (e :: es) X.env).map (·.2) = assign e X.env :: (assignEach es X.env).map (·.2) := by rfl) : PGs X (e :: es) (gCons t u) := by
  intro pins s σ H vs us Q I r h
  obtain ⟨v, vr, e1, h⟩ := h
  subst e1
  cases r with
  | cons r rr =>
    rw [hs]
    refine assignInOrder_cons (thn (h1 pins s σ H _ _ _ I r h) fun _ s1 ⟨σ1, H1, I1, q1⟩ => ?_)
    exact h2 pins s1 σ1 H1 _ _ Q I1 rr q1
/-- (a, b, ..) = a tuple of that length -/
noncomputable def gTup (K : PySem.W.Frag) (n : Nat) (t : TGs) : TG := fun v σ H Q => ∃ a xs, v = .ref a ∧ SqT K H a xs ∧ xs.length = n ∧ t xs σ H Q
theorem pg_tup {es : List Expr} {k : Nat} {t : TGs} {n : Nat} (hc : X.calm = true) (h : PGs X es t)
    (hn : (assignEach es X.env).length = n := by rfl) (hst : (assignEach es X.env).findIdx? (·.1) = none := by rfl) : PG X (.Tuple es k pos) (gTup X.K n t) := by
  intro pins s σ H v u Q I r hw
  obtain ⟨a, xs, e1, hq, hl, hw⟩ := hw
  subst e1
  cases r
  obtain ⟨its, rv, ht, hz⟩ := I.tuple hq
  refine assign_Tuple_tuple (I.ok.hd hc) ht (by simp [hn, ← hl, rv.length]) hst fun h' hx => ?_
  have I1 : Inv X pins σ H { s with heap := h' } := I.kept (t' := s.toks) fun b o e => hx b o (Nat.ne_of_lt (Heap.lt_size e)) e
  exact h pins _ σ H xs _ Q I1 (by simpa using rv) hw
/-- target = value -/
noncomputable def tAsg (te : TE) (g : TG) : TS := fun D σ H => te σ H fun x H1 => g x σ H1 D.nx
/-- name = value -/
theorem ps_set {i : Nat} {x : Str} {e : Expr} {te : TE} {pos' : Pos} (hN : X.N.Nodup) (hi : X.N[i]? = some x) (hx : Loc X.env.scope x) (he : PE X e te) (hs : swapsWith e (some (.Name x pos')) pos.line X.env = pure false := by rfl) (hf : X.fn x = true ∨ X.env.scope.names.lookup x = some .local := by first | exact .inl rfl | exact .inr rfl | assumption) :
    PS X (.Assign [.Name x pos'] e pos) (tAsg te (gName i)) := by
  intro pins s σ H D I h
  refine wpAny_Assign_Name (thn (he pins s σ H _ I h) fun v s1 ⟨y, H1, I1, r1, q1⟩ => ?_) hs
  exact store_ok I1 hN hi hx r1 (fun s2 I2 => ⟨_, H1, I2, q1⟩) hf
/-- a, b = x, y with plain local names: stored from the right; the pair itself is not tracked (the opening rows as in PyProof/Rows/TupAssign.lean:23) -/
noncomputable def tPar (i j : Nat) (ta : TA) : TS := fun D σ H => ta σ H fun vs H1 => ∃ v w, vs = [v, w] ∧ D.nx ((σ.set i (some v)).set j (some w)) H1
theorem ps_par {i j : Nat} {x y : Str} {a b : Expr} {ta : TA} {px py pt : Pos} {kt k2 pt2} (hc : X.calm = true) (hN : X.N.Nodup) (hi : X.N[i]? = some x) (hj : X.N[j]? = some y) (hij : i ≠ j)
    (hx : X.env.scope.names.lookup x = some .local) (hy : X.env.scope.names.lookup y = some .local) (ha : PA X [a, b] ta)
    (hw : swappedStores [.Tuple [.Name x px, .Name y py] kt pt] (.Tuple [a, b] k2 pt2) X.env = pure (some [x, y]))
    (hs : swapsWithSole [.Tuple [.Name x px, .Name y py] kt pt] (.Tuple [a, b] k2 pt2) pos.line X.env = pure false := by rfl) :
    PS X (.Assign [.Tuple [.Name x px, .Name y py] kt pt] (.Tuple [a, b] k2 pt2) pos) (tPar i j ta) := by
  intro pins s σ H D I h
  rw [exec_Assign_arm]
  refine wpAny_bind (wpAny_standAt ?_)
  rw [hs]
  refine wpAny_bind (wpAny_pure ?_)
  rw [if_neg (by decide)]
  refine wpAny_bind (Tuple_ (thn (ha _ pins s σ H _ I h) fun us s1 ⟨vs, H1, I1, r1, q1⟩ => ?_))
  obtain ⟨v, w, e1, q1⟩ := q1
  subst e1
  obtain ⟨u1, u2, rfl, rv, rw'⟩ : ∃ u1 u2, us = [u1, u2] ∧ RelV v u1 ∧ RelV w u2 := by
    cases r1 with
    | cons p q =>
      cases q with
      | cons p' q' =>
        cases q'
        exact ⟨_, _, rfl, p, p'⟩
  refine wpAny_newObj_type ?_ (by show 2 ≤ sizeLine; decide)
  have I2 : Inv X pins σ H1 { s1 with heap := s1.heap.push { cls := .type "tuple", data := .seq [u1, u2].toArray } } := I1.kept (t' := s1.toks) fun b o e => Heap.get?_push_of_some _ e
  rw [hw]
  refine wpAny_bind (wpAny_pure ?_)
  show wpAny (model X.prog X.w) X.A (do rule "assign.swapped-stores"; let items ← unpackItems (.ref s1.heap.objs.size) 2 none; assignInOrder [fun v => bindName X.env y v, fun v => bindName X.env x v] items.reverse; pure Flow.next) _ _ _
  refine wpAny_bind (wpAny_rule (wpAny_bind (unpackItems_tuple (items := #[u1, u2]) (I.ok.hd hc) (IsTup.new s1.heap _) fun h' hx' => ?_)))
  have I3 := I2.kept (h' := h') (t' := s1.toks) fun b o e => hx' b o (Nat.ne_of_lt (Heap.lt_size e)) e
  show wpAny _ _ (assignInOrder [fun v => bindName X.env y v, fun v => bindName X.env x v] [u2, u1] >>= fun _ => pure Flow.next) _ _ _
  refine wpAny_bind (assignInOrder_cons (wpAny_bindName (store_ok I3 hN hj (.inl hy) rw' (fun s2 I4 => ?_) (.inr hy))))
  refine assignInOrder_cons (wpAny_bindName (store_ok I4 hN hi (.inl hx) rv (fun s3 I5 => assignInOrder_nil (wpAny_pure ?_)) (.inr hx)))
  rw [List.set_comm _ _ (Ne.symm hij)] at I5
  exact ⟨_, H1, I5, q1⟩
end

/-! ### while -/
section
variable {X : Cx} {pos : Pos}
/-- the invariant W with its measure -/
noncomputable def tWhile (c : TT) (tb : TS) : TS := fun D σ H => ∃ W : Nat → St → Hp → Prop, (∃ m, W m σ H) ∧ ∀ m σ H, W m σ H →
  c σ H fun b H1 => if b = true then ∃ N : St → Hp → Prop, (∀ σ' H', N σ' H' → ∃ m', m' < m ∧ W m' σ' H') ∧ tb { D with nx := N, ct := N, bk := D.nx } σ H1 else D.nx σ H1
theorem ps_while {c : Expr} {body : List Stmt} {tc : TT} {tb : TS} (hp : PassesOwn (model X.prog X.w) X.A X.env X.xe) (hc : PT X c tc) (hb : PSs X body tb) : PS X (.While c body [] pos) (tWhile tc tb) := by
  intro pins s σ H D I h
  obtain ⟨W, ⟨m0, w0⟩, turn⟩ := h
  refine wpAny_While (codeAny_whileLoop (fun n s' => ∃ σ' H', Inv X pins σ' H' s' ∧ W n σ' H') ?_ m0 ⟨σ, H, I, w0⟩)
  rintro n s1 ⟨σ1, H1, I1, w1⟩
  refine wpAny_passesOwn hp (thn (hc pins s1 σ1 H1 _ I1 (turn n σ1 H1 w1)) fun b s2 ⟨H2, I2, q2⟩ => ?_)
  cases b with
  | true =>
    obtain ⟨N, hN, q2⟩ := q2
    rw [if_pos rfl]
    refine wpAny_passesOwn hp (thn (hb pins s2 σ1 H2 _ I2 q2) fun f s3 q3 => ?_)
    cases f with
    | next =>
      obtain ⟨σ3, H3, I3, n3⟩ := q3
      obtain ⟨m', hm, w3⟩ := hN σ3 H3 n3
      exact ⟨m', hm, σ3, H3, I3, w3⟩
    | cont =>
      obtain ⟨σ3, H3, I3, n3⟩ := q3
      obtain ⟨m', hm, w3⟩ := hN σ3 H3 n3
      exact ⟨m', hm, σ3, H3, I3, w3⟩
    | brk => exact q3
    | ret v => exact q3
  | false =>
    rw [if_neg Bool.false_ne_true]
    exact wpAny_execs_nil ⟨σ1, H2, I2, q2⟩
end

/-! ### what a loop or a comprehension walks -/
/-- at turn i: it yields x (the heap may grow), or it stops -/
structure It where
  go : Nat → Hp → Prop
  yld : Nat → Hp → V → Hp → Prop
  stop : Nat → Hp → Prop
/-- the iterator's own objects may turn: they are not the frame's, not pinned, younger than the entry (or a comprehension's own) -/
noncomputable def FpOk (X : Cx) (pins : List (Addr × Obj)) (H : Hp) (b : Addr) : Prop :=
  H b = none ∧ b ≠ X.env.locals ∧ b ∉ X.fs ∧ (b ∈ X.ex ∨ X.s₀.heap.objs.size ≤ b) ∧ (∀ x c, X.env.cells.lookup x = some c → c ≠ b) ∧ ∀ p ∈ X.pn ++ pins, p.1 ≠ b
theorem Inv.fpOk {X : Cx} {pins : List (Addr × Obj)} {σ : St} {H H' : Hp} {s : Shared} {b : Addr} (I : Inv X pins σ H s) (hb : s.heap.objs.size ≤ b) (hn : H' b = none) : FpOk X pins H' b := by
  refine ⟨hn, Nat.ne_of_gt (Nat.lt_of_lt_of_le I.lt hb), I.nofs hb, .inr (Nat.le_trans I.sz hb), fun x c e z => ?_, fun p hp z => ?_⟩
  · obtain ⟨v, q⟩ := I.cell x c e
    exact absurd (Nat.lt_of_lt_of_le q.lt (by rw [z]; exact hb)) (Nat.lt_irrefl _)
  · exact absurd (Nat.lt_of_lt_of_le (Heap.lt_size (I.pin p hp).1) (by rw [z]; exact hb)) (Nat.lt_irrefl _)
structure Turn (P : Program) (w : World) (K : PySem.W.Frag) (tg : Expr) (J : It) (fp : List Addr) (it : Addr) (tn : Nat → Heap → Prop) : Prop where
  mem : it ∈ fp
  obj : ∀ i h, tn i h → ∀ b ∈ fp, ∃ o, h.get? b = some o ∧ ∀ v, o.data ≠ .cell v
  keep : ∀ i h h', tn i h → (∀ b ∈ fp, ∀ o, h.get? b = some o → h'.get? b = some o) → tn i h'
  item : ∀ (X : Cx), X.prog = P → X.w = w → X.K = K → X.calm = true → ∀ (i : Nat) (pins : List (Addr × Obj)) (s : Shared) (σ : St) (H : Hp) (E : Value → Shared → Prop), Inv X pins σ H s → (∀ b ∈ fp, FpOk X pins H b) → tn i s.heap → J.go i H →
    wpAny (model P w) X.A (pyNext (.ref it)) (fun r s1 => ∃ u, r = some u ∧
      wpAny (model P w) X.A (letOwnedTupleGo tg (.ref it) u) (fun _ s2 => ∃ x H', Inv X pins σ H' s2 ∧ RelV x u ∧ J.yld i H x H' ∧ tn (i + 1) s2.heap ∧ ∀ b ∈ fp, H' b = none) E s1) E s
  done : ∀ (X : Cx), X.prog = P → X.w = w → X.K = K → X.calm = true → ∀ (i : Nat) (pins : List (Addr × Obj)) (s : Shared) (σ : St) (H : Hp) (E : Value → Shared → Prop), Inv X pins σ H s → (∀ b ∈ fp, FpOk X pins H b) → tn i s.heap → J.stop i H →
    wpAny (model P w) X.A (pyNext (.ref it)) (fun r s1 => r = none ∧ Inv X pins σ H s1) E s
  self : ∀ (A : Around) (i : Nat) (s : Shared) (Q : Value → Shared → Prop) (E : Value → Shared → Prop), tn i s.heap → Q (.ref it) s → wpAny (model P w) A (pyIter (.ref it)) Q E s
noncomputable abbrev TI := St → Hp → (It → Hp → Prop) → Prop
/-- an iterator has come -/
noncomputable def PIE (X : Cx) (pins : List (Addr × Obj)) (σ : St) (tg : Expr) (R : It → Hp → Prop) (itv : Value) (s2 : Shared) : Prop :=
  ∃ (it : Addr) (fp : List Addr) (tn : Nat → Heap → Prop) (J : It) (H' : Hp), itv = .ref it ∧ Inv X pins σ H' s2 ∧ Turn X.prog X.w X.K tg J fp it tn ∧ tn 0 s2.heap ∧ (∀ b ∈ fp, FpOk X pins H' b) ∧ R J H'
noncomputable def PI (X : Cx) (tg iter : Expr) (wi : TI) : Prop :=
  ∀ (pins : List (Addr × Obj)) (s : Shared) (σ : St) (H : Hp) (R : It → Hp → Prop), Inv X pins σ H s → wi σ H R →
    wpAny (model X.prog X.w) X.A (eval iter X.env) (fun v s1 => wpAny (model X.prog X.w) X.A (pyIter v) (PIE X pins σ tg R) X.xe s1) X.xe s

/-- the step ahead of the store is nothing for an iterator that keeps no tuple -/
theorem go_of {M : Model} {A : Around} {E : Value → Shared → Prop} {s : Shared} {tg : Expr} {it : Addr} {u : Value} {o : Obj} {n : String} {vs : Array Value} {Q : Unit → Shared → Prop} (ho : s.heap.get? it = some o) (hc : o.cls = .type n) (hd : o.data = .fields vs)
    (hn : ["enumerate", "zip", "dict_itemiterator", "dict_reverseitemiterator", "odict_iterator", "itertools.zip_longest", "itertools.pairwise"].contains n = false) (hQ : Q () s) : wpAny M A (letOwnedTupleGo tg (.ref it) u) Q E s := by
  unfold letOwnedTupleGo
  cases tg <;> first
    | exact wpAny_pure hQ
    | (cases u <;> first
        | exact wpAny_pure hQ
        | (refine wpAny_bind (wpAny_load ho ?_)
           rw [hc, hd]
           show wpAny M A (if (["enumerate", "zip", "dict_itemiterator", "dict_reverseitemiterator", "odict_iterator", "itertools.zip_longest", "itertools.pairwise"].contains n && vs[0]? == some (rawInt _)) = true then _ else _) Q E s
           rw [if_neg (by intro h; rw [hn, Bool.false_and] at h; cases h)]
           exact wpAny_pure hQ))

/-- the list at a, as it stands at each turn (a loop may append to it) -/
noncomputable def Itl (K : PySem.W.Frag) (a : Addr) : It :=
  ⟨fun i H => ∃ xs x, SqL K H a xs ∧ xs[i]? = some x, fun i H x H' => H' = H ∧ ∀ xs, SqL K H a xs → xs[i]? = some x, fun i H => ∃ xs, SqL K H a xs ∧ xs.length ≤ i⟩
noncomputable def Itt (K : PySem.W.Frag) (a : Addr) : It :=
  ⟨fun i H => ∃ xs x, SqT K H a xs ∧ xs[i]? = some x, fun i H x H' => H' = H ∧ ∀ xs, SqT K H a xs → xs[i]? = some x, fun i H => ∃ xs, SqT K H a xs ∧ xs.length ≤ i⟩
/-- lo, lo + 1, .. (n of them) -/
noncomputable def Itr (lo : Int) (n : Nat) : It := ⟨fun i _ => i < n, fun i H x H' => H' = H ∧ x = .int (lo + i), fun i _ => n ≤ i⟩
theorem turn_list {P : Program} {w : World} {K : PySem.W.Frag} {tg : Expr} (a it : Addr) : Turn P w K tg (Itl K a) [it] it (fun i h => h.IsListIter it a i) where
  mem := by simp
  obj := fun i h st b hb => by
    have e : b = it := by simpa using hb
    subst e
    obtain ⟨o, e, c, d⟩ := st
    exact ⟨o, e, fun v z => by rw [d] at z; cases z⟩
  keep := fun i h h' st k => st.at fun o e => k it (by simp) o e
  item := by
    intro X hP hw hK hc i pins s σ H E I hf st hg
    subst hP hw hK
    obtain ⟨xs, x, hq, hx⟩ := hg
    obtain ⟨its, rv, p, hz⟩ := I.list hq
    obtain ⟨u, hu, ru⟩ := rv.get hx
    obtain ⟨f0, f1, f2, f3, f4, f5⟩ := hf it (by simp)
    refine wpAny_pyNext_list_item st p.isList (x := u) (by simpa using hu) fun h' st' sb => ?_
    have I1 : Inv X pins σ H { s with heap := h' } := I.turned (t' := s.toks) (fun b o hb e => (sb.2 b hb).trans e) f0 f1 f3 f4 f5
    obtain ⟨o, e, c, d⟩ := id st'
    exact ⟨u, rfl, go_of (s := { s with heap := h' }) e c d (by decide) ⟨x, H, I1, ru, ⟨rfl, fun ys hy => by rw [I.list_inj hy hq]; exact hx⟩, st', fun b hb => (hf b hb).1⟩⟩
  done := by
    intro X hP hw hK hc i pins s σ H E I hf st hg
    subst hP hw hK
    obtain ⟨xs, hq, hx⟩ := hg
    obtain ⟨its, rv, p, hz⟩ := I.list hq
    obtain ⟨f0, f1, f2, f3, f4, f5⟩ := hf it (by simp)
    have hl := rv.length
    exact wpAny_pyNext_list_end (I.ok.hd hc) st p.isList (by simp; omega) fun h' eb => ⟨rfl, I.turned (t' := s.toks) (fun b o hb e => eb b o hb e) f0 f1 f3 f4 f5⟩
  self := fun _ _ _ _ _ st h => wpAny_pyIter_listiter st h
theorem turn_tuple {P : Program} {w : World} {K : PySem.W.Frag} {tg : Expr} (a it : Addr) : Turn P w K tg (Itt K a) [it] it (fun i h => h.IsTupleIter it a i) where
  mem := by simp
  obj := fun i h st b hb => by
    have e : b = it := by simpa using hb
    subst e
    obtain ⟨o, e, c, d⟩ := st
    exact ⟨o, e, fun v z => by rw [d] at z; cases z⟩
  keep := fun i h h' st k => st.at fun o e => k it (by simp) o e
  item := by
    intro X hP hw hK hc i pins s σ H E I hf st hg
    subst hP hw hK
    obtain ⟨xs, x, hq, hx⟩ := hg
    obtain ⟨its, rv, p, hz⟩ := I.tuple hq
    obtain ⟨u, hu, ru⟩ := rv.get hx
    obtain ⟨f0, f1, f2, f3, f4, f5⟩ := hf it (by simp)
    refine wpAny_pyNext_tuple_item st (show s.heap.IsTuple a its.toArray from p) (x := u) (by simpa using hu) fun h' st' sb => ?_
    have I1 : Inv X pins σ H { s with heap := h' } := I.turned (t' := s.toks) (fun b o hb e => (sb.2 b hb).trans e) f0 f1 f3 f4 f5
    obtain ⟨o, e, c, d⟩ := id st'
    exact ⟨u, rfl, go_of (s := { s with heap := h' }) e c d (by decide) ⟨x, H, I1, ru, ⟨rfl, fun ys hy => by rw [I.tuple_inj hy hq]; exact hx⟩, st', fun b hb => (hf b hb).1⟩⟩
  done := by
    intro X hP hw hK hc i pins s σ H E I hf st hg
    subst hP hw hK
    obtain ⟨xs, hq, hx⟩ := hg
    obtain ⟨its, rv, p, hz⟩ := I.tuple hq
    obtain ⟨f0, f1, f2, f3, f4, f5⟩ := hf it (by simp)
    have hl := rv.length
    exact wpAny_pyNext_tuple_end (I.ok.hd hc) st (show s.heap.IsTuple a its.toArray from p) (by simp; omega) fun h' eb => ⟨rfl, I.turned (t' := s.toks) (fun b o hb e => eb b o hb e) f0 f1 f3 f4 f5⟩
  self := fun _ _ _ _ _ st h => wpAny_pyIter_tupleiter st h
theorem turn_range {P : Program} {w : World} {K : PySem.W.Frag} {tg : Expr} (it : Addr) (lo : Int) (n : Nat) : Turn P w K tg (Itr lo n) [it] it (fun i h => IsRangeIter h it (lo + (i : Nat) * 1) ((n : Int) - (i : Nat)) 1) where
  mem := by simp
  obj := fun i h st b hb => by
    have e : b = it := by simpa using hb
    subst e
    exact ⟨_, st, fun v z => by
      have z' : Data.fields _ = Data.cell v := z
      cases z'⟩
  keep := fun i h h' st k => k it (by simp) _ st
  item := by
    intro X hP hw hK hc i pins s σ H E I hf st hg
    subst hP hw hK
    obtain ⟨f0, f1, f2, f3, f4, f5⟩ := hf it (by simp)
    have W := Walks.range (prog := X.prog) (w := X.w) (I.ok.hd hc) it lo 1 n
    refine W.item i s _ _ hg st fun v h' tk hv st' kk => ?_
    obtain ⟨t, rfl⟩ := hv
    have I1 : Inv X pins σ H { s with heap := h', toks := tk } := I.turned (fun b o hb e => kk b o (by simpa using hb) e) f0 f1 f3 f4 f5
    refine ⟨_, rfl, go_of (s := { s with heap := h', toks := tk }) (n := "range_iterator") st' rfl rfl (by decide) ⟨.int (lo + i), H, I1, ⟨t, ?_⟩, ⟨rfl, rfl⟩, st', fun b hb => (hf b hb).1⟩⟩
    rw [Int.mul_one]
  done := by
    intro X hP hw hK hc i pins s σ H E I hf st hg
    subst hP hw hK
    obtain ⟨f0, f1, f2, f3, f4, f5⟩ := hf it (by simp)
    exact wpAny_pyNext_range_end (I.ok.hd hc) st (by have : n ≤ i := hg; omega) fun h' eb => ⟨rfl, I.turned (t' := s.toks) (fun b o hb e => eb b o hb e) f0 f1 f3 f4 f5⟩
  self := fun _ _ _ _ _ st h => wpAny_pyIter_rangeiter st h
end L2

namespace L2
open PySem PySem.Spec PyProof.Rows
section
variable {X : Cx} {tg : Expr}
/-- a range object just made, walked -/
theorem range_it {pins : List (Addr × Obj)} {σ : St} {H : Hp} {s : Shared} {R : It → Hp → Prop} {E : Value → Shared → Prop} {lo hi : Int} {t u v : Tok} {tk : Nat} (I : Inv X pins σ H s) (h1 : -(2 ^ 62) ≤ lo) (h2 : lo < 2 ^ 62) (h3 : -(2 ^ 62) ≤ hi) (h4 : hi < 2 ^ 62)
    (q : R (Itr lo (hi - lo).toNat) H) : wpAny (model X.prog X.w) X.A (pyIter (.ref s.heap.objs.size)) (PIE X pins σ tg R) E { s with heap := s.heap.push { cls := .type "range", data := .fields #[.int lo t, .int hi u, .int 1 v] }, toks := tk } := by
  refine wpAny_pyIter_range (IsRange.new ..) (small_one h1 h2 h3 h4) ?_
  have I1 : Inv X pins σ H { s with heap := s.heap.push { cls := .type "range", data := .fields #[.int lo t, .int hi u, .int 1 v] }, toks := tk } := I.kept fun b o e => Heap.get?_push_of_some _ e
  refine ⟨(s.heap.push { cls := .type "range", data := .fields #[.int lo t, .int hi u, .int 1 v] }).objs.size, [(s.heap.push { cls := .type "range", data := .fields #[.int lo t, .int hi u, .int 1 v] }).objs.size], _, _, H, rfl,
    I1.kept (t' := tk) fun b o e => Heap.get?_push_of_some _ e, turn_range _ lo (hi - lo).toNat, ?_, fun b hb => ?_, q⟩
  · have e1 : lo + ((0 : Nat) : Int) * 1 = lo := by simp
    have e2 : (((hi - lo).toNat : Nat) : Int) - ((0 : Nat) : Int) = Builtin.Range.rangeSize lo hi 1 := by rw [rangeSize_one]; split <;> omega
    show IsRangeIter _ _ (lo + ((0 : Nat) : Int) * 1) ((((hi - lo).toNat : Nat) : Int) - ((0 : Nat) : Int)) 1
    rw [e1, e2]
    exact Heap.get?_push_size _ rfl
  · have e : b = (s.heap.push { cls := .type "range", data := .fields #[.int lo t, .int hi u, .int 1 v] }).objs.size := by simpa using hb
    subst e
    exact I1.fpOk (Nat.le_refl _) (I1.hok.fresh (Nat.le_refl _))
noncomputable def iRng1 (ta : TA) : TI := fun σ H R => ta σ H fun vs H1 => ∃ j : Int, vs = [.int j] ∧ -(2 ^ 62) ≤ j ∧ j < 2 ^ 62 ∧ R (Itr 0 j.toNat) H1
theorem pi_range1 {a : Expr} {ta : TA} {p pos : Pos} (hg : Gl X "range") (hm : X.mg "range" = none) (ha : PA X [a] ta) (hs : starEach [a] X.env = [(false, eval a X.env)] := by rfl) : PI X tg (.Call (.Name "range" p) [a] [] pos) (iRng1 ta) := by
  intro pins s σ H R I h
  refine Call_ (ld_blt I hg hm boot_range (PyProof.Rows.callWith_type1 (thn (ha pos pins s σ H _ I h) fun us s1 ⟨vs, H1, I1, r1, q1⟩ => ?_) hs rfl))
  obtain ⟨j, e, q1, q2, q⟩ := q1
  subst e
  cases r1 with
  | cons r rr =>
    cases rr
    obtain ⟨t, rfl⟩ := r
    exact call_range_1 (range_it I1 (by omega) (by omega) q1 q2 (by simpa using q))
/-! ### for -/
/-- W: the invariant by the turn and a measure; N: what the body is to reach -/
noncomputable def tFor (wi : TI) (g : TG) (tb : TS) : TS := fun D σ H => wi σ H fun J H1 => ∃ W : Nat → Nat → St → Hp → Prop, (∃ m, W 0 m σ H1) ∧ ∀ i m σ H, W i m σ H →
  (J.stop i H ∧ D.nx σ H) ∨ (J.go i H ∧ ∃ N : St → Hp → Prop, (∀ σ' H', N σ' H' → ∃ m', m' < m ∧ W (i + 1) m' σ' H') ∧ ∀ x H', J.yld i H x H' → g x σ H' fun σ2 H2 => tb { D with nx := N, ct := N, bk := D.nx } σ2 H2)
/-- the records at fp as they stand -/
noncomputable def pinsAt (fp : List Addr) (h : Heap) : List (Addr × Obj) := fp.filterMap fun b => (h.get? b).map fun o => (b, o)
theorem mem_pinsAt {fp : List Addr} {h : Heap} {b : Addr} {o : Obj} (hb : b ∈ fp) (e : h.get? b = some o) : (b, o) ∈ pinsAt fp h := List.mem_filterMap.mpr ⟨b, hb, by rw [e]; rfl⟩
theorem of_pinsAt {fp : List Addr} {h : Heap} {p : Addr × Obj} (hp : p ∈ pinsAt fp h) : p.1 ∈ fp ∧ h.get? p.1 = some p.2 := by
  obtain ⟨b, hb, e⟩ := List.mem_filterMap.mp hp
  cases q : h.get? b with
  | none => rw [q] at e; cases e
  | some o =>
    rw [q] at e
    have e' : (b, o) = p := Option.some.inj e
    subst e'
    exact ⟨hb, q⟩
theorem Inv.pinned {pins : List (Addr × Obj)} {σ : St} {H : Hp} {s : Shared} {fp : List Addr} (I : Inv X pins σ H s) (hf : ∀ b ∈ fp, FpOk X pins H b) (ho : ∀ b ∈ fp, ∃ o, s.heap.get? b = some o ∧ ∀ v, o.data ≠ .cell v) : Inv X (pins ++ pinsAt fp s.heap) σ H s :=
  I.pins_of fun p hp => (List.mem_append.mp hp).elim (fun z => I.pin p (List.mem_append_right _ z)) fun z => by
    obtain ⟨hb, e⟩ := of_pinsAt z
    obtain ⟨f0, f1, f2, _⟩ := hf p.1 hb
    obtain ⟨o, e', d⟩ := ho p.1 hb
    rw [e] at e'; cases e'
    exact ⟨e, f0, f1, f2, d⟩
theorem Inv.unpinned {pins pl : List (Addr × Obj)} {σ : St} {H : Hp} {s : Shared} (I : Inv X (pins ++ pl) σ H s) : Inv X pins σ H s := I.pins_of fun p hp => I.pin p (List.mem_append_right _ (List.mem_append_left _ hp))
theorem ps_for {iter : Expr} {body : List Stmt} {wi : TI} {g : TG} {tb : TS} {pos : Pos} (hp : PassesOwn (model X.prog X.w) X.A X.env X.xe) (hc : X.calm = true) (hi : PI X tg iter wi) (hg : PG X tg g) (hb : PSs X body tb)
    (hs : ∀ x, foldedSetIterable iter X.env x = pure x := by intro _; rfl) : PS X (.For tg iter body [] pos) (tFor wi g tb) := by
  intro pins s σ H D I h
  refine wpAny_For (thn (hi pins s σ H _ I h) fun v s1 h1 => thn h1 fun itv s2 h2 => ?_) hs
  obtain ⟨it, fp, tn, J, H2, e, I2, T, st2, f2, W, ⟨m0, w0⟩, turn⟩ := h2
  subst e
  -- what stays true of the iterator's objects through the loop
  have stat : ∀ {H' : Hp}, (∀ b ∈ fp, H' b = none) → ∀ b ∈ fp, FpOk X pins H' b := fun hn b hb => ⟨hn b hb, (f2 b hb).2⟩
  refine codeAny_forLoop_any (fun n s' => ∃ i σ' H', Inv X pins σ' H' s' ∧ tn i s'.heap ∧ (∀ b ∈ fp, H' b = none) ∧ W i n σ' H') ?_ m0 ⟨0, σ, H2, I2, st2, fun b hb => (f2 b hb).1, w0⟩
  rintro n s3 ⟨i, σ3, H3, I3, st3, fr3, w3⟩
  rcases turn i n σ3 H3 w3 with ⟨stop, qn⟩ | ⟨go, N, hN, step⟩
  · refine wpAny_passesOwn hp (thn (T.done X rfl rfl rfl hc i pins s3 σ3 H3 X.xe I3 (stat fr3) st3 stop) fun r s4 ⟨hr, I4⟩ => ?_)
    subst hr
    exact wpAny_execs_nil ⟨σ3, H3, I4, qn⟩
  · refine wpAny_passesOwn hp (thn (T.item X rfl rfl rfl hc i pins s3 σ3 H3 X.xe I3 (stat fr3) st3 go) fun r s4 ⟨u, hr, h4⟩ => ?_)
    subst hr
    refine wpAny_passesOwn hp (thn h4 fun _ s5 ⟨x, H5, I5, r5, y5, st5, fr5⟩ => ?_)
    have I5' := I5.pinned (stat fr5) (T.obj _ _ st5)
    refine wpAny_passesOwn hp (thn (hg _ s5 σ3 H5 x u _ I5' r5 (step x H5 y5)) fun _ s6 ⟨σ6, H6, I6, q6⟩ => ?_)
    refine wpAny_passesOwn hp (thn (hb _ s6 σ6 H6 _ I6 q6) fun f s7 q7 => ?_)
    have again : ∀ {σ7 : St} {H7 : Hp}, Inv X (pins ++ pinsAt fp s5.heap) σ7 H7 s7 → N σ7 H7 → ∃ m, m < n ∧ ∃ i σ' H', Inv X pins σ' H' s7 ∧ tn i s7.heap ∧ (∀ b ∈ fp, H' b = none) ∧ W i m σ' H' := fun {σ7 H7} I7 n7 => by
      obtain ⟨m', hm, w7⟩ := hN σ7 H7 n7
      refine ⟨m', hm, i + 1, σ7, H7, I7.unpinned, T.keep _ _ _ st5 fun b hb o e => (I7.pin (b, o) (List.mem_append_right _ (List.mem_append_right _ (mem_pinsAt hb e)))).1, fun b hb => ?_, w7⟩
      obtain ⟨o, e, d⟩ := T.obj _ _ st5 b hb
      exact (I7.pin (b, o) (List.mem_append_right _ (List.mem_append_right _ (mem_pinsAt hb e)))).2.1
    cases f with
    | next => obtain ⟨σ7, H7, I7, n7⟩ := q7; exact again I7 n7
    | cont => obtain ⟨σ7, H7, I7, n7⟩ := q7; exact again I7 n7
    | brk => obtain ⟨σ7, H7, I7, q7⟩ := q7; exact ⟨σ7, H7, I7.unpinned, q7⟩
    | ret v => obtain ⟨x7, σ7, H7, I7, r7, q7⟩ := q7; exact ⟨x7, σ7, H7, I7.unpinned, r7, q7⟩
end

/-! ### the forms one uses -/
/-- over a list that the body leaves as it is -/
theorem for_list {K : PySem.W.Frag} {a : Addr} {xs : List V} {g : TG} {tb : TS} {D : Ends} {σ : St} {H : Hp} (Pv : Nat → St → Hp → Prop) (h0 : Pv 0 σ H) (hl : ∀ i σ H, i ≤ xs.length → Pv i σ H → SqL K H a xs)
    (hs : ∀ i x σ H, xs[i]? = some x → Pv i σ H → g x σ H fun σ2 H2 => tb { D with nx := Pv (i + 1), ct := Pv (i + 1), bk := D.nx } σ2 H2) (hd : ∀ σ H, Pv xs.length σ H → D.nx σ H) :
    ∃ W : Nat → Nat → St → Hp → Prop, (∃ m, W 0 m σ H) ∧ ∀ i m σ H, W i m σ H →
      ((Itl K a).stop i H ∧ D.nx σ H) ∨ ((Itl K a).go i H ∧ ∃ N : St → Hp → Prop, (∀ σ' H', N σ' H' → ∃ m', m' < m ∧ W (i + 1) m' σ' H') ∧ ∀ x H', (Itl K a).yld i H x H' → g x σ H' fun σ2 H2 => tb { D with nx := N, ct := N, bk := D.nx } σ2 H2) := by
  refine ⟨fun i m σ H => m = xs.length - i ∧ i ≤ xs.length ∧ Pv i σ H, ⟨xs.length, by simp, Nat.zero_le _, h0⟩, ?_⟩
  rintro i m σ H ⟨rfl, hi, p⟩
  have q := hl i σ H hi p
  by_cases hlt : i < xs.length
  · refine .inr ⟨⟨xs, xs[i], q, by simp [hlt]⟩, Pv (i + 1), fun σ' H' p' => ⟨xs.length - (i + 1), by omega, rfl, hlt, p'⟩, fun x H' y => ?_⟩
    obtain ⟨e, y⟩ := y
    subst e
    exact hs i x σ _ (y xs q) p
  · have e : i = xs.length := by omega
    subst e
    exact .inl ⟨⟨xs, q, Nat.le_refl _⟩, hd σ H p⟩
theorem for_tup {K : PySem.W.Frag} {a : Addr} {xs : List V} {g : TG} {tb : TS} {D : Ends} {σ : St} {H : Hp} (Pv : Nat → St → Hp → Prop) (h0 : Pv 0 σ H) (hl : ∀ i σ H, i ≤ xs.length → Pv i σ H → SqT K H a xs)
    (hs : ∀ i x σ H, xs[i]? = some x → Pv i σ H → g x σ H fun σ2 H2 => tb { D with nx := Pv (i + 1), ct := Pv (i + 1), bk := D.nx } σ2 H2) (hd : ∀ σ H, Pv xs.length σ H → D.nx σ H) :
    ∃ W : Nat → Nat → St → Hp → Prop, (∃ m, W 0 m σ H) ∧ ∀ i m σ H, W i m σ H →
      ((Itt K a).stop i H ∧ D.nx σ H) ∨ ((Itt K a).go i H ∧ ∃ N : St → Hp → Prop, (∀ σ' H', N σ' H' → ∃ m', m' < m ∧ W (i + 1) m' σ' H') ∧ ∀ x H', (Itt K a).yld i H x H' → g x σ H' fun σ2 H2 => tb { D with nx := N, ct := N, bk := D.nx } σ2 H2) := by
  refine ⟨fun i m σ H => m = xs.length - i ∧ i ≤ xs.length ∧ Pv i σ H, ⟨xs.length, by simp, Nat.zero_le _, h0⟩, ?_⟩
  rintro i m σ H ⟨rfl, hi, p⟩
  have q := hl i σ H hi p
  by_cases hlt : i < xs.length
  · refine .inr ⟨⟨xs, xs[i], q, by simp [hlt]⟩, Pv (i + 1), fun σ' H' p' => ⟨xs.length - (i + 1), by omega, rfl, hlt, p'⟩, fun x H' y => ?_⟩
    obtain ⟨e, y⟩ := y
    subst e
    exact hs i x σ _ (y xs q) p
  · have e : i = xs.length := by omega
    subst e
    exact .inl ⟨⟨xs, q, Nat.le_refl _⟩, hd σ H p⟩
end L2

namespace L2
open PySem PySem.Spec PyProof.Rows

noncomputable abbrev R2 := V → V → Hp → VK → Prop
/-- a two-place operation on values: f is binaryOp op, inplaceOp op or compareOp op -/
noncomputable def OpR (X : Cx) (f : Value → Value → Sem Value) (r : R2) : Prop :=
  ∀ (pins : List (Addr × Obj)) (s : Shared) (σ : St) (H : Hp) (x y : V) (v u : Value) (Q : VK), Inv X pins σ H s → RelV x v → RelV y u → r x y H Q →
    wpAny (model X.prog X.w) X.A (f v u) (EP X pins σ Q) X.xe s
/-- a one-place operation -/
noncomputable def UnR (X : Cx) (f : Value → Sem Value) (r : V → Hp → VK → Prop) : Prop :=
  ∀ (pins : List (Addr × Obj)) (s : Shared) (σ : St) (H : Hp) (x : V) (v : Value) (Q : VK), Inv X pins σ H s → RelV x v → r x H Q →
    wpAny (model X.prog X.w) X.A (f v) (EP X pins σ Q) X.xe s
/-- a call of a value that is known (a builtin, a type) with values -/
noncomputable def CallR (X : Cx) (f : Value) (r : List V → Hp → VK → Prop) : Prop :=
  ∀ (pins : List (Addr × Obj)) (s : Shared) (σ : St) (H : Hp) (xs : List V) (us : List Value) (Q : VK), Inv X pins σ H s → Vals xs us → r xs H Q →
    wpAny (model X.prog X.w) X.A (call f us) (EP X pins σ Q) X.xe s
noncomputable def tOp (r : R2) (ta tb : TE) : TE := fun σ H Q => ta σ H fun x H1 => tb σ H1 fun y H2 => r x y H2 Q
noncomputable def tUn (r : V → Hp → VK → Prop) (ta : TE) : TE := fun σ H Q => ta σ H fun x H1 => r x H1 Q
/-- ints in, under C, and a value out -/
noncomputable def rI (C : Int → Int → Prop) (g : Int → Int → V) : R2 := fun x y H Q => ∃ i j, x = .int i ∧ y = .int j ∧ C i j ∧ Q (g i j) H
noncomputable def rI0 (g : Int → Int → V) : R2 := fun x y H Q => ∃ i j, x = .int i ∧ y = .int j ∧ Q (g i j) H
noncomputable def rU (g : Int → V) : V → Hp → VK → Prop := fun x H Q => ∃ i, x = .int i ∧ Q (g i) H

section
variable {X : Cx} {a b c : Expr} {ta tb tc : TE} {pos : Pos}

theorem binT (ha : PE X a ta) (hb : PE X b tb) {pins : List (Addr × Obj)} {s : Shared} {σ : St} {H : Hp} {R : V → V → Hp → Prop} (I : Inv X pins σ H s)
    (h : ta σ H fun x H1 => tb σ H1 fun y H2 => R x y H2) {Q : Value → Shared → Prop} {f : Value → Value → Sem Value}
    (hf : ∀ v u s2 x y H2, Inv X pins σ H2 s2 → RelV x v → RelV y u → R x y H2 → wpAny (model X.prog X.w) X.A (f v u) Q X.xe s2) :
    wpAny (model X.prog X.w) X.A (eval a X.env) (fun v s₁ => wpAny (model X.prog X.w) X.A (eval b X.env) (fun u s₂ => wpAny (model X.prog X.w) X.A (f v u) Q X.xe s₂) X.xe s₁) X.xe s := by
  refine thn (ha pins s σ H _ I h) fun v s1 ⟨x, H1, I1, r1, q1⟩ => ?_
  refine thn (hb pins s1 σ H1 _ I1 q1) fun u s2 ⟨y, H2, I2, r2, q2⟩ => ?_
  exact hf v u s2 x y H2 I2 r1 r2 q2

theorem pe_op {op : Operator} {r : R2} (ho : OpR X (binaryOp op) r) (ha : PE X a ta) (hb : PE X b tb) : PE X (.BinOp a op b pos) (tOp r ta tb) := by
  intro pins s σ H Q I h
  exact wpAny_BinOp (binT ha hb I h fun v u s2 x y H2 I2 rx ry q => ho pins s2 σ H2 x y v u Q I2 rx ry q)
theorem pe_un {op : UnaryOp} {r : V → Hp → VK → Prop} (ho : UnR X (unaryOp op) r) (ha : PE X a ta) : PE X (.UnaryOp op a pos) (tUn r ta) := by
  intro pins s σ H Q I h
  exact UnaryOp_ (thn (ha pins s σ H _ I h) fun v s1 ⟨x, H1, I1, r1, q1⟩ => ho pins s1 σ H1 x v Q I1 r1 q1)
/-! ### ints -/
theorem opI {f : Value → Value → Sem Value} {C : Int → Int → Prop} {g : Int → Int → Int}
    (rule : ∀ (i j : Int) (t u : Tok) (s : Shared) (Q : Value → Shared → Prop) (E : Value → Shared → Prop), C i j → Q (.int (g i j) s.toks) { s with toks := s.toks + 1 } → wpAny (model X.prog X.w) X.A (f (.int i t) (.int j u)) Q E s) :
    OpR X f (rI C fun i j => .int (g i j)) := by
  intro pins s σ H x y v u Q I rx ry h
  obtain ⟨i, j, rfl, rfl, hc, q⟩ := h
  obtain ⟨t, rfl⟩ := rx
  obtain ⟨t', rfl⟩ := ry
  exact rule i j t t' s _ _ hc ⟨.int (g i j), H, I.tok _, ⟨_, rfl⟩, q⟩
theorem opI0 {f : Value → Value → Sem Value} {g : Int → Int → Int}
    (rule : ∀ (i j : Int) (t u : Tok) (s : Shared) (Q : Value → Shared → Prop) (E : Value → Shared → Prop), Q (.int (g i j) s.toks) { s with toks := s.toks + 1 } → wpAny (model X.prog X.w) X.A (f (.int i t) (.int j u)) Q E s) :
    OpR X f (rI0 fun i j => .int (g i j)) := by
  intro pins s σ H x y v u Q I rx ry h
  obtain ⟨i, j, rfl, rfl, q⟩ := h
  obtain ⟨t, rfl⟩ := rx
  obtain ⟨t', rfl⟩ := ry
  exact rule i j t t' s _ _ ⟨.int (g i j), H, I.tok _, ⟨_, rfl⟩, q⟩
theorem opB0 {f : Value → Value → Sem Value} {g : Int → Int → Bool}
    (rule : ∀ (i j : Int) (t u : Tok) (s : Shared) (Q : Value → Shared → Prop) (E : Value → Shared → Prop), Q (.bool (g i j)) s → wpAny (model X.prog X.w) X.A (f (.int i t) (.int j u)) Q E s) :
    OpR X f (rI0 fun i j => .bl (g i j)) := by
  intro pins s σ H x y v u Q I rx ry h
  obtain ⟨i, j, rfl, rfl, q⟩ := h
  obtain ⟨t, rfl⟩ := rx
  obtain ⟨t', rfl⟩ := ry
  exact rule i j t t' s _ _ ⟨.bl (g i j), H, I, rfl, q⟩

noncomputable def CPow (i j : Int) : Prop := 0 ≤ j ∧ j ≤ 1000000 ∧ i.natAbs < 2 ^ 64
noncomputable def CMul (i j : Int) : Prop := (-(2 ^ 64) < i ∧ i < 2 ^ 64) ∨ (-(2 ^ 64) < j ∧ j < 2 ^ 64)
theorem CMul.ok {i j : Int} (h : CMul i j) : IntMulOk i j := by
  rcases h with ⟨h1, h2⟩ | ⟨h1, h2⟩
  · exact .of_left (intBits_le_64 h1 h2)
  · exact .of_right (intBits_le_64 h1 h2)
theorem op_add : OpR X (binaryOp .Add) (rI0 fun i j => .int (i + j)) := opI0 fun _ _ _ _ _ _ _ q => add_int q
theorem op_sub : OpR X (binaryOp .Sub) (rI0 fun i j => .int (i - j)) := opI0 fun _ _ _ _ _ _ _ q => sub_int q
theorem op_modN : OpR X (binaryOp .Mod) (rI (fun _ j => j ≠ 0) fun i j => .int (i.fmod j)) := opI fun _ _ _ _ _ _ _ hc q => mod_int' hc q
theorem op_pow : OpR X (binaryOp .Pow) (rI CPow fun i j => .int (i ^ j.toNat)) := opI fun _ _ _ _ _ _ _ hc q => pow_int_small hc.1 hc.2.1 hc.2.2 q
theorem unI {f : Value → Sem Value} {g : Int → Int}
    (rule : ∀ (i : Int) (t : Tok) (s : Shared) (Q : Value → Shared → Prop) (E : Value → Shared → Prop), Q (.int (g i) s.toks) { s with toks := s.toks + 1 } → wpAny (model X.prog X.w) X.A (f (.int i t)) Q E s) :
    UnR X f (rU fun i => .int (g i)) := by
  intro pins s σ H x v Q I rx h
  obtain ⟨i, rfl, q⟩ := h
  obtain ⟨t, rfl⟩ := rx
  exact rule i t s _ _ ⟨.int (g i), H, I.tok _, ⟨_, rfl⟩, q⟩
theorem un_neg : UnR X (unaryOp .USub) (rU fun i => .int (-i)) := unI fun _ _ _ _ _ q => neg_int q
/-! ### bools among ints: n += (a < b) -/
end

/-! ### comparisons -/
/-- the scalars that == tells apart as data does -/
noncomputable def scal : V → V → Bool
  | .non, .non => true | .non, .int _ => true | .int _, .non => true | .non, .bl _ => true | .bl _, .non => true | .non, .str _ => true | .str _, .non => true
  | .int _, .int _ => true | .bl _, .bl _ => true | .str _, .str _ => true | .byt _, .byt _ => true
  | .int _, .str _ => true | .str _, .int _ => true | .bl _, .str _ => true | .str _, .bl _ => true
  | _, _ => false
noncomputable def rEq : R2 := fun x y H Q => scal x y = true ∧ Q (.bl (decide (x = y))) H
theorem dec_int {i j : Int} : decide (V.int i = V.int j) = (i == j) := by
  rw [Bool.eq_iff_iff]
  simp
theorem dec_bl {i j : Bool} : decide (V.bl i = V.bl j) = (i == j) := by
  rw [Bool.eq_iff_iff]
  simp
theorem dec_str {i j : Str} : decide (V.str i = V.str j) = (i == j) := by
  rw [Bool.eq_iff_iff]
  simp
theorem dec_byt {i j : Array UInt8} : decide (V.byt i = V.byt j) = (i.toList == j.toList) := by
  rw [Bool.eq_iff_iff]
  cases i
  cases j
  simp

section
variable {X : Cx} {a b c : Expr} {ta tb tc : TE} {pos : Pos}
theorem fin_bl {pins : List (Addr × Obj)} {σ : St} {H : Hp} {s : Shared} {Q : VK} {k k' : Bool} (I : Inv X pins σ H s) (q : Q (.bl k) H) (e : k = k') : EP X pins σ Q (.bool k') s := by
  subst e
  exact ⟨.bl k, H, I, rfl, q⟩
theorem op_eq : OpR X (compareOp .Eq) rEq := by
  intro pins s σ H x y v u Q I rx ry h
  obtain ⟨hs, q⟩ := h
  cases x with
  | non =>
    cases rx
    cases y with
    | non => cases ry; exact PySem.EqNone.eq_none_none (fin_bl I q (by simp))
    | bl j => cases ry; exact PySem.EqNone.eq_none_bool (fin_bl I q (by simp))
    | int j => obtain ⟨t', rfl⟩ := ry; exact PySem.EqNone.eq_none_int (fin_bl I q (by simp))
    | str j => obtain ⟨t', rfl⟩ := ry; exact PySem.EqNone.eq_none_str (fin_bl I q (by simp))
    | _ => exact absurd (show false = true from hs) Bool.false_ne_true
  | bl i =>
    cases rx
    cases y with
    | non => cases ry; exact PySem.EqNone.eq_bool_none (fin_bl I q (by simp))
    | bl j => cases ry; exact eq_bool (fin_bl I q dec_bl)
    | str j => obtain ⟨t', rfl⟩ := ry; exact PySem.EqMixed.eq_bool_str (fin_bl I q (by simp))
    | _ => exact absurd (show false = true from hs) Bool.false_ne_true
  | int i =>
    obtain ⟨t, rfl⟩ := rx
    cases y with
    | non => cases ry; exact PySem.EqNone.eq_int_none (fin_bl I q (by simp))
    | int j => obtain ⟨t', rfl⟩ := ry; exact eq_int (fin_bl I q dec_int)
    | str j => obtain ⟨t', rfl⟩ := ry; exact PySem.EqMixed.eq_int_str (fin_bl I q (by simp))
    | _ => exact absurd (show false = true from hs) Bool.false_ne_true
  | str i =>
    obtain ⟨t, rfl⟩ := rx
    cases y with
    | non => cases ry; exact PySem.EqNone.eq_str_none (fin_bl I q (by simp))
    | bl j => cases ry; exact PySem.EqMixed.eq_str_bool (fin_bl I q (by simp))
    | int j => obtain ⟨t', rfl⟩ := ry; exact PySem.EqMixed.eq_str_int (fin_bl I q (by simp))
    | str j => obtain ⟨t', rfl⟩ := ry; exact eq_str (fin_bl I q dec_str)
    | _ => exact absurd (show false = true from hs) Bool.false_ne_true
  | byt i =>
    obtain ⟨t, rfl⟩ := rx
    cases y with
    | byt j => obtain ⟨t', rfl⟩ := ry; exact PySem.W.eq_bytes (fin_bl I q dec_byt)
    | _ => exact absurd (show false = true from hs) Bool.false_ne_true
  | _ => cases y <;> exact absurd (show false = true from hs) Bool.false_ne_true
theorem op_lt : OpR X (compareOp .Lt) (rI0 fun i j => .bl (decide (i < j))) := opB0 fun _ _ _ _ _ _ _ q => lt_int q
theorem op_le : OpR X (compareOp .LtE) (rI0 fun i j => .bl (decide (i ≤ j))) := opB0 fun _ _ _ _ _ _ _ q => le_int q
theorem op_gt : OpR X (compareOp .Gt) (rI0 fun i j => .bl (decide (j < i))) := opB0 fun _ _ _ _ _ _ _ q => gt_int q
/-- is None, is not None: the right side a value none -/
theorem op_isN : OpR X (compareOp .Is) (fun x y H Q => y = .non ∧ Q (.bl (decide (x = .non))) H) := by
  intro pins s σ H x y v u Q I rx ry h
  obtain ⟨rfl, q⟩ := h
  cases ry
  refine is_none_gen (fin_bl I q ?_)
  cases x <;> first
    | (cases rx; rfl)
    | (obtain ⟨t, rfl⟩ := rx; rfl)
theorem op_notin_str : OpR X (compareOp .NotIn) (fun x y H Q => ∃ i j, x = .str i ∧ y = .str j ∧ Q (.bl (!(!(Builtin.Str.occurrences j i 0 j.length 1).isEmpty))) H) := by
  intro pins s σ H x y v u Q I rx ry h
  obtain ⟨i, j, rfl, rfl, q⟩ := h
  obtain ⟨t, rfl⟩ := rx
  obtain ⟨t', rfl⟩ := ry
  exact notIn_str (fin_bl I q rfl)
/-- two rules for one operation: by cases -/
theorem OpR.or {f : Value → Value → Sem Value} {r r' : R2} (h : OpR X f r) (h' : OpR X f r') : OpR X f (fun x y H Q => r x y H Q ∨ r' x y H Q) := by
  intro pins s σ H x y v u Q I rx ry q
  rcases q with q | q
  · exact h pins s σ H x y v u Q I rx ry q
  · exact h' pins s σ H x y v u Q I rx ry q

theorem nomark (b : Expr) {op : CmpOp} (h : op ≠ .In := by decide) (h2 : op ≠ .NotIn := by decide) : behindInMarks op b = false := by
  have e1 : (op == CmpOp.In) = false := by cases op <;> first | rfl | exact absurd rfl h
  have e2 : (op == CmpOp.NotIn) = false := by cases op <;> first | rfl | exact absurd rfl h2
  cases b <;> simp [behindInMarks, e1, e2]
/-- a comparison as a value; hm: nomark b, or (for in, not in) by with_unfolding_all rfl -/
theorem pe_cmpR {op : CmpOp} {r : R2} (ho : OpR X (compareOp op) r) (ha : PE X a ta) (hb : PE X b tb) (hm : behindInMarks op b = false) : PE X (.Compare a [op] [b] pos) (tOp r ta tb) := by
  intro pins s σ H Q I h
  exact wpAny_Compare1 (binT ha hb I h fun v u s2 x y H2 I2 rx ry q => ho pins s2 σ H2 x y v u Q I2 rx ry q) hm
/-- a reading of a value as a test -/
noncomputable def tTest (t : TE) : TT := fun σ H Q => t σ H fun x H' => ∃ k, x = .bl k ∧ Q k H'
theorem pt_cmpR {op : CmpOp} {r : R2} (ho : OpR X (compareOp op) r) (ha : PE X a ta) (hb : PE X b tb) (hm : behindInMarks op b = false) : PT X (.Compare a [op] [b] pos) (tTest (tOp r ta tb)) := by
  intro pins s σ H Q I h
  refine wpAny_isTrue_Compare1 (thn (ha pins s σ H _ I h) fun v s1 ⟨x, H1, I1, r1, q1⟩ => thn (hb pins s1 σ H1 _ I1 q1) fun u s2 ⟨y, H2, I2, r2, q2⟩ =>
    thn (ho pins s2 σ H2 x y v u _ I2 r1 r2 q2) fun c s3 ⟨z, H3, I3, r3, k, e, q3⟩ => ?_) hm
  subst e
  cases r3
  exact wpAny_truthy_bool ⟨H3, I3, q3⟩
/-! ### truth -/
theorem line63 : (sizeLine : Nat) < 2 ^ 63 := by rw [sizeLine_eq]; decide
/-! ### strs and bytes -/
theorem op_add_str : OpR X (binaryOp .Add) (fun x y H Q => ∃ i j, x = .str i ∧ y = .str j ∧ i.length + j.length ≤ sizeLine ∧ Q (.str (i ++ j)) H) := by
  intro pins s σ H x y v u Q I rx ry h
  obtain ⟨i, j, rfl, rfl, hz, q⟩ := h
  obtain ⟨t, rfl⟩ := rx
  obtain ⟨t', rfl⟩ := ry
  exact add_str (fun t' tk => ⟨.str (i ++ j), H, I.tok _, ⟨_, rfl⟩, q⟩) hz
/-! ### scalar builtins, by CallR -/
theorem vals1 {x : V} {us : List Value} (r : Vals [x] us) : ∃ u, us = [u] ∧ RelV x u := by
  cases r with
  | cons r1 r2 => cases r2; exact ⟨_, rfl, r1⟩
theorem vals2 {x y : V} {us : List Value} (r : Vals [x, y] us) : ∃ u w', us = [u, w'] ∧ RelV x u ∧ RelV y w' := by
  cases r with
  | cons r1 r2 =>
    cases r2 with
    | cons r3 r4 => cases r4; exact ⟨_, _, rfl, r1, r3⟩
theorem call_abs : CallR X (.builtin "abs") (fun xs H Q => ∃ i, xs = [.int i] ∧ Q (.int (if i < 0 then -i else i)) H) := by
  intro pins s σ H xs us Q I r h
  obtain ⟨i, rfl, q⟩ := h
  obtain ⟨u, rfl, t, rfl⟩ := vals1 r
  exact call_abs_int fun u tk => ⟨.int (if i < 0 then -i else i), H, I.tok _, ⟨_, rfl⟩, q⟩
theorem call_max2 (hc : X.calm = true) : CallR X (.builtin "max") (fun xs H Q => ∃ i j, xs = [.int i, .int j] ∧ Q (.int (if j > i then j else i)) H) := by
  intro pins s σ H xs us Q I r h
  obtain ⟨i, j, rfl, q⟩ := h
  obtain ⟨u, w', rfl, ⟨t, rfl⟩, ⟨t', rfl⟩⟩ := vals2 r
  refine max_two_ints (I.ok.hd hc) fun h' tk k => ⟨_, H, I.kept k, ?_, q⟩
  by_cases hj : j > i
  · rw [if_pos hj, if_pos hj]; exact ⟨_, rfl⟩
  · rw [if_neg hj, if_neg hj]; exact ⟨_, rfl⟩
theorem call_str_int : CallR X (.type "str") (fun xs H Q => ∃ i, xs = [.int i] ∧ i.natAbs.log2 < 1920 ∧ Q (.str (toString i)) H) := by
  intro pins s σ H xs us Q I r h
  obtain ⟨i, rfl, hz, q⟩ := h
  obtain ⟨u, rfl, t, rfl⟩ := vals1 r
  exact PySem.P.str_of_int hz ⟨.str _, H, I.tok _, ⟨_, rfl⟩, q⟩
end
end L2

namespace L2
open PySem PySem.Spec PyProof.Rows

/-! ### an instance, its attributes a map -/
structure ObjM (h : Heap) (x dx C : Addr) (mA : Str → Option Value) : Prop where
  obj : h.get? x = some (PySem.W.instObj C dx)
  ns : h.Ns1 dx mA
  ne : dx ≠ x

theorem lookIn_ns {h : Heap} {dx : Addr} {mA : Str → Option Value} (n : h.Ns1 dx mA) : ∃ od, h.get? dx = some od ∧ ∀ name, PySem.W.lookIn name od = some (mA name) := by
  obtain ⟨o, es, ep, ho, hd, hk, _, hm⟩ := n
  refine ⟨o, ho, fun name => ?_⟩
  have e := hm name
  unfold nsFind findBy at e
  rw [← Array.find?_toList] at e
  unfold PySem.W.lookIn
  rw [hd]
  dsimp only
  split
  · rename_i y q
    rw [q] at e
    exact congrArg some e
  · rename_i q
    rw [q] at e
    have a : es.toList.any (·.refKey) = false := by
      rw [List.any_eq_false]
      intro y hy
      obtain ⟨z, t, hkey⟩ := hk y (Array.mem_toList_iff.mp hy)
      simp [DictEntry.refKey, hkey]
    have a' : ¬ es.toList.any (·.refKey) = true := by rw [a]; exact Bool.false_ne_true
    rw [if_neg a']
    exact congrArg some e

theorem ObjM.look {h : Heap} {x dx C : Addr} {mA : Str → Option Value} (I : ObjM h x dx C mA) : ∃ od, PySem.W.InstAt h x (PySem.W.instObj C dx) C (some od) ∧ ∀ name, PySem.W.lookIn name od = some (mA name) :=
  let ⟨od, ho, hl⟩ := lookIn_ns I.ns
  ⟨od, ⟨I.obj, rfl, rfl, ho⟩, hl⟩

section
variable {prog : Program} {w : World} {A : Around} {E : Value → Shared → Prop} {s : Shared} {K : PySem.W.Frag} {x dx C f : Addr} {mA : Str → Option Value} {name : Str} {v : Value}

end

/-! ### the attributes as a list of pairs -/
section
variable {P : Program} {w : World} {H H' : Hp} {h h' : Heap} {a C dx : Addr} {fs fs' : List (Str × V)}
theorem ins_get (hok : HOk P w H h) (e : H a = some (.ins C dx fs)) : ∃ mA, ObjM h a dx C mA ∧ (∀ f, RelO (fs.lookup f) (mA f)) ∧ PySem.Within mA (fs.map (·.1)) ∧ fs.length ≤ 1000 ∧ H dx = some (.own a) := by
  obtain ⟨d, z, ne, ob, mA, n, r, q⟩ := (show ObjOk P w H h a (.ins C dx fs) from hok a _ e)
  exact ⟨mA, ⟨ob, n, ne⟩, r, q, z, d⟩
end

/-! ### what of the text a class must have -/
structure Cls (K : PySem.W.Frag) (C : Addr) : Prop where
  pg : PySem.W.plainGet K C Str.empty = true
  hd : PySem.W.hasDictIn K C = true
  po : PySem.W.plainOver K C = true
  sa : PySem.W.findIn K (.ref C) "__setattr__" = some (some (.builtin "object.__setattr__"))
theorem Cls.get {K : PySem.W.Frag} {C : Addr} (c : Cls K C) (f : Str) : PySem.W.plainGet K C f = true := c.pg
section
variable {X : Cx} {pins : List (Addr × Obj)} {σ : St} {H : Hp} {s : Shared} {a C dx : Addr} {fs : List (Str × V)} {f : Str} {v : V} {A : Around} {E : Value → Shared → Prop}

/-- a new instance, tracked, without attributes -/
theorem Inv.made (I : Inv X pins σ H s) : Inv X pins σ (upd (upd H s.heap.objs.size (.own (s.heap.objs.size + 1))) (s.heap.objs.size + 1) (.ins C s.heap.objs.size []))
    { s with heap := (s.heap.push PySem.W.emptyDict).push (PySem.W.instObj C s.heap.objs.size) } := by
  have e1 : (s.heap.push PySem.W.emptyDict).get? s.heap.objs.size = some PySem.W.emptyDict := Heap.get?_push_size s.heap rfl
  have e2 : ((s.heap.push PySem.W.emptyDict).push (PySem.W.instObj C s.heap.objs.size)).get? (s.heap.objs.size + 1) = some (PySem.W.instObj C s.heap.objs.size) := by
    have := Heap.get?_push_size (s.heap.push PySem.W.emptyDict) (o := PySem.W.instObj C s.heap.objs.size) rfl
    rwa [Heap.size_push] at this
  have e3 : (s.heap.push PySem.W.emptyDict).Ns s.heap.objs.size (fun _ => none) := ⟨PySem.W.emptyDict, #[], _, e1, rfl, (fun e he => absurd he (by simp)), fun _ => rfl⟩
  have I1 := I.laid (a := s.heap.objs.size) (o := .own (s.heap.objs.size + 1)) (h' := s.heap.push PySem.W.emptyDict) (t' := s.toks) (fun b u q => Heap.get?_push_of_some _ q) (Nat.le_refl _) ⟨_, e1⟩
  refine I1.laid (a := s.heap.objs.size + 1) (o := .ins C s.heap.objs.size []) (t' := s.toks) (fun b u q => Heap.get?_push_of_some _ q) (Nat.le_of_eq (Heap.size_push _ _)) ?_
  have ne : s.heap.objs.size ≠ s.heap.objs.size + 1 := Nat.ne_of_lt (Nat.lt_succ_self _)
  refine ⟨by rw [upd_ne ne, upd_same], Nat.zero_le _, ne, e2, fun _ => none, (Heap.Ns1.of_empty e3).at fun o q => Heap.get?_push_of_some _ q, fun _ => True.intro, fun y hy => absurd rfl hy⟩

end

/-! ### readings and rules -/
section
variable {X : Cx} {o e value : Expr} {f : Str} {pos pos' tpos : Pos} {ta tv : TE}
end

/-! ### isinstance -/
section
variable {X : Cx} {pins : List (Addr × Obj)} {σ : St} {H : Hp} {s : Shared} {A : Around} {E : Value → Shared → Prop} {Q : Value → Shared → Prop} {c : Value} {b : Bool}
/-- the type of a value, as the fragment's deciders take it; for an instance its class -/
inductive TyOf (K : PySem.W.Frag) (H : Hp) : V → Value → Prop where
  | non : TyOf K H .non (.type "NoneType")
  | bl (x : Bool) : TyOf K H (.bl x) (.type "bool")
  | int (i : Int) : TyOf K H (.int i) (.type "int")
  | str (x : Str) : TyOf K H (.str x) (.type "str")
  | flt (x : UInt64) : TyOf K H (.flt x) (.type "float")
  | lst {a : Addr} {xs : List V} (e : H a = some (.lst xs)) : TyOf K H (.ref a) (.type "list")
  | frz {a : Addr} {o : Obj} {xs : List V} (e : H a = some (.frz o (.lst xs))) : TyOf K H (.ref a) (.type "list")
  | tup {a : Addr} {xs : List V} (e : H a = some (.tup xs)) : TyOf K H (.ref a) (.type "tuple")
  | dK {a : Addr} {kvs : List (Key × V)} (e : H a = some (.dK kvs)) : TyOf K H (.ref a) (.type "dict")
  | dT {a : Addr} {kvs : List (List Key × V)} (e : H a = some (.dT kvs)) : TyOf K H (.ref a) (.type "dict")
  | ins {a C dx : Addr} {fs : List (Str × V)} (e : H a = some (.ins C dx fs)) (cl : Cls K C) (ha : PySem.W.findIn K (.ref C) "__class__" = some (some (.builtin "object.__class__")))
      (hn : PySem.W.specialIn K (.builtin "object.__class__") "__get__" = some (some (.builtin "getset_descriptor.__get__"))) (htk : PySem.W.takesIn K (.builtin "object.__class__") = some true)
      (hm : PySem.W.mroIn K C (.type "object") = some true) : TyOf K H (.ref a) (.ref C)
/-- isinstance(x, c) for one class c, a built-in or an own one: kitOne's answer -/
theorem isinst_ok {x : V} {u t : Value} (I : Inv X pins σ H s) (rx : RelV x u) (ty : TyOf X.K H x t) (e : PySem.W.kitOne X.K t c = some b) (h : ∀ tk, Q (.bool b) { s with toks := tk }) :
    wpAny (model X.prog X.w) A (call (.builtin "isinstance") [u, c]) Q E s := by
  cases ty with
  | non => cases (show u = Value.none from rx); exact PySem.W.kia_one PySem.W.kitx_none I.kIn True.intro e (fun z => nomatch z) h
  | bl y => cases (show u = Value.bool y from rx); exact PySem.W.kia_one PySem.W.kitx_bool I.kIn True.intro e (fun z => nomatch z) h
  | int i => obtain ⟨t, q⟩ := (show ∃ t, u = Value.int i t from rx); cases q; exact PySem.W.kia_one PySem.W.kitx_int I.kIn True.intro e (fun z => nomatch z) h
  | str y => obtain ⟨t, q⟩ := (show ∃ t, u = Value.str y t from rx); cases q; exact PySem.W.kia_one PySem.W.kitx_str I.kIn True.intro e (fun z => nomatch z) h
  | flt y => obtain ⟨t, q⟩ := (show ∃ t, u = Value.float y t from rx); cases q; exact PySem.W.kia_one PySem.W.kitx_float I.kIn True.intro e (fun z => nomatch z) h
  | @lst a xs ea =>
    cases (show u = Value.ref a from rx)
    obtain ⟨_, _, n, _, h1⟩ := (show ObjOk X.prog X.w H s.heap a (.lst xs) from I.hok a _ ea)
    exact PySem.W.kia_one PySem.W.kitx_list I.kIn ⟨_, h1, rfl⟩ e (fun z => nomatch z) h
  | @frz a ob xs ea =>
    cases (show u = Value.ref a from rx)
    obtain ⟨_, _, _, n, _, h1⟩ := (show ObjOk X.prog X.w H s.heap a (.frz ob (.lst xs)) from I.hok a _ ea)
    exact PySem.W.kia_one PySem.W.kitx_list I.kIn ⟨_, h1, rfl⟩ e (fun z => nomatch z) h
  | @tup a xs ea =>
    cases (show u = Value.ref a from rx)
    obtain ⟨_, _, _, p⟩ := (show ObjOk X.prog X.w H s.heap a (.tup xs) from I.hok a _ ea)
    obtain ⟨o, h1, h2, _⟩ := p
    exact PySem.W.kia_one PySem.W.kitx_tuple I.kIn ⟨o, h1, h2⟩ e (fun z => nomatch z) h
  | @dK a kvs ea =>
    cases (show u = Value.ref a from rx)
    obtain ⟨_, _, vs, _, p⟩ := (show ObjOk X.prog X.w H s.heap a (.dK kvs) from I.hok a _ ea)
    obtain ⟨o, es, ep, h1, h2, _⟩ := p
    exact PySem.W.kia_one PySem.W.kitx_dict I.kIn ⟨o, h1, h2.1⟩ e (fun z => nomatch z) h
  | @dT a kvs ea =>
    cases (show u = Value.ref a from rx)
    obtain ⟨_, _, xs, _, o, es, ep, h1, h2, _⟩ := (show ObjOk X.prog X.w H s.heap a (.dT kvs) from I.hok a _ ea)
    exact PySem.W.kia_one PySem.W.kitx_dict I.kIn ⟨o, h1, h2.1⟩ e (fun z => nomatch z) h
  | @ins a C dx fs ea cl ha hn htk hm =>
    cases (show u = Value.ref a from rx)
    obtain ⟨mA, O, _⟩ := ins_get I.hok ea
    obtain ⟨od, J, _⟩ := O.look
    exact PySem.W.kia_one (PySem.W.kitx_own (cl.get _) cl.hd ha hn htk hm) I.kIn J e (fun z => nomatch z) h
end
end L2

namespace L2
open PySem PySem.Spec PyProof.Rows

/-! ### room -/
structure Room (k : Nat) (A : Around) : Prop where
  hd : A.handled = none
  dp : A.depth + 3 * k + 5 < recursionLimit
  un : A.units + 16 * k + 200 < cLine
theorem Room.mono {j k : Nat} {A : Around} (r : Room k A) (h : j ≤ k) : Room j A := ⟨r.hd, by have := r.dp; omega, by have := r.un; omega⟩
theorem Room.deeper {k : Nat} {A : Around} (r : Room (k + 1) A) (env : Env) : Room k (A.deeper env) :=
  ⟨r.hd, by have := r.dp; show A.depth + 1 + 3 * k + 5 < _; omega, by have := r.un; show A.units + 3 + 16 * k + 200 < _; omega⟩
theorem Room.depth {k : Nat} {A : Around} (r : Room k A) : A.depth < recursionLimit := by have := r.dp; omega
theorem Room.units {k : Nat} {A : Around} (r : Room k A) : A.units + 64 < cLine := by have := r.un; omega
/-! ### argument lists and displays -/
noncomputable def tNil : TA := fun _ H Q => Q [] H
noncomputable def tCons (ta : TE) (tr : TA) : TA := fun σ H Q => ta σ H fun x H1 => tr σ H1 fun xs H2 => Q (x :: xs) H2
section
variable {X : Cx} {e : Expr} {es : List Expr} {te : TE} {t : TA} {pos : Pos}
theorem pa_nil : PA X [] tNil := fun _ _ _ _ H Q I h => Calls.spliced_nil ⟨[], H, I, .nil, h⟩
theorem pa_cons (ha : PE X e te) (hr : PA X es t) (hs : starEach (e :: es) X.env = (false, eval e X.env) :: starEach es X.env := by rfl) : PA X (e :: es) (tCons te t) := by
  intro pos pins s σ H Q I h
  rw [hs]
  show wpAny _ _ (spliced ((false, eval e X.env) :: backTo pos (starEach es X.env))) _ _ s
  refine Calls.spliced_cons (thn (ha pins s σ H _ I h) fun u s1 ⟨x, H1, I1, r1, q1⟩ => ?_)
  exact thn (hr pos pins s1 σ H1 _ I1 q1) fun us s2 ⟨xs, H2, I2, r2, q2⟩ => ⟨x :: xs, H2, I2, .cons r1 r2, q2⟩

/-- a tuple, a list of written items -/
noncomputable def tTup (t : TA) : TE := fun σ H Q => t σ H fun xs H1 => xs.length ≤ sizeLine ∧ ∀ p, H1 p = none → Q (.ref p) (upd H1 p (.tup xs))
noncomputable def tLst (t : TA) : TE := fun σ H Q => t σ H fun xs H1 => xs.length ≤ sizeLine ∧ ∀ p, H1 p = none → Q (.ref p) (upd H1 p (.lst xs))
theorem pe_tup {x1} (h : PA X es t) : PE X (.Tuple es x1 pos) (tTup t) := by
  intro pins s σ H Q I hq
  refine wpAny_Tuple_spliced (thn (h pos pins s σ H _ I hq) fun us s1 ⟨xs, H1, I1, r, z, q⟩ => ⟨by rw [← r.length]; exact z, ?_⟩)
  have hf : H1 s1.heap.objs.size = none := I1.hok.fresh (Nat.le_refl _)
  refine ⟨.ref s1.heap.objs.size, upd H1 s1.heap.objs.size (.tup xs), I1.laid (t' := s1.toks) (fun b u e => Heap.get?_push_of_some _ e) (Nat.le_refl _) ?_, rfl, q _ hf⟩
  exact ⟨z, us, r, ⟨_, Heap.get?_push_size _ rfl, rfl, _, rfl⟩⟩
theorem pe_lst (h : PA X es t) : PE X (.List es pos) (tLst t) := by
  intro pins s σ H Q I hq
  refine wpAny_List_spliced (thn (h pos pins s σ H _ I hq) fun us s1 ⟨xs, H1, I1, r, z, q⟩ => ⟨by rw [← r.length]; exact z, ?_⟩)
  have hf : H1 s1.heap.objs.size = none := I1.hok.fresh (Nat.le_refl _)
  refine ⟨.ref s1.heap.objs.size, upd H1 s1.heap.objs.size (.lst xs), I1.laid (t' := s1.toks) (fun b u e => Heap.get?_push_of_some _ e) (Nat.le_refl _) ?_, rfl, q _ hf⟩
  exact ⟨z, us, 0, r, Heap.get?_push_size _ rfl⟩
end

/-! ### what a def promises -/
/-- a def's promise: the bound arguments in the parameters' order, the heap, the wanted end, the wanted exception -/
noncomputable abbrev Sp := List V → Hp → VK → XK → Prop
/-- how an exception lies behind a call (file 08 gives it): the callers' frames, abstract heap and state ahead of the call, the wish, the exception, the state -/
noncomputable abbrev CXT := List Env → Hp → Shared → XK → Value → Shared → Prop

/-- the state at a call -/
structure Env0 (P : Program) (w : World) (K : PySem.W.Frag) (mg : Str → Option Value) (base : Heap) (A : Around) (outer : List Env) (s : Shared) (H : Hp) : Prop where
  frames : A.frames = some outer
  mod : Mod K mg base
  bs : ∀ b o, base.get? b = some o → s.heap.get? b = some o ∧ H b = none
  bsz : base.objs.size ≤ s.heap.objs.size
  funs : s.heap.FunFrames base outer
  frf : ∀ b ∈ frs outer, H b = none
  hok : HOk P w H s.heap
  bare : AllBare s.gens
/-- a call's end -/
noncomputable def CE (outer : List Env) (P : Program) (w : World) (H : Hp) (s : Shared) (Q : VK) (u : Value) (s' : Shared) : Prop :=
  ∃ v H', s'.os = s.os ∧ AllBare s'.gens ∧ Un (frs outer) [] H H' s.heap s'.heap ∧ HOk P w H' s'.heap ∧ RelV v u ∧ Q v H'
noncomputable def CR (CX : CXT) (outer : List Env) (P : Program) (w : World) (H : Hp) (s : Shared) (Q : VK) (E : XK) (r : Result) (s' : Shared) : Prop :=
  match r with
  | .ok (.ret u) => CE outer P w H s Q u s'
  | .ok _ => False
  | .error e => CX outer H s E e s'
structure FnOk (P : Program) (w : World) (K : PySem.W.Frag) (mg : Str → Option Value) (base : Heap) (CX : CXT) (k : Nat) (f : Addr) (fd : FuncData) (ps : List Str) (sp : Sp) : Prop where
  len : ∀ vs H Q E, sp vs H Q E → vs.length = ps.length
  run : ∀ (A : Around) (outer : List Env) (s : Shared) (H : Hp) (args : Args) (us : List Value) (vs : List V) (Q : VK) (E : XK), Room k A → Env0 P w K mg base A outer s H → BindsTo s fd args (ps.zip us) → Vals vs us → sp vs H Q E →
    codeAny (model P w) A (.call (.ref f) args) (CR CX outer P w H s Q E) s
theorem FnOk.mono {P : Program} {w : World} {K : PySem.W.Frag} {mg : Str → Option Value} {base : Heap} {CX : CXT} {j k : Nat} {f : Addr} {fd : FuncData} {ps : List Str} {sp : Sp} (F : FnOk P w K mg base CX j f fd ps sp) (h : j ≤ k) :
    FnOk P w K mg base CX k f fd ps sp := ⟨F.len, fun A outer s H args us vs Q E hr => F.run A outer s H args us vs Q E (hr.mono h)⟩
/-- a weaker promise -/
theorem FnOk.imp {P : Program} {w : World} {K : PySem.W.Frag} {mg : Str → Option Value} {base : Heap} {CX : CXT} {k : Nat} {f : Addr} {fd : FuncData} {ps : List Str} {sp sp' : Sp} (F : FnOk P w K mg base CX k f fd ps sp)
    (h : ∀ vs H Q E, sp' vs H Q E → sp vs H Q E) : FnOk P w K mg base CX k f fd ps sp' :=
  ⟨fun vs H Q E q => F.len vs H Q E (h _ _ _ _ q), fun A outer s H args us vs Q E hr he hb hv hs => F.run A outer s H args us vs Q E hr he hb hv (h _ _ _ _ hs)⟩

section
variable {X : Cx} {pins : List (Addr × Obj)} {σ : St} {H : Hp} {s s' : Shared}
/-- from a body: what a callee wants -/
theorem Inv.env0 (I : Inv X pins σ H s) : Env0 X.prog X.w X.K X.mg X.base X.A X.stack s H :=
  ⟨I.ok.frames, I.ok.mod, I.bs, Nat.le_trans I.ok.bsz I.sz, I.stack, I.stkFree, I.hok, I.bare⟩
/-- behind a call -/
theorem Inv.after {Q : VK} {u : Value} (I : Inv X pins σ H s) (h : CE X.stack X.prog X.w H s Q u s') : EP X pins σ Q u s' := by
  obtain ⟨v, H', os, bare, un, hok, r, q⟩ := h
  obtain ⟨hh, g, d, t, os'⟩ := s'
  obtain rfl : os' = s.os := os
  exact ⟨v, H', I.call (h' := hh) (g' := g) (d' := d) (t' := t) (ch := []) un hok bare (fun b z => absurd z (by simp)), r, q⟩
end

/-! ### calls -/
/-- f(..): the written arguments, then the defaults dvs; E: what is wanted of an exception -/
noncomputable def tCall (sp : Sp) (dvs : List V) (E : XK) (t : TA) : TE := fun σ H Q => t σ H fun vs H1 => sp (vs ++ dvs) H1 Q E
/-- how the parameters are bound: us the positional arguments, kw the keywords' values by name, ds the defaults that fill up -/
noncomputable def Binds (K : PySem.W.Frag) (fd : FuncData) (ps : List Str) (ds : List Value) : Prop :=
  ∀ (s : Shared) (us : List Value), K.In s.heap → (us ++ ds).length = ps.length → BindsTo s fd ⟨us, []⟩ (ps.zip (us ++ ds))
/-- every parameter is given -/
theorem Binds.all {K : PySem.W.Frag} {fd : FuncData} {ps : List Str} (h : ∀ us : List Value, us.length = ps.length → bindArgs fd ⟨us, []⟩ = pure (ps.zip us)) : Binds K fd ps [] := fun s us _ hl => by
  rw [List.append_nil] at hl ⊢
  exact .of_eq (h us hl)

/-- an exception of a callee reaches what this body wants of exceptions -/
noncomputable def Passes (CX : CXT) (X : Cx) (E : XK) : Prop := ∀ (pins : List (Addr × Obj)) (σ : St) (H : Hp) (s : Shared) (e : Value) (s' : Shared), Inv X pins σ H s → CX X.stack H s E e s' → X.xe e s'

section
variable {X : Cx} {CX : CXT} {k : Nat} {f C : Addr} {fd : FuncData} {ps : List Str} {sp : Sp} {dvs : List V} {ds : List Value} {E : XK} {x m : Str} {p pos apos : Pos} {e o : Expr} {es : List Expr} {ta : TE} {t : TA}

/-- the callee runs -/
theorem run_fn {pins : List (Addr × Obj)} {σ : St} {H : Hp} {s : Shared} {Q : VK} {us : List Value} {vs : List V} (F : FnOk X.prog X.w X.K X.mg X.base CX k f fd ps sp) (hr : Room k X.A) (hb : Binds X.K fd ps ds) (hd : Vals dvs ds) (hx : Passes CX X E)
    (I : Inv X pins σ H s) (r : Vals vs us) (h : sp (vs ++ dvs) H Q E) : wpAny (model X.prog X.w) X.A (call (.ref f) us) (EP X pins σ Q) X.xe s := by
  have r2 : Vals (vs ++ dvs) (us ++ ds) := r.append hd
  have hl : (us ++ ds).length = ps.length := by rw [← r2.length]; exact F.len _ _ _ _ h
  refine wpAny_call (codeAny_mono (F.run X.A X.stack s H ⟨us, []⟩ (us ++ ds) (vs ++ dvs) Q E hr I.env0 (hb s us I.kIn hl) r2 h) fun r s' hq => ?_)
  cases r with
  | error e => exact hx pins σ H s e s' I hq
  | ok fl =>
    cases fl with
    | ret u => exact I.after hq
    | next => exact False.elim hq
    | brk => exact False.elim hq
    | cont => exact False.elim hq

theorem pe_call (F : FnOk X.prog X.w X.K X.mg X.base CX k f fd ps sp) (hr : Room k X.A) (hg : Gl X x) (hm : X.mg x = some (.ref f)) (hk : PySem.W.keepIn X.K (.ref f) = true) (hb : Binds X.K fd ps ds) (hd : Vals dvs ds) (hx : Passes CX X E)
    (ha : PA X (e :: es) t) (hdb : (x == ("__debug__" : Str)) = false := by decide) (he : starEach (e :: es) X.env = (false, eval e X.env) :: starEach es X.env := by rfl) (hpl : (backTo pos (starEach es X.env)).any (·.1) = false := by rfl) :
    PE X (.Call (.Name x p) (e :: es) [] pos) (tCall sp dvs E t) := by
  intro pins s σ H Q I h
  refine wpAny_Call_Name_kw (ld_glob I hg hm ?_ hdb)
  refine PySem.W.callWith_K (h₀ := X.base) I.ok.mod.kin hk (thn (ha pos pins s σ H _ I h) fun us s1 ⟨vs, H1, I1, r, q⟩ => ⟨I1.kIn, ?_⟩) he hpl
  exact run_fn F hr hb hd hx I1 r q
end

/-! ### keywords -/
section
variable {X : Cx} {CX : CXT} {k : Nat} {f C : Addr} {fd : FuncData} {ps ks : List Str} {sp : Sp} {E : XK} {x m : Str} {p pos apos kpos : Pos} {e o : Expr} {es : List Expr} {kws : List Keyword} {te ta : TE} {t tk : TA} {nm : Option Str}
variable {g : List Value → List Value → List Value} {gV : List V → List V → List V}
end

/-! ### a def's body keeps its promise -/
/-- names: the parameters first -/
structure FnScope (N P : List Str) (sc : Scope) : Prop where
  kind : sc.kind = .function
  co : sc.isCoroutine = false
  gen : sc.isGenerator = false
  nd : N.Nodup
  pre : N.take P.length = P
  par : ∀ x ∈ P, sc.names.lookup x = some .local ∨ sc.names.lookup x = some .cell
  nofree : ∀ y ∈ sc.names, y.2 ≠ .free

theorem bindL_out {kindOf : Str → Option NameKind} {x : Str} : ∀ {binds : List (Str × Value)} {m : Str → Option Value}, (∀ v, (x, v) ∉ binds) → bindL kindOf binds m x = m x
  | [], _, _ => rfl
  | (n, v) :: r, m, h => by
    unfold bindL
    rw [bindL_out fun w hw => h w (List.mem_cons_of_mem _ hw)]
    split
    · have : x ≠ n := by rintro rfl; exact h v List.mem_cons_self
      simp [this]
    · rfl
theorem bindC_out {kindOf : Str → Option NameKind} {x : Str} : ∀ {binds : List (Str × Value)} {m : Str → Option Value}, (∀ v, (x, v) ∉ binds) → bindC kindOf binds m x = m x
  | [], _, _ => rfl
  | (n, v) :: r, m, h => by
    unfold bindC
    rw [bindC_out fun w hw => h w (List.mem_cons_of_mem _ hw)]
    split
    · rfl
    · have : x ≠ n := by rintro rfl; exact h v List.mem_cons_self
      simp [this]
theorem bindL_get {kindOf : Str → Option NameKind} {x : Str} {v : Value} : ∀ {P : List Str} {vs : List Value} {i : Nat} {m : Str → Option Value}, P.Nodup → P[i]? = some x → vs[i]? = some v → kindOf x = some .local →
    bindL kindOf (P.zip vs) m x = some v
  | [], _, _, _, _, h, _, _ => by simp at h
  | _ :: _, [], _, _, _, _, h, _ => by simp at h
  | p :: P, w :: vs, 0, m, nd, h1, h2, hk => by
    simp at h1 h2; subst h1; subst h2
    show bindL kindOf ((p, w) :: P.zip vs) m p = _
    unfold bindL
    rw [bindL_out fun v hv => (List.nodup_cons.mp nd).1 (List.of_mem_zip hv).1, if_pos hk]
    simp
  | p :: P, w :: vs, i + 1, m, nd, h1, h2, hk => by
    show bindL kindOf ((p, w) :: P.zip vs) m x = _
    unfold bindL
    exact bindL_get (i := i) (List.nodup_cons.mp nd).2 (by simpa using h1) (by simpa using h2) hk
theorem bindC_get {kindOf : Str → Option NameKind} {x : Str} {v : Value} : ∀ {P : List Str} {vs : List Value} {i : Nat} {m : Str → Option Value}, P.Nodup → P[i]? = some x → vs[i]? = some v → kindOf x ≠ some .local →
    bindC kindOf (P.zip vs) m x = some v
  | [], _, _, _, _, h, _, _ => by simp at h
  | _ :: _, [], _, _, _, _, h, _ => by simp at h
  | p :: P, w :: vs, 0, m, nd, h1, h2, hk => by
    simp at h1 h2; subst h1; subst h2
    show bindC kindOf ((p, w) :: P.zip vs) m p = _
    unfold bindC
    rw [bindC_out fun v hv => (List.nodup_cons.mp nd).1 (List.of_mem_zip hv).1, if_neg hk]
    simp
  | p :: P, w :: vs, i + 1, m, nd, h1, h2, hk => by
    show bindC kindOf ((p, w) :: P.zip vs) m x = _
    unfold bindC
    exact bindC_get (i := i) (List.nodup_cons.mp nd).2 (by simpa using h1) (by simpa using h2) hk

/-- the names' values at the entry -/
noncomputable def start (N : List Str) (vs : List V) : St := vs.map some ++ List.replicate (N.length - vs.length) none

/-- the context of a def's body, at its entry; an exception leaves the frame, then lies as CX says -/
noncomputable def cxOf (CX : CXT) (P : Program) (w : World) (K : PySem.W.Frag) (mg : Str → Option Value) (base : Heap) (N : List Str) (qual : Str) (scope : Scope) (f : Addr) (cd : Value) (A : Around) (outer : List Env) (s : Shared) (H : Hp) (E : XK) : Cx where
  prog := P
  w := w
  K := K
  mg := mg
  base := base
  A := A.deeper (envOfC qual scope s.heap.objs.size f cd)
  N := N
  s₀ := s
  H₀ := H
  env := envOfC qual scope s.heap.objs.size f cd
  outer := outer
  stack := envOfC qual scope s.heap.objs.size f cd :: outer
  ex := []
  calm := true
  fn := fun _ => true
  pn := []
  xe := fun e s' => wpAny (model P w) (A.deeper (envOfC qual scope s.heap.objs.size f cd)) (leaving (envOfC qual scope s.heap.objs.size f cd) e) (fun _ s'' => CX outer H s E e s'') (fun e' s'' => CX outer H s E e' s'') s'

theorem cell_has {sc : Scope} {n : Nat} {x : Str} (h : sc.names.lookup x = some .cell) : ∃ c, (cellsFrom n sc.names []).lookup x = some c := by
  have q := PySem.W.cellsFrom_some sc.names n [] (.inl h)
  exact Option.isSome_iff_exists.mp q

theorem inv_start {CX : CXT} {P : Program} {w : World} {K : PySem.W.Frag} {mg : Str → Option Value} {base : Heap} {N ps : List Str} {qual : Str} {scope : Scope} {f : Addr} {cd : Value} {A : Around} {outer : List Env} {s s1 : Shared} {H : Hp} {E : XK} {us : List Value} {vs : List V}
    (S : FnScope N ps scope) (hd : A.handled = none) (e0 : Env0 P w K mg base A outer s H) (hl : vs.length = ps.length) (r : Vals vs us)
    (x : InCallC s s.heap.objs.size (bindL (envOfC qual scope s.heap.objs.size f cd).kindOf (ps.zip us) fun _ => none) (cellsFrom (s.heap.objs.size + 1) scope.names []) (bindC (envOfC qual scope s.heap.objs.size f cd).kindOf (ps.zip us) fun _ => none) s1) :
    Inv (cxOf CX P w K mg base N qual scope f cd A outer s H E) [] (start N vs) H s1 := by
  have hpl : ps.length ≤ N.length := by have := congrArg List.length S.pre; rw [List.length_take] at this; omega
  obtain ⟨h1, tk, rfl, hk⟩ := x.done
  have noA : ∀ b : Addr, b ∉ (cxOf CX P w K mg base N qual scope f cd A outer s H E).ex := fun b z => absurd (show b ∈ ([] : List Addr) from z) (by simp)
  refine ⟨⟨e0.mod, S.kind, rfl, rfl, Nat.le_refl _, fun y z c h1 h2 => ?_, fun y hy => ?_, fun y c _ h => ?_, fun _ => hd, Around.frames_deeper e0.frames, .inr ⟨rfl, rfl⟩, fun b z => absurd z (noA b), e0.bs, e0.bsz, fun b _ _ => noA b, fun b z => absurd z (noA b), e0.funs, e0.frf⟩,
    rfl, e0.bare, Un.kept hk, ⟨_, x.toInCall.ns, fun i y v h1 h2 h3 => ?_⟩, fun y c h => ⟨_, x.cell y c h⟩, e0.hok.fresh (Nat.le_refl _), fun y c h => ?_, fun p hp => absurd (show p ∈ ([] : List (Addr × Obj)) from hp) (by simp), e0.hok.kept hk, ?_⟩
  · exact name_of_addr x.apart (PySem.mem_of_lookup h1) (PySem.mem_of_lookup h2)
  · have hy : scope.names.lookup y = some .cell ∨ scope.names.lookup y = some .free := hy
    rcases hy with hy | hy
    · exact cell_has hy
    · exact absurd rfl (S.nofree _ (PySem.mem_of_lookup hy))
  · exact Nat.le_of_lt (x.above y c (PySem.mem_of_lookup h))
  · have hi : i < vs.length := by
      unfold start at h2
      by_cases hi : i < vs.length
      · exact hi
      · rw [List.getElem?_append_right (by simpa using hi)] at h2
        rw [List.getElem?_replicate] at h2
        split at h2 <;> cases h2
    have ha : vs[i]? = some v := by
      unfold start at h2
      rw [List.getElem?_append_left (by simpa using hi), List.getElem?_map] at h2
      cases e : vs[i]? with
      | none => rw [e] at h2; cases h2
      | some a => rw [e] at h2; cases h2; rfl
    obtain ⟨u, hu, rv⟩ := r.get ha
    have hp : ps[i]? = some y := by
      rw [← S.pre, List.getElem?_take_of_lt (by omega)]; exact h1
    have ndP : ps.Nodup := by rw [← S.pre]; exact S.nd.sublist (List.take_sublist _ _)
    refine ⟨u, rv, ?_⟩
    rcases S.par y (List.mem_of_getElem? hp) with k | k
    · exact .inl ⟨k, bindL_get ndP hp hu k⟩
    · obtain ⟨c, e⟩ := cell_has (n := s.heap.objs.size + 1) k
      refine .inr ⟨.inl k, c, e, ?_⟩
      have q := x.cell y c e
      rw [bindC_get ndP hp hu (by show scope.names.lookup y ≠ _; rw [k]; decide)] at q
      exact q
  · exact e0.hok.fresh (Nat.le_of_lt (x.above y c (PySem.mem_of_lookup h)))
  · unfold start
    show _ = N.length
    rw [List.length_append, List.length_map, List.length_replicate]
    omega

/-- THE RULE: a def (or a method) of the text, by its body. The body's reading t is chosen for each entry; it is run at the parameters' values -/
theorem fn_of {CX : CXT} {P : Program} {w : World} {K : PySem.W.Frag} {mg : Str → Option Value} {base : Heap} {k : Nat} {f : Addr} {name qual : Str} {params : Arguments} {body : List Stmt} {scope : Scope} {dV kV doc pm cdv ct oc : Value} {an od : Option Addr}
    {osl : Array (Option Value)} {N ps : List Str} {sp : Sp} (lk : K.lookup f = some ⟨oc, od, .func (PySem.W.fnOf name qual params body scope dV kV doc pm an cdv ct), osl⟩) (hcd : PySem.W.codeIn K cdv qual = true) (S : FnScope N ps scope)
    (len : ∀ vs H Q E, sp vs H Q E → vs.length = ps.length)
    (hbody : ∀ (A : Around) (outer : List Env) (s : Shared) (H : Hp) (vs : List V) (Q : VK) (E : XK), Room k (A.deeper (envOfC qual scope s.heap.objs.size f cdv)) → sp vs H Q E →
      ∃ t, PSs (cxOf CX P w K mg base N qual scope f cdv A outer s H E) body t ∧ t { nx := fun _ H' => Q .non H', rt := Q } (start N vs) H) :
    FnOk P w K mg base CX (k + 1) f (PySem.W.fnOf name qual params body scope dV kV doc pm an cdv ct) ps sp := by
  refine ⟨len, fun A outer s H args us vs Q E hr e0 hb r hsp => ?_⟩
  have hl := len _ _ _ _ hsp
  have KX : K.In s.heap := e0.mod.kin.keeps fun b o e => (e0.bs b o e).1
  have lim : s.heap.NoLimit := e0.mod.nolimit.keeps fun b o e => (e0.bs b o e).1
  have hkind : ∀ y ∈ ps.zip us, scope.names.lookup y.1 = some .local ∨ (scope.names.lookup y.1 = some .cell ∧ ((cellsFrom (s.heap.objs.size + 1) scope.names []).lookup y.1).isSome = true) := fun ⟨n, v⟩ hy => by
    rcases S.par n (List.of_mem_zip hy).1 with q | q
    · exact .inl q
    · exact .inr ⟨q, PySem.W.cellsFrom_some _ _ _ (.inl q)⟩
  refine codeAny_call_function hr.depth (KX _ _ lk) rfl S.co S.gen rfl (PySem.W.codeRec_of KX hcd) (hb _ _ _ _ ?_)
  refine wpAny_newFunctionEnv_cells S.kind hkind fun env he s1 x => ?_
  subst he
  refine ⟨lim.keeps x.toInCall.keep, codeAny_func ?_⟩
  obtain ⟨t, ht, hq⟩ := hbody A outer s H vs Q E (hr.deeper _) hsp
  have I : Inv (cxOf CX P w K mg base N qual scope f cdv A outer s H E) [] (start N vs) H s1 := inv_start S hr.hd e0 hl r x
  refine wpAny_mono (ht [] s1 (start N vs) H _ I hq) (fun fl s' hs => ?_) fun e s' hs => hs
  have fin : ∀ {σ' : St} {H' : Hp} {v : V} {u : Value}, Inv (cxOf CX P w K mg base N qual scope f cdv A outer s H E) [] σ' H' s' → RelV v u → Q v H' → CE outer P w H s Q u s' :=
    fun {σ' H' v u} J rv q => ⟨v, H', J.os, J.bare, J.base, J.hok, rv, q⟩
  cases fl with
  | ret u =>
    obtain ⟨v, σ', H', J, rv, q⟩ := hs
    exact fin J rv q
  | next =>
    obtain ⟨σ', H', J, q⟩ := hs
    exact fin (v := V.non) (u := Value.none) J rfl q
  | brk =>
    obtain ⟨_, _, _, q⟩ := hs
    exact False.elim q
  | cont =>
    obtain ⟨_, _, _, q⟩ := hs
    exact False.elim q
end L2

namespace L2
open PySem PySem.Spec PyProof.Rows
section
variable {X : Cx} {x : Str} {p pos : Pos} {e : Expr} {es : List Expr} {t : TA} {id T : String} {r : List V → Hp → VK → Prop}

noncomputable def tCB (r : List V → Hp → VK → Prop) (t : TA) : TE := fun σ H Q => t σ H fun vs H1 => r vs H1 Q
/-- f(e, ..), f a built-in function -/
theorem pe_callB (hc : CallR X (.builtin id) r) (hg : Gl X x) (hm : X.mg x = none) (hv : bootBuiltins x = some (.builtin id)) (ha : PA X (e :: es) t) (hn : x ≠ "__name__" := by decide) (hdb : (x == ("__debug__" : Str)) = false := by decide)
    (he : starEach (e :: es) X.env = (false, eval e X.env) :: starEach es X.env := by rfl) (hpl : (backTo pos (starEach es X.env)).any (·.1) = false := by rfl) : PE X (.Call (.Name x p) (e :: es) [] pos) (tCB r t) := by
  intro pins s σ H Q I h
  refine wpAny_Call_Name_kw (ld_blt I hg hm hv ?_ hn hdb)
  exact PyProof.Rows.callWith_builtin1 (thn (ha pos pins s σ H _ I h) fun us s1 ⟨vs, H1, I1, r1, q1⟩ => hc pins s1 σ H1 vs us Q I1 r1 q1) he hpl
/-- T(e, ..), T a built-in type -/
theorem pe_callTy (hc : CallR X (.type T) r) (hg : Gl X x) (hm : X.mg x = none) (hv : bootBuiltins x = some (.type T)) (ha : PA X (e :: es) t) (hn : x ≠ "__name__" := by decide) (hdb : (x == ("__debug__" : Str)) = false := by decide)
    (he : starEach (e :: es) X.env = (false, eval e X.env) :: starEach es X.env := by rfl) (hpl : (backTo pos (starEach es X.env)).any (·.1) = false := by rfl) : PE X (.Call (.Name x p) (e :: es) [] pos) (tCB r t) := by
  intro pins s σ H Q I h
  refine wpAny_Call_Name_kw (ld_blt I hg hm hv ?_ hn hdb)
  exact PyProof.Rows.callWith_type1 (thn (ha pos pins s σ H _ I h) fun us s1 ⟨vs, H1, I1, r1, q1⟩ => hc pins s1 σ H1 vs us Q I1 r1 q1) he hpl
end
end L2

namespace HT
open PySem PyProof.Rows

section
open PySem.SeqAt
open PySem.AutoSeq1 (wpAny_loadPart')
open PySem.MeetsSeq PySem.MeetsSeq2 PySem.MeetsSeq3

end

section
variable {prog : Program} {w : World} {A : Around} {E : Value → Shared → Prop} {s : Shared}

/-! ### t[a:b], not the whole -/
/-- a slice's bound as a place among n (d where it is left out) -/
noncomputable def sIx (n d : Nat) : Option Int → Nat
  | none => d
  | some v => if v < 0 then (v + (n : Int)).toNat else min v.toNat n
theorem sIx_none (n d : Nat) : sIx n d none = d := rfl
theorem sIx_nat (n d k : Nat) : sIx n d (some (k : Int)) = min k n := by
  show (if (k : Int) < 0 then ((k : Int) + (n : Int)).toNat else min (k : Int).toNat n) = min k n
  rw [if_neg (by omega), Int.toNat_natCast]
end
end HT

namespace L2
open PySem PySem.Spec PyProof.Rows

/-! ### the parts of a slice -/
noncomputable abbrev TO := St → Hp → (Option Int → Hp → Prop) → Prop
/-- a slice's part (left out, or an int) -/
noncomputable def PO (X : Cx) (e : Option Expr) (t : TO) : Prop :=
  ∀ (pins : List (Addr × Obj)) (s : Shared) (σ : St) (H : Hp) (Q : Option Int → Hp → Prop), Inv X pins σ H s → t σ H Q →
    wpAny (model X.prog X.w) X.A (evalPart e X.env) (fun u s' => ∃ o H', Inv X pins σ H' s' ∧ IsPart u o ∧ Q o H') X.xe s
noncomputable def tNoPart : TO := fun _ H Q => Q none H
noncomputable def tPart (t : TE) : TO := fun σ H Q => t σ H fun x H1 => ∃ i, x = .int i ∧ Q (some i) H1

section
variable {X : Cx} {e : Expr} {te : TE} {lo hi : Option Expr} {tl th : TO} {pos p2 : Pos}

theorem po_none : PO X none tNoPart := by
  intro pins s σ H Q I h
  rw [evalPart_none]
  exact wpAny_pure ⟨none, H, I, .none, h⟩
theorem po_some (h : PE X e te) : PO X (some e) (tPart te) := by
  intro pins s σ H Q I hw
  rw [evalPart_some]
  refine thn (h pins s σ H _ I hw) fun u s1 ⟨x, H1, I1, r1, q1⟩ => ?_
  obtain ⟨i, rfl, q⟩ := q1
  obtain ⟨t, rfl⟩ := r1
  exact ⟨some i, H1, I1, .int i t, q⟩

/-- what a slice of a value is, by values: the slice object stands at sl -/
noncomputable def SlR (X : Cx) (r : V → Option Int → Option Int → Hp → VK → Prop) : Prop :=
  ∀ (pins : List (Addr × Obj)) (s : Shared) (σ : St) (H : Hp) (x : V) (v vl vu : Value) (lo hi : Option Int) (sl : Addr) (Q : VK), Inv X pins σ H s → RelV x v → s.heap.IsSliceOf sl vl vu .none → IsPart vl lo → IsPart vu hi → r x lo hi H Q →
    ∃ T id, typeLookup (.type T) "__getitem__" = pure (some (.builtin id)) ∧ s.TypeIs v T ∧ wpAny (model X.prog X.w) X.A (getItem v (.ref sl)) (EP X pins σ Q) X.xe s
theorem SlR.or {r r' : V → Option Int → Option Int → Hp → VK → Prop} (h : SlR X r) (h' : SlR X r') : SlR X (fun x lo hi H Q => r x lo hi H Q ∨ r' x lo hi H Q) := by
  intro pins s σ H x v vl vu lo hi sl Q I rx hs pl pu q
  rcases q with q | q
  · exact h pins s σ H x v vl vu lo hi sl Q I rx hs pl pu q
  · exact h' pins s σ H x v vl vu lo hi sl Q I rx hs pl pu q
noncomputable def tSl (r : V → Option Int → Option Int → Hp → VK → Prop) (te : TE) (tl th : TO) : TE := fun σ H Q => te σ H fun x H1 => tl σ H1 fun l H2 => th σ H2 fun u H3 => r x l u H3 Q
/-- a[lo:hi], any a -/
theorem pe_slice {r : V → Option Int → Option Int → Hp → VK → Prop} (hr : SlR X r) (he : PE X e te) (hl : PO X lo tl) (hu : PO X hi th) : PE X (.Subscript e (.Slice lo hi none p2) pos) (tSl r te tl th) := by
  intro pins s σ H Q I h
  refine Subscript_ (thn (he pins s σ H _ I h) fun v s1 ⟨x, H1, I1, r1, q1⟩ => ?_)
  refine wpAny_Slice (thn (hl pins s1 σ H1 _ I1 q1) fun vl s2 ⟨l, H2, I2, pl, q2⟩ => thn (hu pins s2 σ H2 _ I2 q2) fun vu s3 ⟨u, H3, I3, pu, q3⟩ => ?_)
  rw [evalPart_none]
  refine wpAny_pure ?_
  have I4 : Inv X pins σ H3 { s3 with heap := s3.heap.push { cls := .type "slice", data := .fields #[vl, vu, .none] } } := I3.kept (t' := s3.toks) fun b ob q => Heap.get?_push_of_some _ q
  obtain ⟨T, id, hT, ht, hg⟩ := hr pins { s3 with heap := s3.heap.push { cls := .type "slice", data := .fields #[vl, vu, .none] } } σ H3 x v vl vu l u s3.heap.objs.size Q I4 r1 (Heap.IsSliceOf.new ..) pl pu q3
  show wpAny (model X.prog X.w) X.A (subscriptTail e (.Slice lo hi none p2) v (.ref s3.heap.objs.size)) (EP X pins σ Q) X.xe { s3 with heap := s3.heap.push { cls := .type "slice", data := .fields #[vl, vu, .none] } }
  exact tail_any (ops := [.ref s3.heap.objs.size, v]) ht hT hg (by with_unfolding_all rfl)

/-- the items of xs[lo:hi] -/
noncomputable def cutV (xs : List V) (lo hi : Option Int) : List V := (xs.drop (HT.sIx xs.length 0 lo)).take (HT.sIx xs.length xs.length hi - HT.sIx xs.length 0 lo)
/-! ### t < u, t + u -/
end
end L2

namespace L2
open PySem PySem.Spec PyProof.Rows

/-! ### places -/
/-- the place that an index of any sign means -/
noncomputable def ixN (n : Nat) (i : Int) : Option Nat := if 0 ≤ i then (if i < n then some i.toNat else none) else if -(n : Int) ≤ i then some (i + n).toNat else none
noncomputable def atI {α : Type} (xs : List α) (i : Int) : Option α := (ixN xs.length i).bind fun j => xs[j]?
theorem ixN_seq {n : Nat} {i : Int} {j : Nat} (h : ixN n i = some j) : seqIndex? i n = some j ∧ j < n ∧ -(n : Int) ≤ i ∧ i < n := by
  unfold ixN at h
  by_cases h0 : 0 ≤ i
  · rw [if_pos h0] at h
    by_cases h1 : i < n
    · rw [if_pos h1] at h
      have e : i.toNat = j := Option.some.inj h
      exact ⟨by rw [seqIndex_of h0 h1, e], by omega, by omega, h1⟩
    · rw [if_neg h1] at h; cases h
  · rw [if_neg h0] at h
    by_cases h1 : -(n : Int) ≤ i
    · rw [if_pos h1] at h
      have e : (i + n).toNat = j := Option.some.inj h
      exact ⟨by rw [seqIndex_neg (by omega) h1, e], by omega, h1, by omega⟩
    · rw [if_neg h1] at h; cases h
theorem atI_get {α : Type} {xs : List α} {i : Int} {v : α} (h : atI xs i = some v) : ∃ j, seqIndex? i xs.length = some j ∧ xs[j]? = some v ∧ j < xs.length ∧ -(xs.length : Int) ≤ i ∧ i < xs.length := by
  unfold atI at h
  cases e : ixN xs.length i with
  | none => rw [e] at h; cases h
  | some j =>
    rw [e] at h
    obtain ⟨h1, h2, h3, h4⟩ := ixN_seq e
    exact ⟨j, h1, h, h2, h3, h4⟩
theorem atI_nat {α : Type} {xs : List α} {j : Nat} {v : α} (h : xs[j]? = some v) : atI xs (j : Int) = some v := by
  have hj : j < xs.length := (List.getElem?_eq_some_iff.mp h).1
  have e : ixN xs.length (j : Int) = some j := by
    unfold ixN
    rw [if_pos (by omega), if_pos (by omega)]; simp
  unfold atI; rw [e]; exact h
/-! ### what may be subscripted -/
/-- what stands as an index of a plain subscript -/
noncomputable def PlainIx (b : Expr) : Prop := ∀ o i, subscripted b false o i = operate [o, i] (getItem o i)
/-- a subscript by values -/
noncomputable def IxR (X : Cx) (r : R2) : Prop :=
  ∀ (value slice : Expr) (pins : List (Addr × Obj)) (s : Shared) (σ : St) (H : Hp) (x y : V) (v u : Value) (Q : VK), Inv X pins σ H s → RelV x v → RelV y u → r x y H Q →
    subscripted slice false v u = operate [v, u] (getItem v u) → wpAny (model X.prog X.w) X.A (subscriptTail value slice v u) (EP X pins σ Q) X.xe s
/-- a call of a builtin's method by values: the receiver, the arguments -/
noncomputable def MtR (X : Cx) (id : String) (r : V → List V → Hp → VK → Prop) : Prop :=
  ∀ (pins : List (Addr × Obj)) (s : Shared) (σ : St) (H : Hp) (x : V) (xs : List V) (v : Value) (us : List Value) (Q : VK), Inv X pins σ H s → RelV x v → Vals xs us → r x xs H Q →
    wpAny (model X.prog X.w) X.A (call (.builtin id) (v :: us)) (EP X pins σ Q) X.xe s
section
variable {X : Cx} {a b : Expr} {ta tb : TE} {pos : Pos}
theorem IxR.or {r r' : R2} (h : IxR X r) (h' : IxR X r') : IxR X (fun x y H Q => r x y H Q ∨ r' x y H Q) := by
  intro value slice pins s σ H x y v u Q I rx ry q hs
  rcases q with q | q
  · exact h value slice pins s σ H x y v u Q I rx ry q hs
  · exact h' value slice pins s σ H x y v u Q I rx ry q hs
theorem MtR.or {id : String} {r r' : V → List V → Hp → VK → Prop} (h : MtR X id r) (h' : MtR X id r') : MtR X id (fun x xs H Q => r x xs H Q ∨ r' x xs H Q) := by
  intro pins s σ H x xs v us Q I rx rs q
  rcases q with q | q
  · exact h pins s σ H x xs v us Q I rx rs q
  · exact h' pins s σ H x xs v us Q I rx rs q
/-- a[b] -/
theorem pe_ix {r : R2} (hr : IxR X r) (ha : PE X a ta) (hb : PE X b tb) (hs : PlainIx b) : PE X (.Subscript a b pos) (tOp r ta tb) := by
  intro pins s σ H Q I h
  exact Subscript_ (binT ha hb I h fun v u s2 x y H2 I2 rx ry q => hr a b pins s2 σ H2 x y v u Q I2 rx ry q (hs _ _))

noncomputable def rIxL (K : PySem.W.Frag) : R2 := fun x y H Q => ∃ p xs i v, x = .ref p ∧ y = .int i ∧ SqL K H p xs ∧ atI xs i = some v ∧ Q v H
noncomputable def rIxT (K : PySem.W.Frag) : R2 := fun x y H Q => ∃ p xs i v, x = .ref p ∧ y = .int i ∧ SqT K H p xs ∧ atI xs i = some v ∧ Q v H
noncomputable def rIxS : R2 := fun x y H Q => ∃ z i c, x = .str z ∧ y = .int i ∧ z.length ≤ sizeLine ∧ atI z.cps.toList i = some c ∧ Q (.str ⟨#[c]⟩) H
theorem ix_list : IxR X (rIxL X.K) := by
  intro value slice pins s σ H x y v u Q I rx ry h hs
  obtain ⟨p, xs, i, z, rfl, rfl, hq, he, q⟩ := h
  cases rx
  obtain ⟨t, rfl⟩ := ry
  obtain ⟨its, r, pl, hz⟩ := I.list hq
  obtain ⟨j, h1, h2, h3, h4, h5⟩ := atI_get he
  obtain ⟨w, ew, rw'⟩ := r.get h2
  have hl := r.length
  have hn := line63
  have fin : EP X pins σ Q w s := ⟨z, H, I, rw', q⟩
  by_cases h0 : 0 ≤ i
  · have hj : i.toNat = j := by
      rw [seqIndex_of h0 h5] at h1
      exact Option.some.inj h1
    exact item_listR pl.isList h0 (by omega) (by rw [hj]; simpa using ew) fin hs
  · have hj : (i + (its.toArray.size : Int)).toNat = j := by
      rw [seqIndex_neg (by omega) h4] at h1
      rw [List.size_toArray, ← hl]
      exact Option.some.inj h1
    exact subscriptTail_builtinR (x := w) pl.isList.typeIs slot_list_getitem.lookup
      (wpAny_getItem_list_neg (Q := fun r s' => r = w ∧ EP X pins σ Q r s') pl.isList (by omega) (by rw [List.size_toArray] <;> omega) (by omega) (by rw [hj]; simpa using ew) ⟨rfl, fin⟩) hs
theorem ix_tup : IxR X (rIxT X.K) := by
  intro value slice pins s σ H x y v u Q I rx ry h hs
  obtain ⟨p, xs, i, z, rfl, rfl, hq, he, q⟩ := h
  cases rx
  obtain ⟨t, rfl⟩ := ry
  obtain ⟨its, r, pl, hz⟩ := I.tuple hq
  obtain ⟨j, h1, h2, h3, h4, h5⟩ := atI_get he
  obtain ⟨w, ew, rw'⟩ := r.get h2
  have hl := r.length
  have hn := line63
  have fin : EP X pins σ Q w s := ⟨z, H, I, rw', q⟩
  exact subscriptTail_builtinR (x := w) pl.typeIs slot_tuple_getitem.lookup
    (getItem_tuple (j := j) (Q := fun r s' => r = w ∧ EP X pins σ Q r s') pl (by omega) (by omega) (by rw [List.size_toArray, ← hl]; exact h1) (by simpa using ew) ⟨rfl, fin⟩) hs
theorem ix_str : IxR X rIxS := by
  intro value slice pins s σ H x y v u Q I rx ry h hs
  obtain ⟨z, i, c, rfl, rfl, hz, he, q⟩ := h
  obtain ⟨t, rfl⟩ := rx
  obtain ⟨t', rfl⟩ := ry
  obtain ⟨j, h1, h2, h3, h4, h5⟩ := atI_get he
  have hl : z.cps.toList.length = z.length := by simp [Str.length]
  rw [hl] at h1 h4 h5
  have hn := line63
  exact tail_any (typeIs_str s z t) slot_str_getitem.lookup (getItem_str (c := c) (by
    have e1 : decide (i < -(2 ^ 63 : Int)) = false := decide_eq_false (by omega)
    have e2 : decide (i ≥ 2 ^ 63) = false := decide_eq_false (by omega)
    rw [e1, e2, Bool.or_false]) (by rw [h1]; simpa using h2) ⟨.str ⟨#[c]⟩, H, I.tok _, ⟨_, rfl⟩, q⟩) hs
/-! ### xs[i] = v, any sign -/
theorem Inv.lst {pins : List (Addr × Obj)} {σ : St} {H : Hp} {s : Shared} {p : Addr} {xs : List V} (I : Inv X pins σ H s) (h : H p = some (.lst xs)) :
    ∃ (its : List Value) (n : Nat), Vals xs its ∧ s.heap.get? p = some { cls := .type "list", data := .seq its.toArray n } ∧ xs.length ≤ sizeLine := by
  obtain ⟨z, its, n, r, e⟩ := I.hok p _ h
  exact ⟨its, n, r, e, z⟩
/-! ### slices -/
/-! ### in, not in: flat items -/
noncomputable def flatV : V → Bool
  | .non => true
  | .bl _ => true
  | .int _ => true
  | .str _ => true
  | _ => false
/-- == of flat values -/
noncomputable def eqV : V → V → Bool
  | .non, .non => true
  | .bl a, .bl b => a == b
  | .bl a, .int b => (if a then 1 else 0) == b
  | .int a, .bl b => a == (if b then 1 else 0)
  | .int a, .int b => a == b
  | .str a, .str b => a == b
  | _, _ => false
theorem eqAt_V {A : Around} {s : Shared} {y x : V} {u v : Value} (ry : RelV y u) (rx : RelV x v) (fy : flatV y = true) (fx : flatV x = true) : SeqAt.EqAt A s u v (eqV y x) := by
  cases y with
  | non =>
    cases ry
    cases x with
    | non => cases rx; exact SeqAt.EqAt.same _
    | bl b => cases rx; exact SeqAt.EqAt.none_bool b
    | int b => obtain ⟨t, rfl⟩ := rx; exact SeqAt.EqAt.none_int b t
    | str b => obtain ⟨t, rfl⟩ := rx; exact SeqAt.EqAt.none_str b t
    | _ => exact absurd (show false = true from fx) Bool.false_ne_true
  | bl a =>
    cases ry
    cases x with
    | non => cases rx; exact SeqAt.EqAt.bool_none a
    | bl b => cases rx; exact SeqAt.EqAt.bool_bool a b
    | int b => obtain ⟨t, rfl⟩ := rx; exact SeqAt.EqAt.bool_int a b t
    | str b => obtain ⟨t, rfl⟩ := rx; exact SeqAt.EqAt.bool_str a b t
    | _ => exact absurd (show false = true from fx) Bool.false_ne_true
  | int a =>
    obtain ⟨t', rfl⟩ := ry
    cases x with
    | non => cases rx; exact SeqAt.EqAt.int_none a t'
    | bl b => cases rx; exact SeqAt.EqAt.int_bool a t' b
    | int b => obtain ⟨t, rfl⟩ := rx; exact SeqAt.EqAt.int_int a t' b t
    | str b => obtain ⟨t, rfl⟩ := rx; exact SeqAt.EqAt.int_str a t' b t
    | _ => exact absurd (show false = true from fx) Bool.false_ne_true
  | str a =>
    obtain ⟨t', rfl⟩ := ry
    cases x with
    | non => cases rx; exact SeqAt.EqAt.str_none a t'
    | bl b => cases rx; exact SeqAt.EqAt.str_bool a t' b
    | int b => obtain ⟨t, rfl⟩ := rx; exact SeqAt.EqAt.str_int a t' b t
    | str b => obtain ⟨t, rfl⟩ := rx; exact SeqAt.EqAt.str_str a t' b t
    | _ => exact absurd (show false = true from fx) Bool.false_ne_true
  | _ => exact absurd (show false = true from fy) Bool.false_ne_true
/-- the items' answers, read off the values (a value's own answer does not lean on its token) -/
noncomputable def eqU (x : V) (u : Value) : Bool := match u with
  | .none => eqV .non x
  | .bool b => eqV (.bl b) x
  | .int i _ => eqV (.int i) x
  | .str z _ => eqV (.str z) x
  | _ => false
theorem eqU_of {x y : V} {u : Value} (r : RelV y u) (f : flatV y = true) : eqU x u = eqV y x := by
  cases y with
  | non => cases r; rfl
  | bl b => cases r; rfl
  | int i => obtain ⟨t, rfl⟩ := r; rfl
  | str z => obtain ⟨t, rfl⟩ := r; rfl
  | _ => exact absurd (show false = true from f) Bool.false_ne_true
theorem any_eqU {x : V} : ∀ {xs : List V} {us : List Value}, Vals xs us → xs.all flatV = true → us.any (eqU x) = xs.any fun y => eqV y x
  | _, _, .nil, _ => rfl
  | y :: xs, u :: us, .cons r t, f => by
    rw [List.all_cons, Bool.and_eq_true] at f
    rw [List.any_cons, List.any_cons, eqU_of r f.1, any_eqU t f.2]
theorem mem_eqAt {A : Around} {s : Shared} {x : V} {v : Value} (rx : RelV x v) (fx : flatV x = true) : ∀ {xs : List V} {us : List Value}, Vals xs us → xs.all flatV = true → ∀ u ∈ us, SeqAt.EqAt A s u v (eqU x u)
  | _, _, .nil, _ => fun u hu => by cases hu
  | y :: xs, u :: us, .cons r t, f => fun u' hu => by
    rw [List.all_cons, Bool.and_eq_true] at f
    rcases List.mem_cons.mp hu with rfl | hu
    · rw [eqU_of r f.1]; exact eqAt_V r rx f.1 fx
    · exact mem_eqAt rx fx t f.2 u' hu
noncomputable def inV (x : V) (xs : List V) : Bool := xs.any fun y => eqV y x
/-- x in a list or tuple of flat items -/
noncomputable def rIn (K : PySem.W.Frag) (neg : Bool) : R2 := fun x y H Q => ∃ p xs, y = .ref p ∧ (SqL K H p xs ∨ SqT K H p xs) ∧ flatV x = true ∧ xs.all flatV = true ∧ Q (.bl (if neg then !inV x xs else inV x xs)) H
theorem op_notIn_seq : OpR X (compareOp .NotIn) (rIn X.K true) := by
  intro pins s σ H x y v u Q I rx ry h
  obtain ⟨p, xs, rfl, hq, fx, fs, q⟩ := h
  cases ry
  rcases hq with hq | hq
  · obtain ⟨its, r, pl, hz⟩ := I.list hq
    refine SeqAt.notIn_listAt (eqU x) pl.isList (fun w hw => mem_eqAt rx fx r fs w (by simpa using hw)) ⟨.bl _, H, I, rfl, ?_⟩
    rw [show its.toArray.any (eqU x) = its.any (eqU x) by simp, any_eqU r fs]
    exact q
  · obtain ⟨its, r, pl, hz⟩ := I.tuple hq
    refine SeqAt.notIn_tupleAt (eqU x) pl (fun w hw => mem_eqAt rx fx r fs w (by simpa using hw)) ⟨.bl _, H, I, rfl, ?_⟩
    rw [show its.toArray.any (eqU x) = its.any (eqU x) by simp, any_eqU r fs]
    exact q
/-! ### len, list(x), tuple(x) of any list or tuple that is read -/
theorem call_len_seq : CallR X (.builtin "len") (fun xs H Q => ∃ p ys, xs = [.ref p] ∧ (SqL X.K H p ys ∨ SqT X.K H p ys) ∧ Q (.int ys.length) H) := by
  intro pins s σ H xs us Q I r h
  obtain ⟨p, ys, rfl, hq, q⟩ := h
  obtain ⟨u, rfl, rx⟩ := vals1 r
  cases rx
  have hn := line63
  rcases hq with hq | hq
  · obtain ⟨its, r', pl, hz⟩ := I.list hq
    have hlen := r'.length
    exact Calls.call_len_list pl.isList (by simp only [List.size_toArray] <;> omega) ⟨.int ys.length, H, I.tok _, ⟨s.toks + 1, by rw [List.size_toArray, hlen]⟩, q⟩
  · obtain ⟨its, r', pl, hz⟩ := I.tuple hq
    have hlen := r'.length
    exact len_tuple pl (by simp only [List.size_toArray] <;> omega) ⟨.int ys.length, H, I.tok _, ⟨s.toks + 1, by rw [List.size_toArray, hlen]⟩, q⟩
theorem call_len_str : CallR X (.builtin "len") (fun xs H Q => ∃ z, xs = [.str z] ∧ z.length ≤ sizeLine ∧ Q (.int z.length) H) := by
  intro pins s σ H xs us Q I r h
  obtain ⟨z, rfl, hz, q⟩ := h
  obtain ⟨u, rfl, t, rfl⟩ := vals1 r
  have hn := line63
  exact len_str (by omega) ⟨.int z.length, H, I.tok _, ⟨_, rfl⟩, q⟩
theorem CallR.or {f : Value} {r r' : List V → Hp → VK → Prop} (h : CallR X f r) (h' : CallR X f r') : CallR X f (fun xs H Q => r xs H Q ∨ r' xs H Q) := by
  intro pins s σ H xs us Q I rs q
  rcases q with q | q
  · exact h pins s σ H xs us Q I rs q
  · exact h' pins s σ H xs us Q I rs q
theorem call_tuple_of : CallR X (.type "tuple") (fun xs H Q => ∃ p ys, xs = [.ref p] ∧ ((SqL X.K H p ys ∧ ∀ l, H l = none → Q (.ref l) (upd H l (.tup ys))) ∨ (SqT X.K H p ys ∧ Q (.ref p) H))) := by
  intro pins s σ H xs us Q I r h
  obtain ⟨p, ys, rfl, h⟩ := h
  obtain ⟨u, rfl, rx⟩ := vals1 r
  cases rx
  rcases h with ⟨hq, q⟩ | ⟨hq, q⟩
  · obtain ⟨its, r', pl, hz⟩ := I.list hq
    have hlen := r'.length
    refine call_tuple_list pl.isList (fun h' kp => ?_) (by simp only [List.size_toArray] <;> omega)
    have I1 : Inv X pins σ H { s with heap := h' } := I.kept (t' := s.toks) kp
    have I2 : Inv X pins σ (upd H h'.objs.size (.tup ys)) { s with heap := h'.push { cls := .type "tuple", data := .seq its.toArray } } :=
      I1.laid (t' := s.toks) (fun b o e => Heap.get?_push_of_some _ e) (Nat.le_refl _) (show ObjOk X.prog X.w _ _ _ (.tup ys) from ⟨hz, its, r', IsTup.new _ _⟩)
    exact ⟨.ref h'.objs.size, _, I2, rfl, q _ (I1.hok.fresh (Nat.le_refl _))⟩
  · obtain ⟨its, r', pl, hz⟩ := I.tuple hq
    exact call_tuple_same pl ⟨.ref p, H, I, rfl, q⟩

/-! ### the call of a builtin's method: o.m(..) -/
/-- the value is of that builtin type -/
noncomputable def tyV (K : PySem.W.Frag) (T : String) (x : V) (H : Hp) : Prop := match x with
  | .str _ => T = "str"
  | .int _ => T = "int"
  | .ref p => (T = "list" ∧ ∃ xs, SqL K H p xs) ∨ (T = "tuple" ∧ ∃ o, K.lookup p = some o ∧ o.cls = .type "tuple" ∧ o.dict = none) ∨
      (T = "dict" ∧ ((∃ kvs, H p = some (.dK kvs)) ∨ ∃ kvs, H p = some (.dT kvs))) ∨ (T = "set" ∧ ∃ S n, H p = some (.set S n))
  | _ => False
theorem tyV_is {pins : List (Addr × Obj)} {σ : St} {H : Hp} {s : Shared} {T : String} {x : V} {v : Value} (I : Inv X pins σ H s) (r : RelV x v) (ty : tyV X.K T x H) :
    s.TypeIs v T ∧ ∀ a, v = .ref a → ∃ ob, s.heap.get? a = some ob ∧ ob.dict = none := by
  cases x with
  | str z =>
    obtain ⟨t, rfl⟩ := r
    cases (show T = "str" from ty)
    exact ⟨typeIs_str s z t, fun _ e => nomatch e⟩
  | int i =>
    obtain ⟨t, rfl⟩ := r
    cases (show T = "int" from ty)
    exact ⟨typeIs_int s i t, fun _ e => nomatch e⟩
  | ref p =>
    cases r
    rcases ty with ⟨rfl, xs, hq⟩ | ⟨rfl, o, hk, hc, hd⟩ | ⟨rfl, hk⟩ | ⟨rfl, S, n, hk⟩
    · obtain ⟨its, _, pl, _⟩ := I.list hq
      refine ⟨pl.isList.typeIs, fun a e => ?_⟩
      cases e
      obtain ⟨o, n, e, c, hd, _⟩ := pl
      exact ⟨o, e, hd⟩
    · refine ⟨⟨o, I.kIn p o hk, hc⟩, fun a e => ?_⟩
      cases e
      exact ⟨o, I.kIn _ o hk, hd⟩
    · have z : ∃ o, s.heap.get? p = some o ∧ o.ExactDict := by
        rcases hk with ⟨kvs, hk⟩ | ⟨kvs, hk⟩
        · obtain ⟨_, _, _, _, o, _, _, e, ex, _⟩ := I.hok p _ hk
          exact ⟨o, e, ex⟩
        · obtain ⟨_, _, _, _, o, _, _, e, ex, _⟩ := I.hok p _ hk
          exact ⟨o, e, ex⟩
      obtain ⟨o, e, ex⟩ := z
      refine ⟨⟨o, e, ex.1⟩, fun a e2 => ?_⟩
      cases e2
      exact ⟨o, e, ex.2.1⟩
    · obtain ⟨o, _, _, _, e, ex, _⟩ := I.hok p _ hk
      refine ⟨⟨o, e, ex.1⟩, fun a e2 => ?_⟩
      cases e2
      exact ⟨o, e, ex.2.1⟩
  | _ => exact False.elim ty
noncomputable def tBM0 (K : PySem.W.Frag) (T : String) (r : V → List V → Hp → VK → Prop) (to : TE) : TE := fun σ H Q => to σ H fun x H1 => tyV K T x H1 ∧ r x [] H1 Q
noncomputable def tBM (K : PySem.W.Frag) (T : String) (r : V → List V → Hp → VK → Prop) (to : TE) (t : TA) : TE := fun σ H Q => to σ H fun x H1 => tyV K T x H1 ∧ t σ H1 fun xs H2 => r x xs H2 Q
variable {o e : Expr} {es : List Expr} {to : TE} {t : TA} {name : Str} {apos cpos : Pos} {T id : String} {r : V → List V → Hp → VK → Prop}
theorem pe_bm (pa : PlainAttrs T) (slot : Slot T name id) (hty : typeOf (.builtin id) = pure (.type "method_descriptor")) (hm : MtR X id r) (ho : PE X o to) (ha : PA X (e :: es) t)
    (hbase : attributeBase o name X.env (eval o X.env) = eval o X.env := by rfl)
    (hfew : ((backTo cpos (starEach (e :: es) X.env)).all (fun x => !x.1) && (backToKw cpos (keywordEach [] X.env)).all (fun x => x.1.isSome)
      && decide ((e :: es).length + ([] : List Keyword).length + (if ([] : List Keyword).isEmpty then 0 else 1) < 30)) = true := by rfl)
    (hline : (apos.endLine == cpos.line) = true := by rfl) (hs : starEach (e :: es) X.env = (false, eval e X.env) :: starEach es X.env := by rfl) (hplain : (backTo cpos (starEach es X.env)).any (·.1) = false := by rfl) :
    PE X (.Call (.Attribute o name apos) (e :: es) [] cpos) (tBM X.K T r to t) := by
  intro pins s σ H Q I h
  refine wpAny_Call_method_late hbase hfew hline rfl (thn (ho pins s σ H _ I h) fun v s1 ⟨x, H1, I1, r1, ty, q1⟩ => ?_)
  obtain ⟨h1, h2⟩ := tyV_is I1 r1 ty
  refine ⟨T, id, pa, slot, hty, h1, h2, ?_⟩
  have hA := ha cpos pins s1 σ H1 _ I1 q1
  rw [hs] at hA ⊢
  refine Calls.callWith_builtin (by show (false || (backTo cpos (starEach es X.env)).any (·.1)) = false; rw [hplain] <;> rfl) (Calls.evalArgs_plain ?_)
  exact thn hA fun us s2 ⟨vs, H2, I2, r2, q2⟩ => hm pins s2 σ H2 x vs v us Q I2 r1 r2 q2
/- xs.append(e), list.index on a module's tuple .. are MtR facts of 06m -/
end
end L2

namespace L2
open PySem PySem.Spec PyProof.Rows

noncomputable def MtM (X : Cx) (id : String) (r : V → List V → Hp → VK → Prop) : Prop :=
  ∀ (pins : List (Addr × Obj)) (s : Shared) (σ : St) (H : Hp) (x : V) (xs : List V) (v : Value) (us : List Value) (Q : VK), Inv X pins σ H s → RelV x v → Vals xs us → r x xs H Q →
    wpAny (model X.prog X.w) X.A (call (.builtin id) (v :: us)) (EP X pins σ Q) X.xe s

/-! ### lists of values -/
theorem Vals.one : ∀ {x : V} {us : List Value}, Vals [x] us → ∃ u, us = [u] ∧ RelV x u
  | _, _, .cons r .nil => ⟨_, rfl, r⟩
theorem Vals.two : ∀ {x y : V} {us : List Value}, Vals [x, y] us → ∃ u v, us = [u, v] ∧ RelV x u ∧ RelV y v
  | _, _, _, .cons r (.cons q .nil) => ⟨_, _, rfl, r, q⟩
theorem Vals.zero : ∀ {us : List Value}, Vals [] us → us = []
  | _, .nil => rfl
theorem Vals.reverse {xs : List V} {us : List Value} (h : Vals xs us) : Vals xs.reverse us.reverse := by
  induction h with
  | nil => exact .nil
  | cons r t ih => rw [List.reverse_cons, List.reverse_cons]; exact Vals.append ih (.cons r .nil)
section
variable {X : Cx} {pins : List (Addr × Obj)} {σ : St} {H : Hp} {s : Shared} {l b : Addr} {xs ys zs : List V}

/-! ### the two steps: a tracked list is rewritten, a new list is laid -/
theorem Inv.lset {its its' : List Value} {n : Nat} {f : Array Value → Array Value} {t' : Nat} (I : Inv X pins σ H s) (hH : H l = some (.lst xs))
    (e : s.heap.get? l = some { cls := .type "list", data := .seq its.toArray n }) (hf : f its.toArray = its'.toArray) (hv : Vals ys its') (hz : ys.length ≤ sizeLine) :
    Inv X pins σ (upd H l (.lst ys)) { s with heap := s.heap.update l (Obj.mapSeq f), toks := t' } := by
  have q := PySem.IsL.update e f
  rw [hf] at q
  refine I.write (x := l) (e := l) (by rw [hH]; exact trivial) (.inl rfl) (fun b' u hb hu => (Heap.get?_update_other s.heap (Obj.mapSeq f) (Ne.symm hb)).trans hu) ⟨_, q⟩ ?_
  exact ⟨hz, its', _, hv, q⟩
theorem Inv.lnew {its : List Value} {t' : Nat} (I : Inv X pins σ H s) (hv : Vals ys its) (hz : ys.length ≤ sizeLine) :
    Inv X pins σ (upd H s.heap.objs.size (.lst ys)) { s with heap := s.heap.push { cls := .type "list", data := .seq its.toArray }, toks := t' } :=
  I.laid (fun _ _ q => Heap.get?_push_of_some _ q) (Nat.le_refl _) ⟨hz, its, 0, hv, Heap.get?_push_size _ rfl⟩
theorem Inv.fresh (I : Inv X pins σ H s) : H s.heap.objs.size = none := I.hok.fresh (Nat.le_refl _)
theorem Inv.lstM (I : Inv X pins σ H s) (hH : H l = some (.lst xs)) : xs.length ≤ sizeLine ∧ ∃ (its : List Value) (n : Nat), Vals xs its ∧ xs.length = its.length ∧ s.heap.get? l = some { cls := .type "list", data := .seq its.toArray n } := by
  obtain ⟨z, its, n, r, e⟩ := I.hok l _ hH
  exact ⟨z, its, n, r, r.length, e⟩

end

section
variable {X : Cx}

/-! ### methods -/
noncomputable def rAppend : V → List V → Hp → VK → Prop := fun x vs H Q => ∃ l xs y, x = .ref l ∧ vs = [y] ∧ H l = some (.lst xs) ∧ xs.length < sizeLine ∧ Q .non (upd H l (.lst (xs ++ [y])))
theorem mt_append : MtM X "list.append" rAppend := by
  intro pins s σ H x vs v us Q I rx rv h
  obtain ⟨l, xs, y, rfl, rfl, hH, hz, q⟩ := h
  cases rx
  obtain ⟨u, rfl, ru⟩ := rv.one
  obtain ⟨z, its, n, r, hl, e⟩ := I.lstM hH
  refine call_meets F.slot_list_append ⟨_, e, rfl⟩ F.entry_list_append (F.args_list_append_2 _ _) (PySem.list_append l its.toArray n u (by rw [List.size_toArray]; omega)) ⟨e, ?_⟩
  refine ⟨.non, _, I.lset (its' := its ++ [u]) hH e (by simp) (r.append (.cons ru .nil)) ?_, rfl, q⟩
  rw [List.length_append, List.length_singleton]
  omega

/-! ### list + list, list += list, list * int -/
noncomputable def rCat : R2 := fun x y H Q => ∃ l b xs zs, x = .ref l ∧ y = .ref b ∧ H l = some (.lst xs) ∧ H b = some (.lst zs) ∧ xs.length + zs.length ≤ sizeLine ∧ ∀ p, H p = none → Q (.ref p) (upd H p (.lst (xs ++ zs)))
theorem op_cat : OpR X (binaryOp .Add) rCat := by
  intro pins s σ H x y v u Q I rx ry h
  obtain ⟨l, b, xs, zs, rfl, rfl, hH, hB, hz, q⟩ := h
  cases rx
  cases ry
  obtain ⟨z, its, n, r, hl, e⟩ := I.lstM hH
  obtain ⟨z2, its2, n2, r2, hl2, e2⟩ := I.lstM hB
  refine PySem.P.add_list e e2 ?_ (by rw [List.size_toArray, List.size_toArray]; omega)
  have ea : its.toArray ++ its2.toArray = (its ++ its2).toArray := by simp
  rw [ea]
  exact ⟨.ref _, _, I.lnew (t' := s.toks) (r.append r2) (by rw [List.length_append]; omega), rfl, q _ I.fresh⟩
/-! ### del xs[i] -/
end

/-! ### xs[a:b] = ys -/
section
variable {prog : Program} {w : World} {A : Around} {E : Value → Shared → Prop} {s : Shared}
set_option maxRecDepth 100000 in
end

section
variable {X : Cx}
end
end L2

namespace Att
open PySem PySem.W PySem.Calls PyProof.Rows

/-! ### the script -/
theorem ints_of_wellAll {P : Params} {h : Heap} : ∀ (ns : List Int) (vs : List Value), WellAll P h vs (ns.map WData.int) → IntsAre vs ns := by
  intro ns
  induction ns with
  | nil =>
    intro vs w
    rw [List.map_nil] at w
    cases w
    exact .nil
  | cons n ns ih =>
    intro vs w
    rw [List.map_cons] at w
    cases w with
    | cons a b =>
      cases a
      exact .cons _ _ (ih _ b)

theorem script_of {l : OpenLaw} {n : Nat} (hn : l.most = some n) {P : Params} {h : Heap} {args : List WData} {vals : List Value}
    (hpre : l.row.toRowW.claim.pre args = true) (hwl : WellAll P h vals args) :
    ∃ a vs ns, vals = [Value.ref a] ∧ args = [WData.list (ns.map WData.int)] ∧ h.get? a = some { cls := .type "list", data := .seq vs.toArray } ∧ IntsAre vs ns ∧ ns.length ≤ n := by
  have hsh : WShape.hasAll [] args [.list .int] = true := (pre_splitW hpre).1
  have hc : l.pre.holds [] { args := args } = true := (pre_splitW hpre).2
  obtain ⟨d, r, rfl, h1, h2⟩ := hasAllW_cons hsh
  obtain rfl := hasAllW_nil h2
  obtain ⟨xs, rfl, h3⟩ := hasW_list h1
  obtain ⟨ns, rfl⟩ := items_int h3
  have hlen : ns.length ≤ n := by
    unfold OpenLaw.pre at hc
    have h4 : (WTm.not (.lt (.lit (.int (n : Int))) (.len (.arg 0)))).holds [] { args := [.list (ns.map .int)] } = true := by
      have h4 := (holds_andW hc).1
      rw [hn] at h4
      exact h4
    have h5 := condW_of h4 (w_not (w_lt w_lit (w_len_list (w_arg rfl))))
    rw [List.length_map] at h5
    refine Nat.le_of_not_lt fun q => ?_
    have q' : (n : Int) < ((ns.length : Nat) : Int) := by omega
    first
      | (rw [decide_eq_true q'] at h5; exact absurd h5 (by decide))
      | (simp at h5; omega)
  cases hwl with
  | cons w1 w2 =>
    cases w2
    cases w1 with
    | list ho hall => exact ⟨_, _, ns, rfl, rfl, ho, ints_of_wellAll ns _ hall, hlen⟩

theorem post_true (l : OpenLaw) (args : List WData) : l.row.toRowW.claim.post args (.bool true) args = true :=
  postW_of (r := l.row.toRowW) (X := (true == true))
    (show WShape.has [] (.bool true) .bool = true by first | rfl | decide | simp [WShape.has, WShape.arms, WShape.armsAll])
    (show (WTm.eq .res (.lit (.bool true))).value [] { args := args, res := some (.bool true), after := args } = some (.bool (true == true)) from w_eq_bool (w_res rfl) w_lit) rfl

/-! ### the attachment: holds_open's last premise (the goal 'hc' behind k_head) from a wpAny of the law's body -/
/-- the same from a codeAny of the CALL (for a layer whose function contracts speak of calls) -/
theorem attach_call {l : OpenLaw} {n : Nat} {q : Program} {loose : List Str} {XP : (Str → Option Value) → Heap → Prop} {YP : World → Heap → Prop} {d : DefRec}
    (hn : l.most = some n) (hdf : d.params.defaults = [])
    (call : ∀ (w : World) (s₀ s₁ : Shared) (mg mb : Str → Option Value) (fa : Addr) (o : Obj) (pm cd doc : Value) (a : Addr) (vs : List Value) (ns : List Int),
      Ground q loose [] XP w s₀ mg mb s₁.heap → YP w s₁.heap →
      s₁.heap.get? fa = some o → o.data = .func (docDef d.name d.params d.body d.scope pm cd doc) → s₁.heap.CodeRec cd d.name → mg d.name = some (.ref fa) →
      s₁.heap.get? a = some { cls := .type "list", data := .seq vs.toArray } → IntsAre vs ns → ns.length ≤ n → s₁.gens = #[] →
      codeAny (model l.prog w) callerA (.call (.ref fa) ⟨[.ref a], []⟩) (fun r s' => r = .ok (.ret (.bool true)) ∧ OldK s₁.heap s'.heap ∧ s'.os = s₁.os ∧ AllBare s'.gens) s₁) :
    WalkO q loose XP YP l.row.toRowW d [] (fun f vs => PySem.call f vs) := by
  intro w s₀ s₁ mg mb G Y fa o pm cd doc dV kV ho hd hcd hD hmg hg args vals as hpre hlay hrd hwl hlo
  obtain rfl : dV = .none := Dflts.none hD hdf
  obtain rfl : kV = .none := Dflts.noKw hD
  obtain ⟨a, vs, ns, rfl, rfl, hobj, hints, hlen⟩ := script_of hn hpre hwl
  refine enter_call (codeAny_mono (call w s₀ s₁ mg mb fa o pm cd doc a vs ns G Y ho (fd_plain hd) hcd hmg hobj hints hlen hg) fun r s' hq => ?_)
  obtain ⟨rfl, h2, h3, h4⟩ := hq
  exact ⟨.inl ⟨.bool true, .bool true, [], rfl, fun _ => rfl, .bool true, post_true l _, fun _ => ⟨List.Pairwise.nil, fun _ hm => (nomatch hm)⟩⟩, h2, h3, h4⟩

/-! ### rules over ANY heap (no ledger) from facts about the written part K: the library's own take a ledger (News) for what they write -/
section
variable {prog : Program} {w : World} {A : Around} {E : Value → Shared → Prop} {s : Shared} {K : Frag}

/-! the whole heap as the ledger: makes every rule that writes through a ledger a rule over any heap -/
noncomputable def ledger (h : Heap) (L d : Addr) : List (Addr × Obj) := (List.range h.objs.size).filterMap fun a => if a = L ∨ a = d then none else (h.get? a).map fun o => (a, o)
end
end Att

namespace L2
open PySem PySem.Spec PyProof.Rows

theorem vals_ints : ∀ {vs : List Value} {ns : List Int}, IntsAre vs ns → Vals (ns.map V.int) vs
  | _, _, .nil => .nil
  | _, _, .cons n t h => .cons ⟨t, rfl⟩ (vals_ints h)

/-- nothing is tracked but the script, known to the object (or it is an object of the module) -/
noncomputable def Only (H : Hp) : Prop := ∀ b, H b = none ∨ ∃ o xs, H b = some (.frz o (.lst xs))

/-- THE HEAD: the law's promise, at the heap behind the top. F, the promise of the law's def, may use that base is part of the heap (so K.In base, base.Ns mainGlobals mg stand in Mod) -/
theorem law_call {P : Program} {w : World} {K : PySem.W.Frag} {mg mb : Str → Option Value} {CX : CXT} {k : Nat} {fa a : Addr} {fd : FuncData} {x : Str} {sp : Sp} {s₁ : Shared} {vs : List Value} {ns : List Int}
    (KX : K.In s₁.heap) (hns : s₁.heap.Ns mainGlobals mg) (hb : s₁.heap.Ns builtinsNs mb) (hbb : ∀ x : Str, x ≠ "__name__" → mb x = bootBuiltins x) (hlim : s₁.heap.NoLimit) (hg : s₁.gens = #[])
    (ha : s₁.heap.get? a = some { cls := .type "list", data := .seq vs.toArray }) (hi : IntsAre vs ns) (hl : ns.length ≤ sizeLine) (hr : Room k callerA)
    (F : ∀ base : Heap, K.In base → base.Ns mainGlobals mg → FnOk P w K mg base CX k fa fd [x] sp) (hbind : ∀ (s : Shared) (u : Value), BindsTo s fd ⟨[u], []⟩ [(x, u)])
    (hsp : ∀ H : Hp, Only H → SqL K H a (ns.map V.int) → sp [.ref a] H (fun v _ => v = .bl true) fun _ _ _ => False)
    (hCX : ∀ H e s', CX [] H s₁ (fun _ _ _ => False) e s' → False) :
    codeAny (model P w) callerA (.call (.ref fa) ⟨[.ref a], []⟩) (fun r s' => r = .ok (.ret (.bool true)) ∧ OldK s₁.heap s'.heap ∧ s'.os = s₁.os ∧ AllBare s'.gens) s₁ := by
  have rv := vals_ints hi
  have lenV := hi.length
  -- from an abstract heap in which nothing but the script may be tracked
  have core : ∀ H : Hp, Only H → SqL K H a (ns.map V.int) → HOk P w H s₁.heap → (∀ b, H b ≠ none → b = a) → (H a ≠ none → K.lookup a = none) →
      codeAny (model P w) callerA (.call (.ref fa) ⟨[.ref a], []⟩) (fun r s' => r = .ok (.ret (.bool true)) ∧ OldK s₁.heap s'.heap ∧ s'.os = s₁.os ∧ AllBare s'.gens) s₁ := by
    intro H hO hS hok hA hK
    have base_of : ∀ {b : Addr} {o : Obj}, s₁.heap.get? b = some o → H b = none → (hidT s₁.heap H).get? b = some o := fun e n => hidT_get e n
    have noA : ∀ {b : Addr} {o : Obj} {es : Array DictEntry} {ep : Nat}, s₁.heap.get? b = some o → o.data = .dict es ep → H b = none := fun {b o es ep} e d => by
      cases q : H b with
      | none => rfl
      | some u =>
        have e' : b = a := hA b (by rw [q]; simp)
        subst e'
        rw [ha] at e; cases e
        have d' : Data.seq vs.toArray _ = Data.dict es ep := d
        cases d'
    have nsK : ∀ {b : Addr} {m : Str → Option Value}, s₁.heap.Ns b m → (hidT s₁.heap H).Ns b m := fun {b m} ⟨o, es, ep, e, d, r⟩ => ⟨o, es, ep, base_of e (noA e d), d, r⟩
    have hKb : K.In (hidT s₁.heap H) := fun b o e => base_of (KX b o e) (by
      cases q : H b with
      | none => rfl
      | some u =>
        have e' : b = a := hA b (by rw [q]; simp)
        subst e'
        rw [hK (by rw [q]; simp)] at e; cases e)
    have hM : Mod K mg (hidT s₁.heap H) := ⟨hKb, nsK hns, ⟨mb, nsK hb, hbb⟩, let ⟨mc, h1, h2⟩ := hlim; ⟨mc, nsK h1, h2⟩⟩
    have e0 : Env0 P w K mg (hidT s₁.heap H) callerA [] s₁ H := ⟨rfl, hM, fun b o e => of_hidT e, Nat.le_of_eq (hidT_size _ _), trivial, fun b hb => absurd (show b ∈ ([] : List Addr) from hb) (by simp), hok, .of_eq hg⟩
    refine codeAny_mono ((F _ hKb (nsK hns)).run callerA [] s₁ H ⟨[.ref a], []⟩ [.ref a] [.ref a] _ _ hr e0 (hbind s₁ (.ref a)) (.cons rfl .nil) (hsp H hO hS)) fun r s' h => ?_
    cases r with
    | error e => exact (hCX H e s' h).elim
    | ok fl =>
      cases fl with
      | next => exact False.elim h
      | brk => exact False.elim h
      | cont => exact False.elim h
      | ret u =>
        obtain ⟨v, H', os, bare, un, hok', r', q⟩ := h
        have q' : v = .bl true := q
        subst q'
        obtain rfl : u = Value.bool true := r'
        refine ⟨rfl, OldK.of_keep fun b o e => ?_, os, bare⟩
        cases q : H b with
        | none => exact un.keep b o e q (by intro z; exact absurd (show b ∈ ([] : List Addr) from z) (by simp)) (by simp)
        | some u =>
          rcases hO b with z | ⟨ob, xs, z⟩
          · rw [q] at z; cases z
          · have z2 := un.frzs b ob _ z
            obtain ⟨e1, _⟩ := hok b _ z
            obtain ⟨e2, _⟩ := hok' b _ z2
            rw [e] at e1; cases e1
            exact e2
  cases hk : K.lookup a with
  | some o =>
    -- the script is one of the module's own objects
    have e := KX a o hk
    rw [ha] at e
    cases e
    refine core (fun _ => none) (fun _ => .inl rfl) (.inr ⟨_, vs.toArray, _, hk, rfl, rfl, rfl, by rw [List.size_toArray, lenV]; exact hl, by simpa using rv⟩) (fun b u z => by have z' : (none : Option HO) = some u := z; cases z') (fun b z => absurd rfl z) fun z => absurd rfl z
  | none =>
    refine core (fun b => if b = a then some (.frz { cls := .type "list", data := .seq vs.toArray } (.lst (ns.map V.int))) else none) (fun b => ?_) (.inl (.inr ⟨{ cls := .type "list", data := .seq vs.toArray }, if_pos rfl⟩)) (fun b u z => ?_) (fun b z => ?_) fun _ => hk
    · by_cases hb : b = a
      · exact .inr ⟨_, _, if_pos hb⟩
      · exact .inl (if_neg hb)
    · by_cases hb : b = a
      · have z' := (if_pos hb).symm.trans z
        cases z'
        subst hb
        exact ⟨ha, by rw [List.length_map]; exact hl, vs, _, rv, ha⟩
      · have z' := (if_neg hb).symm.trans z
        cases z'
    · by_cases hb : b = a
      · exact hb
      · exact absurd (if_neg hb) z
end L2

namespace L2
open PySem PySem.Spec PyProof.Rows

noncomputable abbrev KOf {K : PySem.W.Frag} {h : Heap} (_ : K.In h) : PySem.W.Frag := K

/-- the goal that k_head leaves (case hc), from the law's promise. F gives the function object fd (K's own) once, then the promise over every base -/
theorem walk_of {l : PySem.W.OpenLaw} {n k : Nat} {q : Program} {loose : List Str} {XP : (Str → Option Value) → Heap → Prop} {YP : World → Heap → Prop} {d : DefRec} {K : Params → PySem.W.Frag} {CX : World → CXT} {sp : World → Sp} {x : Str}
    (hn : l.most = some n) (hn2 : n ≤ sizeLine) (hdf : d.params.defaults = []) (hr : Room k callerA)
    (hY : ∀ (w : World) (h : Heap), YP w h → (K w.params).In h)
    (F : ∀ (w : World) (mg : Str → Option Value) (fa : Addr) (h : Heap), (K w.params).In h → h.Ns mainGlobals mg → mg d.name = some (.ref fa) →
      ∃ fd : FuncData, (∀ (s : Shared) (u : Value), BindsTo s fd ⟨[u], []⟩ [(x, u)]) ∧
        ∀ base : Heap, (K w.params).In base → base.Ns mainGlobals mg → FnOk l.prog w (K w.params) mg base (CX w) k fa fd [x] (sp w))
    (hsp : ∀ (w : World) (H : Hp) (a : Addr) (ns : List Int), ns.length ≤ n → Only H → SqL (K w.params) H a (ns.map V.int) → sp w [.ref a] H (fun v _ => v = .bl true) fun _ _ _ => False)
    (hCX : ∀ (w : World) (H : Hp) (s : Shared) (e : Value) (s' : Shared), CX w [] H s (fun _ _ _ => False) e s' → False) :
    PySem.W.WalkO q loose XP YP l.row.toRowW d [] (fun f vs => PySem.call f vs) := by
  refine Att.attach_call hn hdf fun w s₀ s₁ mg mb fa o pm cd doc a vs ns G Y ho hd hcd hmg hobj hints hlen hg => ?_
  have KX := hY w _ Y
  obtain ⟨fd, hb, hF⟩ := F w mg fa _ KX G.T.g hmg
  exact law_call KX G.T.g G.T.b G.T.builtins G.T.nolimit hg hobj hints (Nat.le_trans hlen hn2) hr hF hb (fun H hO hS => hsp w H a ns hlen hO hS) fun H e s' => hCX w H s₁ e s'
end L2

/- THE LAST THEOREM (shape; LID, My.* are yours):
   My.Adr: a structure of the addresses that your layer names (classes, functions); My.Txt K t: a structure (Prop) of the equations over K;
   My.txt_mk : {K} {implicit addresses ..} (e1 : nsIn K mainGlobals "law" = some (some (.ref f))) (e2 : K.lookup f = some ⟨oc, od, .func (fnOf "law" "law" params body scope dV kV doc pm an cdv ct), sl⟩) (e3 : codeIn K cdv "law" = true) .. : ∃ t, My.Txt K t

set_option maxRecDepth 100000 in
set_option maxHeartbeats 0 in
theorem PySem.Challenge.cw_LID_holds : PySem.Challenge.rw_LID.Holds := by
  w_on; o_law; k_head; (case hw => w_witness2)
  k_fill
  refine L2.walk_of (l := PySem.Challenge.rw_LID) (n := 63) (k := 40) (x := "script") (CX := fun w => ..) (sp := fun _ => My.sp_law) rfl (by decide) rfl ⟨rfl, by decide, by decide⟩ (fun w h Y => PySem.W.kIn_of Y) ?F ?S ?C
  case F =>
    intro w mg fa h KX G hmg
    have T : ∃ t, My.Txt (L2.KOf KX) t := by
      dsimp only [L2.KOf]                          -- K must stand as «<heap const> w.params» for k_is
      refine' My.txt_mk ?e1 ?e2 ?e3 ..
      (case e1 => PySem.W.k_is)                    -- in the order: a name -> its address -> its object -> its parts
      (case e2 => PySem.W.k_is)
      ..
    obtain ⟨t, T⟩ := T
    have e0 := hmg.symm.trans (PySem.W.mg_of KX G T.law)
    cases e0                                       -- fa is the law's own address
    exact ⟨_, fun s u => .of_eq rfl, fun base kb nb => My.law_fn T kb nb⟩     -- if «.of_eq rfl» comes too early: refine' ⟨_, ?b, fun base kb nb => My.law_fn T kb nb⟩; exact fun s u => .of_eq rfl
  case S => exact fun w H a ns hl hO hS => ..
  case C => exact ..
(the tactic k_is has no namespace: write k_is) -/

/-! SHORT WORDS over the layer: a def of the text, its body, what a loop and a test want. -/
namespace L2
open PySem PySem.Spec PyProof.Rows

/-! ### the text by places -/
noncomputable def defArgs (s : Stmt) : Arguments := match s with
  | .FunctionDef _ a _ _ _ _ _ _ _ _ => a
  | _ => { posonlyargs := [], args := [], vararg := none, kwonlyargs := [], kw_defaults := [], kwarg := none, defaults := [] }
noncomputable def defBody (s : Stmt) : List Stmt := match s with
  | .FunctionDef _ _ b _ _ _ _ _ _ _ => b
  | _ => []
noncomputable def defScope (s : Stmt) : Scope := match s with
  | .FunctionDef _ _ _ _ _ _ sc _ _ _ => sc
  | _ => { kind := .function, names := [], isGenerator := false, isCoroutine := false }

/-! ### no exception leaves a def -/
noncomputable abbrev CX0 : CXT := fun _ _ _ _ _ _ => False
noncomputable abbrev E0 : XK := fun _ _ _ => False
theorem pass0 {X : Cx} : Passes CX0 X E0 := fun _ _ _ _ _ _ _ h => h.elim

/-! ### a def (or method) of the text as it stands behind the top -/
structure Fun (K : PySem.W.Frag) (x qual : Str) (st : Stmt) (f : Addr) (fd : FuncData) : Prop where
  ex : ∃ (oc : Value) (od : Option Addr) (kV doc pm : Value) (an : Option Addr) (cdv ct : Value) (osl : Array (Option Value)),
    fd = PySem.W.fnOf x qual (defArgs st) (defBody st) (defScope st) .none kV doc pm an cdv ct ∧ K.lookup f = some ⟨oc, od, .func fd, osl⟩ ∧ PySem.W.codeIn K cdv qual = true
  kp : PySem.W.keepIn K (.ref f) = true
section
variable {P : Program} {w : World} {K : PySem.W.Frag} {mg : Str → Option Value} {base : Heap}
/-- THE RULE for a def: its body as a term of rules, and the reading of that term -/
theorem Fun.ok {x qual : Str} {st : Stmt} {f : Addr} {fd : FuncData} {N ps : List Str} {k : Nat} {sp : Sp} (F : Fun K x qual st f fd) (S : FnScope N ps (defScope st)) (len : ∀ vs H Q E, sp vs H Q E → vs.length = ps.length)
    (hbody : ∀ (cdv : Value) (A : Around) (outer : List Env) (s : Shared) (H : Hp) (vs : List V) (Q : VK) (E : XK), Room k (A.deeper (envOfC qual (defScope st) s.heap.objs.size f cdv)) → sp vs H Q E →
      ∃ t, PSs (cxOf CX0 P w K mg base N qual (defScope st) f cdv A outer s H E).nox (defBody st) t ∧ t { nx := fun _ H' => Q .non H', rt := Q } (start N vs) H) : FnOk P w K mg base CX0 (k + 1) f fd ps sp := by
  obtain ⟨oc, od, kV, doc, pm, an, cdv, ct, osl, rfl, lk, hcd⟩ := F.ex
  refine fn_of lk hcd S len fun A outer s H vs Q E hr hsp => ?_
  obtain ⟨t, h, q⟩ := hbody cdv A outer s H vs Q E hr hsp
  exact ⟨t, h.nox, q⟩
/-- how its arguments bind (no defaults): h is «fun _ _ _ _ _ _ us hl => match us, hl with | [_, _], _ => rfl», one _ a parameter -/
theorem Fun.binds {x qual : Str} {st : Stmt} {f : Addr} {fd : FuncData} {ps : List Str} (F : Fun K x qual st f fd)
    (h : ∀ (kV doc pm : Value) (an : Option Addr) (cdv ct : Value) (us : List Value), us.length = ps.length → bindArgs (PySem.W.fnOf x qual (defArgs st) (defBody st) (defScope st) .none kV doc pm an cdv ct) ⟨us, []⟩ = pure (ps.zip us)) : Binds K fd ps [] := by
  obtain ⟨oc, od, kV, doc, pm, an, cdv, ct, osl, rfl, lk, hcd⟩ := F.ex
  exact .all (h kV doc pm an cdv ct)
theorem fun_mk {x qual : Str} {st : Stmt} {f : Addr} {oc : Value} {od an : Option Addr} {osl : Array (Option Value)} {kV doc pm cdv ct : Value} (l : K.lookup f = some ⟨oc, od, .func (PySem.W.fnOf x qual (defArgs st) (defBody st) (defScope st) .none kV doc pm an cdv ct), osl⟩)
    (c : PySem.W.codeIn K cdv qual = true) (k : PySem.W.keepIn K (.ref f) = true) : Fun K x qual st f (PySem.W.fnOf x qual (defArgs st) (defBody st) (defScope st) .none kV doc pm an cdv ct) := ⟨⟨oc, od, kV, doc, pm, an, cdv, ct, osl, rfl, l, c⟩, k⟩
end
theorem small1000 {n : Nat} (h : n ≤ 1000) : n < sizeLine := Nat.lt_of_le_of_lt h (by decide)

/-! ### expressions in short: the name that stands in the i-th slot -/
section
variable {X : Cx}
theorem pv (i : Nat) {x : Str} {pos : Pos} (hN : X.N[i]? = some x := by rfl) (hv : Vis X.env.scope x := by first | exact Or.inl rfl | exact Or.inr (Or.inl rfl) | exact Or.inr (Or.inr rfl)) (hd : (x == ("__debug__" : Str)) = false := by decide)
    (hcd : (x == ("__classdict__" : Str)) = false := by decide) : PE X (.Name x pos) (tVar i) := pe_var hN hv hd hcd
end

/-! ### tests -/
theorem iteF {A B : Prop} (h : B) : if false = true then A else B := by
  rw [if_neg Bool.false_ne_true]
  exact h
theorem iteT {A B : Prop} (h : A) : if true = true then A else B := by
  rw [if_pos rfl]
  exact h
theorem ite2 {c A B : Prop} [Decidable c] (h1 : c → A) (h2 : ¬ c → B) : if c then A else B := by
  by_cases h : c
  · rw [if_pos h]
    exact h1 h
  · rw [if_neg h]
    exact h2 h
/-! ### heaps -/
/-- all that was tracked is as it was -/
noncomputable def Same (H H' : Hp) : Prop := ∀ b o, H b = some o → H' b = some o
theorem Same.refl (H : Hp) : Same H H := fun _ _ h => h
theorem Same.trans {H H1 H2 : Hp} (a : Same H H1) (b : Same H1 H2) : Same H H2 := fun c o h => b c o (a c o h)
theorem Same.free {H H' : Hp} (e : Same H H') {l : Addr} (h : H' l = Option.none) : H l = Option.none := by
  cases q : H l with
  | none => rfl
  | some o =>
    rw [e l o q] at h
    cases h
theorem Same.seq {K : PySem.W.Frag} {H H' : Hp} {a : Addr} {xs : List V} (e : Same H H') (h : SqL K H a xs) : SqL K H' a xs := by
  rcases h with (h | ⟨o, h⟩) | h
  · exact .inl (.inl (e _ _ h))
  · exact .inl (.inr ⟨o, e _ _ h⟩)
  · exact .inr h

end L2

set_option maxHeartbeats 4000000
/-! COMPREHENSIONS: [elt for x in iter], as a value and as what a name is set to. -/
namespace L2
open PySem PySem.Spec PyProof.Rows

/-- the cells that a comprehension's block takes along from the frame around it -/
noncomputable def clOf (env : Env) : List (Str × NameKind) → List (Str × Addr) → List (Str × Addr)
  | [], cs => cs
  | (n, k) :: r, cs => clOf env r (if k == .free then (n, (env.cells.lookup n).getD 0) :: cs else cs)
theorem clOf_lookup {env : Env} {n : Str} {c : Addr} : ∀ {l : List (Str × NameKind)} {cs : List (Str × Addr)}, (∀ y ∈ l, y.2 = .free → ∃ c, env.cells.lookup y.1 = some c) →
    (clOf env l cs).lookup n = some c → cs.lookup n = some c ∨ env.cells.lookup n = some c
  | [], _, _, h => .inl h
  | (m, k) :: r, cs, hl, h => by
    have hr : ∀ y ∈ r, y.2 = .free → ∃ c, env.cells.lookup y.1 = some c := fun y hy => hl y (List.mem_cons_of_mem _ hy)
    rcases clOf_lookup hr h with q | q
    · by_cases hk : (k == NameKind.free) = true
      · rw [if_pos hk] at q
        obtain ⟨c', e⟩ := hl (m, k) List.mem_cons_self (by simpa using hk)
        rw [List.lookup_cons] at q
        cases hm : n == m with
        | true =>
          rw [hm] at q
          have q' : (env.cells.lookup m).getD 0 = c := Option.some.inj q
          have em : n = m := by simpa using hm
          rw [e] at q'
          have q2 : c' = c := q'
          rw [em, e, q2]
          exact .inr rfl
        | false =>
          rw [hm] at q
          exact .inl q
      · rw [if_neg hk] at q
        exact .inl q
    · exact .inr q
theorem clOf_has {env : Env} {n : Str} : ∀ {l : List (Str × NameKind)} {cs : List (Str × Addr)}, ((n, NameKind.free) ∈ l ∨ ∃ c, cs.lookup n = some c) → ∃ c, (clOf env l cs).lookup n = some c
  | [], _, h => by
    rcases h with h | h
    · simp at h
    · exact h
  | (m, k) :: r, cs, h => by
    refine clOf_has (l := r) ?_
    by_cases hn : (n, NameKind.free) ∈ r
    · exact .inl hn
    · refine .inr ?_
      rcases h with h | ⟨c, h⟩
      · rcases List.mem_cons.mp h with e | e
        · cases e
          rw [if_pos (by decide)]
          exact ⟨(env.cells.lookup n).getD 0, by rw [List.lookup_cons]; simp⟩
        · exact absurd e hn
      · by_cases hk : (k == NameKind.free) = true
        · rw [if_pos hk, List.lookup_cons]
          cases hm : n == m with
          | true => exact ⟨_, rfl⟩
          | false => exact ⟨c, h⟩
        · rw [if_neg hk]
          exact ⟨c, h⟩
theorem closure_is {scope : Scope} {env : Env} (h : ∀ y ∈ scope.names, y.2 = .free → ∃ c, env.cells.lookup y.1 = some c) : closureFor scope env = pure (clOf env scope.names []) := by
  have go : ∀ (l : List (Str × NameKind)) (cs : List (Str × Addr)), (∀ y ∈ l, y.2 = .free → ∃ c, env.cells.lookup y.1 = some c) →
      (forIn l cs (fun (x : Str × NameKind) (r : List (Str × Addr)) => if x.2 == NameKind.free then (do let a ← cellOf env x.1; pure (ForInStep.yield ((x.1, a) :: r))) else (pure (ForInStep.yield r) : Sem _)) : Sem _) = pure (clOf env l cs) := by
    intro l
    induction l with
    | nil => intro cs _; rfl
    | cons y r ih =>
      intro cs hl
      obtain ⟨n, k⟩ := y
      have hr : ∀ y ∈ r, y.2 = .free → ∃ c, env.cells.lookup y.1 = some c := fun y hy => hl y (List.mem_cons_of_mem _ hy)
      rw [List.forIn_cons]
      by_cases hk : (k == NameKind.free) = true
      · obtain ⟨c, e⟩ := hl (n, k) List.mem_cons_self (by simpa using hk)
        have e1 : cellOf env n = pure c := by unfold cellOf; rw [show env.cells.lookup n = some c from e]
        dsimp only
        rw [if_pos hk, e1]
        simp only [pure_bind]
        rw [ih _ hr]
        show _ = pure (clOf env r _)
        rw [if_pos hk, show env.cells.lookup n = some c from e]
        all_goals rfl
      · dsimp only
        rw [if_neg hk]
        simp only [pure_bind]
        rw [ih _ hr]
        show _ = pure (clOf env r _)
        rw [if_neg hk]
  have e : closureFor scope env = (forIn scope.names ([] : List (Str × Addr)) (fun (x : Str × NameKind) (r : List (Str × Addr)) => if x.2 == NameKind.free then (do let a ← cellOf env x.1; pure (ForInStep.yield ((x.1, a) :: r))) else (pure (ForInStep.yield r) : Sem _)) : Sem _) := by
    unfold closureFor
    first
      | rfl
      | (simp only [bind_pure]; rfl)
      | (simp; done)
  rw [e]
  exact go _ _ h

theorem relabel_free {env : Env} : ∀ {names : List (Str × NameKind)} {x : Str}, names.lookup x = some .free →
    (names.map fun (n, k) => if (k == NameKind.free && env.scope.kind == .function && env.kindOf n == some .cell) then (n, NameKind.cell) else (n, k)).lookup x = some .cell ∨
    (names.map fun (n, k) => if (k == NameKind.free && env.scope.kind == .function && env.kindOf n == some .cell) then (n, NameKind.cell) else (n, k)).lookup x = some .free
  | [], _, h => by simp at h
  | (n, k) :: r, x, h => by
    have ih := @relabel_free env r x
    cases hx : x == n with
    | true =>
      simp only [List.lookup_cons, hx] at h
      cases h
      by_cases hc : (NameKind.free == NameKind.free && env.scope.kind == .function && env.kindOf n == some .cell) = true
      · refine .inl ?_
        rw [List.map_cons]
        dsimp only
        rw [if_pos hc, List.lookup_cons, hx]
      · refine .inr ?_
        rw [List.map_cons]
        dsimp only
        rw [if_neg hc, List.lookup_cons, hx]
    | false =>
      simp only [List.lookup_cons, hx] at h
      rw [List.map_cons]
      dsimp only
      by_cases hc : (k == NameKind.free && env.scope.kind == .function && env.kindOf n == some .cell) = true
      · rw [if_pos hc, List.lookup_cons, hx]; exact ih h
      · rw [if_neg hc, List.lookup_cons, hx]; exact ih h
/-- what the text of a comprehension must be; fr: the names it takes from around, with their slots there -/
structure CompOk (X : Cx) (scope : Scope) (x : Str) (fr : List (Str × Nat)) : Prop where
  kind : scope.kind = .function
  cell : ∀ y ∈ scope.names, y.2 ≠ .cell
  free : ∀ y ∈ scope.names, y.2 = .free → X.env.kindOf y.1 = some .cell ∨ X.env.kindOf y.1 = some .free
  loc : ∀ y ∈ scope.names, y.2 = .local → scope.names.lookup y.1 = some .local
  name : scope.names.lookup x = some .local
  nd : (x :: fr.map (·.1)).Nodup
  fr : ∀ p ∈ fr, X.N[p.2]? = some p.1 ∧ scope.names.lookup p.1 = some .free

noncomputable def frees (fr : List (Str × Nat)) (σ : St) : St := fr.map fun p => σ.getD p.2 none
section
variable {X : Cx} {scope : Scope} {x : Str} {fr : List (Str × Nat)}
theorem CompOk.cells {pins : List (Addr × Obj)} {σ : St} {H : Hp} {s : Shared} (c : CompOk X scope x fr) (I : Inv X pins σ H s) : ∀ y ∈ scope.names, y.2 = .free → ∃ c, X.env.cells.lookup y.1 = some c :=
  fun y hy hf => I.ok.has y.1 (c.free y hy hf)
theorem CompOk.was {pins : List (Addr × Obj)} {σ : St} {H : Hp} {s : Shared} (c : CompOk X scope x fr) (I : Inv X pins σ H s) {y : Str} {b : Addr} (h : (clOf X.env scope.names []).lookup y = some b) : X.env.cells.lookup y = some b := by
  rcases clOf_lookup (c.cells I) h with q | q
  · simp at q
  · exact q

/-- y = [elt for x in iter], y a plain local: the store goes ahead of the block's own end -/
noncomputable def tSetC (i : Nat) (te : TE) : TS := fun D σ H => te σ H fun v H1 => D.nx (σ.set i (some v)) H1
end

/-! ### the forms one uses: Pv i H: behind i turns -/
section
variable {K : PySem.W.Frag} {b a : Addr} {xs : List V} {te : TE} {fr : List (Str × Nat)} {σ : St} {H : Hp} {Q : VK}
end
end L2

/-! REFUSALS: raise, a call that may raise, try with one except clause. -/
namespace L2
open PySem PySem.Spec PyProof.Rows

theorem ObjOk.there {P : Program} {w : World} {H : Hp} {h : Heap} {a : Addr} {o : HO} (x : ObjOk P w H h a o) : ∃ ob, h.get? a = some ob := by
  cases o with
  | lst xs => obtain ⟨_, _, _, _, e⟩ := x; exact ⟨_, e⟩
  | tup xs => obtain ⟨_, _, _, ob, e, _⟩ := x; exact ⟨ob, e⟩
  | dK kvs => obtain ⟨_, _, _, _, o, _, _, e, _⟩ := x; exact ⟨_, e⟩
  | dT kvs => obtain ⟨_, _, _, _, o, _, _, e, _⟩ := x; exact ⟨_, e⟩
  | set S n => obtain ⟨o, _, _, _, e, _⟩ := x; exact ⟨_, e⟩
  | ins C dx fs => obtain ⟨_, _, _, e, _⟩ := x; exact ⟨_, e⟩
  | own y => exact x
  | xd fs => obtain ⟨_, ⟨_, _, _, e, _⟩, _⟩ := x; exact ⟨_, e⟩
  | rng lo hi => obtain ⟨_, _, _, e⟩ := x; exact ⟨_, e⟩
  | frz ob u => exact ⟨_, x.1⟩
  | tbl ps => exact ⟨_, x⟩
  | met f y => exact ⟨_, x⟩
  | ext φ => exact x.2.1

/-- what must not be touched by an exception on its way: what was there at the entry, what is tracked; all but the frames -/
noncomputable abbrev Cov (fs : List Addr) (h₀ : Heap) (H : Hp) (h B : Heap) : Prop := ∀ b o, h.get? b = some o → b ∉ fs → ((∃ o', h₀.get? b = some o') ∨ ∃ u, H b = some u) → B.get? b = some o
/-- an exception e of the class C is on its way through the body -/
noncomputable def FlyX (X : Cx) (pins : List (Addr × Obj)) (H : Hp) (e : Addr) (C : Value) (h : Heap) : Prop := ∃ B a0, Heap.FlyingW B X.stack e C a0 h ∧ Cov (frs X.stack) X.s₀.heap H h B ∧ ∀ p ∈ X.pn ++ pins, B.get? p.1 = some p.2
/-- how it lies behind a call -/
noncomputable def CX1 (P : Program) (w : World) : CXT := fun outer H s E ev s' => ∃ e C H' B a0, ev = .ref e ∧ s'.os = s.os ∧ AllBare s'.gens ∧ Un (frs outer) [] H H' s.heap s'.heap ∧ HOk P w H' s'.heap ∧
  Heap.FlyingW B outer e C a0 s'.heap ∧ Cov (frs outer) s.heap H' s'.heap B ∧ E C none H'
/-- what this body wants of an exception is right for every one that EX lets pass; for one that is raised here -/
noncomputable abbrev XE := St → Value → Hp → Prop
noncomputable def Lands (X : Cx) (EX : XE) : Prop := ∀ (pins : List (Addr × Obj)) (σ : St) (H : Hp) (s : Shared) (e : Addr) (C : Value), Inv X pins σ H s → FlyX X pins H e C s.heap → EX σ C H → X.xe (.ref e) s
noncomputable def LandsN (X : Cx) (EX : XE) : Prop := ∀ (pins : List (Addr × Obj)) (σ : St) (H : Hp) (s : Shared) (h' : Heap) (e : Addr) (C : Value) (vs : List Value), Inv X pins σ H s → Heap.MadeExcOf s.heap h' e C vs → EX σ C H → X.xe (.ref e) { s with heap := h' }

/-- out of a frame: what stays -/
theorem fly_out {X : Cx} {pins : List (Addr × Obj)} {σ : St} {H : Hp} {s : Shared} {h'' B : Heap} (I : Inv X pins σ H s) (hst : X.stack = X.env :: X.outer) (hfr : X.env.frame = some X.env.locals) (hex : X.ex = [])
    (stay : B.StaysIn h'') (sm : s.heap.UpToSlots h'') (cov : Cov (frs X.stack) X.s₀.heap H s.heap B) :
    Un X.fs [] X.H₀ H X.s₀.heap h'' ∧ HOk X.prog X.w H h'' ∧ Cov X.fs X.s₀.heap H h'' B := by
  have u := I.base
  rw [hex] at u
  have hfs : frs X.stack = X.env.locals :: X.fs := by
    rw [hst]
    unfold frs
    rw [List.filterMap_cons, hfr]
    rfl
  have old : ∀ b o, X.s₀.heap.get? b = some o → b ∉ X.fs → b ∉ frs X.stack := fun b o e hb hm => by
    rw [hfs] at hm
    rcases List.mem_cons.mp hm with z | z
    · exact absurd (Nat.lt_of_lt_of_le (Heap.lt_size e) I.ok.above) (by rw [z]; exact Nat.lt_irrefl _)
    · exact hb z
  have trk : ∀ b v, H b = some v → b ∉ frs X.stack := fun b v e hm => by
    have := I.stkFree b hm
    rw [e] at this
    cases this
  have keepO : ∀ b o, s.heap.get? b = some o → b ∉ frs X.stack → ((∃ o', X.s₀.heap.get? b = some o') ∨ ∃ v, H b = some v) → h''.get? b = some o := fun b o e hb hc => stay b o (cov b o e hb hc)
  have frm : ∀ b, b ∈ X.fs → ∀ o, s.heap.get? b = some o → ∃ sl, h''.get? b = some { o with slots := sl } := fun b hb o e => by
    obtain ⟨_, o', e', nf⟩ := I.funs.mem hb
    rw [e] at e'
    cases e'
    exact sm b o e nf
  refine ⟨⟨fun b o e n hb hx => ?_, fun b o e n hb hx => ?_, u.free, fun b o e hx => ?_, u.tups, u.frzs, u.tbls⟩, fun a o ha => ?_, fun b o e hb hc => ?_⟩
  · exact keepO b o (u.keep b o e n hb hx) (old b o e hb) (.inl ⟨o, e⟩)
  · obtain ⟨sl, e1⟩ := u.slot b o e n hb hx
    obtain ⟨sl', e2⟩ := frm b hb _ e1
    exact ⟨sl', e2⟩
  · obtain ⟨o1, e1⟩ := u.there b o e hx
    by_cases hb : b ∈ X.fs
    · obtain ⟨sl, e2⟩ := frm b hb _ e1
      exact ⟨_, e2⟩
    · exact ⟨o1, keepO b o1 e1 (old b o e hb) (.inl ⟨o, e⟩)⟩
  · refine (I.hok a o ha).stay (fun b v hb q => ?_) (fun _ q => q) fun _ _ q => q
    rcases hb with hb | hb
    · subst hb
      exact keepO b v q (trk b o ha) (.inr ⟨o, ha⟩)
    · exact keepO b v q (trk b _ hb) (.inr ⟨_, hb⟩)
  · rcases hc with ⟨o', e'⟩ | ⟨v, e'⟩
    · obtain ⟨o1, e1⟩ := u.there b o' e' (by simp)
      have q := keepO b o1 e1 (old b o' e' hb) (.inl ⟨o', e'⟩)
      rw [e] at q
      cases q
      exact cov b o e1 (old b o' e' hb) (.inl ⟨o', e'⟩)
    · obtain ⟨o1, e1⟩ := (I.hok b v e').there
      have q := keepO b o1 e1 (trk b v e') (.inr ⟨v, e'⟩)
      rw [e] at q
      cases q
      exact cov b o e1 (trk b v e') (.inr ⟨v, e'⟩)

section
variable {P : Program} {w : World} {K : PySem.W.Frag} {mg : Str → Option Value} {base : Heap} {N : List Str} {qual : Str} {scope : Scope} {f : Addr} {cd : Value} {A : Around} {outer : List Env} {s₀ : Shared} {H₀ : Hp} {E : XK}
/-- in a def's body: an exception leaves it as the def's promise says -/
theorem lands_def : Lands (cxOf (CX1 P w) P w K mg base N qual scope f cd A outer s₀ H₀ E) (fun _ C H => E C none H) := by
  intro pins σ H s e C I F hE
  obtain ⟨B, a0, fl, cov, _⟩ := F
  refine wpAny_leaves_onW I.ok.frames rfl fl fun h'' fl'' sm => ?_
  obtain ⟨un, ok, cv⟩ := fly_out I rfl rfl rfl fl''.1 sm cov
  exact ⟨e, C, H, B, a0, rfl, I.os, I.bare, un, ok, fl'', cv, hE⟩
theorem landsN_def : LandsN (cxOf (CX1 P w) P w K mg base N qual scope f cd A outer s₀ H₀ E) (fun _ C H => E C none H) := by
  intro pins σ H s h' e C vs I M hE
  have hfu := I.stack
  have hid := PySem.W.funFrames_hide (as := frs (cxOf (CX1 P w) P w K mg base N qual scope f cd A outer s₀ H₀ E).stack) hfu (fun env he a ha => List.mem_filterMap.mpr ⟨env, he, ha⟩)
  refine wpAny_leaves_madeW (s := { s with heap := h' }) (h := s.heap) I.ok.frames rfl (fun b o q => PySem.W.of_hideAll _ q) hid M fun h'' t fl'' _ _ sm => ?_
  obtain ⟨un, ok, cv⟩ := fly_out I rfl rfl rfl fl''.1 ((Heap.UpToSlots.of_keeps M.keeps).trans sm) fun b o q hb _ => PySem.W.hideAll_get _ q hb
  exact ⟨e, C, H, _, _, rfl, I.os, I.bare, un, ok, fl'', cv, hE⟩
end

section
variable {X : Cx} {EX : XE} {k : Nat} {f : Addr} {fd : FuncData} {ps : List Str} {sp : Sp} {dvs : List V} {ds : List Value} {x : Str} {p pos : Pos} {e : Expr} {es : List Expr} {t : TA}
/-- a call that may raise: the wish may hang on the names' values here -/
noncomputable def tCallX (sp : Sp) (dvs : List V) (EX : XE) (t : TA) : TE := fun σ H Q => t σ H fun vs H1 => sp (vs ++ dvs) H1 Q fun C _ H' => EX σ C H'
theorem run_fnX {pins : List (Addr × Obj)} {σ : St} {H : Hp} {s : Shared} {Q : VK} {us : List Value} {vs : List V} (F : FnOk X.prog X.w X.K X.mg X.base (CX1 X.prog X.w) k f fd ps sp) (hr : Room k X.A) (hb : Binds X.K fd ps ds) (hd : Vals dvs ds) (hx : Lands X EX)
    (hex : X.ex = []) (I : Inv X pins σ H s) (r : Vals vs us) (h : sp (vs ++ dvs) H Q fun C _ H' => EX σ C H') : wpAny (model X.prog X.w) X.A (call (.ref f) us) (EP X pins σ Q) X.xe s := by
  have r2 : Vals (vs ++ dvs) (us ++ ds) := r.append hd
  have hl : (us ++ ds).length = ps.length := by rw [← r2.length]; exact F.len _ _ _ _ h
  refine wpAny_call (codeAny_mono (F.run X.A X.stack s H ⟨us, []⟩ (us ++ ds) (vs ++ dvs) Q _ hr I.env0 (hb s us I.kIn hl) r2 h) fun r s' hq => ?_)
  cases r with
  | error ev =>
    obtain ⟨e, C, H', B, a0, rfl, os, bare, un, ok, fl, cov, q⟩ := hq
    have J : Inv X pins σ H' s' := I.call' os un ok bare fun b z => absurd z (by simp)
    refine hx pins σ H' s' e C J ⟨B, a0, fl, fun b o e1 hb hc => cov b o e1 hb ?_, fun p hp => ?_⟩ q
    · rcases hc with ⟨o', e'⟩ | hc
      · obtain ⟨o2, e2⟩ := I.base.there b o' e' (by rw [hex]; simp)
        exact .inl ⟨o2, e2⟩
      · exact .inr hc
    · obtain ⟨e1, n1, ne, nf, _⟩ := J.pin p hp
      refine cov p.1 p.2 e1 (fun hm => ?_) (.inl ⟨_, (I.pin p hp).1⟩)
      rcases List.mem_cons.mp (I.stkSub p.1 hm) with z | z
      · exact ne z
      · exact nf z
  | ok fl =>
    cases fl with
    | ret u => exact I.after hq
    | next => exact False.elim hq
    | brk => exact False.elim hq
    | cont => exact False.elim hq
theorem pe_callX (F : FnOk X.prog X.w X.K X.mg X.base (CX1 X.prog X.w) k f fd ps sp) (hr : Room k X.A) (hg : Gl X x) (hm : X.mg x = some (.ref f)) (hk : PySem.W.keepIn X.K (.ref f) = true) (hb : Binds X.K fd ps ds) (hd : Vals dvs ds) (hx : Lands X EX)
    (ha : PA X (e :: es) t) (hex : X.ex = [] := by rfl) (hdb : (x == ("__debug__" : Str)) = false := by decide) (he : starEach (e :: es) X.env = (false, eval e X.env) :: starEach es X.env := by rfl) (hpl : (backTo pos (starEach es X.env)).any (·.1) = false := by rfl) :
    PE X (.Call (.Name x p) (e :: es) [] pos) (tCallX sp dvs EX t) := by
  intro pins s σ H Q I h
  refine wpAny_Call_Name_kw (ld_glob I hg hm ?_ hdb)
  refine PySem.W.callWith_K (h₀ := X.base) I.ok.mod.kin hk (thn (ha pos pins s σ H _ I h) fun us s1 ⟨vs, H1, I1, r, q⟩ => ⟨I1.kIn, ?_⟩) he hpl
  exact run_fnX F hr hb hd hx hex I1 r q
/-- where no exception is wished, none is: a call of a def that may raise, anywhere -/
theorem passes1 {P : Program} {w : World} {Y : Cx} : Passes (CX1 P w) Y E0 := fun _ _ _ _ _ _ _ h => by
  obtain ⟨_, _, _, _, _, _, _, _, _, _, _, _, q⟩ := h
  exact q.elim
end

/-! ### raise C(..) -/
/-- the class object of an own exception, as it stands in the heap -/
theorem excObj {K : PySem.W.Frag} {h : Heap} {C : Addr} {bmB : List Value} {newId : String} (KX : K.In h) (hq : PySem.W.excIn K C bmB newId = true) :
    ∃ bm N nm qn bs hd sn sub ab col dd k0 k1 k2 k3 k5 mN, h.get? C = some (excClassObj nm qn C N bs bm hd sn sub ab col dd k0 k1 k2 k3 k5 newId) ∧ h.Ns N mN ∧ mN "__init__" = none ∧ OwnTail h bmB bm := by
  revert hq
  unfold PySem.W.excIn
  split
  · next dd cd sl lk =>
    split
    · next C1 bm k0 k1 k2 k3 nw k5 em es =>
      intro hq
      simp only [Bool.and_eq_true, beq_iff_eq, Bool.not_eq_true'] at hq
      obtain ⟨⟨⟨⟨⟨e1, e2⟩, e3⟩, e4⟩, e5⟩, e6⟩ := hq
      subst e1 e2
      cases cd with
      | mk nm bs mro ns qn hd sn sub ab col del =>
        have em' : mro = Value.ref C1 :: bm := em
        have e3' : del = false := e3
        subst em' e3'
        have esl : sl = #[k0, k1, k2, k3, some (Value.builtin nw), k5] := by
          cases sl with
          | mk l => exact congrArg Array.mk es
        subst esl
        exact ⟨bm, ns, nm, qn, bs, hd, sn, sub, ab, col, dd, k0, k1, k2, k3, k5, _, KX _ _ lk, Heap.Ns.of_isNs (PySem.W.isNs_of_in KX e5), PySem.W.nsMap_none_of_in KX e5 e6, PySem.W.tail_of_in KX e4⟩
    · intro z; cases z
  · intro z; cases z
theorem OwnTail.up {h h' : Heap} {bmB bm : List Value} (T : OwnTail h bmB bm) (k : ∀ b o, h.get? b = some o → h'.get? b = some o) : OwnTail h' bmB bm := T.keeps k

section
variable {X : Cx} {EX : XE} {C : Addr} {x : Str} {np cpos pos : Pos} {e₀ : Expr} {rest : List Expr} {t : TA} {bmB : List Value} {B newId initId : String}
noncomputable def tRaise (C : Addr) (EX : XE) (t : TA) : TS := fun _ σ H => t σ H fun vs H1 => vs.length ≤ sizeLine ∧ EX σ (.ref C) H1
theorem ps_raise (hc : X.calm = true) (hx : LandsN X EX) (hg : Gl X x) (hm : X.mg x = some (.ref C)) (hC : PySem.W.excIn X.K C bmB newId = true) (FB : ExcBaseFacts B newId initId bmB) (ha : PA X (e₀ :: rest) t)
    (hdb : (x == ("__debug__" : Str)) = false := by decide) (he : starEach (e₀ :: rest) X.env = (false, eval e₀ X.env) :: starEach rest X.env := by rfl) (hpl : (backTo cpos (starEach rest X.env)).any (·.1) = false := by rfl) :
    PS X (.Raise (some (.Call (.Name x np) (e₀ :: rest) [] cpos)) none pos) (tRaise C EX t) := by
  intro pins s σ H D I h
  obtain ⟨bm, N, nm, q, bs, hd, sn, sub, ab, col, dd, k0, k1, k2, k3, k5, mN, hcls, hns, hni, T⟩ := excObj I.mod.kin hC
  have hpl' : (backTo cpos (starEach (e₀ :: rest) X.env)).any (·.1) = false := by
    rw [he]
    show (false || (backTo cpos (starEach rest X.env)).any (·.1)) = false
    rw [hpl]
    rfl
  refine wpAny_Raise_call_subT (C := C) (nm := nm) (q := q) (N := N) (bs := bs) (bm := bm) (hdct := hd) (sn := sn) (sub := sub) (ab := ab) (col := col) (dd := dd) (k0 := k0) (k1 := k1) (k2 := k2) (k3 := k3) (k5 := k5) FB (mN := mN) (T.hasType FB.hasBase) (I.ok.hd hc) hpl' hni
    (ld_glob I hg hm ⟨rfl, ?_⟩ hdb)
  have hw := ha cpos pins s σ H _ I h
  rw [he] at hw ⊢
  refine Calls.evalArgs_plain (thn hw fun us s2 ⟨vs, H2, I2, r, z, q2⟩ => ⟨rfl, ?_, I2.bk _ _ hcls, hns.keeps I2.bk, T.keeps I2.bk, fun h' e M => hx pins σ H2 s2 h' e _ us I2 M q2⟩)
  show us.length ≤ sizeLine
  rw [← r.length]
  exact z
end

/-! ### try .. except C as n -/
section
variable {X : Cx} {pins : List (Addr × Obj)} {σ : St} {H : Hp} {s : Shared}
/-- an exception has passed over the heap -/
theorem Inv.flown {h' B : Heap} (I : Inv X pins σ H s) (hst : X.stack = X.env :: X.outer) (hfr : X.env.frame = some X.env.locals) (hex : X.ex = []) (stay : B.StaysIn h') (sm : s.heap.UpToSlots h') (cov : Cov (frs X.stack) X.s₀.heap H s.heap B)
    (hp : ∀ p ∈ X.pn ++ pins, B.get? p.1 = some p.2) : Inv X pins σ H { s with heap := h' } := by
  obtain ⟨un, ok, _⟩ := fly_out I hst hfr hex stay sm cov
  have cl : ∀ c v, s.heap.IsCell c v → h'.IsCell c v := fun c v ⟨o, e, d⟩ => by
    obtain ⟨sl, e'⟩ := sm c o e fun vs z => by rw [d] at z; cases z
    exact ⟨_, e', d⟩
  refine ⟨I.ok, I.os, I.bare, by rw [hex]; exact un, ?_, fun x c e => ?_, I.free, I.freeC, fun p hm => ?_, ok, I.len⟩
  · obtain ⟨m, hn, hl⟩ := I.loc
    refine ⟨m, sm.ns hn, fun i x v e1 e2 e3 => ?_⟩
    obtain ⟨u, r, l⟩ := hl i x v e1 e2 e3
    refine ⟨u, r, ?_⟩
    rcases l with l | ⟨k, c, e, z⟩
    · exact .inl l
    · exact .inr ⟨k, c, e, cl c _ z⟩
  · obtain ⟨v, z⟩ := I.cell x c e
    exact ⟨v, cl c v z⟩
  · obtain ⟨_, r⟩ := I.pin p hm
    exact ⟨stay _ _ (hp p hm), r⟩
/-- a caught exception: an object of that class -/
noncomputable def ExcAt (e : Addr) (C : Value) : HO := .ext fun h => ∃ o, h.get? e = some o ∧ o.cls = C
theorem Inv.trackE {e : Addr} {C : Value} {oe : Obj} {vs : Array Value} (I : Inv X pins σ H s) (he : s.heap.get? e = some oe) (hc : oe.cls = C) (hd : oe.data = .fields vs) (hn : H e = none) (hnew : X.s₀.heap.get? e = none) (hpn : ∀ p ∈ X.pn ++ pins, p.1 ≠ e) :
    Inv X pins σ (upd H e (ExcAt e C)) s := by
  have ne : ∀ b u, H b = some u → b ≠ e := fun b u q z => by rw [z, hn] at q; cases q
  have nL : X.env.locals ≠ e := fun z => by
    obtain ⟨m, ⟨o, es, ep, ho, hdd, _⟩, _⟩ := I.loc
    rw [z, he] at ho
    cases ho
    rw [hd] at hdd
    cases hdd
  have nC : ∀ x c, X.env.cells.lookup x = some c → c ≠ e := fun x c q z => by
    obtain ⟨v, o, ho, hdd⟩ := I.cell x c q
    rw [z, he] at ho
    cases ho
    rw [hd] at hdd
    cases hdd
  have u := I.base
  refine ⟨I.ok, I.os, I.bare, ⟨u.keep, u.slot, fun b o q n hx => ?_, u.there, fun b xs q => ?_, fun b o v q => ?_, fun b ps q => ?_⟩, I.loc, I.cell, ?_, fun x c q => ?_, fun p hp => ?_, fun a o q => ?_, I.len⟩
  · rw [upd_ne (fun z => by rw [z, hnew] at q; cases q)]
    exact u.free b o q n hx
  · have := u.tups b xs q
    rw [upd_ne (ne _ _ this)]
    exact this
  · have := u.frzs b o v q
    rw [upd_ne (ne _ _ this)]
    exact this
  · obtain ⟨m, e1⟩ := u.tbls b ps q
    exact ⟨m, by rw [upd_ne (ne _ _ e1)]; exact e1⟩
  · rw [upd_ne nL]; exact I.free
  · rw [upd_ne (nC x c q)]; exact I.freeC x c q
  · obtain ⟨e1, n1, r⟩ := I.pin p hp
    exact ⟨e1, by rw [upd_ne (hpn p hp)]; exact n1, r⟩
  · by_cases ha : a = e
    · subst ha
      rw [upd_same] at q
      cases q
      exact ⟨⟨oe, he, hc⟩, ⟨oe, he⟩, fun h1 h2 ⟨o, e1, r⟩ k => ⟨o, k o e1, r⟩⟩
    · rw [upd_ne ha] at q
      exact (I.hok a o q).stay (fun _ _ _ z => z) (fun b z => by rw [upd_ne (ne _ _ z)]; exact z) fun b xs z => by rw [upd_ne (ne _ _ z)]; exact z
/-- the name that an except clause has bound goes -/
theorem Inv.unbind {h' : Heap} {m : Str → Option Value} {u : Option Value} {i : Nat} {n : Str} (I : Inv X pins σ H s) (hN : X.N.Nodup) (hi : X.N[i]? = some n) (hl : X.env.scope.names.lookup n = some .local)
    (hn : s.heap.Ns X.env.locals m) (hn' : h'.Ns X.env.locals (fun x => if x = n then u else m x)) (hs : Heap.SameBut X.env.locals s.heap h') (hm : ∀ (j : Nat) x v, X.N[j]? = some x → σ[j]? = some (some v) → Vis X.env.scope x → ∃ u, RelV v u ∧ Look X.env s.heap m x u) :
    Inv X pins (σ.set i none) H { s with heap := h' } := by
  obtain ⟨oL, esL, epL, hoL, _⟩ := id hn
  have nL : ∀ b o, X.s₀.heap.get? b = some o → b ≠ X.env.locals := fun b o e => Nat.ne_of_lt (Nat.lt_of_lt_of_le (Heap.lt_size e) I.ok.above)
  have kp : ∀ b o, b ≠ X.env.locals → s.heap.get? b = some o → h'.get? b = some o := fun b o hb e => (hs.2 b hb).trans e
  have nT : ∀ b v, H b = some v → b ≠ X.env.locals := fun b v e z => by rw [z, I.free] at e; cases e
  have u0 := I.base
  refine ⟨I.ok, I.os, I.bare, ⟨fun b o e n hb hx => kp b o (nL b o e) (u0.keep b o e n hb hx), fun b o e n hb hx => ?_, u0.free, fun b o e hx => ?_, u0.tups, u0.frzs, u0.tbls⟩, ⟨_, hn', fun j x v e1 e2 e3 => ?_⟩, fun x c e => ?_, I.free, I.freeC, fun p hp => ?_, fun a o e => ?_, by simpa using I.len⟩
  · obtain ⟨sl, e1⟩ := u0.slot b o e n hb hx
    exact ⟨sl, kp b _ (nL b o e) e1⟩
  · obtain ⟨o1, e1⟩ := u0.there b o e hx
    exact ⟨o1, kp b o1 (nL b o e) e1⟩
  · have hj : j ≠ i := fun z => by
      subst z
      have hlt : j < σ.length := by rw [I.len]; exact (List.getElem?_eq_some_iff.mp hi).1
      rw [List.getElem?_set_self hlt] at e2
      cases e2
    rw [List.getElem?_set_ne (Ne.symm hj)] at e2
    have hx : x ≠ n := fun z => hj (nodup_ix hN e1 (z ▸ hi))
    obtain ⟨w, r, l⟩ := hm j x v e1 e2 e3
    refine ⟨w, r, ?_⟩
    rcases l with ⟨k, e⟩ | ⟨k, c, e, z⟩
    · exact .inl ⟨k, by simp [hx, e]⟩
    · exact .inr ⟨k, c, e, z.sameBut hs (I.cne x c e)⟩
  · obtain ⟨v, z⟩ := I.cell x c e
    exact ⟨v, z.sameBut hs (I.cne x c e)⟩
  · obtain ⟨e1, n1, ne, r⟩ := I.pin p hp
    exact ⟨kp _ _ ne e1, n1, ne, r⟩
  · refine (I.hok a o e).stay (fun b v hb q => kp b v ?_ q) (fun _ q => q) fun _ _ q => q
    rcases hb with hb | hb
    · rw [hb]; exact nT a o e
    · exact nT b _ hb
end

/-- the try's own body; the except suite (an exception is being handled: not calm; none leaves it) -/
noncomputable abbrev Cx.body (X : Cx) (pn : List (Addr × Obj)) (E : Value → Shared → Prop) : Cx := { X with pn := pn, xe := E }
noncomputable abbrev Cx.suite (X : Cx) (e : Addr) : Cx := { X with A := X.A.mark (some (.ref e)), calm := false, xe := fun _ _ => False }
section
variable {X : Cx} {pins pins' : List (Addr × Obj)} {σ : St} {H : Hp} {s : Shared} {E : Value → Shared → Prop} {e : Addr}
theorem Inv.intry (I : Inv X pins σ H s) : Inv (X.body (X.pn ++ pins) E) [] σ H s :=
  ⟨⟨I.ok.mod, I.ok.kind, I.ok.glob, I.ok.blt, I.ok.above, I.ok.inj, I.ok.has, I.ok.cab, I.ok.hd, I.ok.frames, I.ok.stk, I.ok.exf, I.ok.bs, I.ok.bsz, I.ok.noex, I.ok.exfs, I.ok.funs, I.ok.frf⟩,
    I.os, I.bare, I.base, I.loc, I.cell, I.free, I.freeC, fun p hp => I.pin p (by simpa using hp), I.hok, I.len⟩
theorem Inv.offtry (I : Inv (X.body (X.pn ++ pins) E) pins' σ H s) : Inv X pins σ H s :=
  ⟨⟨I.ok.mod, I.ok.kind, I.ok.glob, I.ok.blt, I.ok.above, I.ok.inj, I.ok.has, I.ok.cab, I.ok.hd, I.ok.frames, I.ok.stk, I.ok.exf, I.ok.bs, I.ok.bsz, I.ok.noex, I.ok.exfs, I.ok.funs, I.ok.frf⟩,
    I.os, I.bare, I.base, I.loc, I.cell, I.free, I.freeC, fun p hp => I.pin p (List.mem_append_left _ hp), I.hok, I.len⟩
theorem Inv.insuite (I : Inv X pins σ H s) : Inv (X.suite e) pins σ H s :=
  ⟨⟨I.ok.mod, I.ok.kind, I.ok.glob, I.ok.blt, I.ok.above, I.ok.inj, I.ok.has, I.ok.cab, (fun z => by cases z), I.ok.frames, I.ok.stk, I.ok.exf, I.ok.bs, I.ok.bsz, I.ok.noex, I.ok.exfs, I.ok.funs, I.ok.frf⟩,
    I.os, I.bare, I.base, I.loc, I.cell, I.free, I.freeC, I.pin, I.hok, I.len⟩
theorem Inv.offsuite (I : Inv (X.suite e) pins σ H s) (ok : X.Ok) : Inv X pins σ H s :=
  ⟨ok, I.os, I.bare, I.base, I.loc, I.cell, I.free, I.freeC, I.pin, I.hok, I.len⟩
theorem SP.offtry {D : Ends} {f : Flow} (h : SP (X.body (X.pn ++ pins) E) [] D f s) : SP X pins D f s := by
  cases f with
  | next => obtain ⟨σ', H', J, q⟩ := h; exact ⟨σ', H', J.offtry, q⟩
  | brk => obtain ⟨σ', H', J, q⟩ := h; exact ⟨σ', H', J.offtry, q⟩
  | cont => obtain ⟨σ', H', J, q⟩ := h; exact ⟨σ', H', J.offtry, q⟩
  | ret u => obtain ⟨v, σ', H', J, r, q⟩ := h; exact ⟨v, σ', H', J.offtry, r, q⟩
end
/-- the ends of an except suite whose name stands in slot i -/
noncomputable def Ends.gone (D : Ends) (i : Nat) : Ends := { nx := fun σ H => D.nx (σ.set i none) H, rt := D.rt, bk := fun σ H => D.bk (σ.set i none) H, ct := fun σ H => D.ct (σ.set i none) H }
/-- try: body; except C0 as n: suite. tb EX: the body's reading, EX what is wanted of an exception out of it -/
noncomputable def tTry (K : PySem.W.Frag) (C0 : Addr) (i : Nat) (tb : XE → TS) (ts : TS) : TS := fun D σ H =>
  tb (fun σ' C H' => PySem.W.exmOne K C (.ref C0) = some true ∧ ∀ e, H' e = none → ts (D.gone i) (σ'.set i (some (.ref e))) (upd H' e (ExcAt e C))) D σ H
section
variable {X : Cx} {C0 : Addr} {x n : Str} {np hpos pos : Pos} {i : Nat} {body suite : List Stmt} {b₀ : Stmt} {tb : XE → TS} {ts : TS}
theorem gone_ok {pins : List (Addr × Obj)} {D : Ends} {f : Flow} {s : Shared} {e : Addr} (ok : X.Ok) (hN : X.N.Nodup) (hi : X.N[i]? = some n) (hl : X.env.scope.names.lookup n = some .local) (h : SP (X.suite e) pins (D.gone i) f s) :
    wpAny (model X.prog X.w) X.A (do bindName X.env n .none; unbindBehindTheSuite X.env n hpos) (fun _ s' => SP X pins D f s') X.xe s := by
  have hcls : (X.env.scope.kind == .class || (X.env.scope.kind == .module && X.env.locals != X.env.globals)) = false := by rw [ok.kind]; rfl
  have main : ∀ (σ' : St) (H' : Hp), Inv (X.suite e) pins σ' H' s → ∀ (R : Shared → Prop), (∀ s', Inv X pins (σ'.set i none) H' s' → R s') →
      wpAny (model X.prog X.w) X.A (do bindName X.env n .none; unbindBehindTheSuite X.env n hpos) (fun _ s' => R s') X.xe s := by
    intro σ' H' J R hR
    have J1 := J.offsuite ok
    refine wpAny_bind (wpAny_bindName (store_ok (v := .non) J1 hN hi (.inl hl) rfl (fun s1 J2 => ?_) (.inr hl)))
    obtain ⟨m, hn, hm⟩ := J2.loc
    have hlt : i < σ'.length := by rw [J1.len]; exact (List.getElem?_eq_some_iff.mp hi).1
    obtain ⟨u, ru, lk⟩ := hm i n .non hi (List.getElem?_set_self hlt) (.inl hl)
    have hmn : m n = some u := by
      rcases lk with ⟨_, z⟩ | ⟨z, _⟩
      · exact z
      · rcases z with z | z <;> (have z' : X.env.scope.names.lookup n = _ := z; rw [hl] at z'; cases z')
    unfold unbindBehindTheSuite
    refine wpAny_onRaise (wpAny_mono (wpAny_unbindName_local hl hn hmn hcls fun h' v hn' hs => ?_) (fun _ _ q => q) fun _ _ q => wpAny_standAt q)
    refine hR _ ?_
    have J3 := J2.unbind hN hi hl hn hn' hs hm
    rw [List.set_set] at J3
    exact J3
  cases f with
  | next => obtain ⟨σ', H', J, q⟩ := h; exact main σ' H' J _ fun s' J' => ⟨_, H', J', q⟩
  | brk => obtain ⟨σ', H', J, q⟩ := h; exact main σ' H' J _ fun s' J' => ⟨_, H', J', q⟩
  | cont => obtain ⟨σ', H', J, q⟩ := h; exact main σ' H' J _ fun s' J' => ⟨_, H', J', q⟩
  | ret u => obtain ⟨v, σ', H', J, r, q⟩ := h; exact main σ' H' J _ fun s' J' => ⟨v, _, H', J', r, q⟩
theorem ps_try (hst : X.stack = X.env :: X.outer) (hfr : X.env.frame = some X.env.locals) (hex : X.ex = []) (hN : X.N.Nodup) (hi : X.N[i]? = some n) (hl : X.env.scope.names.lookup n = some .local)
    (hg : Gl X x) (hm : X.mg x = some (.ref C0)) (hb : ∀ pn E EX, Lands (X.body pn E) EX → PSs (X.body pn E) body (tb EX)) (hs : ∀ e, PSs (X.suite e) (b₀ :: suite) ts)
    (hdb : (x == ("__debug__" : Str)) = false := by decide) : PS X (.Try body [.ExceptHandler (some (.Name x np)) (some n) (b₀ :: suite) hpos] [] [] pos) (tTry X.K C0 i tb ts) := by
  intro pins s σ H D I h
  refine wpAny_Try_except (wpAny_mono (hb (X.pn ++ pins) (fun ev s₁ => wpAny (model X.prog X.w) X.A (noteFrame ev X.env) (fun _ s₂ => wpAny (model X.prog X.w) X.A (setFlight ev none) (fun _ s₃ =>
    wpAny (model X.prog X.w) X.A (handleBy ev X.env [.ExceptHandler (some (.Name x np)) (some n) (b₀ :: suite) hpos]) (SP X pins D) X.xe s₃) X.xe s₂) X.xe s₁) _ ?_ [] s σ H D I.intry h) (fun f s1 q => ?_) fun _ _ q => q)
  · -- an exception arrives
    intro pins' σ' H' s1 e C J F hE
    obtain ⟨hmt, hsuite⟩ := hE
    have J1 : Inv X pins σ' H' s1 := J.offtry
    obtain ⟨B, a0, fl, cov, cvp⟩ := F
    have fl' : Heap.FlyingW B (X.env :: X.outer) e C a0 s1.heap := hst ▸ fl
    have hfrm : X.A.frames = some (X.env :: X.outer) := I.ok.frames.trans (by rw [hst])
    have pn1 : ∀ p ∈ X.pn ++ pins, B.get? p.1 = some p.2 := fun p hp => cvp p (List.mem_append_left _ hp)
    -- where e lies
    have notB : ∀ b o, B.get? b = some o → b ≠ e := fun b o q z => by have := fl'.2.1; rw [← z, q] at this; cases this
    obtain ⟨oe1, vs1, he1, hc1, hd1, _⟩ := fl'.first
    have nfr : e ∉ frs X.stack := fun hm => by
      obtain ⟨_, o, ho, nf⟩ := J1.stack.mem hm
      rw [he1] at ho
      cases ho
      exact nf vs1 hd1
    have hEn : H' e = none := by
      cases q : H' e with
      | none => rfl
      | some v => exact absurd rfl (notB e _ (cov e _ he1 nfr (.inr ⟨v, q⟩)))
    have hE0 : X.s₀.heap.get? e = none := by
      cases q : X.s₀.heap.get? e with
      | none => rfl
      | some o => exact absurd rfl (notB e _ (cov e _ he1 nfr (.inl ⟨o, q⟩)))
    refine wpAny_looks_onW hfrm hfr fl' fun h4 held4 sm4 => ?_
    refine wpAny_landsW held4 fun h5 fl5 sm5 => ?_
    have J5 : Inv X pins σ' H' { s1 with heap := h5 } := J1.flown hst hfr hex fl5.1 (sm4.trans sm5) cov pn1
    have J5' : Inv (X.suite e) pins σ' H' { s1 with heap := h5 } := J5.insuite
    obtain ⟨ob, hob, hobc⟩ := fl5.there
    refine wpAny_handleBy_cons (codeAny_handlers_test (ld_glob (X := X.suite e) J5' hg hm ?_ hdb)) (by intro q; cases q)
    have LT : PySem.W.Looks (model X.prog X.w) h5 (typeOf (.ref e)) C := by
      rw [← hobc]
      exact (PySem.W.Looks.ld hob).andThen .now
    refine (PySem.W.exm_one J5.kIn LT hmt).here ?_
    show codeAny _ _ _ _ _
    refine codeAny_handlers_suite_as ?_
    refine lands_againW fl5 fun h6 fl6 sm6 => ?_
    have J6 : Inv X pins σ' H' { s1 with heap := h6 } := J1.flown hst hfr hex fl6.1 ((sm4.trans sm5).trans sm6) cov pn1
    obtain ⟨oe, vs, he, hc, hd, _⟩ := fl6.first
    have J7 := J6.trackE he hc hd hEn hE0 fun p hp => notB _ _ (pn1 p hp)
    refine store_ok (X := X.suite e) J7.insuite hN hi (.inl hl) (show RelV (.ref e) (.ref e) from rfl) (fun s8 J8 => ?_) (.inr hl)
    refine wpAny_mono (hs e pins s8 _ _ _ J8 (hsuite e hEn)) (fun f s9 q => ?_) fun _ _ q => q.elim
    exact gone_ok I.ok hN hi hl q
  · cases f with
    | next => exact wpAny_execs_nil (SP.offtry q)
    | brk => exact SP.offtry q
    | cont => exact SP.offtry q
    | ret u => exact SP.offtry q
end
end L2

/-! MORE OPERATIONS: products and quotients of great ints; == and != of data; isinstance; calls while an exception is handled. -/
namespace L2
open PySem PySem.Spec PyProof.Rows
section
variable {X : Cx}
theorem op_mulB : OpR X (binaryOp .Mult) (rI (fun i j => IntMulOk i j) fun i j => .int (i * j)) := opI fun _ _ _ _ _ _ _ hc q => mul_int q hc
noncomputable def CDivB (_ j : Int) : Prop := j ≠ 0 ∧ j.natAbs.log2 < 9000
theorem op_fdivB : OpR X (binaryOp .FloorDiv) (rI CDivB fun i j => .int (i.fdiv j)) := opI fun _ _ _ _ _ _ _ hc q => floordiv_int hc.1 q (.inl (PyProof.noPylong_of_log2 hc.2))
end

mutual
/-- a value is this data, by the abstract heap -/
inductive Dt (K : PySem.W.Frag) (H : Hp) : V → PyData → Prop
  | non : Dt K H .non .none
  | bl (b) : Dt K H (.bl b) (.bool b)
  | int (i) : Dt K H (.int i) (.int i)
  | str (x) : Dt K H (.str x) (.str x)
  | lst {a xs ds} : SqL K H a xs → Dts K H xs ds → Dt K H (.ref a) (.list ds)
  | tup {a xs ds} : SqT K H a xs → Dts K H xs ds → Dt K H (.ref a) (.tuple ds)
inductive Dts (K : PySem.W.Frag) (H : Hp) : List V → List PyData → Prop
  | nil : Dts K H [] []
  | cons {x xs d ds} : Dt K H x d → Dts K H xs ds → Dts K H (x :: xs) (d :: ds)
end
theorem Dts.ints {K : PySem.W.Frag} {H : Hp} : ∀ (ns : List Int), Dts K H (ns.map V.int) (ns.map PyData.int)
  | [] => .nil
  | n :: r => .cons (.int n) (Dts.ints r)
section
variable {X : Cx} {pins : List (Addr × Obj)} {σ : St} {H : Hp} {s : Shared}
mutual
theorem Dt.reads (I : Inv X pins σ H s) : ∀ {x : V} {d : PyData} {u : Value}, Dt X.K H x d → RelV x u → ∃ as, Reads s.heap u d as
  | _, _, _, .non, r => by cases (show _ = Value.none from r); exact ⟨_, .none⟩
  | _, _, _, .bl b, r => by cases (show _ = Value.bool b from r); exact ⟨_, .bool b⟩
  | _, _, _, .int i, r => by obtain ⟨t, e⟩ := (show ∃ t, _ = Value.int i t from r); cases e; exact ⟨_, .int i t⟩
  | _, _, _, .str x, r => by obtain ⟨t, e⟩ := (show ∃ t, _ = Value.str x t from r); cases e; exact ⟨_, .str x t⟩
  | _, _, _, .lst (a := a) h hd, r => by
    cases (show _ = Value.ref a from r)
    obtain ⟨its, rv, ⟨o, n, e, c, _, dd⟩, _⟩ := I.list h
    obtain ⟨as, q⟩ := Dts.reads I hd rv
    exact ⟨_, .list e c dd (by simpa using q)⟩
  | _, _, _, .tup (a := a) h hd, r => by
    cases (show _ = Value.ref a from r)
    obtain ⟨its, rv, ⟨o, e, c, n, dd⟩, _⟩ := I.tuple h
    obtain ⟨as, q⟩ := Dts.reads I hd rv
    exact ⟨_, .tuple e c dd (by simpa using q)⟩
theorem Dts.reads (I : Inv X pins σ H s) : ∀ {xs : List V} {ds : List PyData} {us : List Value}, Dts X.K H xs ds → Vals xs us → ∃ as, ReadsAll s.heap us ds as
  | _, _, _, .nil, r => by cases r; exact ⟨_, .nil⟩
  | _, _, _, .cons h t, r => by
    cases r with
    | cons r1 r2 =>
      obtain ⟨as, q1⟩ := Dt.reads I h r1
      obtain ⟨bs, q2⟩ := Dts.reads I t r2
      exact ⟨_, .cons q1 q2⟩
end
end
/-! ### == and != of data -/
section
variable {X : Cx}
noncomputable def rEqD (K : PySem.W.Frag) : R2 := fun x y H Q => ∃ d d', Dt K H x d ∧ Dt K H y d' ∧ SeqAt.shaped d = true ∧ SeqAt.shaped d' = true ∧ SeqAt.noMix d d' = true ∧ Q (.bl (same d d')) H
noncomputable def rNeD (K : PySem.W.Frag) : R2 := fun x y H Q => ∃ d d', Dt K H x d ∧ Dt K H y d' ∧ SeqAt.shaped d = true ∧ SeqAt.shaped d' = true ∧ SeqAt.noMix d d' = true ∧ Q (.bl (!same d d')) H
theorem op_eqD (hu : X.A.units + 64 < cLine) : OpR X (compareOp .Eq) (rEqD X.K) := by
  intro pins s σ H x y v u Q I rx ry h
  obtain ⟨d, d', h1, h2, s1, s2, mx, q⟩ := h
  obtain ⟨as, r1⟩ := h1.reads I rx
  obtain ⟨bs, r2⟩ := h2.reads I ry
  exact eq_dataH_same r1 r2 s1 s2 hu mx ⟨.bl (same d d'), H, I, rfl, q⟩
theorem op_neD (hu : X.A.units + 64 < cLine) : OpR X (compareOp .NotEq) (rNeD X.K) := by
  intro pins s σ H x y v u Q I rx ry h
  obtain ⟨d, d', h1, h2, s1, s2, mx, q⟩ := h
  obtain ⟨as, r1⟩ := h1.reads I rx
  obtain ⟨bs, r2⟩ := h2.reads I ry
  exact ne_dataH_same r1 r2 s1 s2 hu mx ⟨.bl (!same d d'), H, I, rfl, q⟩
end

/-! ### a list or a tuple walked -/
theorem PI.or {X : Cx} {tg l : Expr} {wi wi' : TI} (h : PI X tg l wi) (h' : PI X tg l wi') : PI X tg l (fun σ H R => wi σ H R ∨ wi' σ H R) := by
  intro pins s σ H R I q
  rcases q with q | q
  · exact h pins s σ H R I q
  · exact h' pins s σ H R I q

/-! ### isinstance -/
/-- the facts of an exception class of one's own, for isinstance -/
structure ExcCls (K : PySem.W.Frag) (C : Addr) : Prop where
  ga : PySem.W.findIn K (.ref C) "__getattribute__" = some (some (.builtin "BaseException.__getattribute__"))
  gt : PySem.W.findIn K (.ref C) "__getattr__" = some none
  ca : PySem.W.findIn K (.ref C) "__class__" = some (some (.builtin "object.__class__"))
  cg : PySem.W.specialIn K (.builtin "object.__class__") "__get__" = some (some (.builtin "getset_descriptor.__get__"))
  tk : PySem.W.takesIn K (.builtin "object.__class__") = some true
  ob : PySem.W.mroIn K C (.type "object") = some true
  bx : PySem.W.mroIn K C (.type "BaseException") = some true
  cl : (PySem.W.clsIn K C).isSome = true
theorem exc_class {prog : Program} {w : World} {A : Around} {E : Value → Shared → Prop} {s : Shared} {K : PySem.W.Frag} {x C : Addr} {Q : Option Value → Shared → Prop} (F : ExcCls K C) (KX : K.In s.heap) (ho : ∃ o, s.heap.get? x = some o ∧ o.cls = .ref C)
    (h : Q (some (.ref C)) { s with toks := s.toks + 1 }) : wpAny (model prog w) A (getAttr? (.ref x) "__class__") Q E s := by
  obtain ⟨hh, g, d, t, os⟩ := s
  obtain ⟨o, ho, hc⟩ := ho
  have L0 : PySem.W.Looks (model prog w) hh (typeOf (.ref x)) (.ref C) := hc ▸ (PySem.W.Looks.ld ho).andThen .now
  have L1 := PySem.W.looks_findIn (M := model prog w) KX F.ga
  have L2 := PySem.W.looks_findIn (M := model prog w) KX F.gt
  have L3 := PySem.W.looks_findIn (M := model prog w) KX F.ca
  have L4 := PySem.W.looks_specialIn (M := model prog w) KX F.cg
  have L5 := PySem.W.looks_takesIn (M := model prog w) KX F.tk
  have L6 := PySem.W.looks_mroIn (M := model prog w) KX F.ob
  have L7 := PySem.W.looks_mroIn (M := model prog w) KX F.bx
  unfold getAttr? getAttrBy? getAttrBy
  refine wpAny_bind (wpAny_mkText (wpAny_bind (wpAny_attempt (wpAny_holding (wpAny_bind (L0.at (wpAny_bind (L1.at ?_))))))))
  show wpAny _ _ (getAttrByItsOwn _ _ _ _ _ _) _ _ _
  unfold getAttrByItsOwn
  refine wpAny_bind (show wpAny _ _ (hookBefore (.ref C)) _ _ _ from L2.at ?_)
  refine wpAny_bind (wpAny_attempt (wpAny_holding ?_))
  show wpAny _ _ (boundAndCalled _ _ _) _ _ _
  unfold boundAndCalled
  rw [PySem.F.attr_ValueError.ga.bind (.ref x)]
  refine wpAny_bind (wpAny_pure (wpAny_call ?_))
  refine codeAny_call_builtin PySem.F.attr_ValueError.ga.plain PySem.F.entry_bexc_ga ?_
  have hk : builtinKind "BaseException.__getattribute__" = some .slot := by decide +kernel
  have hsplit : splitId "BaseException.__getattribute__" = some ("BaseException", "__getattribute__") := by decide +kernel
  have hargs := PySem.F.args_bexc_ga (.ref x) (.str "__class__" t)
  have LI : PySem.W.Looks (model prog w) hh (isInstance (.ref x) (.type "BaseException")) true := L0.andThen L7
  show wpAny _ _ (checkBuiltinCall "BaseException.__getattribute__" ⟨[.ref x, .str "__class__" t], []⟩) _ _ _
  simp only [checkBuiltinCall, hk, hsplit]
  refine wpAny_bind (LI.at ?_)
  repeat wp_step
  rw [hc]
  refine L3.at ?_
  refine wpAny_bind (show wpAny _ _ (Builtin.ObjectAttr.getOf (some (.builtin "object.__class__"))) _ _ _ from L4.at ?_)
  have LD : PySem.W.Looks (model prog w) hh (Builtin.ObjectAttr.dataDescriptor? (some (.builtin "object.__class__")) (some (.builtin "getset_descriptor.__get__"))) (some (.builtin "getset_descriptor.__get__", .builtin "object.__class__")) := L5.andThen .now
  refine wpAny_bind (LD.at ?_)
  repeat wp_step
  have LO : PySem.W.Looks (model prog w) hh (isInstance (.ref x) (.type "object")) true := L0.andThen L6
  refine codeAny_call_builtin PySem.W.KF.slot_gs.plain PySem.W.KF.entry_gs (PySem.W.KF.slot_gs.check _ _ _ _ _ _ _ _ PySem.W.KF.type_class (PySem.W.KF.args_gs _ _ _) ?_)
  (unfold Builtin.«getset_descriptor.__get__» Builtin.Getset_descriptor.descrGet; rw [PySem.W.dga_obj]; refine wpAny_bind (wpAny_pure ?_))
  (unfold Builtin.Getset_descriptor.descrGetter Builtin.Getset_descriptor.descrCheckInstance Builtin.Getset_descriptor.descrNameAndClass; simp only [PySem.W.KF.owner_class])
  refine wpAny_bind (wpAny_bind (wpAny_pure (wpAny_bind (LO.at (wpAny_pure ?_)))))
  repeat wp_step
  refine ⟨Code.quiet_builtin _ (by decide +kernel), codeAny_builtin PySem.W.KF.entry_class ?_⟩
  (unfold Builtin.«object.__class__» shownTypeOf; repeat wp_step)
  rw [hc]
  exact wpAny_pure (wpAny_pure h)
theorem kitx_exc {K : PySem.W.Frag} {x C : Addr} (F : ExcCls K C) : PySem.W.KitX K (.ref x) (.ref C) (fun h => ∃ o, h.get? x = some o ∧ o.cls = .ref C) where
  ty := fun M h _ ⟨o, ho, hc⟩ => hc ▸ (PySem.W.Looks.ld ho).andThen .now
  it := fun M h KX _ => by
    have q := F.cl
    unfold PySem.W.clsIn at q
    split at q
    · next lk =>
      intro A' Q' E' s' k z
      (unfold isType loadHead; exact wpAny_bind (wpAny_loadPart (k _ _ (KX _ _ lk)) (wpAny_pure z)))
    · cases q
  ne := fun h tp dd its n sl KX htp => by
    have q := F.cl
    refine Bool.eq_false_iff.mpr fun z => ?_
    have e : C = tp := Value.ref.inj (beq_iff_eq.mp z)
    subst e
    unfold PySem.W.clsIn at q
    split at q
    · next lk => exact absurd ((KX _ _ lk).symm.trans htp) (by intro z2; cases z2)
    · cases q
  ca := fun KX p k => exc_class F KX p k
/-- the type of a value: as TyOf has it, or a caught exception's class -/
inductive TyX (K : PySem.W.Frag) (H : Hp) : V → Value → Prop where
  | ty {x : V} {t : Value} (h : TyOf K H x t) : TyX K H x t
  | exc {e C : Addr} (h : H e = some (ExcAt e (.ref C))) (F : ExcCls K C) : TyX K H (.ref e) (.ref C)
  | tupS {a : Addr} {xs : List V} (h : SqT K H a xs) : TyX K H (.ref a) (.type "tuple")
noncomputable def clsV : V → Value
  | .ty n => .type n
  | .ref a => .ref a
  | _ => .none
noncomputable def isCls : V → Bool
  | .ty _ => true
  | .ref _ => true
  | _ => false
noncomputable def rIsi (K : PySem.W.Frag) : List V → Hp → VK → Prop := fun vs H Q => ∃ x c t b, vs = [x, c] ∧ TyX K H x t ∧ isCls c = true ∧ PySem.W.kitOne K t (clsV c) = some b ∧ Q (.bl b) H
theorem call_isi {X : Cx} : CallR X (.builtin "isinstance") (rIsi X.K) := by
  intro pins s σ H xs us Q I rv h
  obtain ⟨x, c, t, b, rfl, ty, ic, e, q⟩ := h
  obtain ⟨u, w, rfl, r1, r2⟩ := rv.two
  have ew : w = clsV c := by
    cases c <;> first | exact r2 | cases ic
  subst ew
  have fin : ∀ tk, EP X pins σ Q (.bool b) { s with toks := tk } := fun tk => ⟨.bl b, H, I.tok tk, rfl, q⟩
  cases ty with
  | ty h => exact isinst_ok I r1 h e fin
  | exc h F =>
    obtain rfl : u = _ := r1
    obtain ⟨φ, _, _⟩ := (show ObjOk X.prog X.w H s.heap _ (ExcAt _ _) from I.hok _ _ h)
    exact PySem.W.kia_one (kitx_exc F) I.kIn φ e (fun z => nomatch z) fin
  | tupS h =>
    obtain rfl : u = _ := r1
    obtain ⟨its, _, ⟨o, h1, h2, _⟩, _⟩ := I.tuple h
    exact PySem.W.kia_one PySem.W.kitx_tuple I.kIn ⟨o, h1, h2⟩ e (fun z => nomatch z) fin

/-! ### defs that are called while an exception is handled -/
/-- room, without a word on what is handled -/
structure RoomA (k : Nat) (A : Around) : Prop where
  dp : A.depth + 3 * k + 5 < recursionLimit
  un : A.units + 16 * k + 200 < cLine
theorem Room.a {k : Nat} {A : Around} (r : Room k A) : RoomA k A := ⟨r.dp, r.un⟩
theorem RoomA.mono {j k : Nat} {A : Around} (r : RoomA k A) (h : j ≤ k) : RoomA j A := ⟨by have := r.dp; omega, by have := r.un; omega⟩
theorem RoomA.deeper {k : Nat} {A : Around} (r : RoomA (k + 1) A) (env : Env) : RoomA k (A.deeper env) :=
  ⟨by have := r.dp; show A.depth + 1 + 3 * k + 5 < _; omega, by have := r.un; show A.units + 3 + 16 * k + 200 < _; omega⟩
theorem RoomA.mark {k : Nat} {A : Around} (r : RoomA k A) (v : Option Value) : RoomA k (A.mark v) := ⟨r.dp, r.un⟩
theorem RoomA.calm {k : Nat} {A : Around} (r : RoomA k A) : Room k { A with handled := none } := ⟨rfl, r.dp, r.un⟩
/-- a def's promise, whatever is handled; no exception leaves it -/
structure FnOkA (P : Program) (w : World) (K : PySem.W.Frag) (mg : Str → Option Value) (base : Heap) (k : Nat) (f : Addr) (fd : FuncData) (ps : List Str) (sp : Sp) : Prop where
  len : ∀ vs H Q E, sp vs H Q E → vs.length = ps.length
  run : ∀ (A : Around) (outer : List Env) (s : Shared) (H : Hp) (args : Args) (us : List Value) (vs : List V) (Q : VK) (E : XK), RoomA k A → Env0 P w K mg base A outer s H → BindsTo s fd args (ps.zip us) → Vals vs us → sp vs H Q E →
    codeAny (model P w) A (.call (.ref f) args) (CR CX0 outer P w H s Q E) s
theorem FnOkA.ok {P : Program} {w : World} {K : PySem.W.Frag} {mg : Str → Option Value} {base : Heap} {k : Nat} {f : Addr} {fd : FuncData} {ps : List Str} {sp : Sp} (F : FnOkA P w K mg base k f fd ps sp) : FnOk P w K mg base CX0 k f fd ps sp :=
  ⟨F.len, fun A outer s H args us vs Q E hr => F.run A outer s H args us vs Q E hr.a⟩
/-- the body's context: as cxOf, but not calm -/
noncomputable abbrev cxA (P : Program) (w : World) (K : PySem.W.Frag) (mg : Str → Option Value) (base : Heap) (N : List Str) (qual : Str) (scope : Scope) (f : Addr) (cd : Value) (A : Around) (outer : List Env) (s : Shared) (H : Hp) (E : XK) : Cx :=
  { cxOf CX0 P w K mg base N qual scope f cd A outer s H E with calm := false, xe := fun _ _ => False }
section
variable {P : Program} {w : World} {K : PySem.W.Frag} {mg : Str → Option Value} {base : Heap}
theorem Fun.okA {x qual : Str} {st : Stmt} {f : Addr} {fd : FuncData} {N ps : List Str} {k : Nat} {sp : Sp} (F : Fun K x qual st f fd) (S : FnScope N ps (defScope st)) (len : ∀ vs H Q E, sp vs H Q E → vs.length = ps.length)
    (hbody : ∀ (cdv : Value) (A : Around) (outer : List Env) (s : Shared) (H : Hp) (vs : List V) (Q : VK) (E : XK), RoomA k (A.deeper (envOfC qual (defScope st) s.heap.objs.size f cdv)) → sp vs H Q E →
      ∃ t, PSs (cxA P w K mg base N qual (defScope st) f cdv A outer s H E) (defBody st) t ∧ t { nx := fun _ H' => Q .non H', rt := Q } (start N vs) H) : FnOkA P w K mg base (k + 1) f fd ps sp := by
  obtain ⟨oc, od, kV, doc, pm, an, cdv, ct, osl, rfl, lk, hcd⟩ := F.ex
  refine ⟨len, fun A outer s H args us vs Q E hr e0 hb r hsp => ?_⟩
  have hl := len _ _ _ _ hsp
  have kp : ∀ b o, base.get? b = some o → s.heap.get? b = some o := fun b o e => (e0.bs b o e).1
  have hkind : ∀ y ∈ ps.zip us, (defScope st).names.lookup y.1 = some .local ∨ ((defScope st).names.lookup y.1 = some .cell ∧ ((cellsFrom (s.heap.objs.size + 1) (defScope st).names []).lookup y.1).isSome = true) := fun ⟨n, v⟩ hy => by
    rcases S.par n (List.of_mem_zip hy).1 with q | q
    · exact .inl q
    · exact .inr ⟨q, PySem.W.cellsFrom_some _ _ _ (.inl q)⟩
  refine codeAny_call_function (by have := hr.dp; omega) (e0.mod.kin.keeps kp _ _ lk) rfl S.co S.gen rfl (PySem.W.codeRec_of (e0.mod.kin.keeps kp) hcd) (hb _ _ _ _ ?_)
  refine wpAny_newFunctionEnv_cells S.kind hkind fun env he s1 x => ?_
  subst he
  refine ⟨(e0.mod.nolimit.keeps kp).keeps x.toInCall.keep, codeAny_func ?_⟩
  obtain ⟨t, ht, hq⟩ := hbody cdv A outer s H vs Q E (hr.deeper _) hsp
  have I0 : Inv (cxOf CX0 P w K mg base N qual (defScope st) f cdv { A with handled := none } outer s H E) [] (start N vs) H s1 :=
    inv_start S rfl (⟨e0.frames, e0.mod, e0.bs, e0.bsz, e0.funs, e0.frf, e0.hok, e0.bare⟩ : Env0 P w K mg base { A with handled := none } outer s H) hl r x
  have I : Inv (cxA P w K mg base N qual (defScope st) f cdv A outer s H E) [] (start N vs) H s1 :=
    ⟨⟨I0.ok.mod, I0.ok.kind, I0.ok.glob, I0.ok.blt, I0.ok.above, I0.ok.inj, I0.ok.has, I0.ok.cab, (fun z => by cases z), Around.frames_deeper e0.frames, I0.ok.stk, I0.ok.exf, I0.ok.bs, I0.ok.bsz, I0.ok.noex, I0.ok.exfs, I0.ok.funs, I0.ok.frf⟩,
      I0.os, I0.bare, I0.base, I0.loc, I0.cell, I0.free, I0.freeC, I0.pin, I0.hok, I0.len⟩
  refine wpAny_mono (ht [] s1 (start N vs) H _ I hq) (fun fl s' hs => ?_) fun _ _ z => z.elim
  cases fl with
  | ret u => obtain ⟨v, σ', H', J, rv, q⟩ := hs; exact ⟨v, H', J.os, J.bare, J.base, J.hok, rv, q⟩
  | next => obtain ⟨σ', H', J, q⟩ := hs; exact ⟨.non, H', J.os, J.bare, J.base, J.hok, rfl, q⟩
  | brk => obtain ⟨_, _, _, q⟩ := hs; exact q.elim
  | cont => obtain ⟨_, _, _, q⟩ := hs; exact q.elim
end
section
variable {X : Cx} {k : Nat} {f : Addr} {fd : FuncData} {ps : List Str} {sp : Sp} {dvs : List V} {ds : List Value} {x : Str} {p pos : Pos} {e : Expr} {es : List Expr} {t : TA}
theorem pe_callA (F : FnOkA X.prog X.w X.K X.mg X.base k f fd ps sp) (hr : RoomA k X.A) (hg : Gl X x) (hm : X.mg x = some (.ref f)) (hk : PySem.W.keepIn X.K (.ref f) = true) (hb : Binds X.K fd ps ds) (hd : Vals dvs ds)
    (ha : PA X (e :: es) t) (hdb : (x == ("__debug__" : Str)) = false := by decide) (he : starEach (e :: es) X.env = (false, eval e X.env) :: starEach es X.env := by rfl) (hpl : (backTo pos (starEach es X.env)).any (·.1) = false := by rfl) :
    PE X (.Call (.Name x p) (e :: es) [] pos) (tCall sp dvs E0 t) := by
  intro pins s σ H Q I h
  refine wpAny_Call_Name_kw (ld_glob I hg hm ?_ hdb)
  refine PySem.W.callWith_K (h₀ := X.base) I.ok.mod.kin hk (thn (ha pos pins s σ H _ I h) fun us s1 ⟨vs, H1, I1, r, q⟩ => ⟨I1.kIn, ?_⟩) he hpl
  have r2 : Vals (vs ++ dvs) (us ++ ds) := r.append hd
  have hl : (us ++ ds).length = ps.length := by rw [← r2.length]; exact F.len _ _ _ _ q
  refine wpAny_call (codeAny_mono (F.run X.A X.stack s1 H1 ⟨us, []⟩ (us ++ ds) (vs ++ dvs) Q E0 hr I1.env0 (hb s1 us I1.kIn hl) r2 q) fun r s' hq => ?_)
  cases r with
  | error e => exact False.elim hq
  | ok fl =>
    cases fl with
    | ret u => exact I1.after hq
    | next => exact False.elim hq
    | brk => exact False.elim hq
    | cont => exact False.elim hq
end
end L2

/-! SMALL WORDS for the terms that a program prints. -/
namespace L2
open PySem PySem.Spec PyProof.Rows
section
variable {X : Cx}
theorem op_eqZ : OpR X (compareOp .Eq) (rI0 fun i j => .bl (decide (i = j))) := opB0 fun i j _ _ _ _ _ q => eq_int (by rw [Bool.beq_eq_decide_eq]; exact q)
theorem op_neZ : OpR X (compareOp .NotEq) (rI0 fun i j => .bl (!decide (i = j))) := opB0 fun i j _ _ _ _ _ q => ne_int (by rw [bne, Bool.beq_eq_decide_eq]; exact q)
theorem PS.nox {st : Stmt} {t : TS} (h : PS X.nox st t) : PS X st t := fun pins s σ H D I hw =>
  wpAny_mono (h pins s σ H D (I.wish _) hw) (fun _ _ q => q.unwish) fun _ _ z => z.elim
end
section
variable {P : Program} {w : World} {K : PySem.W.Frag} {mg : Str → Option Value} {base : Heap}
/-- a def that may raise -/
theorem Fun.okX {x qual : Str} {st : Stmt} {f : Addr} {fd : FuncData} {N ps : List Str} {k : Nat} {sp : Sp} (F : Fun K x qual st f fd) (S : FnScope N ps (defScope st)) (len : ∀ vs H Q E, sp vs H Q E → vs.length = ps.length)
    (hbody : ∀ (cdv : Value) (A : Around) (outer : List Env) (s : Shared) (H : Hp) (vs : List V) (Q : VK) (E : XK), Room k (A.deeper (envOfC qual (defScope st) s.heap.objs.size f cdv)) → sp vs H Q E →
      ∃ t, PSs (cxOf (CX1 P w) P w K mg base N qual (defScope st) f cdv A outer s H E) (defBody st) t ∧ t { nx := fun _ H' => Q .non H', rt := Q } (start N vs) H) : FnOk P w K mg base (CX1 P w) (k + 1) f fd ps sp := by
  obtain ⟨oc, od, kV, doc, pm, an, cdv, ct, osl, rfl, lk, hcd⟩ := F.ex
  exact fn_of lk hcd S len fun A outer s H vs Q E hr hsp => hbody cdv A outer s H vs Q E hr hsp
end
end L2
namespace Att
open PySem PySem.W PySem.Calls PyProof.Rows
theorem ofPy_ints : ∀ ns : List Int, ofPys (ns.map PyData.int) = ns.map WData.int
  | [] => rfl
  | n :: r => by
    show ofPy (.int n) :: ofPys (r.map PyData.int) = _
    rw [ofPy_ints r]
    rfl
theorem lay_bits {ns : List Int} (h : (WData.list (ns.map WData.int)).layable = true) : ∀ n ∈ ns, Builtin.Int.intBits n ≤ 1048576 := fun n hn => by
  have e : ofPy (.list (ns.map PyData.int)) = WData.list (ns.map WData.int) := by
    show WData.list (ofPys (ns.map PyData.int)) = _
    rw [ofPy_ints]
  have sh : PySem.Spec.Shape.has (.list .int) (.list (ns.map PyData.int)) = true := by
    simp [PySem.Spec.Shape.has]
  exact intBits_le_of_item hn (layable0_of_all (lay0_ofPy (s := .list .int) rfl sh (by rw [e]; exact h)))
/-- as attach_call, with the size of the script's ints -/
theorem attach_callB {l : OpenLaw} {n : Nat} {q : Program} {loose : List Str} {XP : (Str → Option Value) → Heap → Prop} {YP : World → Heap → Prop} {d : DefRec} (hn : l.most = some n) (hdf : d.params.defaults = [])
    (call : ∀ (w : World) (s₀ s₁ : Shared) (mg mb : Str → Option Value) (fa : Addr) (a : Addr) (vs : List Value) (ns : List Int), Ground q loose [] XP w s₀ mg mb s₁.heap → YP w s₁.heap → mg d.name = some (.ref fa) →
      s₁.heap.get? a = some { cls := .type "list", data := .seq vs.toArray } → IntsAre vs ns → ns.length ≤ n → (∀ m ∈ ns, Builtin.Int.intBits m ≤ 1048576) → s₁.gens = #[] →
      codeAny (model l.prog w) callerA (.call (.ref fa) ⟨[.ref a], []⟩) (fun r s' => r = .ok (.ret (.bool true)) ∧ OldK s₁.heap s'.heap ∧ s'.os = s₁.os ∧ AllBare s'.gens) s₁) :
    WalkO q loose XP YP l.row.toRowW d [] (fun f vs => PySem.call f vs) := by
  intro w s₀ s₁ mg mb G Y fa o pm cd doc dV kV ho hd hcd hD hmg hg args vals as hpre hlay hrd hwl hlo
  obtain rfl : dV = .none := Dflts.none hD hdf
  obtain rfl : kV = .none := Dflts.noKw hD
  obtain ⟨a, vs, ns, rfl, rfl, hobj, hints, hlen⟩ := script_of hn hpre hwl
  have hb := lay_bits (layableW_arg hlay _ List.mem_cons_self)
  refine enter_call (codeAny_mono (call w s₀ s₁ mg mb fa a vs ns G Y hmg hobj hints hlen hb hg) fun r s' hq => ?_)
  obtain ⟨rfl, h2, h3, h4⟩ := hq
  exact ⟨.inl ⟨.bool true, .bool true, [], rfl, fun _ => rfl, .bool true, post_true l _, fun _ => ⟨List.Pairwise.nil, fun _ hm => (nomatch hm)⟩⟩, h2, h3, h4⟩
end Att
namespace L2
open PySem PySem.Spec PyProof.Rows
/-- the law's promise: handed a script of at most 63 ints of at most 2^20 bits, True comes out -/
noncomputable def spLaw (K : PySem.W.Frag) : Sp := fun vs H Q _ => ∃ (a : Addr) (ns : List Int), vs = [.ref a] ∧ SqL K H a (ns.map V.int) ∧ ns.length ≤ 63 ∧ (∀ m ∈ ns, Builtin.Int.intBits m ≤ 1048576) ∧ ∀ H', Q (.bl true) H'
theorem walkB {l : PySem.W.OpenLaw} {k : Nat} {q : Program} {loose : List Str} {XP : (Str → Option Value) → Heap → Prop} {YP : World → Heap → Prop} {d : DefRec} {K : Params → PySem.W.Frag} {x : Str}
    (hn : l.most = some 63) (hdf : d.params.defaults = []) (hr : Room k callerA) (hY : ∀ (w : World) (h : Heap), YP w h → (K w.params).In h)
    (F : ∀ (w : World) (mg : Str → Option Value) (fa : Addr) (h : Heap), (K w.params).In h → h.Ns mainGlobals mg → mg d.name = some (.ref fa) →
      ∃ fd : FuncData, (∀ (s : Shared) (u : Value), BindsTo s fd ⟨[u], []⟩ [(x, u)]) ∧ ∀ base : Heap, (K w.params).In base → base.Ns mainGlobals mg → FnOk l.prog w (K w.params) mg base CX0 k fa fd [x] (spLaw (K w.params))) :
    PySem.W.WalkO q loose XP YP l.row.toRowW d [] (fun f vs => PySem.call f vs) := by
  refine Att.attach_callB hn hdf fun w s₀ s₁ mg mb fa a vs ns G Y hmg hobj hints hlen hb hg => ?_
  have KX := hY w _ Y
  obtain ⟨fd, hbn, hF⟩ := F w mg fa _ KX G.T.g hmg
  exact law_call KX G.T.g G.T.b G.T.builtins G.T.nolimit hg hobj hints (Nat.le_trans hlen (by decide)) hr hF hbn (fun H _ hS => ⟨a, ns, rfl, hS, hlen, hb, fun _ => rfl⟩) fun H e s' z => z
/-! ### readings, turned to plain words -/
/-- a loop alone: its body is a name B -/
theorem for_st {wi : TI} {g : TG} {tb : TS} {D : Ends} {σ : St} {H : Hp} (h : ∀ B : TS, B = tb → wi σ H fun J H1 => ∃ W : Nat → Nat → St → Hp → Prop, (∃ m, W 0 m σ H1) ∧ ∀ i m σ H, W i m σ H →
    (J.stop i H ∧ D.nx σ H) ∨ (J.go i H ∧ ∃ N : St → Hp → Prop, (∀ σ' H', N σ' H' → ∃ m', m' < m ∧ W (i + 1) m' σ' H') ∧ ∀ x H', J.yld i H x H' → g x σ H' fun σ2 H2 => B { D with nx := N, ct := N, bk := D.nx } σ2 H2)) : tFor wi g tb D σ H := h _ rfl
theorem while_st {c : TT} {tb : TS} {D : Ends} {σ : St} {H : Hp} (h : ∀ B : TS, B = tb → ∃ W : Nat → St → Hp → Prop, (∃ m, W m σ H) ∧ ∀ m σ H, W m σ H →
    c σ H fun b H1 => if b = true then ∃ N : St → Hp → Prop, (∀ σ' H', N σ' H' → ∃ m', m' < m ∧ W m' σ' H') ∧ B { D with nx := N, ct := N, bk := D.nx } σ H1 else D.nx σ H1) : tWhile c tb D σ H := h _ rfl
/-- a statement alone: what stands behind it is a name NX -/
theorem st {t u : TS} {D : Ends} {σ : St} {H : Hp} (h : ∀ NX : St → Hp → Prop, NX = u D → t { D with nx := NX } σ H) : tSeq t u D σ H := h _ rfl
section
variable {g : Int → Int → V} {C : Int → Int → Prop} {f : Int → V} {i j : Int} {H : Hp} {Q : VK}
theorem rd_rI0 : rI0 g (.int i) (.int j) H Q = Q (g i j) H := propext ⟨fun ⟨_, _, e1, e2, q⟩ => by cases e1; cases e2; exact q, fun q => ⟨_, _, rfl, rfl, q⟩⟩
theorem rd_rI : rI C g (.int i) (.int j) H Q = (C i j ∧ Q (g i j) H) := propext ⟨fun ⟨_, _, e1, e2, q⟩ => by cases e1; cases e2; exact q, fun q => ⟨_, _, rfl, rfl, q⟩⟩
theorem rd_rU : rU f (.int i) H Q = Q (f i) H := propext ⟨fun ⟨_, e1, q⟩ => by cases e1; exact q, fun q => ⟨_, rfl, q⟩⟩
end
/-! ### comprehensions whose elements leave what is tracked as it is: R i x y: the element at place i, of x, is y -/
theorem Same.new {H : Hp} {a : Addr} {o : HO} (h : H a = none) : Same H (upd H a o) := fun b u e => by rw [upd_ne (ne_of_none e h)]; exact e
theorem Same.over {H H1 : Hp} {a : Addr} {o : HO} (h : H a = none) (s : Same H H1) : Same H (upd H1 a o) := fun b u e => by rw [upd_ne (ne_of_none e h)]; exact s b u e
theorem Same.tup {K : PySem.W.Frag} {H H' : Hp} {a : Addr} {xs : List V} (e : Same H H') (h : SqT K H a xs) : SqT K H' a xs := by
  rcases h with (h | ⟨o, h⟩) | h
  · exact .inl (.inl (e _ _ h))
  · exact .inl (.inr ⟨o, e _ _ h⟩)
  · exact .inr h
section
variable {K : PySem.W.Frag} {a b : Addr} {xs : List V} {te : TE} {fr : List (Str × Nat)} {σ : St} {H : Hp} {Q : VK}
/-- what holds behind i turns -/
noncomputable def CompP (H : Hp) (a : Addr) (R : Nat → V → Prop) (i : Nat) (H1 : Hp) : Prop := Same H H1 ∧ ∃ ys : List V, H1 a = some (.lst ys) ∧ ys.length = i ∧ ∀ j y, ys[j]? = some y → R j y
theorem CompP.start (ha : H a = none) (R : Nat → V → Prop) : CompP H a R 0 (upd H a (.lst [])) := ⟨Same.new ha, [], upd_same, rfl, fun j y e => by simp at e⟩
theorem CompP.next {R : Nat → V → Prop} {i : Nat} {H1 H2 : Hp} {y : V} (ha : H a = none) (h : CompP H a R i H1) (s : Same H1 H2) (r : R i y) (hz : i < sizeLine) :
    ∃ zs, H2 a = some (.lst zs) ∧ zs.length < sizeLine ∧ CompP H a R (i + 1) (upd H2 a (.lst (zs ++ [y]))) := by
  obtain ⟨s1, ys, e, hl, hr⟩ := h
  refine ⟨ys, s _ _ e, by omega, Same.over ha (s1.trans s), _, upd_same, by simp [hl], fun j z q => ?_⟩
  by_cases hj : j < ys.length
  · rw [List.getElem?_append_left hj] at q
    exact hr j z q
  · rw [List.getElem?_append_right (by omega)] at q
    have : j = i := by
      by_cases h0 : j - ys.length = 0
      · omega
      · rw [List.getElem?_eq_none (by simp; omega)] at q
        cases q
    subst this
    rw [show j - ys.length = 0 by omega] at q
    cases Option.some.inj q
    exact r
end
/-- a list that is told by its places -/
theorem list_is {α β : Type} {ys : List β} {xs : List α} {f : α → β} (hl : ys.length = xs.length) (h : ∀ (j : Nat) (y : β), ys[j]? = some y → ∃ x, xs[j]? = some x ∧ y = f x) : ys = xs.map f := by
  refine List.ext_getElem (by simpa using hl) fun i h1 h2 => ?_
  obtain ⟨x, e1, e2⟩ := h i ys[i] (by simp [h1])
  obtain ⟨hx, e3⟩ := List.getElem?_eq_some_iff.mp e1
  rw [List.getElem_map, e2, e3]
end L2

/-! COMPREHENSIONS IN GENERAL: any target, one test, names that inner comprehensions take along. -/
namespace L2
open PySem PySem.Spec PyProof.Rows
noncomputable def relab (sc scope : Scope) : Scope := { scope with names := scope.names.map fun (n, k) => if (k == .free && sc.kind == .function && sc.names.lookup n == some .cell) then (n, .cell) else (n, k) }
theorem relab_is {scope sc : Scope} {env : Env} (h : env.scope = sc) : relabel scope env = relab sc scope := by subst h; rfl
theorem own_app : ∀ (names : List (Str × NameKind)) (n : Nat) (acc : List (Str × Addr)), cellsFrom n names acc = cellsFrom n names [] ++ acc
  | [], _, _ => rfl
  | (x, k) :: r, n, acc => by
    unfold cellsFrom
    split
    · rw [own_app r (n + 1) ((x, n) :: acc), own_app r (n + 1) [(x, n)], List.append_assoc]
      rfl
    · exact own_app r n acc
theorem own_mem {y : Str} {b : Addr} : ∀ {names : List (Str × NameKind)} {n : Nat} {acc : List (Str × Addr)}, (y, b) ∈ cellsFrom n names acc → (y, b) ∈ acc ∨ (y, NameKind.cell) ∈ names
  | [], _, _, h => .inl h
  | (x, k) :: r, n, acc, h => by
    unfold cellsFrom at h
    split at h
    · rename_i hk
      rcases own_mem h with q | q
      · rcases List.mem_cons.mp q with e | e
        · have ek : k = .cell := by simpa using hk
          cases e
          exact .inr (by rw [ek]; exact List.mem_cons_self)
        · exact .inl e
      · exact .inr (List.mem_cons_of_mem _ q)
    · rcases own_mem h with q | q
      · exact .inl q
      · exact .inr (List.mem_cons_of_mem _ q)
theorem own_has {y : Str} : ∀ {names : List (Str × NameKind)} {n : Nat} {acc : List (Str × Addr)}, ((y, NameKind.cell) ∈ names ∨ ∃ b, acc.lookup y = some b) → ∃ b, (cellsFrom n names acc).lookup y = some b
  | [], _, _, h => by
    rcases h with h | h
    · simp at h
    · exact h
  | (x, k) :: r, n, acc, h => by
    unfold cellsFrom
    split
    · rename_i hk
      refine own_has ?_
      rcases h with h | ⟨b, h⟩
      · rcases List.mem_cons.mp h with e | e
        · cases e
          exact .inr ⟨n, by rw [List.lookup_cons]; simp⟩
        · exact .inl e
      · rw [List.lookup_cons]
        cases hx : y == x with
        | true => exact .inr ⟨n, rfl⟩
        | false => exact .inr ⟨b, h⟩
    · rename_i hk
      refine own_has ?_
      rcases h with h | h
      · rcases List.mem_cons.mp h with e | e
        · cases e
          simp at hk
        · exact .inl e
      · exact .inr h
theorem relab_was {env : Env} {q : NameKind} : ∀ {names : List (Str × NameKind)} {x : Str},
    (names.map fun (n, k) => if (k == NameKind.free && env.scope.kind == .function && env.kindOf n == some .cell) then (n, NameKind.cell) else (n, k)).lookup x = some q →
    (q = .cell ∨ q = .free) → (x, NameKind.free) ∈ names ∨ (x, NameKind.cell) ∈ names
  | [], _, h, _ => by simp at h
  | (n, k) :: r, x, h, hq => by
    have ih := @relab_was env q r x
    rw [List.map_cons] at h
    dsimp only at h
    by_cases hc : (k == NameKind.free && env.scope.kind == .function && env.kindOf n == some .cell) = true
    · rw [if_pos hc, List.lookup_cons] at h
      cases hx : x == n with
      | true =>
        have ex : x = n := by simpa using hx
        have ek : k = .free := by
          have := (Bool.and_eq_true _ _ ▸ ((Bool.and_eq_true _ _ ▸ hc).1)).1
          simpa using this
        rw [ex, ek]
        exact .inl List.mem_cons_self
      | false =>
        rw [hx] at h
        exact (ih h hq).imp (List.mem_cons_of_mem _) (List.mem_cons_of_mem _)
    · rw [if_neg hc, List.lookup_cons] at h
      cases hx : x == n with
      | true =>
        rw [hx] at h
        have ex : x = n := by simpa using hx
        have ek : k = q := Option.some.inj h
        rcases hq with e | e
        · rw [ex, ek, e]; exact .inr List.mem_cons_self
        · rw [ex, ek, e]; exact .inl List.mem_cons_self
      | false =>
        rw [hx] at h
        exact (ih h hq).imp (List.mem_cons_of_mem _) (List.mem_cons_of_mem _)
theorem key_one {α : Type} {x : Str} {k k' : α} : ∀ {l : List (Str × α)}, (l.map (·.1)).Nodup → (x, k) ∈ l → (x, k') ∈ l → k = k'
  | (n, q) :: r, nd, h, h' => by
    obtain ⟨n1, n2⟩ := List.nodup_cons.mp nd
    rcases List.mem_cons.mp h with e | e <;> rcases List.mem_cons.mp h' with e' | e'
    · cases e; cases e'; rfl
    · cases e; exact absurd (List.mem_map.mpr ⟨_, e', rfl⟩) n1
    · cases e'; exact absurd (List.mem_map.mpr ⟨_, e, rfl⟩) n1
    · exact key_one n2 e e'
theorem newEnv_own {M : Model} {A : Around} {E : Value → Shared → Prop} {s : Shared} {scope : Scope} {globals : Addr} {cl : List (Str × Addr)} {qual : Str} {func : Option Addr} {code : Value} {env : Env} {bl : Addr} {Q : Env → Shared → Prop}
    (h : Q (newEnv scope s.heap.objs.size globals (cellsFrom (s.heap.objs.size + 1) scope.names cl) qual func code (some env) bl) { s with heap := pushCells (s.heap.push { cls := .type "dict", data := .dict #[] }) scope.names }) :
    wpAny M A (newFunctionEnv scope globals cl [] qual func code (some env) bl) Q E s := by
  simp only [newFunctionEnv, Option.isSome_some, if_true]
  refine wpAny_bind (wpAny_alloc ?_)
  refine wpAny_bind (wpAny_layCells _ (fun name kind cells => by cases hkc : kind == NameKind.cell <;> simp [hkc]) _ _ _ _ ?_)
  rw [show ({ s with heap := s.heap.push { cls := .type "dict", data := .dict #[] } } : Shared).heap.objs.size = s.heap.objs.size + 1 from Heap.size_push ..]
  exact wpAny_pure h

/-- the context of a comprehension's block -/
noncomputable def cxCompG (X : Cx) (scope : Scope) (N : List Str) (s : Shared) (H : Hp) (fp : List Addr) : Cx :=
  { X with N := N, s₀ := s, H₀ := H, env := compEnvC scope (cellsFrom (s.heap.objs.size + 1) scope.names (clOf X.env scope.names [])) s.heap.objs.size X.env, outer := X.stack, ex := fp, fn := fun y => scope.names.lookup y == some .cell, pn := [], xe := fun _ _ => False }
structure CompOkG (X : Cx) (sc scope : Scope) (xs : List Str) (fr : List (Str × Nat)) : Prop where
  hsc : X.env.scope = sc
  kind : scope.kind = .function
  nn : (scope.names.map (·.1)).Nodup
  free : ∀ y ∈ scope.names, y.2 = .free → sc.names.lookup y.1 = some .cell ∨ sc.names.lookup y.1 = some .free
  loc : ∀ y ∈ scope.names, y.2 = .local → scope.names.lookup y.1 = some .local
  fr : ∀ p ∈ fr, X.N[p.2]? = some p.1 ∧ scope.names.lookup p.1 = some .free
section
variable {X : Cx} {sc scope : Scope} {xs : List Str} {fr : List (Str × Nat)}
theorem CompOkG.free' (c : CompOkG X sc scope xs fr) : ∀ y ∈ scope.names, y.2 = .free → X.env.kindOf y.1 = some .cell ∨ X.env.kindOf y.1 = some .free := fun y hy hf => by
  unfold Env.kindOf
  rw [c.hsc]
  exact c.free y hy hf
theorem CompOkG.cells {pins : List (Addr × Obj)} {σ : St} {H : Hp} {s : Shared} (c : CompOkG X sc scope xs fr) (I : Inv X pins σ H s) : ∀ y ∈ scope.names, y.2 = .free → ∃ c, X.env.cells.lookup y.1 = some c :=
  fun y hy hf => I.ok.has y.1 (c.free' y hy hf)
theorem CompOkG.was {pins : List (Addr × Obj)} {σ : St} {H : Hp} {s : Shared} (c : CompOkG X sc scope xs fr) (I : Inv X pins σ H s) {y : Str} {b : Addr} (h : (clOf X.env scope.names []).lookup y = some b) : X.env.cells.lookup y = some b := by
  rcases clOf_lookup (c.cells I) h with q | q
  · simp at q
  · exact q
theorem cells_cases {names : List (Str × NameKind)} {n : Nat} {cl : List (Str × Addr)} {y : Str} {b : Addr} (h : (cellsFrom n names cl).lookup y = some b) : (cellsFrom n names []).lookup y = some b ∨ ((cellsFrom n names []).lookup y = none ∧ cl.lookup y = some b) := by
  rw [own_app, List.lookup_append] at h
  cases q : (cellsFrom n names []).lookup y with
  | none => rw [q] at h; exact .inr ⟨rfl, h⟩
  | some c => rw [q] at h; exact .inl h
theorem comp_startG {pins : List (Addr × Obj)} {σ : St} {H : Hp} {s : Shared} {fp : List Addr} (c : CompOkG X sc scope xs fr) (I : Inv X pins σ H s)
    (hf : ∀ b ∈ fp, FpOk X pins H b ∧ ∃ o, s.heap.get? b = some o) :
    Inv (cxCompG X scope (xs ++ fr.map (·.1)) s H fp) [] (xs.map (fun _ => none) ++ frees fr σ) H { s with heap := pushCells (s.heap.push { cls := .type "dict", data := .dict #[] }) scope.names } := by
  have k : ∀ b o, s.heap.get? b = some o → (pushCells (s.heap.push { cls := .type "dict", data := .dict #[] }) scope.names).get? b = some o := fun b o e => pushCells_keeps _ _ b o (Heap.get?_push_of_some _ e)
  have hn : (pushCells (s.heap.push { cls := .type "dict", data := .dict #[] }) scope.names).Ns s.heap.objs.size (fun _ => none) := (Heap.Ns.new s.heap (.type "dict")).keeps (pushCells_keeps _ _)
  have ok := cellsFrom_ok scope.names (s.heap.push { cls := .type "dict", data := .dict #[] }) (s.heap.objs.size + 1) [] ⟨fun _ _ hm => (nomatch hm), List.Pairwise.nil⟩ (by rw [Heap.size_push]; exact Nat.le_refl _)
  rw [Heap.size_push] at ok
  have I4 : Inv X pins σ H { s with heap := pushCells (s.heap.push { cls := .type "dict", data := .dict #[] }) scope.names } := I.kept (t' := s.toks) k
  generalize hh : pushCells (s.heap.push { cls := .type "dict", data := .dict #[] }) scope.names = h₁ at k hn ok I4
  have old : ∀ {y : Str} {b : Nat}, (clOf X.env scope.names []).lookup y = some b → b < s.heap.objs.size := fun {y b} e => by
    obtain ⟨v, z⟩ := I.cell y b (c.was I e)
    exact z.lt
  have own : ∀ {y : Str} {b : Nat}, (cellsFrom (s.heap.objs.size + 1) scope.names []).lookup y = some b → h₁.IsCell b none ∧ s.heap.objs.size + 1 ≤ b := fun {y b} e => ok.empty y b (mem_of_lookup e)
  refine ⟨⟨I.ok.mod, c.kind, I.ok.glob, I.ok.blt, Nat.le_refl _, fun y z b h1 h2 => ?_, fun y hy => ?_, fun y b h0 h1 => ?_, I.ok.hd, I.ok.frames, .inl rfl, fun b hb => ?_, fun b o e => ?_, ?_, fun b o e hb => ?_, fun b hb hs => ?_, ?_, fun b hb => ?_⟩,
    rfl, I.bare, Un.kept k, ⟨_, hn, fun i y v h1 h2 h3 => ?_⟩, fun y b h => ?_, ?_, fun y b h => ?_, fun p hp => absurd (show p ∈ ([] : List (Addr × Obj)) from hp) (by simp), I4.hok, ?_⟩
  · rcases cells_cases h1 with e1 | ⟨_, e1⟩ <;> rcases cells_cases h2 with e2 | ⟨_, e2⟩
    · exact name_of_addr ok.apart (mem_of_lookup e1) (mem_of_lookup e2)
    · exact absurd (Nat.lt_of_lt_of_le (old e2) (Nat.le_of_succ_le (own e1).2)) (Nat.lt_irrefl _)
    · exact absurd (Nat.lt_of_lt_of_le (old e1) (Nat.le_of_succ_le (own e2).2)) (Nat.lt_irrefl _)
    · exact I.ok.inj y z b (c.was I e1) (c.was I e2)
  · show ∃ b, (cellsFrom (s.heap.objs.size + 1) scope.names (clOf X.env scope.names [])).lookup y = some b
    have hm : (y, NameKind.free) ∈ scope.names ∨ (y, NameKind.cell) ∈ scope.names := by
      rcases hy with hy | hy
      · exact relab_was hy (.inl rfl)
      · exact relab_was hy (.inr rfl)
    rcases hm with hm | hm
    · exact own_has (.inr (clOf_has (.inl hm)))
    · exact own_has (.inl hm)
  · have hy : scope.names.lookup y = some .cell := by
      have h0' : (scope.names.lookup y == some NameKind.cell) = true := h0
      simpa using h0'
    rcases cells_cases h1 with e1 | ⟨e1, _⟩
    · have := (own e1).2
      show s.heap.objs.size ≤ b
      omega
    · obtain ⟨b', e⟩ := own_has (n := s.heap.objs.size + 1) (acc := []) (.inl (mem_of_lookup hy))
      rw [e1] at e
      cases e
  · obtain ⟨⟨_, _, _, _, f5, _⟩, o, e⟩ := hf b hb
    refine ⟨Nat.ne_of_lt (Heap.lt_size e), fun y b' h => ?_⟩
    rcases cells_cases h with e1 | ⟨_, e1⟩
    · exact fun z => absurd (Nat.lt_of_lt_of_le (Heap.lt_size e) (Nat.le_of_succ_le (z ▸ (own e1).2))) (Nat.lt_irrefl _)
    · exact f5 y b' (c.was I e1)
  · exact I.bs b o e
  · exact Nat.le_trans I.ok.bsz I.sz
  · obtain ⟨⟨_, _, _, f4, _, _⟩, _⟩ := hf b hb
    rcases f4 with z | z
    · exact I.ok.noex b o e z
    · exact absurd (Nat.lt_of_lt_of_le (Heap.lt_size e) (Nat.le_trans I.ok.bsz z)) (Nat.lt_irrefl _)
  · obtain ⟨⟨_, f2, f3, _, _, _⟩, _⟩ := hf b hb
    rcases List.mem_cons.mp (I.stkSub b hs) with z | z
    · exact f2 z
    · exact f3 z
  · exact I.stack
  · exact I.stkFree b hb
  · have h1' : (xs ++ fr.map (·.1))[i]? = some y := h1
    by_cases hi : i < xs.length
    · rw [List.getElem?_append_left (by simpa using hi), List.getElem?_map] at h2
      cases q : xs[i]? with
      | none => rw [q] at h2; cases h2
      | some z => rw [q] at h2; cases Option.some.inj h2
    · rw [List.getElem?_append_right (by omega)] at h1'
      rw [List.getElem?_append_right (by simpa using hi), List.length_map] at h2
      generalize i - xs.length = j at h1' h2
      rw [List.getElem?_map] at h1'
      unfold frees at h2
      rw [List.getElem?_map] at h2
      cases e : fr[j]? with
      | none => rw [e] at h1'; cases h1'
      | some p =>
        rw [e] at h1' h2
        have e1 : p.1 = y := Option.some.inj h1'
        have e2 : σ.getD p.2 none = some v := Option.some.inj h2
        obtain ⟨n1, n2⟩ := c.fr p (List.mem_of_getElem? e)
        have e3 : σ[p.2]? = some (some v) := by
          rw [List.getD_eq_getElem?_getD] at e2
          cases q : σ[p.2]? with
          | none => rw [q] at e2; cases e2
          | some o => rw [q] at e2; have e2' : o = some v := e2; rw [e2']
        subst e1
        have hm : (p.1, NameKind.free) ∈ scope.names := PySem.mem_of_lookup n2
        have kd := c.free' _ hm rfl
        obtain ⟨m', _, hl⟩ := I4.loc
        obtain ⟨u, ru, lk⟩ := hl p.2 p.1 v n1 e3 (.inr kd)
        refine ⟨u, ru, .inr ⟨relabel_free n2, ?_⟩⟩
        rcases lk with ⟨k1, _⟩ | ⟨_, b, q, z⟩
        · rcases kd with kd | kd <;> (rw [kd] at k1; cases k1)
        · obtain ⟨b', q'⟩ := clOf_has (env := X.env) (l := scope.names) (cs := []) (.inl hm)
          have e4 := c.was I q'
          rw [q] at e4
          cases e4
          refine ⟨b, ?_, z⟩
          show (cellsFrom (s.heap.objs.size + 1) scope.names (clOf X.env scope.names [])).lookup p.1 = some b
          rw [own_app, List.lookup_append]
          cases w : (cellsFrom (s.heap.objs.size + 1) scope.names []).lookup p.1 with
          | none => exact q'
          | some b2 =>
            rcases own_mem (mem_of_lookup w) with w | w
            · simp at w
            · cases key_one c.nn hm w
  · rcases cells_cases h with e1 | ⟨_, e1⟩
    · exact ⟨none, (own e1).1⟩
    · exact I4.cell y b (c.was I e1)
  · exact I.hok.fresh (Nat.le_refl _)
  · rcases cells_cases h with e1 | ⟨_, e1⟩
    · exact I.hok.fresh (by have := (own e1).2; omega)
    · exact I4.freeC y b (c.was I e1)
  · show (xs.map (fun _ => none) ++ frees fr σ).length = (xs ++ fr.map (·.1)).length
    simp [frees]
end

/-! ### a turn: the test, the element -/
noncomputable abbrev TOx := St → Hp → (Option V → Hp → Prop) → Prop
noncomputable def tEl (te : TE)  : TOx := fun σ H Q => te σ H fun y H' => Q (some y) H'
noncomputable def tElIf (tc : TT) (te : TE)  : TOx := fun σ H Q => tc σ H fun b H1 => if b = true then te σ H1 (fun y H' => Q (some y) H') else Q none H1
/-- what a turn runs, behind the store: tests, then the element -/
noncomputable def turnOf (elt : Expr) (ifs : List Expr) (env : Env) (M : Model) (A : Around) (Q : Option Value → Shared → Prop) (E : Value → Shared → Prop) (s : Shared) : Prop :=
  match ifs with
  | [] => wpAny M A (eval elt env) (fun x s1 => Q (some x) s1) E s
  | [c] => wpAny M A (isTrue c env (eval c env)) (fun b s1 => if b = true then wpAny M A (eval elt env) (fun x s2 => Q (some x) s2) E s1 else Q none s1) E s
  | _ => False
noncomputable def POx (X : Cx) (elt : Expr) (ifs : List Expr) (t : TOx) : Prop := ∀ (pins : List (Addr × Obj)) (s : Shared) (σ : St) (H : Hp) (Q : Option V → Hp → Prop), Inv X pins σ H s → t σ H Q →
  turnOf elt ifs X.env (model X.prog X.w) X.A (fun o s' => ∃ v H', Inv X pins σ H' s' ∧ (match o, v with | some u, some y => RelV y u | none, none => True | _, _ => False) ∧ Q v H') X.xe s
theorem po_el {X : Cx} {elt : Expr} {te : TE} (h : PE X elt te) : POx X elt [] (tEl te) := fun pins s σ H Q I hw =>
  thn (h pins s σ H _ I hw) fun u s1 ⟨y, H1, I1, r1, q1⟩ => ⟨some y, H1, I1, r1, q1⟩
theorem po_if {X : Cx} {elt c : Expr} {tc : TT} {te : TE} (hc : PT X c tc) (h : PE X elt te) : POx X elt [c] (tElIf tc te) := fun pins s σ H Q I hw => by
  refine thn (hc pins s σ H _ I hw) fun b s1 ⟨H1, I1, q1⟩ => ?_
  cases b with
  | true =>
    rw [if_pos rfl] at q1 ⊢
    exact thn (h pins s1 σ H1 _ I1 q1) fun u s2 ⟨y, H2, I2, r2, q2⟩ => ⟨some y, H2, I2, r2, q2⟩
  | false =>
    rw [if_neg Bool.false_ne_true] at q1 ⊢
    exact ⟨none, H1, I1, trivial, q1⟩
theorem codeAny_compLoop_gen {prog : Program} {w : World} {A : Around} {R : Result → Shared → Prop} {s : Shared} {elt target iter : Expr} {ifs : List Expr} {scope : Scope} {pos : Pos} {it acc : Value} {env : Env} (I : Nat → Shared → Prop)
    (turn : ∀ n s, I n s → wpAny (model prog w) A (pyNext it) (fun r s₁ => match r with
      | none => R (.ok .next) s₁
      | some v => wpAny (model prog w) A (letOwnedTupleGo target it v) (fun _ s₁' => wpAny (model prog w) A (assign target env v) (fun _ s₂ => turnOf elt ifs env (model prog w) A (fun o s₃ => match o with
          | some x => wpAny (model prog w) A (call (.builtin "list.append") [acc, x]) (fun _ s₄ => ∃ m, m < n ∧ I m s₄) (fun _ _ => False) s₃
          | none => ∃ m, m < n ∧ I m s₃)
          (fun _ _ => False) s₂) (fun _ _ => False) s₁') (fun _ _ => False) s₁) (fun _ _ => False) s)
    (n : Nat) (h : I n s) (hifs : ifs.length ≤ 1) :
    codeAny (model prog w) A (.compLoop (.ListComp elt [⟨target, iter, ifs, 0⟩] scope pos) 0 it acc env) R s := by
  refine codeAny_loop rfl I (fun n s hI => ?_) n h
  show wpAny _ _ ((compTurn (.ListComp elt [⟨target, iter, ifs, 0⟩] scope pos) 0 it acc env).onRaise (fun x => do noteFrame x env; theTreesLotGoes x)) _ _ s
  refine wpAny_noted ?_
  have T := turn n s hI
  match ifs, hifs, T with
  | [], _, T =>
    rw [compTurn_list1]
    refine wpAny_bind (wpAny_standAt (wpAny_bind (wpAny_mono T (fun r s₁ h₁ => ?_) fun _ _ h' => h'.elim)))
    cases r with
    | none => exact wpAny_pure h₁
    | some v =>
      refine wpAny_bind (wpAny_mono h₁ (fun _ s₁' h₁' => ?_) fun _ _ h' => h'.elim)
      exact wpAny_bind (wpAny_mono h₁' (fun _ s₂ h₂ => wpAny_bind (wpAny_bind (wpAny_mono (show wpAny _ _ _ _ _ _ from h₂) (fun x s₃ h₃ => wpAny_bind (wpAny_mono h₃
        (fun _ s₄ h₄ => wpAny_pure (wpAny_pure ⟨rfl, h₄⟩)) fun _ _ h' => h'.elim)) fun _ _ h' => h'.elim))) fun _ _ h' => h'.elim)
  | [c], _, T =>
    have e1 : compTurn (.ListComp elt [⟨target, iter, [c], 0⟩] scope pos) 0 it acc env = (standAt iter.pos >>= fun _ => pyNext it >>= fun r => match r with
      | none => pure (.done .next)
      | some v => letOwnedTupleGo target it v >>= fun _ => assign target env v >>= fun _ => isTrue c env (eval c env) >>= fun ok =>
        (if ok = true then (eval elt env >>= fun x => call (.builtin "list.append") [acc, x] >>= fun _ => pure ()) >>= fun _ => again (.compLoop (.ListComp elt [⟨target, iter, [c], 0⟩] scope pos) 0 it acc env)
          else again (.compLoop (.ListComp elt [⟨target, iter, [c], 0⟩] scope pos) 0 it acc env))) := by
      unfold compTurn
      simp only [List.forIn_cons, List.forIn_nil, if_true, bind_assoc, pure_bind, List.getElem?_cons_zero]
      rfl
    rw [e1]
    refine wpAny_bind (wpAny_standAt (wpAny_bind (wpAny_mono T (fun r s₁ h₁ => ?_) fun _ _ h' => h'.elim)))
    cases r with
    | none => exact wpAny_pure h₁
    | some v =>
      refine wpAny_bind (wpAny_mono h₁ (fun _ s₁' h₁' => ?_) fun _ _ h' => h'.elim)
      refine wpAny_bind (wpAny_mono h₁' (fun _ s₂ h₂ => wpAny_bind (wpAny_mono (show wpAny _ _ _ _ _ _ from h₂) (fun b s₃ h₃ => ?_) fun _ _ h' => h'.elim)) fun _ _ h' => h'.elim)
      cases b with
      | true =>
        rw [if_pos rfl] at h₃ ⊢
        exact wpAny_bind (wpAny_bind (wpAny_mono h₃ (fun x s₄ h₄ => wpAny_bind (wpAny_mono h₄ (fun _ s₅ h₅ => wpAny_pure (wpAny_pure ⟨rfl, h₅⟩)) fun _ _ h' => h'.elim)) fun _ _ h' => h'.elim))
      | false =>
        rw [if_neg Bool.false_ne_true] at h₃ ⊢
        exact wpAny_pure ⟨rfl, h₃⟩
  | _ :: _ :: _, hifs, T =>
    exact absurd hifs (by simp)
end L2
namespace L2
open PySem PySem.Spec PyProof.Rows
noncomputable def outTo (a : Addr) (N : Hp → Prop) : Option V → Hp → Prop
  | some y, H => ∃ zs, H a = some (.lst zs) ∧ zs.length < sizeLine ∧ N (upd H a (.lst (zs ++ [y])))
  | none, H => N H
noncomputable abbrev CompWG (J : It) (g : TG) (tt : TOx) (n : Nat) (fr : List (Str × Nat)) (σ : St) (a : Addr) (H : Hp) (Q : VK) : Prop :=
  ∃ W : Nat → Nat → Hp → Prop, (∃ m, W 0 m (upd H a (.lst []))) ∧ ∀ i m H2, W i m H2 → (J.stop i H2 ∧ Q (.ref a) H2) ∨
    (J.go i H2 ∧ ∃ N : Hp → Prop, (∀ H', N H' → ∃ m', m' < m ∧ W (i + 1) m' H') ∧ ∀ (ys : St) x H3, ys.length = n → J.yld i H2 x H3 →
      g x (ys ++ frees fr σ) H3 fun σ4 H4 => (∃ ys' : St, ys'.length = n ∧ σ4 = ys' ++ frees fr σ) ∧ tt σ4 H4 (outTo a N))
noncomputable def tCompG (wi : TI) (g : TG) (tt : TOx) (n : Nat) (fr : List (Str × Nat)) : TE := fun σ H Q => wi σ H fun J H1 => ∀ a, H1 a = none → CompWG J g tt n fr σ a H1 Q
section
variable {X : Cx} {sc scope : Scope} {xs : List Str} {fr : List (Str × Nat)} {elt tg iter : Expr} {ifs : List Expr} {g : TG} {tt : TOx}
theorem comp_coreG {pins : List (Addr × Obj)} {σ : St} {H : Hp} {s : Shared} {pos : Pos} {J : It} {fp : List Addr} {it : Addr} {tn : Nat → Heap → Prop} {Q : VK} {RR : Value → Addr → Result → Shared → Prop} {E : Value → Shared → Prop}
    (c : CompOkG X sc scope xs fr) (hc : X.calm = true) (hifs : ifs.length ≤ 1) (I : Inv X pins σ H s) (T : Turn X.prog X.w X.K tg J fp it tn) (t0 : tn 0 s.heap) (hf : ∀ b ∈ fp, FpOk X pins H b)
    (hg : ∀ (s₃ : Shared) (H₃ : Hp) (fp : List Addr), (cxCompG X scope (xs ++ fr.map (·.1)) s₃ H₃ fp).env.scope = relab sc scope → PG (cxCompG X scope (xs ++ fr.map (·.1)) s₃ H₃ fp) tg g)
    (he : ∀ (s₃ : Shared) (H₃ : Hp) (fp : List Addr), (cxCompG X scope (xs ++ fr.map (·.1)) s₃ H₃ fp).env.scope = relab sc scope → POx (cxCompG X scope (xs ++ fr.map (·.1)) s₃ H₃ fp) elt ifs tt)
    (hw : ∀ a, H a = none → CompWG J g tt xs.length fr σ a H Q)
    (hRR : ∀ a C H' s' m, s'.heap.Ns C m → Inv X pins σ H' s' → FpOk X pins H' C → Q (.ref a) H' → RR (.ref a) C (.ok .next) s') :
    wpAny (model X.prog X.w) X.A (newList []) (fun acc s₃ => wpAny (model X.prog X.w) X.A (newFunctionEnv scope X.env.globals (clOf X.env scope.names []) [] X.env.qual none .none (some X.env)) (fun cenv s₄ =>
      codeAny (model X.prog X.w) X.A (.compStart (.ListComp elt [⟨tg, iter, ifs, 0⟩] scope pos) 0 (.ref it) acc { cenv with scope := relabel scope X.env }) (RR acc cenv.locals) s₄) E s₃) E s := by
  obtain ⟨W, ⟨m0, w0⟩, turn⟩ := hw s.heap.objs.size I.fresh
  refine wpAny_newObj_type (newEnv_own ?_)
  have I3 : Inv X pins σ (upd H s.heap.objs.size (.lst [])) { s with heap := s.heap.push { cls := .type "list", dict := none, data := .seq ([] : List Value).toArray } } := I.lnew (ys := []) (its := []) (t' := s.toks) .nil (Nat.zero_le _)
  have kp : ∀ b o, s.heap.get? b = some o → (s.heap.push { cls := .type "list", dict := none, data := .seq ([] : List Value).toArray }).get? b = some o := fun b o e => Heap.get?_push_of_some _ e
  have un0 : Un (frs X.stack) fp H (upd H s.heap.objs.size (.lst [])) s.heap (s.heap.push { cls := .type "list", dict := none, data := .seq ([] : List Value).toArray }) := Un.laid kp (Nat.le_refl _) I.fresh
  dsimp only
  generalize hH2 : s.heap.push { cls := .type "list", dict := none, data := .seq ([] : List Value).toArray } = hp2 at I3 kp un0 ⊢
  have hsz : s.heap.objs.size ≤ hp2.objs.size := by rw [← hH2, Heap.size_push]; exact Nat.le_succ _
  have ft : ∀ b ∈ fp, ∃ o, s.heap.get? b = some o := fun b hb => let ⟨o, e, _⟩ := T.obj _ _ t0 b hb; ⟨o, e⟩
  have nea : ∀ b ∈ fp, b ≠ s.heap.objs.size := fun b hb => let ⟨_, e⟩ := ft b hb; Nat.ne_of_lt (Heap.lt_size e)
  have f3 : ∀ b ∈ fp, FpOk X pins (upd H s.heap.objs.size (.lst [])) b ∧ ∃ o, hp2.get? b = some o := fun b hb => by
    obtain ⟨o, e⟩ := ft b hb
    exact ⟨⟨by rw [upd_ne (nea b hb)]; exact (hf b hb).1, (hf b hb).2⟩, o, kp b o e⟩
  have J0 := comp_startG c I3 f3
  have k4 : ∀ b o, hp2.get? b = some o → (pushCells (hp2.push { cls := .type "dict", data := .dict #[] }) scope.names).get? b = some o := fun b o e => pushCells_keeps _ _ b o (Heap.get?_push_of_some _ e)
  have t4 : tn 0 (pushCells (hp2.push { cls := .type "dict", data := .dict #[] }) scope.names) := T.keep 0 _ _ t0 fun b hb o e => k4 b o (kp b o e)
  have esc : ∀ (s₃ : Shared) (H₃ : Hp) (fp : List Addr), (cxCompG X scope (xs ++ fr.map (·.1)) s₃ H₃ fp).env.scope = relab sc scope := fun _ _ _ => relab_is c.hsc
  have stat : ∀ {H' : Hp}, (∀ b ∈ fp, H' b = none) → ∀ b ∈ fp, FpOk (cxCompG X scope (xs ++ fr.map (·.1)) { s with heap := hp2 } (upd H s.heap.objs.size (.lst [])) fp) [] H' b := fun hn b hb => by
    obtain ⟨e1, e2⟩ := J0.ok.exf b hb
    exact ⟨hn b hb, e1, J0.ok.exfs b hb, .inl hb, e2, fun p hp => absurd (show p ∈ ([] : List (Addr × Obj)) from hp) (by simp)⟩
  have loop : codeAny (model X.prog X.w) X.A (.compLoop (.ListComp elt [⟨tg, iter, ifs, 0⟩] scope pos) 0 (.ref it) (.ref s.heap.objs.size) (compEnvC scope (cellsFrom (hp2.objs.size + 1) scope.names (clOf X.env scope.names [])) hp2.objs.size X.env))
      (RR (.ref s.heap.objs.size) hp2.objs.size) { s with heap := pushCells (hp2.push { cls := .type "dict", data := .dict #[] }) scope.names } := by
    refine codeAny_compLoop_gen (fun n s' => ∃ i, ∃ ys : St, ∃ H', ys.length = xs.length ∧ Inv (cxCompG X scope (xs ++ fr.map (·.1)) { s with heap := hp2 } (upd H s.heap.objs.size (.lst [])) fp) [] (ys ++ frees fr σ) H' s' ∧ tn i s'.heap ∧ (∀ b ∈ fp, H' b = none) ∧ W i n H')
      ?_ m0 ⟨0, xs.map fun _ => none, _, by simp, J0, t4, fun b hb => (f3 b hb).1.1, w0⟩ hifs
    rintro n s3 ⟨i, ys, H3, hys, K3, st3, fr3, w3⟩
    rcases turn i n H3 w3 with ⟨stop, qn⟩ | ⟨go, N, hN, step⟩
    · refine thn (T.done (cxCompG X scope (xs ++ fr.map (·.1)) { s with heap := hp2 } (upd H s.heap.objs.size (.lst [])) fp) rfl rfl rfl hc i [] s3 _ H3 (fun _ _ => False) K3 (stat fr3) st3 stop) fun r s4 ⟨hr, K4⟩ => ?_
      subst hr
      obtain ⟨m4, hn4, _⟩ := K4.loc
      have K5 : Inv X pins σ H3 s4 := I.call' K4.os (un0.trans K4.base) K4.hok K4.bare fun b hb => let f := hf b hb; ⟨f.2.2.2.1, f.2.1, f.2.2.2.2.1, f.2.2.2.2.2⟩
      exact hRR _ _ H3 s4 m4 hn4 K5 (I.fpOk hsz K4.free) qn
    · refine thn (T.item (cxCompG X scope (xs ++ fr.map (·.1)) { s with heap := hp2 } (upd H s.heap.objs.size (.lst [])) fp) rfl rfl rfl hc i [] s3 _ H3 (fun _ _ => False) K3 (stat fr3) st3 go) fun r s4 ⟨u, hr, h4⟩ => ?_
      subst hr
      refine thn h4 fun _ s5 ⟨y, H5, K5, r5, y5, st5, fr5⟩ => ?_
      have K5' := K5.pinned (stat fr5) (T.obj _ _ st5)
      refine thn (hg _ _ _ (esc _ _ _) _ s5 _ H5 y u _ K5' r5 (step ys y H5 hys y5)) fun _ s6 ⟨σ6, H6, K6, ⟨ys6, hl6, e6⟩, q6⟩ => ?_
      subst e6
      have fin : ∀ (s8 : Shared) (H8 : Hp), Inv (cxCompG X scope (xs ++ fr.map (·.1)) { s with heap := hp2 } (upd H s.heap.objs.size (.lst [])) fp) ([] ++ pinsAt fp s5.heap) (ys6 ++ frees fr σ) H8 s8 → N H8 →
          ∃ m, m < n ∧ ∃ i, ∃ ys : St, ∃ H', ys.length = xs.length ∧ Inv (cxCompG X scope (xs ++ fr.map (·.1)) { s with heap := hp2 } (upd H s.heap.objs.size (.lst [])) fp) [] (ys ++ frees fr σ) H' s8 ∧ tn i s8.heap ∧ (∀ b ∈ fp, H' b = none) ∧ W i m H' := by
        intro s8 H8 K8 n8
        obtain ⟨m', hm, w8⟩ := hN H8 n8
        refine ⟨m', hm, i + 1, ys6, H8, hl6, K8.unpinned, T.keep _ _ _ st5 fun b hb o e => (K8.pin (b, o) (List.mem_append_right _ (List.mem_append_right _ (mem_pinsAt hb e)))).1, fun b hb => ?_, w8⟩
        obtain ⟨o, e, d⟩ := T.obj _ _ st5 b hb
        exact (K8.pin (b, o) (List.mem_append_right _ (List.mem_append_right _ (mem_pinsAt hb e)))).2.1
      have h7 := he _ _ _ (esc _ _ _) _ s6 _ H6 _ K6 q6
      have mono : ∀ {Q Q' : Option Value → Shared → Prop} {E : Value → Shared → Prop} {s' : Shared} {env : Env}, (∀ o s1, Q o s1 → Q' o s1) → turnOf elt ifs env (model X.prog X.w) X.A Q E s' → turnOf elt ifs env (model X.prog X.w) X.A Q' E s' := by
        intro Q Q' E s' env hq ht
        unfold turnOf at ht ⊢
        match ifs, hifs, ht with
        | [], _, ht => exact wpAny_mono ht (fun x s1 q => hq _ _ q) fun _ _ e => e
        | [c], _, ht =>
          refine wpAny_mono ht (fun b s1 q => ?_) fun _ _ e => e
          split at q
          · rename_i hb; rw [if_pos hb]; exact wpAny_mono q (fun x s2 q => hq _ _ q) fun _ _ e => e
          · rename_i hb; rw [if_neg hb]; exact hq _ _ q
        | _ :: _ :: _, hifs, _ => exact absurd hifs (by simp)
      refine mono (fun o s7 ⟨z7, H7, K7, r7, q7⟩ => ?_) h7
      cases o with
      | none =>
        cases z7 with
        | none => exact fin s7 H7 K7 q7
        | some z => exact r7.elim
      | some v7 =>
        cases z7 with
        | none => exact r7.elim
        | some z7 =>
          obtain ⟨zs, hz, hl, w7⟩ := q7
          exact thn (mt_append _ s7 _ H7 (.ref s.heap.objs.size) [z7] (.ref s.heap.objs.size) [v7] (fun _ H8 => N H8) K7 rfl (.cons r7 .nil) ⟨_, zs, z7, rfl, rfl, hz, hl, w7⟩) fun _ s8 ⟨_, H8, K8, _, n8⟩ => fin s8 H8 K8 n8
  exact codeAny_compStart_list loop (T.self _ 0 _ _ _ t4 loop)
variable {wi : TI}
theorem pe_compG {pos : Pos} (c : CompOkG X sc scope xs fr) (hc : X.calm = true) (hi : PI X tg iter wi)
    (hg : ∀ (s₃ : Shared) (H₃ : Hp) (fp : List Addr), (cxCompG X scope (xs ++ fr.map (·.1)) s₃ H₃ fp).env.scope = relab sc scope → PG (cxCompG X scope (xs ++ fr.map (·.1)) s₃ H₃ fp) tg g)
    (he : ∀ (s₃ : Shared) (H₃ : Hp) (fp : List Addr), (cxCompG X scope (xs ++ fr.map (·.1)) s₃ H₃ fp).env.scope = relab sc scope → POx (cxCompG X scope (xs ++ fr.map (·.1)) s₃ H₃ fp) elt ifs tt)
    (hifs : ifs.length ≤ 1 := by exact Nat.le_of_ble_eq_true rfl) (hs : ∀ x, foldedSetIterable iter X.env x = pure x := by intro _; rfl) : PE X (.ListComp elt [⟨tg, iter, ifs, 0⟩] scope pos) (tCompG wi g tt xs.length fr) := by
  intro pins s σ H Q I h
  rw [eval_ListComp]
  refine wpAny_comprehension_free (use := none) rfl hs (closure_is (c.cells I)) c.kind c.loc (thn (hi pins s σ H _ I h) fun v s1 h1 => thn h1 fun itv s2 h2 => ?_)
  obtain ⟨it, fp, tn, J, H2, e, I2, T, t2, f2, hw⟩ := h2
  subst e
  refine comp_coreG (RR := fun acc C => compPost (model X.prog X.w) X.A X.xe none (EP X pins σ Q) acc C) c hc hifs I2 T t2 f2 hg he hw ?_
  intro a C H' s' m hn K f q
  exact ⟨m, hn, fun h' hs' => ⟨.ref a, H', K.turned (t' := s'.toks) (fun b o hb e => (hs'.2 b hb).trans e) f.1 f.2.1 f.2.2.2.1 f.2.2.2.2.1 f.2.2.2.2.2, rfl, q⟩⟩
theorem ps_setCG {pos spos py : Pos} {y : Str} {i : Nat} (c : CompOkG X sc scope xs fr) (hc : X.calm = true) (hN : X.N.Nodup) (hy : X.N[i]? = some y) (hl : X.env.scope.names.lookup y = some .local) (hi : PI X tg iter wi)
    (hg : ∀ (s₃ : Shared) (H₃ : Hp) (fp : List Addr), (cxCompG X scope (xs ++ fr.map (·.1)) s₃ H₃ fp).env.scope = relab sc scope → PG (cxCompG X scope (xs ++ fr.map (·.1)) s₃ H₃ fp) tg g)
    (he : ∀ (s₃ : Shared) (H₃ : Hp) (fp : List Addr), (cxCompG X scope (xs ++ fr.map (·.1)) s₃ H₃ fp).env.scope = relab sc scope → POx (cxCompG X scope (xs ++ fr.map (·.1)) s₃ H₃ fp) elt ifs tt)
    (hsw : swapsWith (.ListComp elt [⟨tg, iter, ifs, 0⟩] scope pos) (some (.Name y py)) spos.line X.env = pure true := by rfl)
    (hifs : ifs.length ≤ 1 := by exact Nat.le_of_ble_eq_true rfl) (hs : ∀ x, foldedSetIterable iter X.env x = pure x := by intro _; rfl) : PS X (.Assign [.Name y py] (.ListComp elt [⟨tg, iter, ifs, 0⟩] scope pos) spos) (tSetC i (tCompG wi g tt xs.length fr)) := by
  intro pins s σ H D I h
  rw [exec_Assign_Name_used _ _ _ _ hsw]
  refine wpAny_bind (wpAny_standAt (wpAny_bind ?_))
  show wpAny _ _ (do let _ ← comprehension (.ListComp elt [⟨tg, iter, ifs, 0⟩] scope pos) scope X.env _ (newList []) false (eval iter X.env) (some (assign (.Name y py) X.env))) _ _ s
  refine wpAny_bind (wpAny_mono (wpAny_comprehension_free (use := some (assign (.Name y py) X.env)) (Q := fun _ s' => SP X pins D .next s') rfl hs (closure_is (c.cells I)) c.kind c.loc
    (thn (hi pins s σ H _ I h) fun v s1 h1 => thn h1 fun itv s2 h2 => ?_)) (fun _ s' hq => wpAny_pure (wpAny_pure hq)) fun _ _ e => e)
  obtain ⟨it, fp, tn, J, H2, e, I2, T, t2, f2, hw⟩ := h2
  subst e
  refine comp_coreG (RR := fun acc C => compPost (model X.prog X.w) X.A X.xe (some (assign (.Name y py) X.env)) (fun _ s' => SP X pins D .next s') acc C) (Q := fun v H1 => D.nx (σ.set i (some v)) H1) c hc hifs I2 T t2 f2 hg he hw ?_
  intro a C H' s' m hn K f q
  show wpAny _ _ (assign (.Name y py) X.env (.ref a)) _ _ _
  refine wpAny_assign_Name (store_ok2 K hN hy (.inl hl) (show RelV (.ref a) (.ref a) from rfl) (fun s'' K2 ⟨b, sb, hb⟩ => ?_) (.inr hl))
  have hCb : C ≠ b := by
    rcases hb with e | e
    · rw [e]; exact f.2.1
    · exact Ne.symm (f.2.2.2.2.1 y b e)
  refine ⟨m, hn.sameBut sb hCb, fun h' hs' => ?_⟩
  exact ⟨_, H', K2.turned (t' := s''.toks) (fun b o hb e => (hs'.2 b hb).trans e) f.1 f.2.1 f.2.2.2.1 f.2.2.2.2.1 f.2.2.2.2.2, q⟩
end
noncomputable def compGB (sc : Scope) (N : List Str) (scope : Scope) (fr : List (Str × Nat)) : Bool :=
  decide (scope.kind = .function) && decide ((scope.names.map (·.1)).Nodup) && decide (∀ y ∈ scope.names, y.2 = .free → sc.names.lookup y.1 = some .cell ∨ sc.names.lookup y.1 = some .free) &&
  decide (∀ y ∈ scope.names, y.2 = .local → scope.names.lookup y.1 = some .local) && decide (∀ p ∈ fr, N[p.2]? = some p.1 ∧ scope.names.lookup p.1 = some .free)
theorem compG_ok {X : Cx} {sc scope : Scope} {N xs : List Str} {fr : List (Str × Nat)} (h1 : X.env.scope = sc) (h2 : X.N = N) (h : compGB sc N scope fr = true) : CompOkG X sc scope xs fr := by
  unfold compGB at h
  simp only [Bool.and_eq_true, decide_eq_true_eq] at h
  obtain ⟨⟨⟨⟨e1, e2⟩, e3⟩, e4⟩, e5⟩ := h
  subst h2
  exact ⟨h1, e1, e2, e3, e4, e5⟩
/-- a name of a block's own, in slot i -/
noncomputable def nameB (sc : Scope) (N : List Str) (i : Nat) (x : Str) : Bool := decide (N.Nodup) && decide (N[i]? = some x) && (decide (sc.names.lookup x = some .local))
theorem pg_own {X : Cx} {sc : Scope} {N : List Str} {i : Nat} {x : Str} {pos : Pos} (h1 : X.env.scope = sc) (h2 : X.N = N) (h : nameB sc N i x = true) : PG X (.Name x pos) (gName i) := by
  unfold nameB at h
  simp only [Bool.and_eq_true, decide_eq_true_eq] at h
  subst h1 h2
  exact pg_name h.1.1 h.1.2 (.inl h.2) (.inr h.2)
end L2

/-! ZIP, ENUMERATE, SUM. -/
namespace L2
open PySem PySem.Spec PyProof.Rows
/-- lists: false; tuples: true -/
noncomputable def SqB (b : Bool) (K : PySem.W.Frag) (H : Hp) (a : Addr) (xs : List V) : Prop := match b with | false => SqL K H a xs | true => SqT K H a xs
noncomputable def ItB (b : Bool) (h : Heap) (it a : Addr) (i : Nat) : Prop := match b with | false => h.IsListIter it a i | true => h.IsTupleIter it a i
noncomputable def seqB (b : Bool) (h : Heap) (a : Addr) (its : Array Value) : Prop := match b with | false => h.IsList a its | true => h.IsTuple a its
theorem ItB.at {b : Bool} {h h' : Heap} {it a : Addr} {i : Nat} (x : ItB b h it a i) (e : ∀ o, h.get? it = some o → h'.get? it = some o) : ItB b h' it a i := by
  cases b
  · exact Heap.IsListIter.at x e
  · exact Heap.IsTupleIter.at x e
theorem seqB.at {b : Bool} {h h' : Heap} {a : Addr} {its : Array Value} (x : seqB b h a its) (e : ∀ o, h.get? a = some o → h'.get? a = some o) : seqB b h' a its := by
  cases b
  · exact Heap.IsList.at x e
  · obtain ⟨o, ho, r⟩ := x
    exact ⟨o, e o ho, r⟩
theorem ItB.lt {b : Bool} {h : Heap} {it a : Addr} {i : Nat} (x : ItB b h it a i) : ∃ o, h.get? it = some o ∧ ∀ v, o.data ≠ .cell v := by
  cases b
  · obtain ⟨o, e, c, d⟩ := x
    exact ⟨o, e, fun v z => by rw [d] at z; cases z⟩
  · obtain ⟨o, e, c, d⟩ := x
    exact ⟨o, e, fun v z => by rw [d] at z; cases z⟩
section
variable {prog : Program} {w : World} {A : Around} {E : Value → Shared → Prop} {s : Shared}
/-! zip -/
end
end L2
namespace L2
open PySem PySem.Spec PyProof.Rows
section
variable {X : Cx} {pins : List (Addr × Obj)} {σ : St} {H : Hp} {s : Shared} {h' : Heap}
theorem Inv.seqB {b : Bool} {a : Addr} {xs : List V} (I : Inv X pins σ H s) (h : SqB b X.K H a xs) : ∃ its : List Value, Vals xs its ∧ L2.seqB b s.heap a its.toArray := by
  cases b
  · obtain ⟨its, rv, p, _⟩ := I.list h
    exact ⟨its, rv, p.isList⟩
  · obtain ⟨its, rv, p, _⟩ := I.tuple h
    exact ⟨its, rv, p⟩
end
section
variable {X : Cx}
end
end L2

/-! ENUMERATE, SUM. -/
namespace L2
open PySem PySem.Spec PyProof.Rows
open AutoSeq1 (wpAny_loadPart')
set_option maxRecDepth 100000 in
section
variable {X : Cx}
end
end L2

/-! SEQUENCES OF EITHER KIND; the forms of comprehensions. -/
namespace L2
open PySem PySem.Spec PyProof.Rows
theorem SqB.or {b : Bool} {K : PySem.W.Frag} {H : Hp} {a : Addr} {xs : List V} (h : SqB b K H a xs) : SqL K H a xs ∨ SqT K H a xs := by
  cases b
  · exact .inl h
  · exact .inr h
theorem SqB.up {b : Bool} {K : PySem.W.Frag} {H H' : Hp} {a : Addr} {xs : List V} (h : SqB b K H a xs) (s : Same H H') : SqB b K H' a xs := by
  cases b
  · exact s.seq h
  · exact s.tup h
theorem SqB.lst {K : PySem.W.Frag} {H : Hp} {a : Addr} {xs : List V} (h : H a = some (.lst xs)) : SqB false K H a xs := SqL.of h
theorem SqB.tup {K : PySem.W.Frag} {H : Hp} {a : Addr} {xs : List V} (h : H a = some (.tup xs)) : SqB true K H a xs := SqT.of h
noncomputable def Its (K : PySem.W.Frag) (b : Bool) (a : Addr) : It := match b with | false => Itl K a | true => Itt K a
theorem Its.go {K : PySem.W.Frag} {b : Bool} {a : Addr} {xs : List V} {x : V} {i : Nat} {H : Hp} (h : SqB b K H a xs) (e : xs[i]? = some x) : (Its K b a).go i H := by
  cases b
  · exact ⟨xs, x, h, e⟩
  · exact ⟨xs, x, h, e⟩
theorem Its.stop {K : PySem.W.Frag} {b : Bool} {a : Addr} {xs : List V} {i : Nat} {H : Hp} (h : SqB b K H a xs) (e : xs.length ≤ i) : (Its K b a).stop i H := by
  cases b
  · exact ⟨xs, h, e⟩
  · exact ⟨xs, h, e⟩
theorem Its.yld {K : PySem.W.Frag} {b : Bool} {a : Addr} {xs : List V} {i : Nat} {H H' : Hp} {x : V} (h : SqB b K H a xs) (y : (Its K b a).yld i H x H') : H' = H ∧ xs[i]? = some x := by
  cases b
  · exact ⟨y.1, y.2 xs h⟩
  · exact ⟨y.1, y.2 xs h⟩
section
variable {X : Cx}
noncomputable def iSeq (K : PySem.W.Frag) (tl : TE) : TI := fun σ H R => tl σ H fun x H1 => ∃ b a, x = .ref a ∧ (∃ xs, SqB b K H1 a xs) ∧ R (Its K b a) H1
theorem pi_seq {tg l : Expr} {tl : TE} (hl : PE X l tl) : PI X tg l (iSeq X.K tl) := by
  intro pins s σ H R I h
  refine thn (hl pins s σ H _ I h) fun v s1 ⟨x, H1, I1, r1, q1⟩ => ?_
  obtain ⟨b, a, e, ⟨xs, hq⟩, q⟩ := q1
  subst e
  cases r1
  cases b
  · obtain ⟨its, rv, p, hz⟩ := I1.list hq
    refine wpAny_pyIter_list p.isList ?_
    refine ⟨s1.heap.objs.size, [s1.heap.objs.size], _, _, H1, rfl, I1.kept (t' := s1.toks) fun b o e => Heap.get?_push_of_some _ e, turn_list a _, ⟨_, Heap.get?_push_size _ rfl, rfl, rfl⟩, fun b hb => ?_, q⟩
    have e : b = s1.heap.objs.size := by simpa using hb
    subst e
    exact I1.fpOk (Nat.le_refl _) (I1.hok.fresh (Nat.le_refl _))
  · obtain ⟨its, rv, p, hz⟩ := I1.tuple hq
    refine wpAny_pyIter_tuple (show s1.heap.IsTuple a its.toArray from p) ?_
    refine ⟨s1.heap.objs.size, [s1.heap.objs.size], _, _, H1, rfl, I1.kept (t' := s1.toks) fun b o e => Heap.get?_push_of_some _ e, turn_tuple a _, ⟨_, Heap.get?_push_size _ rfl, rfl, rfl⟩, fun b hb => ?_, q⟩
    have e : b = s1.heap.objs.size := by simpa using hb
    subst e
    exact I1.fpOk (Nat.le_refl _) (I1.hok.fresh (Nat.le_refl _))
noncomputable def rIxB (K : PySem.W.Frag) : R2 := fun x y H Q => ∃ b p xs i v, x = .ref p ∧ y = .int i ∧ SqB b K H p xs ∧ atI xs i = some v ∧ Q v H
theorem ix_B : IxR X (rIxB X.K) := by
  intro value slice pins s σ H x y v u Q I rx ry h
  obtain ⟨b, p, xs, i, v', e1, e2, hq, ha, q⟩ := h
  cases b
  · exact ix_list value slice pins s σ H x y v u Q I rx ry ⟨p, xs, i, v', e1, e2, hq, ha, q⟩
  · exact ix_tup value slice pins s σ H x y v u Q I rx ry ⟨p, xs, i, v', e1, e2, hq, ha, q⟩
noncomputable def rLenB (K : PySem.W.Frag) : List V → Hp → VK → Prop := fun xs H Q => ∃ b p ys, xs = [.ref p] ∧ SqB b K H p ys ∧ Q (.int ys.length) H
theorem call_lenB : CallR X (.builtin "len") (rLenB X.K) := by
  intro pins s σ H xs us Q I r h
  obtain ⟨b, p, ys, e, hq, q⟩ := h
  exact call_len_seq pins s σ H xs us Q I r ⟨p, ys, e, hq.or, q⟩
noncomputable def rTupB (K : PySem.W.Frag) : List V → Hp → VK → Prop := fun xs H Q => ∃ p ys, xs = [.ref p] ∧ ((SqL K H p ys ∧ ∀ l, H l = none → Q (.ref l) (upd H l (.tup ys))) ∨ (SqT K H p ys ∧ Q (.ref p) H))
theorem call_tupB : CallR X (.type "tuple") (rTupB X.K) := call_tuple_of
end
/-! ### for, over a sequence that stays -/
theorem for_seq {K : PySem.W.Frag} {b : Bool} {a : Addr} {xs : List V} {g : TG} {tb : TS} {D : Ends} {σ : St} {H : Hp} (Pv : Nat → St → Hp → Prop) (h0 : Pv 0 σ H) (hl : ∀ i σ H, i ≤ xs.length → Pv i σ H → SqB b K H a xs)
    (hs : ∀ i x σ H, xs[i]? = some x → Pv i σ H → g x σ H fun σ2 H2 => tb { D with nx := Pv (i + 1), ct := Pv (i + 1), bk := D.nx } σ2 H2) (hd : ∀ σ H, Pv xs.length σ H → D.nx σ H) :
    ∃ W : Nat → Nat → St → Hp → Prop, (∃ m, W 0 m σ H) ∧ ∀ i m σ H, W i m σ H →
      ((Its K b a).stop i H ∧ D.nx σ H) ∨ ((Its K b a).go i H ∧ ∃ N : St → Hp → Prop, (∀ σ' H', N σ' H' → ∃ m', m' < m ∧ W (i + 1) m' σ' H') ∧ ∀ x H', (Its K b a).yld i H x H' → g x σ H' fun σ2 H2 => tb { D with nx := N, ct := N, bk := D.nx } σ2 H2) := by
  cases b
  · exact for_list Pv h0 hl hs hd
  · exact for_tup Pv h0 hl hs hd
/-! ### comprehensions -/
/-- all that stood but at a stands still -/
noncomputable def SameX (a : Addr) (H H' : Hp) : Prop := ∀ b o, b ≠ a → H b = some o → H' b = some o
theorem Same.x {a : Addr} {H H' : Hp} (s : Same H H') : SameX a H H' := fun b o _ e => s b o e
section
variable {J : It} {g : TG} {tt : TOx} {te : TE} {n : Nat} {fr : List (Str × Nat)} {σ : St} {a : Addr} {H : Hp} {Q : VK} {K : PySem.W.Frag}
/-- P i zs H: behind i turns the list is zs -/
theorem cg_inv (len : Nat) (P : Nat → List V → Hp → Prop) (ha : H a = none) (hz : len ≤ 1000) (h0 : P 0 [] (upd H a (.lst [])))
    (hl : ∀ i zs H1, P i zs H1 → zs.length ≤ i) (mono : ∀ i zs H1 H2, P i zs H1 → SameX a H1 H2 → P i zs H2)
    (hgo : ∀ i H1, i < len → Same H H1 → J.go i H1) (hstop : ∀ H1, Same H H1 → J.stop len H1)
    (he : ∀ i H1 zs, i < len → Same H H1 → H1 a = some (.lst zs) → P i zs H1 → ∀ (ys : St) x H3, ys.length = n → J.yld i H1 x H3 → ∀ C : Option V → Hp → Prop,
      (∀ y H2, Same H1 H2 → P (i + 1) (zs ++ [y]) H2 → C (some y) H2) → (∀ H2, Same H1 H2 → P (i + 1) zs H2 → C none H2) →
      g x (ys ++ frees fr σ) H3 fun σ4 H4 => (∃ ys' : St, ys'.length = n ∧ σ4 = ys' ++ frees fr σ) ∧ tt σ4 H4 C)
    (hd : ∀ H1 ys, Same H H1 → H1 a = some (.lst ys) → P len ys H1 → Q (.ref a) H1) : CompWG J g tt n fr σ a H Q := by
  refine ⟨fun i m H1 => m = len - i ∧ i ≤ len ∧ Same H H1 ∧ ∃ zs, H1 a = some (.lst zs) ∧ P i zs H1, ⟨len, by simp, Nat.zero_le _, Same.new ha, [], upd_same, h0⟩, ?_⟩
  rintro i m H1 ⟨rfl, hi, s1, zs, ez, p⟩
  by_cases hlt : i < len
  · refine .inr ⟨hgo i H1 hlt s1, fun H' => i + 1 ≤ len ∧ Same H H' ∧ ∃ zs, H' a = some (.lst zs) ∧ P (i + 1) zs H', fun H' q => ⟨len - (i + 1), by omega, rfl, q⟩, fun ys x H3 hys hy => ?_⟩
    refine he i H1 zs hlt s1 ez p ys x H3 hys hy _ (fun y H2 s2 p2 => ?_) fun H2 s2 p2 => ?_
    · refine ⟨zs, s2 _ _ ez, small1000 (by have := hl i zs H1 p; omega), hlt, Same.over ha (s1.trans s2), _, upd_same, mono _ _ _ _ p2 fun b o hb e => ?_⟩
      rw [upd_ne hb]
      exact e
    · exact ⟨hlt, s1.trans s2, zs, s2 _ _ ez, p2⟩
  · have e : i = len := by omega
    subst e
    exact .inl ⟨hstop H1 s1, hd H1 zs s1 ez p⟩
/-- R i y H: the element of turn i is y -/
theorem cg_rel (len : Nat) (R : Nat → V → Hp → Prop) (ha : H a = none) (hz : len ≤ 1000) (mono : ∀ i y H1 H2, R i y H1 → SameX a H1 H2 → R i y H2)
    (hgo : ∀ i H1, i < len → Same H H1 → J.go i H1) (hstop : ∀ H1, Same H H1 → J.stop len H1)
    (he : ∀ i H1 zs, i < len → Same H H1 → H1 a = some (.lst zs) → ∀ (ys : St) x H3, ys.length = n → J.yld i H1 x H3 → ∀ Q' : VK, (∀ y H2, Same H1 H2 → R i y H2 → Q' y H2) →
      g x (ys ++ frees fr σ) H3 fun σ4 H4 => (∃ ys' : St, ys'.length = n ∧ σ4 = ys' ++ frees fr σ) ∧ te σ4 H4 Q')
    (hd : ∀ H1 ys, Same H H1 → H1 a = some (.lst ys) → ys.length = len → (∀ j y, ys[j]? = some y → R j y H1) → Q (.ref a) H1) : CompWG J g (tEl te) n fr σ a H Q := by
  refine cg_inv len (fun i zs H1 => zs.length = i ∧ ∀ j y, zs[j]? = some y → R j y H1) ha hz ⟨rfl, fun j y e => by simp at e⟩ (fun i zs H1 p => Nat.le_of_eq p.1) (fun i zs H1 H2 p s => ⟨p.1, fun j y e => mono _ _ _ _ (p.2 j y e) s⟩) hgo hstop ?_ fun H1 ys s e p => hd H1 ys s e p.1 p.2
  intro i H1 zs hi s1 ez p ys x H3 hys hy C hC _
  refine he i H1 zs hi s1 ez ys x H3 hys hy _ fun y H2 s2 r => hC y H2 s2 ⟨by simp [p.1], fun j z e => ?_⟩
  by_cases hj : j < zs.length
  · rw [List.getElem?_append_left hj] at e
    exact mono _ _ _ _ (p.2 j z e) s2.x
  · rw [List.getElem?_append_right (by omega)] at e
    have e0 : j - zs.length = 0 := by
      by_cases h0 : j - zs.length = 0
      · exact h0
      · rw [List.getElem?_eq_none (by simp; omega)] at e; cases e
    rw [e0] at e
    cases Option.some.inj e
    have : j = i := by have := p.1; omega
    rw [this]
    exact r
/-- a name over a sequence -/
theorem cg_seq {b : Bool} {l : Addr} {xs : List V} (R : Nat → V → Hp → Prop) (ha : H a = none) (hS : SqB b K H l xs) (hz : xs.length ≤ 1000) (mono : ∀ i y H1 H2, R i y H1 → SameX a H1 H2 → R i y H2)
    (he : ∀ i x H1 zs, xs[i]? = some x → Same H H1 → H1 a = some (.lst zs) → ∀ Q' : VK, (∀ y H2, Same H1 H2 → R i y H2 → Q' y H2) → te (some x :: frees fr σ) H1 Q')
    (hd : ∀ H1 ys, Same H H1 → H1 a = some (.lst ys) → ys.length = xs.length → (∀ j y, ys[j]? = some y → R j y H1) → Q (.ref a) H1) : CompWG (Its K b l) (gName 0) (tEl te) 1 fr σ a H Q := by
  refine cg_rel xs.length R ha hz mono (fun i H1 hi s => Its.go (hS.up s) (x := xs[i]) (by simp [hi])) (fun H1 s => Its.stop (hS.up s) (Nat.le_refl _)) ?_ hd
  intro i H1 zs hi s1 ez ys x H3 hys hy Q' hQ'
  obtain ⟨e1, e2⟩ := Its.yld (hS.up s1) hy
  subst e1
  match ys, hys with
  | [o], _ => exact ⟨⟨[some x], rfl, rfl⟩, he i x H3 zs e2 s1 ez Q' hQ'⟩
/-- a name over a range -/
theorem cg_range {lo : Int} {len : Nat} (R : Nat → V → Hp → Prop) (ha : H a = none) (hz : len ≤ 1000) (mono : ∀ i y H1 H2, R i y H1 → SameX a H1 H2 → R i y H2)
    (he : ∀ (i : Nat) H1 zs, i < len → Same H H1 → H1 a = some (.lst zs) → ∀ Q' : VK, (∀ y H2, Same H1 H2 → R i y H2 → Q' y H2) → te (some (.int (lo + i)) :: frees fr σ) H1 Q')
    (hd : ∀ H1 ys, Same H H1 → H1 a = some (.lst ys) → ys.length = len → (∀ j y, ys[j]? = some y → R j y H1) → Q (.ref a) H1) : CompWG (Itr lo len) (gName 0) (tEl te) 1 fr σ a H Q := by
  refine cg_rel len R ha hz mono (fun i H1 hi s => hi) (fun H1 s => Nat.le_refl _) ?_ hd
  intro i H1 zs hi s1 ez ys x H3 hys hy Q' hQ'
  obtain ⟨e1, e2⟩ := hy
  subst e1 e2
  match ys, hys with
  | [o], _ => exact ⟨⟨[_], rfl, rfl⟩, he i H3 zs hi s1 ez Q' hQ'⟩
end
/-! ### rows of ints -/
/-- rows of ints at a: a list (false) or tuple (true) of lists or tuples -/
noncomputable def MatB (b1 b2 : Bool) (K : PySem.W.Frag) (H : Hp) (a : Addr) (rows : List (List Int)) : Prop := ∃ ps : List Addr, SqB b1 K H a (ps.map V.ref) ∧ ps.length = rows.length ∧ ∀ (i : Nat) (p : Addr) (r : List Int), ps[i]? = some p → rows[i]? = some r → SqB b2 K H p (r.map V.int)
theorem MatB.up {b1 b2 : Bool} {K : PySem.W.Frag} {H H' : Hp} {a : Addr} {rows : List (List Int)} (h : MatB b1 b2 K H a rows) (s : Same H H') : MatB b1 b2 K H' a rows := let ⟨ps, h1, h2, h3⟩ := h; ⟨ps, h1.up s, h2, fun i p r e1 e2 => (h3 i p r e1 e2).up s⟩
/-- a list of new lists of ints, at turn j of a comprehension that makes a -/
noncomputable def RowR (a : Addr) (f : Nat → List Int) (j : Nat) (y : V) (H : Hp) : Prop := ∃ p, y = .ref p ∧ p ≠ a ∧ H p = some (.lst ((f j).map V.int))
theorem RowR.mono {a : Addr} {f : Nat → List Int} (i : Nat) (y : V) (H1 H2 : Hp) (h : RowR a f i y H1) (s : SameX a H1 H2) : RowR a f i y H2 := let ⟨p, e, n, q⟩ := h; ⟨p, e, n, s _ _ n q⟩
theorem MatB.of {K : PySem.W.Frag} {H : Hp} {a : Addr} {f : Nat → List Int} {ys : List V} (h : H a = some (.lst ys)) (hr : ∀ (j : Nat) y, ys[j]? = some y → RowR a f j y H) : MatB false false K H a ((List.range ys.length).map f) := by
  have hp : ∃ ps : List Addr, ys = ps.map V.ref := by
    clear h
    have : ∀ (zs : List V) (k : Nat), (∀ (j : Nat) y, zs[j]? = some y → RowR a f (j + k) y H) → ∃ ps : List Addr, zs = ps.map V.ref := by
      intro zs
      induction zs with
      | nil => intro k _; exact ⟨[], rfl⟩
      | cons z r ih =>
        intro k hz
        obtain ⟨p, e, _⟩ := hz 0 z rfl
        obtain ⟨ps, e2⟩ := ih (k + 1) fun j y q => by
          have := hz (j + 1) y (by simpa using q)
          rwa [Nat.add_assoc, Nat.add_comm 1 k] at this
        exact ⟨p :: ps, by rw [e, e2]; rfl⟩
    exact this ys 0 hr
  obtain ⟨ps, rfl⟩ := hp
  refine ⟨ps, SqB.lst h, by simp, fun i p r e1 e2 => ?_⟩
  obtain ⟨p', e, _, q⟩ := hr i (.ref p) (by simp [e1])
  cases e
  have hi : i < ps.length := (List.getElem?_eq_some_iff.mp e1).1
  have : r = f i := by
    rw [List.getElem?_map, List.length_map, List.getElem?_range hi] at e2
    exact (Option.some.inj e2).symm
  rw [this]
  exact SqB.lst q
end L2

/-! TREES OF INTS as data: what == and != ask of them. -/
namespace L2
open PySem PySem.Spec PyProof.Rows
/-- a tree of ints, of lists and tuples, at most n deep -/
noncomputable def iT : Nat → PyData → Bool
  | _, .int _ => true
  | n + 1, .list xs => xs.all (iT n)
  | n + 1, .tuple xs => xs.all (iT n)
  | _, _ => false
theorem iT_lay : ∀ (n : Nat) (d : PyData), iT n d = true → d.canLay0 = true ∧ d.depth ≤ n
  | 0, .int _, _ => by simp [PyData.canLay0, PyData.depth]
  | n + 1, .int _, _ => by simp [PyData.canLay0, PyData.depth]
  | n + 1, .list xs, h => by
    have all : ∀ ys : List PyData, ys.all (iT n) = true → PyData.canLayAll0 ys = true ∧ PyData.depthAll ys ≤ n := by
      intro ys
      induction ys with
      | nil => intro _; simp [PyData.canLayAll0, PyData.depthAll]
      | cons y r ih =>
        intro hy
        rw [List.all_cons, Bool.and_eq_true] at hy
        have h1 := iT_lay n y hy.1
        have h2 := ih hy.2
        simp only [PyData.canLayAll0, PyData.depthAll, Bool.and_eq_true]
        exact ⟨⟨h1.1, h2.1⟩, by omega⟩
    have := all xs (by simpa [iT] using h)
    simp only [PyData.canLay0, PyData.depth]
    exact ⟨this.1, by omega⟩
  | n + 1, .tuple xs, h => by
    have all : ∀ ys : List PyData, ys.all (iT n) = true → PyData.canLayAll0 ys = true ∧ PyData.depthAll ys ≤ n := by
      intro ys
      induction ys with
      | nil => intro _; simp [PyData.canLayAll0, PyData.depthAll]
      | cons y r ih =>
        intro hy
        rw [List.all_cons, Bool.and_eq_true] at hy
        have h1 := iT_lay n y hy.1
        have h2 := ih hy.2
        simp only [PyData.canLayAll0, PyData.depthAll, Bool.and_eq_true]
        exact ⟨⟨h1.1, h2.1⟩, by omega⟩
    have := all xs (by simpa [iT] using h)
    simp only [PyData.canLay0, PyData.depth]
    exact ⟨this.1, by omega⟩
theorem iT_mix : ∀ (n : Nat) (d d' : PyData), iT n d = true → iT n d' = true → SeqAt.noMix d d' = true := by
  intro n
  induction n with
  | zero => intro d d' h h'; cases d <;> simp [iT] at h <;> cases d' <;> simp [iT] at h' <;> simp [SeqAt.noMix]
  | succ n ih =>
    have all : ∀ ys zs : List PyData, ys.all (iT n) = true → zs.all (iT n) = true → SeqAt.noMixAll ys zs = true := by
      intro ys
      induction ys with
      | nil => intro zs _ _; cases zs <;> simp [SeqAt.noMixAll]
      | cons y r ihr =>
        intro zs hy hz
        cases zs with
        | nil => simp [SeqAt.noMixAll]
        | cons z t =>
          rw [List.all_cons, Bool.and_eq_true] at hy hz
          simp only [SeqAt.noMixAll, Bool.and_eq_true]
          exact ⟨ih y z hy.1 hz.1, ihr t hy.2 hz.2⟩
    intro d d' h h'
    cases d <;> simp only [iT, Bool.false_eq_true] at h <;> cases d' <;> simp only [iT, Bool.false_eq_true] at h' <;> simp only [SeqAt.noMix]
    · exact all _ _ h h'
    · exact all _ _ h h'
theorem iT_same : ∀ (n : Nat) (d d' : PyData), iT n d = true → iT n d' = true → (same d d' = true ↔ d = d') := by
  intro n
  induction n with
  | zero => intro d d' h h'; cases d <;> simp [iT] at h <;> cases d' <;> simp [iT] at h' <;> simp [same]
  | succ n ih =>
    have all : ∀ ys zs : List PyData, ys.all (iT n) = true → zs.all (iT n) = true → (sameAll ys zs = true ↔ ys = zs) := by
      intro ys
      induction ys with
      | nil => intro zs _ _; cases zs <;> simp [sameAll]
      | cons y r ihr =>
        intro zs hy hz
        cases zs with
        | nil => simp [sameAll]
        | cons z t =>
          rw [List.all_cons, Bool.and_eq_true] at hy hz
          simp only [sameAll, Bool.and_eq_true, List.cons.injEq]
          rw [ih y z hy.1 hz.1, ihr t hy.2 hz.2]
    intro d d' h h'
    cases d <;> simp only [iT, Bool.false_eq_true] at h <;> cases d' <;> simp only [iT, Bool.false_eq_true] at h' <;> simp only [same, beq_iff_eq, PyData.int.injEq, PyData.list.injEq, PyData.tuple.injEq, reduceCtorEq, Bool.false_eq_true]
    · exact all _ _ h h'
    · exact all _ _ h h'
theorem iT_shaped {n : Nat} {d : PyData} (hn : n ≤ 64) (h : iT n d = true) : SeqAt.shaped d = true := by
  have := iT_lay n d h
  unfold SeqAt.shaped
  rw [Bool.and_eq_true]
  exact ⟨this.1, decide_eq_true (by omega)⟩
section
variable {K : PySem.W.Frag} {H : Hp} {x y : V} {d d' : PyData} {Q : VK}
/-- x == y -/
theorem eqD_of (n : Nat) (hn : n ≤ 64) (h1 : Dt K H x d) (h2 : Dt K H y d') (t1 : iT n d = true) (t2 : iT n d' = true) {b : Bool} (hb : b = true ↔ d = d') (q : Q (.bl b) H) : rEqD K x y H Q := by
  refine ⟨d, d', h1, h2, iT_shaped hn t1, iT_shaped hn t2, iT_mix n d d' t1 t2, ?_⟩
  have := iT_same n d d' t1 t2
  have e : same d d' = b := by
    cases hs : same d d' <;> cases b <;> simp_all
  rw [e]
  exact q
theorem neD_of (n : Nat) (hn : n ≤ 64) (h1 : Dt K H x d) (h2 : Dt K H y d') (t1 : iT n d = true) (t2 : iT n d' = true) {b : Bool} (hb : b = true ↔ d = d') (q : Q (.bl (!b)) H) : rNeD K x y H Q := by
  refine ⟨d, d', h1, h2, iT_shaped hn t1, iT_shaped hn t2, iT_mix n d d' t1 t2, ?_⟩
  have := iT_same n d d' t1 t2
  have e : same d d' = b := by
    cases hs : same d d' <;> cases b <;> simp_all
  rw [e]
  exact q
end
/-- rows as data -/
noncomputable def seqD (b : Bool) (ds : List PyData) : PyData := match b with | false => .list ds | true => .tuple ds
noncomputable def intsD (b : Bool) (ns : List Int) : PyData := seqD b (ns.map PyData.int)
theorem iT_ints (b : Bool) (n : Nat) (ns : List Int) : iT (n + 1) (intsD b ns) = true := by
  have : (ns.map PyData.int).all (iT n) = true := by
    rw [List.all_eq_true]
    intro d hd
    obtain ⟨i, _, rfl⟩ := List.mem_map.mp hd
    cases n <;> rfl
  cases b <;> simpa [intsD, seqD, iT] using this
theorem Dt.seqB {b : Bool} {K : PySem.W.Frag} {H : Hp} {a : Addr} {xs : List V} {ds : List PyData} (h : SqB b K H a xs) (hd : Dts K H xs ds) : Dt K H (.ref a) (seqD b ds) := by
  cases b
  · exact .lst h hd
  · exact .tup h hd
theorem Dt.intsB {b : Bool} {K : PySem.W.Frag} {H : Hp} {a : Addr} {ns : List Int} (h : SqB b K H a (ns.map V.int)) : Dt K H (.ref a) (intsD b ns) := Dt.seqB h (Dts.ints ns)
end L2

/-! SMALL WORDS, II; rows of whole numbers. -/
namespace L2
open PySem PySem.Spec PyProof.Rows
section
variable {wi : TI} {g : TG} {tt : TOx} {te : TE} {tc : TT} {n : Nat} {fr : List (Str × Nat)} {σ : St} {H : Hp} {Q : VK}
theorem compE_st (h : ∀ B : TE, B = te → wi σ H fun J H1 => ∀ a, H1 a = none → CompWG J g (tEl B) n fr σ a H1 Q) : tCompG wi g (tEl te) n fr σ H Q := h _ rfl
theorem compI_st (h : ∀ (C : TT) (B : TE), C = tc → B = te → wi σ H fun J H1 => ∀ a, H1 a = none → CompWG J g (tElIf C B) n fr σ a H1 Q) : tCompG wi g (tElIf tc te) n fr σ H Q := h _ _ rfl rfl
end
/-- a new list of new lists of ints -/
noncomputable def MatL (H : Hp) (a : Addr) (rows : List (List Int)) : Prop := ∃ ps : List Addr, H a = some (.lst (ps.map V.ref)) ∧ ps.length = rows.length ∧ ∀ (i : Nat) (p : Addr) (r : List Int), ps[i]? = some p → rows[i]? = some r → p ≠ a ∧ H p = some (.lst (r.map V.int))
theorem MatL.b {K : PySem.W.Frag} {H : Hp} {a : Addr} {rows : List (List Int)} (h : MatL H a rows) : MatB false false K H a rows := let ⟨ps, h1, h2, h3⟩ := h; ⟨ps, SqB.lst h1, h2, fun i p r e1 e2 => SqB.lst (h3 i p r e1 e2).2⟩
theorem MatL.up {H H' : Hp} {a : Addr} {rows : List (List Int)} (h : MatL H a rows) (s : Same H H') : MatL H' a rows := let ⟨ps, h1, h2, h3⟩ := h; ⟨ps, s _ _ h1, h2, fun i p r e1 e2 => ⟨(h3 i p r e1 e2).1, s _ _ (h3 i p r e1 e2).2⟩⟩
theorem MatL.of {H : Hp} {a : Addr} {f : Nat → List Int} {ys : List V} (h : H a = some (.lst ys)) (hr : ∀ (j : Nat) y, ys[j]? = some y → RowR a f j y H) : MatL H a ((List.range ys.length).map f) := by
  have hp : ∃ ps : List Addr, ys = ps.map V.ref := by
    clear h
    have : ∀ (zs : List V) (k : Nat), (∀ (j : Nat) y, zs[j]? = some y → RowR a f (j + k) y H) → ∃ ps : List Addr, zs = ps.map V.ref := by
      intro zs
      induction zs with
      | nil => intro k _; exact ⟨[], rfl⟩
      | cons z r ih =>
        intro k hz
        obtain ⟨p, e, _⟩ := hz 0 z rfl
        obtain ⟨ps, e2⟩ := ih (k + 1) fun j y q => by
          have := hz (j + 1) y (by simpa using q)
          rwa [Nat.add_assoc, Nat.add_comm 1 k] at this
        exact ⟨p :: ps, by rw [e, e2]; rfl⟩
    exact this ys 0 hr
  obtain ⟨ps, rfl⟩ := hp
  refine ⟨ps, h, by simp, fun i p r e1 e2 => ?_⟩
  obtain ⟨p', e, n, q⟩ := hr i (.ref p) (by simp [e1])
  cases e
  have hi : i < ps.length := (List.getElem?_eq_some_iff.mp e1).1
  have : r = f i := by
    rw [List.getElem?_map, List.length_map, List.getElem?_range hi] at e2
    exact (Option.some.inj e2).symm
  rw [this]
  exact ⟨n, q⟩
theorem MatB.row {b1 b2 : Bool} {K : PySem.W.Frag} {H : Hp} {a : Addr} {rows : List (List Int)} (h : MatB b1 b2 K H a rows) {i : Nat} {r : List Int} (e : rows[i]? = some r) : ∃ ps : List Addr, ∃ p, SqB b1 K H a (ps.map V.ref) ∧ (ps.map V.ref)[i]? = some (.ref p) ∧ (ps.map V.ref).length = rows.length ∧ SqB b2 K H p (r.map V.int) := by
  obtain ⟨ps, h1, h2, h3⟩ := h
  have hi : i < ps.length := by have := (List.getElem?_eq_some_iff.mp e).1; omega
  exact ⟨ps, ps[i], h1, by simp [hi], by simp [h2], h3 i _ r (by simp [hi]) e⟩
theorem atI_at {α : Type} {xs : List α} {k : Nat} {x : α} {i : Int} (h : xs[k]? = some x) (hi : i = k) : atI xs i = some x := by
  subst hi
  exact atI_nat h
theorem ints_at {ns : List Int} {i : Nat} {x : V} (h : (ns.map V.int)[i]? = some x) : ∃ n, ns[i]? = some n ∧ x = .int n := by
  rw [List.getElem?_map] at h
  cases e : ns[i]? with
  | none => rw [e] at h; cases h
  | some n => rw [e] at h; exact ⟨n, rfl, (Option.some.inj h).symm⟩
theorem int_at {ns : List Int} {i : Nat} {n : Int} (h : ns[i]? = some n) : (ns.map V.int)[i]? = some (.int n) := by rw [List.getElem?_map, h]; rfl
theorem getD_at {ns : List Int} {k : Nat} (h : k < ns.length) : ns[k]? = some (ns.getD k 0) := by simp [h]
theorem getD_mem {ns : List Int} {k : Nat} (h : k < ns.length) : ns.getD k 0 ∈ ns := by
  rw [show ns.getD k 0 = ns[k] by simp [h]]
  exact List.getElem_mem h
/-! ### what is reckoned -/
end L2
namespace L2
open PySem PySem.Spec PyProof.Rows
section
variable {K : PySem.W.Frag} {g : TG} {tb : TS} {σ : St} {H : Hp} {nx : St → Hp → Prop} {rt : VK}
/-- the loops, with the ways out one by one -/
noncomputable abbrev LoopW (J : It) (g : TG) (tb : TS) (nx : St → Hp → Prop) (rt : VK) (σ : St) (H : Hp) : Prop := ∃ W : Nat → Nat → St → Hp → Prop, (∃ m, W 0 m σ H) ∧ ∀ i m σ H, W i m σ H →
  (J.stop i H ∧ nx σ H) ∨ (J.go i H ∧ ∃ N : St → Hp → Prop, (∀ σ' H', N σ' H' → ∃ m', m' < m ∧ W (i + 1) m' σ' H') ∧ ∀ x H', J.yld i H x H' → g x σ H' fun σ2 H2 => tb { nx := N, rt := rt, bk := nx, ct := N } σ2 H2)
theorem fr_seq {b : Bool} {a : Addr} {xs : List V} (Pv : Nat → St → Hp → Prop) (h0 : Pv 0 σ H) (hl : ∀ i σ H, i ≤ xs.length → Pv i σ H → SqB b K H a xs)
    (hs : ∀ i x σ H, xs[i]? = some x → Pv i σ H → g x σ H fun σ2 H2 => tb { nx := Pv (i + 1), rt := rt, bk := nx, ct := Pv (i + 1) } σ2 H2) (hd : ∀ σ H, Pv xs.length σ H → nx σ H) : LoopW (Its K b a) g tb nx rt σ H :=
  for_seq (D := { nx := nx, rt := rt, bk := nx, ct := nx }) Pv h0 hl hs hd
end
/-- len(p) of ints -/
theorem ints_len {b : Bool} {K : PySem.W.Frag} {H : Hp} {a : Addr} {ns : List Int} {Q : VK} (h : SqB b K H a (ns.map V.int)) (q : Q (.int ns.length) H) : rLenB K [.ref a] H Q := by
  refine ⟨b, a, _, rfl, h, ?_⟩
  rw [List.length_map]
  exact q
end L2

/-! RANGES WITH A STEP; names op= ..; lists of new rows, by turns. -/
namespace L2
open PySem PySem.Spec PyProof.Rows
/-- lo, lo + st, .. (n of them) -/
noncomputable def Itq (lo st : Int) (n : Nat) : It := ⟨fun i _ => i < n, fun i H x H' => H' = H ∧ x = .int (lo + i * st), fun i _ => n ≤ i⟩
theorem turn_rangeS {P : Program} {w : World} {K : PySem.W.Frag} {tg : Expr} (it : Addr) (lo st : Int) (n : Nat) : Turn P w K tg (Itq lo st n) [it] it (fun i h => IsRangeIter h it (lo + (i : Nat) * st) ((n : Int) - (i : Nat)) st) where
  mem := by simp
  obj := fun i h st b hb => by
    have e : b = it := by simpa using hb
    subst e
    exact ⟨_, st, fun v z => by
      have z' : Data.fields _ = Data.cell v := z
      cases z'⟩
  keep := fun i h h' st k => k it (by simp) _ st
  item := by
    intro X hP hw hK hc i pins s σ H E I hf hst hg
    subst hP hw hK
    obtain ⟨f0, f1, f2, f3, f4, f5⟩ := hf it (by simp)
    have W := Walks.range (prog := X.prog) (w := X.w) (I.ok.hd hc) it lo st n
    refine W.item i s _ _ hg hst fun v h' tk hv st' kk => ?_
    obtain ⟨t, rfl⟩ := hv
    have I1 : Inv X pins σ H { s with heap := h', toks := tk } := I.turned (fun b o hb e => kk b o (by simpa using hb) e) f0 f1 f3 f4 f5
    exact ⟨_, rfl, go_of (s := { s with heap := h', toks := tk }) (n := "range_iterator") st' rfl rfl (by decide) ⟨.int (lo + i * st), H, I1, ⟨t, rfl⟩, ⟨rfl, rfl⟩, st', fun b hb => (hf b hb).1⟩⟩
  done := by
    intro X hP hw hK hc i pins s σ H E I hf st hg
    subst hP hw hK
    obtain ⟨f0, f1, f2, f3, f4, f5⟩ := hf it (by simp)
    exact wpAny_pyNext_range_end (I.ok.hd hc) st (by have : n ≤ i := hg; omega) fun h' eb => ⟨rfl, I.turned (t' := s.toks) (fun b o hb e => eb b o hb e) f0 f1 f3 f4 f5⟩
  self := fun _ _ _ _ _ st h => wpAny_pyIter_rangeiter st h
theorem small_step {a b c : Int} (ha : 0 ≤ a) (ha' : a < 2 ^ 40) (hb0 : 0 ≤ b) (hb : b < 2 ^ 40) (hc : 0 < c) (hc' : c < 2 ^ 40) : Builtin.Range.small a b c = true := by
  unfold Builtin.Range.small Builtin.Range.rangeSize
  have q : a < b → (b - a - 1) / c + 1 ≤ 2 ^ 40 := fun h => by
    have := Int.ediv_le_self c (show 0 ≤ b - a - 1 by omega)
    omega
  have q0 : a < b → 0 ≤ (b - a - 1) / c := fun h => Int.ediv_nonneg (by omega) (by omega)
  simp only [Builtin.Range.rangeFitsLong, if_pos (show c > 0 from hc)]
  by_cases h : a < b
  · have q1 := q h
    have q2 := q0 h
    rw [if_pos h]
    generalize (b - a - 1) / c = z at q1 q2
    simp only [Bool.and_eq_true, Bool.or_eq_true, decide_eq_true_eq, beq_iff_eq]
    omega
  · rw [if_neg h]
    simp only [Bool.and_eq_true, Bool.or_eq_true, decide_eq_true_eq, beq_iff_eq]
    omega
section
variable {X : Cx} {tg : Expr}
noncomputable def iRng3 (ta : TA) : TI := fun σ H R => ta σ H fun vs H1 => ∃ i j c : Int, vs = [.int i, .int j, .int c] ∧ (0 ≤ i ∧ i < 2 ^ 40 ∧ 0 ≤ j ∧ j < 2 ^ 40 ∧ 0 < c ∧ c < 2 ^ 40) ∧ R (Itq i c (Builtin.Range.rangeSize i j c).toNat) H1
theorem pi_range3 {a b c : Expr} {ta : TA} {p pos : Pos} (hg : Gl X "range") (hm : X.mg "range" = none) (ha : PA X [a, b, c] ta) (hs : starEach [a, b, c] X.env = [(false, eval a X.env), (false, eval b X.env), (false, eval c X.env)] := by rfl)
    (hs2 : starEach [b, c] X.env = [(false, eval b X.env), (false, eval c X.env)] := by rfl) : PI X tg (.Call (.Name "range" p) [a, b, c] [] pos) (iRng3 ta) := by
  intro pins s σ H R I h
  refine Call_ (ld_blt I hg hm boot_range (PyProof.Rows.callWith_type1 (thn (ha pos pins s σ H _ I h) fun us s1 ⟨vs, H1, I1, r1, q1⟩ => ?_) (by rw [hs, hs2]) (by rw [hs2]; rfl)))
  obtain ⟨i, j, k, e, ⟨q1, q2, q3, q4, q5, q6⟩, q⟩ := q1
  subst e
  cases r1 with
  | cons r rr =>
    cases rr with
    | cons r' rr =>
      cases rr with
      | cons r'' rr =>
        cases rr
        obtain ⟨t, rfl⟩ := r
        obtain ⟨t', rfl⟩ := r'
        obtain ⟨t'', rfl⟩ := r''
        refine call_range_3 (by omega) ?_ (.inl (PyProof.noPylong_of_log2 (Nat.lt_of_lt_of_le ((Nat.log2_lt (by omega)).mpr (show k.natAbs < 2 ^ 40 by omega)) (by decide))))
        refine wpAny_pyIter_range (IsRange.new ..) (small_step q1 q2 q3 q4 q5 q6) ?_
        have I2 : Inv X pins σ H1 { s1 with heap := s1.heap.push { cls := .type "range", data := .fields #[.int i t, .int j t', .int k t''] }, toks := s1.toks } := I1.kept fun b o e => Heap.get?_push_of_some _ e
        refine ⟨(s1.heap.push { cls := .type "range", data := .fields #[.int i t, .int j t', .int k t''] }).objs.size, [(s1.heap.push { cls := .type "range", data := .fields #[.int i t, .int j t', .int k t''] }).objs.size], _, _, H1, rfl,
          I2.kept (t' := s1.toks) fun b o e => Heap.get?_push_of_some _ e, turn_rangeS _ i k (Builtin.Range.rangeSize i j k).toNat, ?_, fun b hb => ?_, q⟩
        · have nn : 0 ≤ Builtin.Range.rangeSize i j k := by
            unfold Builtin.Range.rangeSize
            rw [if_pos (show k > 0 from q5)]
            split
            · have := Int.ediv_nonneg (show 0 ≤ j - i - 1 by omega) (show 0 ≤ k by omega)
              omega
            · omega
          have e1 : i + ((0 : Nat) : Int) * k = i := by simp
          have e2 : (((Builtin.Range.rangeSize i j k).toNat : Nat) : Int) - ((0 : Nat) : Int) = Builtin.Range.rangeSize i j k := by omega
          show IsRangeIter _ _ (i + ((0 : Nat) : Int) * k) ((((Builtin.Range.rangeSize i j k).toNat : Nat) : Int) - ((0 : Nat) : Int)) k
          rw [e1, e2]
          exact Heap.get?_push_size _ rfl
        · have e : b = (s1.heap.push { cls := .type "range", data := .fields #[.int i t, .int j t', .int k t''] }).objs.size := by simpa using hb
          subst e
          exact I2.fpOk (Nat.le_refl _) (I2.hok.fresh (Nat.le_refl _))
end
section
variable {g : TG} {tb : TS} {σ : St} {H : Hp} {nx : St → Hp → Prop} {rt : VK}
theorem fr_step {lo st : Int} {n : Nat} (Pv : Nat → St → Hp → Prop) (h0 : Pv 0 σ H)
    (hs : ∀ i σ H, i < n → Pv i σ H → g (.int (lo + i * st)) σ H fun σ2 H2 => tb { nx := Pv (i + 1), rt := rt, bk := nx, ct := Pv (i + 1) } σ2 H2) (hd : ∀ σ H, Pv n σ H → nx σ H) : LoopW (Itq lo st n) g tb nx rt σ H := by
  refine ⟨fun i m σ H => m = n - i ∧ i ≤ n ∧ Pv i σ H, ⟨n, by simp, Nat.zero_le _, h0⟩, ?_⟩
  rintro i m σ H ⟨rfl, hi, p⟩
  by_cases hlt : i < n
  · refine .inr ⟨hlt, Pv (i + 1), fun σ' H' p' => ⟨n - (i + 1), by omega, rfl, hlt, p'⟩, fun x H' y => ?_⟩
    obtain ⟨e, y⟩ := y
    subst e y
    exact hs i σ _ hlt p
  · have e : i = n := by omega
    subst e
    exact .inl ⟨Nat.le_refl _, hd σ H p⟩
end
/-- zs are new lists of ints -/
noncomputable def RefRows (a : Addr) (H : Hp) (zs : List V) (M : List (List Int)) : Prop := ∃ ps : List Addr, zs = ps.map V.ref ∧ ps.length = M.length ∧ ∀ (j : Nat) (p : Addr) (r : List Int), ps[j]? = some p → M[j]? = some r → p ≠ a ∧ H p = some (.lst (r.map V.int))
theorem RefRows.nil {a : Addr} {H : Hp} : RefRows a H [] [] := ⟨[], rfl, rfl, fun j p r e => by simp at e⟩
theorem RefRows.len {a : Addr} {H : Hp} {zs : List V} {M : List (List Int)} (h : RefRows a H zs M) : zs.length = M.length := let ⟨ps, e, l, _⟩ := h; by rw [e, List.length_map, l]
theorem RefRows.mono {a : Addr} {H H' : Hp} {zs : List V} {M : List (List Int)} (h : RefRows a H zs M) (s : SameX a H H') : RefRows a H' zs M := let ⟨ps, e, l, q⟩ := h; ⟨ps, e, l, fun j p r e1 e2 => ⟨(q j p r e1 e2).1, s _ _ (q j p r e1 e2).1 (q j p r e1 e2).2⟩⟩
/-- cuts of ints -/
theorem cut_ints (ns : List Int) (lo hi : Option Int) : cutV (ns.map V.int) lo hi = ((ns.drop (HT.sIx ns.length 0 lo)).take (HT.sIx ns.length ns.length hi - HT.sIx ns.length 0 lo)).map V.int := by
  unfold cutV
  rw [List.length_map, List.map_take, List.map_drop]
end L2

/-! COPIES OF ROWS. -/
namespace L2
open PySem PySem.Spec PyProof.Rows
section
variable {K : PySem.W.Frag} {H : Hp} {a a1 : Addr} {M : List (List Int)} {σ : St} {Q : VK} {b1 b2 : Bool}
/-- a new list of new tuples of ints -/
noncomputable def MatT (H : Hp) (a : Addr) (rows : List (List Int)) : Prop := ∃ ps : List Addr, H a = some (.lst (ps.map V.ref)) ∧ ps.length = rows.length ∧ ∀ (i : Nat) (p : Addr) (r : List Int), ps[i]? = some p → rows[i]? = some r → H p = some (.tup (r.map V.int))
/-- tuple(..) of it -/
theorem MatT.tuple {l : Addr} (h : MatT H a M) (hl : H l = none) : ∃ zs, H a = some (.lst zs) ∧ MatB true true K (upd H l (.tup zs)) l M := by
  obtain ⟨ps, h1, h2, h3⟩ := h
  exact ⟨_, h1, ps, SqB.tup upd_same, h2, fun i p r e1 e2 => SqB.tup (Same.new hl _ _ (h3 i p r e1 e2))⟩
end
end L2

/-! NAMES OF THE MODULE that stand for an int or a text. -/
namespace L2
open PySem PySem.Spec PyProof.Rows
theorem pe_globE {X : Cx} {x : Str} {v : V} {pos : Pos} (hg : Gl X x) (h : ∃ u, X.mg x = some u ∧ RelV v u) (hd : (x == ("__debug__" : Str)) = false := by decide) : PE X (.Name x pos) (tC v) := by
  obtain ⟨u, e, r⟩ := h
  exact pe_glob hg e r hd
end L2
/-! LITERALS: lists of ints, rows, lists of rows, as they are written. -/
namespace L2
open PySem PySem.Spec PyProof.Rows
noncomputable def MkI (te : TE) (n : Int) : Prop := ∀ σ H Q, Q (.int n) H → te σ H Q
theorem MkI.pos (n : Int) : MkI (tC (.int n)) n := fun _ _ _ q => q
theorem MkI.neg (n : Int) : MkI (tUn (rU fun i => .int (-i)) (tC (.int n))) (-n) := fun _ _ _ q => ⟨n, rfl, q⟩
noncomputable def MkIs (ta : TA) (ns : List Int) : Prop := ∀ σ H Q, Q (ns.map V.int) H → ta σ H Q
theorem MkIs.nil : MkIs tNil [] := fun _ _ _ q => q
theorem MkIs.cons {te : TE} {ta : TA} {n : Int} {ns : List Int} (h : MkI te n) (h2 : MkIs ta ns) : MkIs (tCons te ta) (n :: ns) := fun σ H Q q => h σ H _ (h2 σ H _ q)
noncomputable def MkR (te : TE) (ns : List Int) : Prop := ∀ σ H Q, (∀ p H', Same H H' → H p = none → H' p = some (.lst (ns.map V.int)) → Q (.ref p) H') → te σ H Q
theorem MkR.of {ta : TA} {ns : List Int} (h : MkIs ta ns) (hz : ns.length ≤ 1000) : MkR (tLst ta) ns := fun σ H Q q => h σ H _ ⟨by rw [List.length_map]; exact Nat.le_of_lt (small1000 hz), fun l hl => q l _ (Same.new hl) hl upd_same⟩
/-- rows one after another, all new -/
noncomputable def MkRs (ta : TA) (M : List (List Int)) : Prop := ∀ σ H Q, (∀ ps H', Same H H' → RefRowsN H H' ps M → Q (ps.map V.ref) H') → ta σ H Q
where RefRowsN (H H' : Hp) (ps : List Addr) (M : List (List Int)) : Prop := ps.length = M.length ∧ ∀ (j : Nat) (p : Addr) (r : List Int), ps[j]? = some p → M[j]? = some r → H' p = some (.lst (r.map V.int))
theorem MkRs.nil : MkRs tNil [] := fun _ H Q q => q [] H (Same.refl _) ⟨rfl, fun j p r e => by simp at e⟩
theorem MkRs.cons {te : TE} {ta : TA} {ns : List Int} {M : List (List Int)} (h : MkR te ns) (h2 : MkRs ta M) : MkRs (tCons te ta) (ns :: M) := fun σ H Q q => h σ H _ fun p H1 s1 hp e1 => h2 σ H1 _ fun ps H2 s2 r => q (p :: ps) H2 (s1.trans s2) ⟨by simp [r.1], fun j p' r' e e' => by
  cases j with
  | zero => simp at e e'; subst e e'; exact s2 _ _ e1
  | succ j => exact r.2 j p' r' (by simpa using e) (by simpa using e')⟩
noncomputable def MkM (te : TE) (M : List (List Int)) : Prop := ∀ σ H Q, (∀ p H', Same H H' → H p = none → MatL H' p M → Q (.ref p) H') → te σ H Q
theorem MkM.of {ta : TA} {M : List (List Int)} (h : MkRs ta M) (hz : M.length ≤ 1000) : MkM (tLst ta) M := fun σ H Q q => h σ H _ fun ps H1 s1 r => ⟨by rw [List.length_map, r.1]; exact Nat.le_of_lt (small1000 hz), fun l hl => by
  have hn : H l = none := by cases e : H l with | none => rfl | some o => rw [s1 _ _ e] at hl; cases hl
  exact q l _ (s1.trans (Same.new hl)) hn ⟨ps, upd_same, r.1, fun i p z e1 e2 => ⟨ne_of_none (r.2 i p z e1 e2) hl, Same.new hl _ _ (r.2 i p z e1 e2)⟩⟩⟩
/-- a list of rows' lists -/
noncomputable def Mats (H : Hp) (p : Addr) (Ms : List (List (List Int))) : Prop := ∃ ps : List Addr, H p = some (.lst (ps.map V.ref)) ∧ ps.length = Ms.length ∧ ∀ (i : Nat) (q : Addr) (M : List (List Int)), ps[i]? = some q → Ms[i]? = some M → MatL H q M
theorem Mats.up {H H' : Hp} {p : Addr} {Ms : List (List (List Int))} (h : Mats H p Ms) (s : Same H H') : Mats H' p Ms := let ⟨ps, h1, h2, h3⟩ := h; ⟨ps, s _ _ h1, h2, fun i q M e1 e2 => (h3 i q M e1 e2).up s⟩
noncomputable def MkMs (ta : TA) (Ms : List (List (List Int))) : Prop := ∀ σ H Q, (∀ (ps : List Addr) H', Same H H' → ps.length = Ms.length → (∀ (i : Nat) (q : Addr) (M : List (List Int)), ps[i]? = some q → Ms[i]? = some M → MatL H' q M) → Q (ps.map V.ref) H') → ta σ H Q
theorem MkMs.nil : MkMs tNil [] := fun _ H Q q => q [] H (Same.refl _) rfl fun j p r e => by simp at e
theorem MkMs.cons {te : TE} {ta : TA} {M : List (List Int)} {Ms : List (List (List Int))} (h : MkM te M) (h2 : MkMs ta Ms) : MkMs (tCons te ta) (M :: Ms) := fun σ H Q q => h σ H _ fun p H1 s1 _ e1 => h2 σ H1 _ fun ps H2 s2 l r => q (p :: ps) H2 (s1.trans s2) (by simp [l]) fun j p' r' e e' => by
  cases j with
  | zero => simp at e e'; subst e e'; exact e1.up s2
  | succ j => exact r j p' r' (by simpa using e) (by simpa using e')
theorem MkMs.lst {ta : TA} {Ms : List (List (List Int))} (h : MkMs ta Ms) (hz : Ms.length ≤ 1000) {σ : St} {H : Hp} {Q : VK} (q : ∀ p H', Same H H' → Mats H' p Ms → Q (.ref p) H') : tLst ta σ H Q := h σ H _ fun ps H1 s1 l r => ⟨by rw [List.length_map, l]; exact Nat.le_of_lt (small1000 hz), fun a ha =>
  q a _ (s1.trans (Same.new ha)) ⟨ps, upd_same, l, fun i q M e1 e2 => (r i q M e1 e2).up (Same.new ha)⟩⟩
theorem Mats.at {K : PySem.W.Frag} {H : Hp} {p : Addr} {Ms : List (List (List Int))} {i : Nat} {M : List (List Int)} {I : Int} {Q : VK} (h : Mats H p Ms) (e : Ms[i]? = some M) (hi : I = i) (k : ∀ q, MatL H q M → Q (.ref q) H) : rIxB K (.ref p) (.int I) H Q := by
  obtain ⟨ps, h1, h2, h3⟩ := h
  have hlt : i < ps.length := by have := (List.getElem?_eq_some_iff.mp e).1; omega
  exact ⟨false, p, _, _, _, rfl, rfl, SqB.lst h1, atI_at (show (ps.map V.ref)[i]? = some (.ref ps[i]) by simp [hlt]) hi, k _ (h3 i _ M (by simp [hlt]) e)⟩
/-! ### rows that are changed in place: all of them apart -/
noncomputable def MatD (H0 H : Hp) (a : Addr) (rows : List (List Int)) : Prop := ∃ ps : List Addr, H a = some (.lst (ps.map V.ref)) ∧ ps.length = rows.length ∧ ps.Nodup ∧ ∀ (i : Nat) (p : Addr) (r : List Int), ps[i]? = some p → rows[i]? = some r → p ≠ a ∧ H0 p = none ∧ H p = some (.lst (r.map V.int))
theorem MatD.l {H0 H : Hp} {a : Addr} {rows : List (List Int)} (h : MatD H0 H a rows) : MatL H a rows := let ⟨ps, h1, h2, _, h3⟩ := h; ⟨ps, h1, h2, fun i p r e1 e2 => ⟨(h3 i p r e1 e2).1, (h3 i p r e1 e2).2.2⟩⟩
theorem MatD.up {H0 H H' : Hp} {a : Addr} {rows : List (List Int)} (h : MatD H0 H a rows) (s : Same H H') : MatD H0 H' a rows := let ⟨ps, h1, h2, n, h3⟩ := h; ⟨ps, s _ _ h1, h2, n, fun i p r e1 e2 => ⟨(h3 i p r e1 e2).1, (h3 i p r e1 e2).2.1, s _ _ (h3 i p r e1 e2).2.2⟩⟩
/-- a row's list and its change -/
theorem MatD.row {H0 H : Hp} {a : Addr} {rows : List (List Int)} {i : Nat} {r : List Int} (h : MatD H0 H a rows) (e : rows[i]? = some r) : ∃ zs p, H a = some (.lst zs) ∧ zs[i]? = some (.ref p) ∧ zs.length = rows.length ∧ p ≠ a ∧ H0 p = none ∧ H p = some (.lst (r.map V.int)) ∧ ∀ r', MatD H0 (upd H p (.lst (r'.map V.int))) a (rows.set i r') := by
  obtain ⟨ps, h1, h2, hn, h3⟩ := h
  have hi : i < ps.length := by have := (List.getElem?_eq_some_iff.mp e).1; omega
  have hp := h3 i ps[i] r (by simp [hi]) e
  refine ⟨_, ps[i], h1, by simp [hi], by simp [h2], hp.1, hp.2.1, hp.2.2, fun r' => ⟨ps, by rw [upd_ne (Ne.symm hp.1)]; exact h1, by simp [h2], hn, fun j q z e1 e2 => ?_⟩⟩
  by_cases hj : j = i
  · subst hj
    have eq : q = ps[j] := by simp [hi] at e1; exact e1.symm
    subst eq
    rw [List.getElem?_set_self (by omega)] at e2
    cases e2
    exact ⟨hp.1, hp.2.1, upd_same⟩
  · rw [List.getElem?_set_ne (Ne.symm hj)] at e2
    obtain ⟨n1, n3, n2⟩ := h3 j q z e1 e2
    have : q ≠ ps[i] := fun w => by
      have hjl := (List.getElem?_eq_some_iff.mp e1)
      obtain ⟨hjl, ej⟩ := hjl
      exact hj ((List.getElem_inj hn).mp (ej.trans w))
    exact ⟨n1, n3, by rw [upd_ne this]; exact n2⟩
section
variable {K : PySem.W.Frag} {H : Hp} {a a1 : Addr} {M : List (List Int)} {σ : St} {Q : VK} {b1 b2 : Bool}
end
end L2
/-! LITERALS, all at once: what is written decides it. -/
namespace L2
open PySem PySem.Spec PyProof.Rows
section
variable {X : Cx}
end
end L2
namespace L2
open PySem
theorem swapL {es : List Expr} {pos : Pos} {t : Option Expr} {l : Nat} {env : Env} : swapsWith (.List es pos) t l env = pure false := by cases t <;> rfl
theorem swapB {a b : Expr} {op : Operator} {pos : Pos} {t : Option Expr} {l : Nat} {env : Env} : swapsWith (.BinOp a op b pos) t l env = pure false := by cases t <;> rfl
end L2
namespace L2
open PySem PySem.Spec PyProof.Rows
noncomputable def isList : Expr → Bool
  | .List _ _ => true
  | _ => false
end L2

/-! ANY. -/
namespace L2
open PySem PySem.Spec PyProof.Rows
section
variable {X : Cx}
end
end L2

/-! CHAINS of three comparisons; targets (x, y, ..) of a list. -/
namespace L2
open PySem PySem.Spec PyProof.Rows
section
variable {X : Cx} {a b c d : Expr} {ta tb tc td : TE} {pos : Pos}
end
section
variable {prog : Program} {w : World} {A : Around} {E : Value → Shared → Prop} {s : Shared}
end
section
variable {X : Cx} {pos : Pos}
end
end L2

/-! PART R: t * k of a tuple (k from 2 on), xs[:k] = ys. -/
namespace L2
open PySem PySem.Spec PyProof.Rows
section
variable {X : Cx}
end

section
variable {prog : Program} {w : World} {A : Around} {E : Value → Shared → Prop} {s : Shared}
set_option maxRecDepth 100000 in
end
section
variable {X : Cx}
end
section
variable {X : Cx} {tg : Expr}
end
end L2

/-! PART S: try .. except C without a name. -/
namespace L2
open PySem PySem.Spec PyProof.Rows
section
variable {X : Cx} {C0 : Addr} {x : Str} {np hpos pos : Pos} {body suite : List Stmt} {b₀ : Stmt} {tb : XE → TS} {ts : TS}
theorem SP.offsuite {pins : List (Addr × Obj)} {D : Ends} {f : Flow} {s : Shared} {e : Addr} (ok : X.Ok) (h : SP (X.suite e) pins D f s) : SP X pins D f s := by
  cases f with
  | next => obtain ⟨σ', H', J, q⟩ := h; exact ⟨σ', H', J.offsuite ok, q⟩
  | brk => obtain ⟨σ', H', J, q⟩ := h; exact ⟨σ', H', J.offsuite ok, q⟩
  | cont => obtain ⟨σ', H', J, q⟩ := h; exact ⟨σ', H', J.offsuite ok, q⟩
  | ret u => obtain ⟨v, σ', H', J, r, q⟩ := h; exact ⟨v, σ', H', J.offsuite ok, r, q⟩
end
end L2

namespace L2
open PySem PySem.Spec PyProof.Rows
open Builtin Builtin.Str
section
variable {X : Cx}
/-- texts as values -/
theorem vals_strs : ∀ {xs : List Str} {us : List Value}, Vals (xs.map V.str) us → ∃ l : List (Str × Tok), us = strValues l ∧ l.map (·.1) = xs
  | [], us, r => by have e := r.zero; exact ⟨[], e, rfl⟩
  | x :: xs, us, r => by
    cases r with
    | cons a b =>
      obtain ⟨t, rfl⟩ := a
      obtain ⟨l, rfl, e⟩ := vals_strs b
      exact ⟨(x, t) :: l, rfl, by rw [List.map_cons, e]⟩
theorem strs_vals : ∀ l : List (Str × Tok), Vals ((l.map (·.1)).map V.str) (strValues l)
  | [] => .nil
  | p :: l => .cons ⟨p.2, rfl⟩ (strs_vals l)
noncomputable def rSplit : V → List V → Hp → VK → Prop := fun x vs H Q => ∃ u y, x = .str u ∧ vs = [.str y] ∧ (y.length == 0) = false ∧ u.length ≤ sizeLine ∧ (partsBetween u (occurrences u y 0 u.length (u.length + 1)) y.length).length ≤ sizeLine ∧
  ∀ l, H l = none → Q (.ref l) (upd H l (.lst ((Txt.split u y).map V.str)))
theorem mt_split : MtM X "str.split" rSplit := by
  intro pins s σ H x vs v us Q I rx rv h
  obtain ⟨u, y, rfl, rfl, hy, hu, hp, q⟩ := h
  obtain ⟨t, rfl⟩ := rx
  obtain ⟨z, rfl, rz⟩ := rv.one
  obtain ⟨t', rfl⟩ := rz
  have q0 := q _ I.fresh
  have own : ∀ (l : List (Str × Tok)) (tk : Nat), l.map (·.1) = Txt.split u y → l.length ≤ sizeLine → EP X pins σ Q (.ref s.heap.objs.size) { s with heap := s.heap.push { cls := .type "list", data := .seq (strValues l).toArray }, toks := tk } := fun l tk e hz => by
    rw [← e] at q0
    exact ⟨.ref _, _, I.lnew (t' := tk) (strs_vals l) (by simpa using hz), rfl, q0⟩
  cases h1 : (decide (u.length < y.length) || decide (strKind u < strKind y))
  · cases hf : (occurrences u y 0 u.length (u.length + 1)).isEmpty
    · refine call_meets F.slot_str_split (typeIs_str _ _ _) F.entry_str_split (F.args_str_split_2 _ _) (meets_str_split_sep u y t t' h1 hy hf hu hp) ?_
      show EP X pins σ Q _ { s with toks := _, heap := s.heap.push { cls := .type "list", data := .seq (strsFrom s.toks (partsBetween u (occurrences u y 0 u.length (u.length + 1)) y.length)).toArray } }
      rw [strsFrom_eq]
      refine own (numbered s.toks _) _ ((numbered_texts _ _).trans ((if_neg (ne_true_of_eq_false h1)).trans (if_neg (ne_true_of_eq_false hf))).symm) ?_
      have := congrArg List.length (numbered_texts s.toks (partsBetween u (occurrences u y 0 u.length (u.length + 1)) y.length))
      rw [List.length_map] at this
      rw [this]
      exact hp
    · exact call_meets F.slot_str_split (typeIs_str _ _ _) F.entry_str_split (F.args_str_split_2 _ _) (meets_str_split_not_found u y t t' h1 hy hf)
        (own [(u, t)] _ ((if_neg (ne_true_of_eq_false h1)).trans (if_pos hf)).symm (by show 1 ≤ sizeLine; decide))
  · exact call_meets F.slot_str_split (typeIs_str _ _ _) F.entry_str_split (F.args_str_split_2 _ _) (meets_str_split_cannot_occur u y t t' h1)
      (own [(u, t)] _ (if_pos h1).symm (by show 1 ≤ sizeLine; decide))
noncomputable def rJoin (K : PySem.W.Frag) : V → List V → Hp → VK → Prop := fun x vs H Q => ∃ (b : Bool) (u : Str) (p : Addr) (xs : List Str), x = .str u ∧ vs = [.ref p] ∧ SqB b K H p (xs.map V.str) ∧ JoinOk u xs = true ∧ Q (.str (Txt.join u xs)) H
theorem mt_join : MtM X "str.join" (rJoin X.K) := by
  intro pins s σ H x vs v us Q I rx rv h
  obtain ⟨b, u, p, xs, rfl, rfl, hq, hok, q⟩ := h
  obtain ⟨t, rfl⟩ := rx
  obtain ⟨z, rfl, rz⟩ := rv.one
  cases rz
  have hok' := hok
  unfold JoinOk at hok'
  rw [Bool.not_eq_true'] at hok'
  cases b with
  | false =>
    obtain ⟨its, r, pl, hz⟩ := I.list hq
    obtain ⟨l, rfl, e⟩ := vals_strs r
    subst e
    exact call_meets F.slot_str_join (typeIs_str _ _ _) F.entry_str_join (F.args_str_join_2 _ _) (meets_str_join_list u t p l hok') ⟨pl.isList, post_join l ⟨joinFit_length hok', fun t' k => ⟨.str _, H, I.tok _, ⟨_, rfl⟩, q⟩⟩⟩
  | true =>
    obtain ⟨its, r, pl, hz⟩ := I.tuple hq
    obtain ⟨l, rfl, e⟩ := vals_strs r
    subst e
    obtain ⟨o, ho, hc, n, hd⟩ := pl
    exact call_meets F.slot_str_join (typeIs_str _ _ _) F.entry_str_join (F.args_str_join_2 _ _) (meets_str_join_tuple u t p l hok') ⟨⟨o, n, ho, hc, hd⟩, post_join l ⟨joinFit_length hok', fun t' k => ⟨.str _, H, I.tok _, ⟨_, rfl⟩, q⟩⟩⟩
/-- the signs of a text, walked -/
noncomputable def Itx (x : Str) : It := ⟨fun i _ => i < x.cps.size, fun i H y H' => H' = H ∧ ∃ c, x.cps[i]? = some c ∧ y = .str ⟨#[c]⟩, fun i _ => x.cps.size ≤ i⟩
theorem turn_str {P : Program} {w : World} {K : PySem.W.Frag} {tg : Expr} (x : Str) (t : Tok) (it : Addr) (ty : String) (hty : ty = "str_ascii_iterator" ∨ ty = "str_iterator") : Turn P w K tg (Itx x) [it] it (fun i h => h.IsStrIter it ty x t i) where
  mem := by simp
  obj := fun i h st b hb => by
    have e : b = it := by simpa using hb
    subst e
    obtain ⟨o, e, c, d⟩ := st
    exact ⟨o, e, fun v z => by rw [d] at z; cases z⟩
  keep := fun i h h' st k => by
    obtain ⟨o, e, c, d⟩ := st
    exact ⟨o, k it (by simp) o e, c, d⟩
  item := by
    intro X hP hw hK hc i pins s σ H E I hf st hg
    subst hP hw hK
    have hg' : i < x.cps.size := hg
    obtain ⟨c, hx⟩ : ∃ c, x.cps[i]? = some c := ⟨_, Array.getElem?_eq_getElem hg'⟩
    obtain ⟨f0, f1, f2, f3, f4, f5⟩ := hf it (by simp)
    have fin : ∀ h', h'.IsStrIter it ty x t (i + 1) → Heap.SameBut it s.heap h' → ∃ u, some (Value.str ⟨#[c]⟩ s.toks) = some u ∧
      wpAny (model X.prog X.w) X.A (letOwnedTupleGo tg (.ref it) u) (fun _ s2 => ∃ y H', Inv X pins σ H' s2 ∧ RelV y u ∧ (Itx x).yld i H y H' ∧ s2.heap.IsStrIter it ty x t (i + 1) ∧ ∀ b ∈ [it], H' b = none) E { s with heap := h', toks := s.toks + 1 } := fun h' st' sb => by
      have I1 : Inv X pins σ H { s with heap := h', toks := s.toks + 1 } := I.turned (t' := s.toks + 1) (fun b o hb e => (sb.2 b hb).trans e) f0 f1 f3 f4 f5
      obtain ⟨o, e, c', d⟩ := id st'
      refine ⟨_, rfl, go_of (s := { s with heap := h', toks := s.toks + 1 }) e c' d (by rcases hty with rfl | rfl <;> decide) ⟨.str ⟨#[c]⟩, H, I1, ⟨_, rfl⟩, ⟨rfl, c, hx, rfl⟩, st', fun b hb => (hf b hb).1⟩⟩
    rcases hty with rfl | rfl
    · exact wpAny_pyNext_ascii_item st hx fin
    · exact wpAny_pyNext_wide_item st hx fin
  done := by
    intro X hP hw hK hc i pins s σ H E I hf st hg
    subst hP hw hK
    have hg' : x.cps.size ≤ i := hg
    have hx : x.cps[i]? = none := Array.getElem?_eq_none hg'
    obtain ⟨f0, f1, f2, f3, f4, f5⟩ := hf it (by simp)
    rcases hty with rfl | rfl
    · exact wpAny_pyNext_ascii_end (I.ok.hd hc) st hx fun h' eb => ⟨rfl, I.turned (t' := s.toks) (fun b o hb e => eb b o hb e) f0 f1 f3 f4 f5⟩
    · exact wpAny_pyNext_wide_end (I.ok.hd hc) st hx fun h' eb => ⟨rfl, I.turned (t' := s.toks) (fun b o hb e => eb b o hb e) f0 f1 f3 f4 f5⟩
  self := fun _ _ _ _ _ st h => by
    rcases hty with rfl | rfl
    · exact wpAny_pyIter_striter_ascii st h
    · exact wpAny_pyIter_striter_wide st h
noncomputable def iStr (tl : TE) : TI := fun σ H R => tl σ H fun x H1 => ∃ z, x = .str z ∧ R (Itx z) H1
theorem pi_str {tg l : Expr} {tl : TE} (hl : PE X l tl) : PI X tg l (iStr tl) := by
  intro pins s σ H R I h
  refine thn (hl pins s σ H _ I h) fun v s1 ⟨x, H1, I1, r1, q1⟩ => ?_
  obtain ⟨z, rfl, q⟩ := q1
  obtain ⟨t, rfl⟩ := r1
  have fin : ∀ ty, (ty = "str_ascii_iterator" ∨ ty = "str_iterator") → PIE X pins σ tg R (.ref s1.heap.objs.size) { s1 with heap := s1.heap.push { cls := .type ty, data := .fields #[.str z t, .int 0 0] } } := fun ty hty => by
    refine ⟨s1.heap.objs.size, [s1.heap.objs.size], _, _, H1, rfl, I1.kept (t' := s1.toks) fun b o e => Heap.get?_push_of_some _ e, turn_str z t _ ty hty, ⟨_, Heap.get?_push_size _ rfl, rfl, rfl⟩, fun b hb => ?_, q⟩
    have e : b = s1.heap.objs.size := by simpa using hb
    subst e
    exact I1.fpOk (Nat.le_refl _) (I1.hok.fresh (Nat.le_refl _))
  cases ha : z.cps.all (· < 128)
  · exact wpAny_pyIter_wide ha (fin _ (.inr rfl))
  · exact wpAny_pyIter_ascii ha (fin _ (.inl rfl))
/-- a cut of a text is a text, no longer -/
noncomputable def rSlS : V → Option Int → Option Int → Hp → VK → Prop := fun x _ _ H Q => ∃ u, x = .str u ∧ u.length ≤ sizeLine ∧ ∀ z : Str, z.length ≤ u.length → Q (.str z) H
theorem sl_S : SlR X rSlS := by
  intro pins s σ H x v vl vu lo hi sl Q I rx hs pl pu h
  obtain ⟨z, rfl, hz, q⟩ := h
  obtain ⟨t, rfl⟩ := rx
  refine ⟨"str", _, slot_str_getitem.lookup, typeIs_str _ _ _, ?_⟩
  have part : ∀ {v : Value} {o : Option Int}, IsPart v o → ∃ l : Option (Int × Tok), v = partValue l := fun p => by
    cases p with
    | none => exact ⟨none, rfl⟩
    | int i t => exact ⟨some (i, t), rfl⟩
  obtain ⟨l, rfl⟩ := part pl
  obtain ⟨u, rfl⟩ := part pu
  refine wpAny_getItem_str_slice (l := l) (u := u) (st := none) hs rfl ?_
  unfold sliceMade
  split
  · exact ⟨.str z, H, I, ⟨_, rfl⟩, q z (Nat.le_refl _)⟩
  · have hl : (⟨((slicePicked z l u none).filterMap (z.cps[·]?)).toArray⟩ : Str).length ≤ z.length := by
      refine Nat.le_trans ?_ (indices_len_le (l.map (·.1)) (u.map (·.1)) z.length)
      show (List.filterMap _ _).toArray.size ≤ _
      rw [List.size_toArray]
      exact List.length_filterMap_le _ _
    exact ⟨Nat.le_trans hl hz, .str _, H, I.tok _, ⟨_, rfl⟩, q _ hl⟩
end
section
variable {fr : List (Str × Nat)} {σ : St} {a : Addr} {H : Hp} {Q : VK} {te : TE}
end
theorem fr_str {z : Str} {g : TG} {tb : TS} {nx : St → Hp → Prop} {rt : VK} {σ : St} {H : Hp} (Pv : Nat → St → Hp → Prop) (h0 : Pv 0 σ H)
    (hs : ∀ i c σ H, z.cps[i]? = some c → Pv i σ H → g (.str ⟨#[c]⟩) σ H fun σ2 H2 => tb { nx := Pv (i + 1), rt := rt, bk := nx, ct := Pv (i + 1) } σ2 H2) (hd : ∀ σ H, Pv z.cps.size σ H → nx σ H) : LoopW (Itx z) g tb nx rt σ H := by
  refine ⟨fun i m σ H => m = z.cps.size - i ∧ i ≤ z.cps.size ∧ Pv i σ H, ⟨z.cps.size, by simp, Nat.zero_le _, h0⟩, ?_⟩
  rintro i m σ H ⟨rfl, hi, p⟩
  by_cases hlt : i < z.cps.size
  · refine .inr ⟨hlt, Pv (i + 1), fun σ' H' p' => ⟨z.cps.size - (i + 1), by omega, rfl, hlt, p'⟩, fun x H' y => ?_⟩
    obtain ⟨e, c, hc, y⟩ := y
    subst e y
    exact hs i c σ _ hc p
  · have e : i = z.cps.size := by omega
    subst e
    exact .inl ⟨Nat.le_refl _, hd σ H p⟩
/-- join of what was split -/
theorem join_split {u y : Str} (hy : (y.length == 0) = false) : Txt.join y (Txt.split u y) = u := by
  unfold Txt.join Txt.split
  have one : glued y [u] = u := by
    rw [StrLaws.glued_eq_join]
    rfl
  split
  · exact one
  · split
    · exact one
    · exact StrLaws.glued_between_self u y _
theorem Dts.strs {K : PySem.W.Frag} {H : Hp} : ∀ (xs : List Str), Dts K H (xs.map V.str) (xs.map PyData.str)
  | [] => .nil
  | x :: r => .cons (.str x) (Dts.strs r)
/-! a long list of texts, as it is written -/
noncomputable def litS : Expr → Option Str
  | .Constant (.str x) _ _ => some x
  | _ => none
noncomputable def litSs : List Expr → Option (List Str)
  | [] => some []
  | e :: es => match litS e, litSs es with | some n, some ns => some (n :: ns) | _, _ => none
noncomputable def asgStrs (x : Str) (ss : List Str) : Stmt → Bool
  | .Assign [.Name y _] (.List es _) _ => decide (y = x) && decide (litSs es = some ss)
  | _ => false
noncomputable def tStrsA (ss : List Str) : TA := fun _ H Q => Q (ss.map V.str) H
theorem pa_strs {X : Cx} : ∀ {es : List Expr} {ss : List Str}, litSs es = some ss → PA X es (tStrsA ss)
  | [], ss, h => by
    cases h
    intro pos pins s σ H Q I q
    exact pa_nil pos pins s σ H Q I q
  | e :: es, ss, h => by
    unfold litSs at h
    split at h
    · rename_i n ns e1 e2
      cases h
      have ih := pa_strs (X := X) e2
      unfold litS at e1
      split at e1
      · cases e1
        intro pos pins s σ H Q I q
        exact pa_cons pe_str ih rfl pos pins s σ H Q I q
      · cases e1
    · cases h
theorem ps_setStrs {X : Cx} {st : Stmt} {i : Nat} {x : Str} {ss : List Str} (h : asgStrs x ss st = true) (hN : X.N.Nodup) (hi : X.N[i]? = some x) (hx : X.env.scope.names.lookup x = some .local) : PS X st (tAsg (tLst (tStrsA ss)) (gName i)) := by
  unfold asgStrs at h
  split at h
  · rename_i y p es q r
    simp only [Bool.and_eq_true, decide_eq_true_eq] at h
    obtain ⟨rfl, hl⟩ := h
    exact ps_set hN hi (.inl hx) (pe_lst (pa_strs hl)) swapL (.inr hx)
  · cases h
end L2

/-! AN EXCEPTION THAT LEAVES A COMPREHENSION of a def's body. -/
namespace L2
open PySem PySem.Spec PyProof.Rows
theorem funFrames_same {base h h' : Heap} : ∀ {l : List Env}, h.FunFrames base l → (∀ env ∈ l, ∀ a, env.frame = some a → h'.get? a = h.get? a) → h'.FunFrames base l
  | [], _, _ => trivial
  | env :: _, ⟨hk, ⟨L, o, hf, hn, ho, hd⟩, hr⟩, hin => ⟨hk, ⟨L, o, hf, hn, (hin env (.head _) L hf).trans ho, hd⟩, funFrames_same hr fun e he => hin e (.tail _ he)⟩
/-- out of a frame: what stays (only the frames need to be the same but for their slots) -/
theorem fly_out2 {X : Cx} {pins : List (Addr × Obj)} {σ : St} {H : Hp} {s : Shared} {h'' B : Heap} (I : Inv X pins σ H s) (hst : X.stack = X.env :: X.outer) (hfr : X.env.frame = some X.env.locals) (hex : X.ex = [])
    (stay : B.StaysIn h'') (frm : ∀ b, b ∈ X.fs → ∀ o, s.heap.get? b = some o → (∀ vs, o.data ≠ .fields vs) → ∃ sl, h''.get? b = some { o with slots := sl }) (cov : Cov (frs X.stack) X.s₀.heap H s.heap B) :
    Un X.fs [] X.H₀ H X.s₀.heap h'' ∧ HOk X.prog X.w H h'' ∧ Cov X.fs X.s₀.heap H h'' B := by
  have u := I.base
  rw [hex] at u
  have hfs : frs X.stack = X.env.locals :: X.fs := by
    rw [hst]
    unfold frs
    rw [List.filterMap_cons, hfr]
    rfl
  have old : ∀ b o, X.s₀.heap.get? b = some o → b ∉ X.fs → b ∉ frs X.stack := fun b o e hb hm => by
    rw [hfs] at hm
    rcases List.mem_cons.mp hm with z | z
    · exact absurd (Nat.lt_of_lt_of_le (Heap.lt_size e) I.ok.above) (by rw [z]; exact Nat.lt_irrefl _)
    · exact hb z
  have trk : ∀ b v, H b = some v → b ∉ frs X.stack := fun b v e hm => by
    have := I.stkFree b hm
    rw [e] at this
    cases this
  have keepO : ∀ b o, s.heap.get? b = some o → b ∉ frs X.stack → ((∃ o', X.s₀.heap.get? b = some o') ∨ ∃ v, H b = some v) → h''.get? b = some o := fun b o e hb hc => stay b o (cov b o e hb hc)
  have frm' : ∀ b, b ∈ X.fs → ∀ o, s.heap.get? b = some o → ∃ sl, h''.get? b = some { o with slots := sl } := fun b hb o e => by
    obtain ⟨_, o', e', nf⟩ := I.funs.mem hb
    rw [e] at e'
    cases e'
    exact frm b hb o e nf
  refine ⟨⟨fun b o e n hb hx => ?_, fun b o e n hb hx => ?_, u.free, fun b o e hx => ?_, u.tups, u.frzs, u.tbls⟩, fun a o ha => ?_, fun b o e hb hc => ?_⟩
  · exact keepO b o (u.keep b o e n hb hx) (old b o e hb) (.inl ⟨o, e⟩)
  · obtain ⟨sl, e1⟩ := u.slot b o e n hb hx
    obtain ⟨sl', e2⟩ := frm' b hb _ e1
    exact ⟨sl', e2⟩
  · obtain ⟨o1, e1⟩ := u.there b o e hx
    by_cases hb : b ∈ X.fs
    · obtain ⟨sl, e2⟩ := frm' b hb _ e1
      exact ⟨_, e2⟩
    · exact ⟨o1, keepO b o1 e1 (old b o e hb) (.inl ⟨o, e⟩)⟩
  · refine (I.hok a o ha).stay (fun b v hb q => ?_) (fun _ q => q) fun _ _ q => q
    rcases hb with hb | hb
    · subst hb
      exact keepO b v q (trk b o ha) (.inr ⟨o, ha⟩)
    · exact keepO b v q (trk b _ hb) (.inr ⟨_, hb⟩)
  · rcases hc with ⟨o', e'⟩ | ⟨v, e'⟩
    · obtain ⟨o1, e1⟩ := u.there b o' e' (by simp)
      have q := keepO b o1 e1 (old b o' e' hb) (.inl ⟨o', e'⟩)
      rw [e] at q
      cases q
      exact cov b o e1 (old b o' e' hb) (.inl ⟨o', e'⟩)
    · obtain ⟨o1, e1⟩ := (I.hok b v e').there
      have q := keepO b o1 e1 (trk b v e') (.inr ⟨v, e'⟩)
      rw [e] at q
      cases q
      exact cov b o e1 (trk b v e') (.inr ⟨v, e'⟩)
/-- an exception that this frame has noted already is right where EX lets it pass -/
noncomputable def LandsH (X : Cx) (EX : Value → Hp → Prop) : Prop := X.stack = X.env :: X.outer ∧ X.env.frame = some X.env.locals ∧ X.ex = [] ∧
  ∀ (pins : List (Addr × Obj)) (σ : St) (H : Hp) (s : Shared) (h2 B : Heap) (e : Addr) (C a0 : Value), Inv X pins σ H s →
    (∀ b, b ∈ X.fs → ∀ o, s.heap.get? b = some o → (∀ vs, o.data ≠ .fields vs) → ∃ sl, h2.get? b = some { o with slots := sl }) →
    Heap.HeldW B X.stack e C a0 X.env.locals h2 → Cov (frs X.stack) X.s₀.heap H s.heap B → EX C H → X.xe (.ref e) { s with heap := h2 }
section
variable {P : Program} {w : World} {K : PySem.W.Frag} {mg : Str → Option Value} {base : Heap} {N : List Str} {qual : Str} {scope : Scope} {f : Addr} {cd : Value} {A : Around} {outer : List Env} {s₀ : Shared} {H₀ : Hp} {E : XK}
theorem landsH_def : LandsH (cxOf (CX1 P w) P w K mg base N qual scope f cd A outer s₀ H₀ E) (fun C H => E C none H) := by
  refine ⟨rfl, rfl, rfl, ?_⟩
  intro pins σ H s h2 B e C a0 I frm held cov hE
  show wpAny _ _ (leaving _ (.ref e)) _ _ _
  unfold leaving
  refine wpAny_bind (wpAny_noteFrame_againW rfl held.2.2.2 ?_)
  refine wpAny_landsW (s := { s with heap := h2 }) held fun h'' fl sm => ?_
  obtain ⟨k1, k2, ⟨_, _, k3⟩, k4⟩ := fl
  obtain ⟨un, ok, cv⟩ := fly_out2 I rfl rfl rfl k1 (fun b hb o e nf => by
    obtain ⟨sl, e1⟩ := frm b hb o e nf
    obtain ⟨sl2, e2⟩ := sm b _ e1 nf
    exact ⟨sl2, e2⟩) cov
  exact ⟨e, C, H, B, a0, rfl, I.os, I.bare, un, ok, ⟨k1, k2, k3, k4⟩, cv, hE⟩
end
section
variable {M : Model} {A : Around} {E : Value → Shared → Prop} {s : Shared} {env : Env}
theorem setFlight_heldW {base : Heap} {l : List Env} {e L : Addr} {cls a0 : Value} {Q : Unit → Shared → Prop} (R : Heap.HeldW base l e cls a0 L s.heap)
    (h : ∀ h', Heap.HeldW base l e cls a0 L h' → s.heap.UpToSlots h' → Q () { s with heap := h' }) : wpAny M A (setFlight (.ref e) (some L)) Q E s := by
  obtain ⟨hkb, hen, hl, oe, vs, T, oT, ts, he, hcls, hd, h1, hnT, hTe, hT, hdT, h3⟩ := R
  have hsz3 : 3 < ts.size := (Array.getElem?_eq_some_iff.mp h3).1
  have other : ∀ b, b ≠ T → (s.heap.update T (Obj.mapFields (·.setIfInBounds 3 ((some L).elim Value.none fun f => rawInt f)))).get? b = s.heap.get? b :=
    fun b hb => Heap.get?_update_other _ _ (Ne.symm hb)
  have noRecord : ∀ b o, s.heap.get? b = some o → (∀ vs, o.data ≠ .fields vs) → b ≠ T := fun b o hb hnf q => by
    rw [q, hT] at hb; injection hb with hb; subst hb; exact hnf ts hdT
  unfold setFlight
  refine wpAny_bind (wpAny_field he hd h1 ?_)
  rw [if_pos (show (Value.ref T != Value.none) = true from by simp)]
  refine wpAny_setField hT hdT hsz3 (h _ ⟨fun b o hbo => (other b fun q => by rw [q, hnT] at hbo; cases hbo).trans (hkb b o hbo), hen,
    hl.of_keeps fun b o hb hnf => ⟨o, (other b (noRecord b o hb hnf)).trans hb, rfl⟩, ?_⟩ fun b o hb hnf => ⟨o.slots, (other b (noRecord b o hb hnf)).trans hb⟩)
  exact ⟨oe, vs, T, _, _, (other e (Ne.symm hTe)).trans he, hcls, hd, h1, hnT, hTe, Heap.get?_update_self _ hT (Obj.isFreed_of_fields (Obj.data_mapFields hdT _)), Obj.data_mapFields hdT _, by simp [hsz3]⟩
theorem passOn_heldW {base : Heap} {l : List Env} {e L : Addr} {cls a0 : Value} {what : String} {Q : Value → Shared → Prop} (hf : env.frame = some L) (R : Heap.HeldW base l e cls a0 L s.heap)
    (h : ∀ h', Heap.HeldW base l e cls a0 L h' → s.heap.UpToSlots h' → E (.ref e) { s with heap := h' }) : wpAny M A (PySem.passOn what (.ref e) env : Sem Value) Q E s := by
  have R' := R
  obtain ⟨hkb, hen, hl, oe, vs, T, oT, ts, he, hcls, hd, h1, hnT, hTe, hT, hdT, h3⟩ := R
  unfold PySem.passOn
  refine wpAny_bind (wpAny_field he hd h1 ?_)
  rw [if_neg (by simp)]
  rw [hf]
  refine wpAny_bind (setFlight_heldW R' fun h' r u => ?_)
  exact wpAny_throw (h h' r u)
end
theorem codeAny_compLoop_genX {prog : Program} {w : World} {A : Around} {R : Result → Shared → Prop} {s : Shared} {elt target iter : Expr} {ifs : List Expr} {scope : Scope} {pos : Pos} {it acc : Value} {env : Env} (I : Nat → Shared → Prop)
    (turn : ∀ n s, I n s → wpAny (model prog w) A (pyNext it) (fun r s₁ => match r with
      | none => R (.ok .next) s₁
      | some v => wpAny (model prog w) A (letOwnedTupleGo target it v) (fun _ s₁' => wpAny (model prog w) A (assign target env v) (fun _ s₂ => turnOf elt ifs env (model prog w) A (fun o s₃ => match o with
          | some x => wpAny (model prog w) A (call (.builtin "list.append") [acc, x]) (fun _ s₄ => ∃ m, m < n ∧ I m s₄) (notedBy (model prog w) A env fun x s' => R (.error x) s') s₃
          | none => ∃ m, m < n ∧ I m s₃)
          (notedBy (model prog w) A env fun x s' => R (.error x) s') s₂) (notedBy (model prog w) A env fun x s' => R (.error x) s') s₁') (fun _ _ => False) s₁) (fun _ _ => False) s)
    (n : Nat) (h : I n s) (hifs : ifs.length ≤ 1) :
    codeAny (model prog w) A (.compLoop (.ListComp elt [⟨target, iter, ifs, 0⟩] scope pos) 0 it acc env) R s := by
  refine codeAny_loop rfl I (fun n s hI => ?_) n h
  show wpAny _ _ ((compTurn (.ListComp elt [⟨target, iter, ifs, 0⟩] scope pos) 0 it acc env).onRaise (fun x => do noteFrame x env; theTreesLotGoes x)) _ _ s
  refine wpAny_noted ?_
  have T := turn n s hI
  match ifs, hifs, T with
  | [], _, T =>
    rw [compTurn_list1]
    refine wpAny_bind (wpAny_standAt (wpAny_bind (wpAny_mono T (fun r s₁ h₁ => ?_) fun _ _ h' => h'.elim)))
    cases r with
    | none => exact wpAny_pure h₁
    | some v =>
      refine wpAny_bind (wpAny_mono h₁ (fun _ s₁' h₁' => ?_) fun _ _ h' => h'.elim)
      exact wpAny_bind (wpAny_mono h₁' (fun _ s₂ h₂ => wpAny_bind (wpAny_bind (wpAny_mono (show wpAny _ _ _ _ _ _ from h₂) (fun x s₃ h₃ => wpAny_bind (wpAny_mono h₃
        (fun _ s₄ h₄ => wpAny_pure (wpAny_pure ⟨rfl, h₄⟩)) fun _ _ h' => h')) fun _ _ h' => h'))) fun _ _ h' => h')
  | [c], _, T =>
    have e1 : compTurn (.ListComp elt [⟨target, iter, [c], 0⟩] scope pos) 0 it acc env = (standAt iter.pos >>= fun _ => pyNext it >>= fun r => match r with
      | none => pure (.done .next)
      | some v => letOwnedTupleGo target it v >>= fun _ => assign target env v >>= fun _ => isTrue c env (eval c env) >>= fun ok =>
        (if ok = true then (eval elt env >>= fun x => call (.builtin "list.append") [acc, x] >>= fun _ => pure ()) >>= fun _ => again (.compLoop (.ListComp elt [⟨target, iter, [c], 0⟩] scope pos) 0 it acc env)
          else again (.compLoop (.ListComp elt [⟨target, iter, [c], 0⟩] scope pos) 0 it acc env))) := by
      unfold compTurn
      simp only [List.forIn_cons, List.forIn_nil, if_true, bind_assoc, pure_bind, List.getElem?_cons_zero]
      rfl
    rw [e1]
    refine wpAny_bind (wpAny_standAt (wpAny_bind (wpAny_mono T (fun r s₁ h₁ => ?_) fun _ _ h' => h'.elim)))
    cases r with
    | none => exact wpAny_pure h₁
    | some v =>
      refine wpAny_bind (wpAny_mono h₁ (fun _ s₁' h₁' => ?_) fun _ _ h' => h'.elim)
      refine wpAny_bind (wpAny_mono h₁' (fun _ s₂ h₂ => wpAny_bind (wpAny_mono (show wpAny _ _ _ _ _ _ from h₂) (fun b s₃ h₃ => ?_) fun _ _ h' => h')) fun _ _ h' => h')
      cases b with
      | true =>
        rw [if_pos rfl] at h₃ ⊢
        exact wpAny_bind (wpAny_bind (wpAny_mono h₃ (fun x s₄ h₄ => wpAny_bind (wpAny_mono h₄ (fun _ s₅ h₅ => wpAny_pure (wpAny_pure ⟨rfl, h₅⟩)) fun _ _ h' => h')) fun _ _ h' => h'))
      | false =>
        rw [if_neg Bool.false_ne_true] at h₃ ⊢
        exact wpAny_pure ⟨rfl, h₃⟩
  | _ :: _ :: _, hifs, T =>
    exact absurd hifs (by simp)

section
variable {M : Model} {A : Around} {E : Value → Shared → Prop} {s : Shared} {env : Env}
/-- what a comprehension's block leaves; an exception: as it stands in the block's own frame -/
noncomputable def compPostX (M : Model) (A : Around) (E : Value → Shared → Prop) (Q : Value → Shared → Prop) (acc : Value) (cenv : Env) (r : Result) (s' : Shared) : Prop :=
  match r with
  | .ok _ => ∃ m, s'.heap.Ns cenv.locals m ∧ ∀ h', Heap.SameBut cenv.locals s'.heap h' → Q acc { s' with heap := h' }
  | .error x => ∃ m, s'.heap.Ns cenv.locals m ∧ ∀ h', Heap.SameBut cenv.locals s'.heap h' → ∀ cenv' : Env, cenv'.frame = cenv.frame → wpAny M A (PySem.passOn "comprehension.variables-let-go" x cenv' : Sem Value) (fun _ _ => False) E { s' with heap := h' }
theorem comprehension_freeX {e : Expr} {scope : Scope} {pos : Pos} {newAcc first : Sem Value} {g : Comprehension} {gs : List Comprehension} {cl : List (Str × Addr)}
    {Q : Value → Shared → Prop}
    (hcl : clausesOf e = g :: gs) (hs : ∀ x, foldedSetIterable g.iter env x = pure x) (hclos : closureFor scope env = pure cl)
    (hkind : scope.kind = .function) (hnames : ∀ x ∈ scope.names, x.2 = .local → scope.names.lookup x.1 = some .local)
    (h : wpAny M A first (fun x s₁ => wpAny M A (pyIter x) (fun it s₂ => wpAny M A newAcc (fun acc s₃ =>
      wpAny M A (newFunctionEnv scope env.globals cl [] env.qual none .none (some env)) (fun cenv s₄ =>
        codeAny M A (.compStart e 0 it acc { cenv with scope := relabel scope env }) (compPostX M A E Q acc cenv) s₄) E s₃) E s₂) E s₁) E s) :
    wpAny M A (comprehension e scope env pos newAcc false first none) Q E s := by
  unfold comprehension
  rw [hclos, hcl]
  refine wpAny_bind (wpAny_mono h (fun x s₁ h₁ => wpAny_bind (wpAny_standAt (wpAny_bind (wpAny_of_eq (hs x) (wpAny_bind (wpAny_holding (wpAny_mono h₁ (fun it s₂ h₂ =>
    wpAny_standIf (wpAny_bind (wpAny_mono h₂ (fun acc s₃ h₃ => wpAny_bind (wpAny_pure (wpAny_bind (wpAny_mono h₃ (fun cenv s₄ h₄ => ?_) fun _ _ h' => h')))) fun _ _ h' => h')))
      fun _ _ h' => h'))))))) fun _ _ h' => h')
  dsimp only
  have hv : ∀ x ∈ (scope.names.filter fun x => (x.2 == .local || x.2 == .cell) && x.1 != (".0" : Str)).reverse, x.2 = .local →
      Env.kindOf { cenv with scope := relabel scope env } x.1 = some .local := fun x hx hl => lookup_relabel_local (hnames x (List.mem_filter.mp (List.mem_reverse.mp hx)).1 hl)
  refine wpAny_holding (wpAny_bind (wpAny_attempt (wpAny_holding (wpAny_run (codeAny_mono h₄ fun r s' hr => ?_)))))
  cases r with
  | ok f =>
    obtain ⟨m, hn, hr⟩ := hr
    exact wpAny_bind (wpAny_holding (wpAny_comp_letGo (cenv := { cenv with scope := relabel scope env }) hkind _ s' m hv hn fun h' m' _ hs' => wpAny_pure (hr h' hs')))
  | error x =>
    obtain ⟨m, hn, hr⟩ := hr
    exact wpAny_bind (wpAny_holding (wpAny_comp_letGo (cenv := { cenv with scope := relabel scope env }) hkind _ s' m hv hn fun h' m' _ hs' => wpAny_mono (hr h' hs' _ rfl) (fun _ _ f => f.elim) fun _ _ y => y))
end

noncomputable def cxCompX (X : Cx) (scope : Scope) (N : List Str) (s : Shared) (H : Hp) (fp : List Addr) (XE : Value → Shared → Prop) : Cx := { cxCompG X scope N s H fp with xe := XE }
theorem Inv.xe {X : Cx} {scope : Scope} {N : List Str} {s0 : Shared} {H0 : Hp} {fp : List Addr} {pins : List (Addr × Obj)} {σ : St} {H : Hp} {s : Shared} (XE : Value → Shared → Prop) (I : Inv (cxCompG X scope N s0 H0 fp) pins σ H s) : Inv (cxCompX X scope N s0 H0 fp XE) pins σ H s :=
  ⟨⟨I.ok.mod, I.ok.kind, I.ok.glob, I.ok.blt, I.ok.above, I.ok.inj, I.ok.has, I.ok.cab, I.ok.hd, I.ok.frames, I.ok.stk, I.ok.exf, I.ok.bs, I.ok.bsz, I.ok.noex, I.ok.exfs, I.ok.funs, I.ok.frf⟩,
    I.os, I.bare, I.base, I.loc, I.cell, I.free, I.freeC, I.pin, I.hok, I.len⟩
noncomputable abbrev Cov2 (fs ex : List Addr) (h₀ : Heap) (H : Hp) (h B : Heap) : Prop := ∀ b o, h.get? b = some o → b ∉ fs → ((b ∉ ex ∧ ∃ o', h₀.get? b = some o') ∨ ∃ u, H b = some u) → B.get? b = some o
/-- in a comprehension's block: an exception of a call is right where EX lets it pass -/
noncomputable def LandsC (X : Cx) (EX : Value → Hp → Prop) : Prop := ∀ (pins : List (Addr × Obj)) (σ : St) (H : Hp) (s : Shared) (e : Addr) (C : Value) (B : Heap) (a0 : Value), Inv X pins σ H s → Heap.FlyingW B X.stack e C a0 s.heap →
  Cov2 (frs X.stack) X.ex X.s₀.heap H s.heap B → EX C H → X.xe (.ref e) s
section
variable {X : Cx} {sc scope : Scope} {xs : List Str} {fr : List (Str × Nat)} {elt tg iter : Expr} {ifs : List Expr} {g : TG} {tt : TOx} {EX : Value → Hp → Prop} {QQ : Value → Shared → Prop}
theorem comp_coreX {pins : List (Addr × Obj)} {σ : St} {H : Hp} {s : Shared} {pos : Pos} {J : It} {fp : List Addr} {it : Addr} {tn : Nat → Heap → Prop} {Q : VK} {E : Value → Shared → Prop}
    (c : CompOkG X sc scope xs fr) (hc : X.calm = true) (hX : LandsH X EX) (hifs : ifs.length ≤ 1) (I : Inv X pins σ H s) (T : Turn X.prog X.w X.K tg J fp it tn) (t0 : tn 0 s.heap) (hf : ∀ b ∈ fp, FpOk X pins H b)
    (hg : ∀ (s₃ : Shared) (H₃ : Hp) (fp : List Addr) (XE : Value → Shared → Prop), (cxCompX X scope (xs ++ fr.map (·.1)) s₃ H₃ fp XE).env.scope = relab sc scope → PG (cxCompX X scope (xs ++ fr.map (·.1)) s₃ H₃ fp XE) tg g)
    (he : ∀ (s₃ : Shared) (H₃ : Hp) (fp : List Addr) (XE : Value → Shared → Prop), (cxCompX X scope (xs ++ fr.map (·.1)) s₃ H₃ fp XE).env.scope = relab sc scope → LandsC (cxCompX X scope (xs ++ fr.map (·.1)) s₃ H₃ fp XE) EX → POx (cxCompX X scope (xs ++ fr.map (·.1)) s₃ H₃ fp XE) elt ifs tt)
    (hw : ∀ a, H a = none → CompWG J g tt xs.length fr σ a H Q)
    (hRR : ∀ a C H' s' m, s'.heap.Ns C m → Inv X pins σ H' s' → FpOk X pins H' C → Q (.ref a) H' → ∀ h', Heap.SameBut C s'.heap h' → QQ (.ref a) { s' with heap := h' }) :
    wpAny (model X.prog X.w) X.A (newList []) (fun acc s₃ => wpAny (model X.prog X.w) X.A (newFunctionEnv scope X.env.globals (clOf X.env scope.names []) [] X.env.qual none .none (some X.env)) (fun cenv s₄ =>
      codeAny (model X.prog X.w) X.A (.compStart (.ListComp elt [⟨tg, iter, ifs, 0⟩] scope pos) 0 (.ref it) acc { cenv with scope := relabel scope X.env }) (compPostX (model X.prog X.w) X.A X.xe QQ acc cenv) s₄) E s₃) E s := by
  obtain ⟨W, ⟨m0, w0⟩, turn⟩ := hw s.heap.objs.size I.fresh
  refine wpAny_newObj_type (newEnv_own ?_)
  have I3 : Inv X pins σ (upd H s.heap.objs.size (.lst [])) { s with heap := s.heap.push { cls := .type "list", dict := none, data := .seq ([] : List Value).toArray } } := I.lnew (ys := []) (its := []) (t' := s.toks) .nil (Nat.zero_le _)
  have kp : ∀ b o, s.heap.get? b = some o → (s.heap.push { cls := .type "list", dict := none, data := .seq ([] : List Value).toArray }).get? b = some o := fun b o e => Heap.get?_push_of_some _ e
  have un0 : Un (frs X.stack) fp H (upd H s.heap.objs.size (.lst [])) s.heap (s.heap.push { cls := .type "list", dict := none, data := .seq ([] : List Value).toArray }) := Un.laid kp (Nat.le_refl _) I.fresh
  dsimp only
  generalize hH2 : s.heap.push { cls := .type "list", dict := none, data := .seq ([] : List Value).toArray } = hp2 at I3 kp un0 ⊢
  have hsz : s.heap.objs.size ≤ hp2.objs.size := by rw [← hH2, Heap.size_push]; exact Nat.le_succ _
  have ft : ∀ b ∈ fp, ∃ o, s.heap.get? b = some o := fun b hb => let ⟨o, e, _⟩ := T.obj _ _ t0 b hb; ⟨o, e⟩
  have nea : ∀ b ∈ fp, b ≠ s.heap.objs.size := fun b hb => let ⟨_, e⟩ := ft b hb; Nat.ne_of_lt (Heap.lt_size e)
  have f3 : ∀ b ∈ fp, FpOk X pins (upd H s.heap.objs.size (.lst [])) b ∧ ∃ o, hp2.get? b = some o := fun b hb => by
    obtain ⟨o, e⟩ := ft b hb
    exact ⟨⟨by rw [upd_ne (nea b hb)]; exact (hf b hb).1, (hf b hb).2⟩, o, kp b o e⟩
  have J0' := comp_startG c I3 f3
  have k4 : ∀ b o, hp2.get? b = some o → (pushCells (hp2.push { cls := .type "dict", data := .dict #[] }) scope.names).get? b = some o := fun b o e => pushCells_keeps _ _ b o (Heap.get?_push_of_some _ e)
  have t4 : tn 0 (pushCells (hp2.push { cls := .type "dict", data := .dict #[] }) scope.names) := T.keep 0 _ _ t0 fun b hb o e => k4 b o (kp b o e)
  have esc : ∀ (s₃ : Shared) (H₃ : Hp) (fp : List Addr) (XE : Value → Shared → Prop), (cxCompX X scope (xs ++ fr.map (·.1)) s₃ H₃ fp XE).env.scope = relab sc scope := fun _ _ _ _ => relab_is c.hsc
  obtain ⟨XE, hXE⟩ : ∃ XE : Value → Shared → Prop, XE = notedBy (model X.prog X.w) X.A (compEnvC scope (cellsFrom (hp2.objs.size + 1) scope.names (clOf X.env scope.names [])) hp2.objs.size X.env) (fun x s' => compPostX (model X.prog X.w) X.A X.xe QQ (.ref s.heap.objs.size) (newEnv scope hp2.objs.size X.env.globals (cellsFrom (hp2.objs.size + 1) scope.names (clOf X.env scope.names [])) X.env.qual none .none (some X.env) X.env.builtins) (.error x) s') := ⟨_, rfl⟩
  have J0 := J0'.xe XE
  have lands : LandsC (cxCompX X scope (xs ++ fr.map (·.1)) { s with heap := hp2 } (upd H s.heap.objs.size (.lst [])) fp XE) EX := by
    obtain ⟨hst, hfr, hex, hX⟩ := hX
    intro pins' σ' H3 s3 e C B a0 K3 fl cov hE
    obtain ⟨m4, hn4, _⟩ := K3.loc
    have K5 : Inv X pins σ H3 s3 := I.call' K3.os (un0.trans K3.base) K3.hok K3.bare fun b hb => let f := hf b hb; ⟨f.2.2.2.1, f.2.1, f.2.2.2.2.1, f.2.2.2.2.2⟩
    show XE (.ref e) s3
    rw [hXE]
    show wpAny _ _ (noteFrame (.ref e) X.env) _ _ s3
    refine wpAny_looks_onW (I.ok.frames.trans (by rw [hst])) hfr (hst ▸ fl) fun h4 held4 sm4 => ?_
    obtain ⟨o4, es4, ep4, ho4, hd4, hk4, hm4⟩ := hn4
    obtain ⟨sl4, ho4'⟩ := sm4 hp2.objs.size o4 ho4 (fun vs z => by rw [hd4] at z; cases z)
    refine ⟨m4, ⟨_, es4, ep4, ho4', hd4, hk4, hm4⟩, fun h' hs' cenv' hcf => ?_⟩
    obtain ⟨g1, g2, g3, oe, vs, T, oT, ts, he, hcls, hd, h1, hnT, hTe, hT, hdT, h3⟩ := held4
    have ne : e ≠ hp2.objs.size := fun z => by
      rw [z, ho4'] at he
      cases he
      have hd' : o4.data = .fields vs := hd
      rw [hd4] at hd'
      cases hd'
    have nT : T ≠ hp2.objs.size := fun z => by
      rw [z, ho4'] at hT
      cases hT
      have hd' : o4.data = .fields ts := hdT
      rw [hd4] at hd'
      cases hd'
    have nfr : ∀ b ∈ frs X.stack, b ≠ hp2.objs.size := fun b hb z => by
      obtain ⟨_, o, ho, _⟩ := I.stack.mem hb
      exact absurd (Nat.lt_of_lt_of_le (Heap.lt_size ho) hsz) (by rw [z]; exact Nat.lt_irrefl _)
    have hst' : Heap.StaysIn (PySem.W.hideAll B [hp2.objs.size]) B := fun b o q => PySem.W.of_hideAll _ q
    have held5 : Heap.HeldW (PySem.W.hideAll B [hp2.objs.size]) X.stack e C a0 X.env.locals h' := by
      refine ⟨fun b o q => ?_, PySem.W.fresh_of_stays hst' g2, funFrames_same (PySem.W.funFrames_base hst' (hst ▸ g3)) fun env hv a ha => hs'.2 a (nfr a (List.mem_filterMap.mpr ⟨env, hv, ha⟩)), oe, vs, T, oT, ts, (hs'.2 e ne).trans he, hcls, hd, h1, PySem.W.fresh_of_stays hst' hnT, hTe, (hs'.2 T nT).trans hT, hdT, h3⟩
      have nb : b ≠ hp2.objs.size := fun z => by
        rw [z, PySem.W.hideAll_none _ (by simp)] at q
        cases q
      exact (hs'.2 b nb).trans (g1 b o (PySem.W.of_hideAll _ q))
    refine passOn_heldW (hcf.trans hfr) held5 fun h5 held6 sm6 => ?_
    refine hX pins σ H3 s3 h5 _ e C a0 K5 (fun b hb o e1 nf => ?_) held6 (fun b o e1 hb hc => ?_) hE
    · obtain ⟨sl, e2⟩ := sm4 b o e1 nf
      have nb : b ≠ hp2.objs.size := nfr b (by
        rw [hst]
        unfold frs
        rw [List.filterMap_cons, hfr]
        exact List.mem_cons_of_mem _ hb)
      obtain ⟨sl', e3⟩ := sm6 b _ ((hs'.2 b nb).trans e2) nf
      exact ⟨sl', e3⟩
    · have nb : b ≠ hp2.objs.size ∧ ((b ∉ fp ∧ ∃ o', hp2.get? b = some o') ∨ ∃ u, H3 b = some u) := by
        rcases hc with ⟨o', e'⟩ | ⟨u, e'⟩
        · obtain ⟨o2, e2⟩ := I.base.there b o' e' (by rw [hex]; simp)
          refine ⟨fun z => ?_, .inl ⟨fun hb' => ?_, o2, kp b o2 e2⟩⟩
          · exact absurd (Heap.lt_size (kp b o2 e2)) (by rw [z]; exact Nat.lt_irrefl _)
          · have := (hf b hb').2.2.2.1
            rw [hex] at this
            rcases this with z | z
            · simp at z
            · exact absurd (Heap.lt_size e') (Nat.not_lt.mpr z)
        · refine ⟨fun z => ?_, .inr ⟨u, e'⟩⟩
          have : H3 hp2.objs.size = none := K3.free
          rw [← z, e'] at this
          cases this
      exact PySem.W.hideAll_get _ (cov b o e1 hb nb.2) (by simp [nb.1])
  subst hXE
  have stat : ∀ {H' : Hp}, (∀ b ∈ fp, H' b = none) → ∀ b ∈ fp, FpOk (cxCompX X scope (xs ++ fr.map (·.1)) { s with heap := hp2 } (upd H s.heap.objs.size (.lst [])) fp (notedBy (model X.prog X.w) X.A (compEnvC scope (cellsFrom (hp2.objs.size + 1) scope.names (clOf X.env scope.names [])) hp2.objs.size X.env) (fun x s' => compPostX (model X.prog X.w) X.A X.xe QQ (.ref s.heap.objs.size) (newEnv scope hp2.objs.size X.env.globals (cellsFrom (hp2.objs.size + 1) scope.names (clOf X.env scope.names [])) X.env.qual none .none (some X.env) X.env.builtins) (.error x) s'))) [] H' b := fun hn b hb => by
    obtain ⟨e1, e2⟩ := J0.ok.exf b hb
    exact ⟨hn b hb, e1, J0.ok.exfs b hb, .inl hb, e2, fun p hp => absurd (show p ∈ ([] : List (Addr × Obj)) from hp) (by simp)⟩
  have loop : codeAny (model X.prog X.w) X.A (.compLoop (.ListComp elt [⟨tg, iter, ifs, 0⟩] scope pos) 0 (.ref it) (.ref s.heap.objs.size) (compEnvC scope (cellsFrom (hp2.objs.size + 1) scope.names (clOf X.env scope.names [])) hp2.objs.size X.env))
      (compPostX (model X.prog X.w) X.A X.xe QQ (.ref s.heap.objs.size) (newEnv scope hp2.objs.size X.env.globals (cellsFrom (hp2.objs.size + 1) scope.names (clOf X.env scope.names [])) X.env.qual none .none (some X.env) X.env.builtins)) { s with heap := pushCells (hp2.push { cls := .type "dict", data := .dict #[] }) scope.names } := by
    refine codeAny_compLoop_genX (fun n s' => ∃ i, ∃ ys : St, ∃ H', ys.length = xs.length ∧ Inv (cxCompX X scope (xs ++ fr.map (·.1)) { s with heap := hp2 } (upd H s.heap.objs.size (.lst [])) fp (notedBy (model X.prog X.w) X.A (compEnvC scope (cellsFrom (hp2.objs.size + 1) scope.names (clOf X.env scope.names [])) hp2.objs.size X.env) (fun x s' => compPostX (model X.prog X.w) X.A X.xe QQ (.ref s.heap.objs.size) (newEnv scope hp2.objs.size X.env.globals (cellsFrom (hp2.objs.size + 1) scope.names (clOf X.env scope.names [])) X.env.qual none .none (some X.env) X.env.builtins) (.error x) s'))) [] (ys ++ frees fr σ) H' s' ∧ tn i s'.heap ∧ (∀ b ∈ fp, H' b = none) ∧ W i n H')
      ?_ m0 ⟨0, xs.map fun _ => none, _, by simp, J0, t4, fun b hb => (f3 b hb).1.1, w0⟩ hifs
    rintro n s3 ⟨i, ys, H3, hys, K3, st3, fr3, w3⟩
    rcases turn i n H3 w3 with ⟨stop, qn⟩ | ⟨go, N, hN, step⟩
    · refine thn (T.done (cxCompX X scope (xs ++ fr.map (·.1)) { s with heap := hp2 } (upd H s.heap.objs.size (.lst [])) fp (notedBy (model X.prog X.w) X.A (compEnvC scope (cellsFrom (hp2.objs.size + 1) scope.names (clOf X.env scope.names [])) hp2.objs.size X.env) (fun x s' => compPostX (model X.prog X.w) X.A X.xe QQ (.ref s.heap.objs.size) (newEnv scope hp2.objs.size X.env.globals (cellsFrom (hp2.objs.size + 1) scope.names (clOf X.env scope.names [])) X.env.qual none .none (some X.env) X.env.builtins) (.error x) s'))) rfl rfl rfl hc i [] s3 _ H3 (fun _ _ => False) K3 (stat fr3) st3 stop) fun r s4 ⟨hr, K4⟩ => ?_
      subst hr
      obtain ⟨m4, hn4, _⟩ := K4.loc
      have K5 : Inv X pins σ H3 s4 := I.call' K4.os (un0.trans K4.base) K4.hok K4.bare fun b hb => let f := hf b hb; ⟨f.2.2.2.1, f.2.1, f.2.2.2.2.1, f.2.2.2.2.2⟩
      exact ⟨m4, hn4, fun h' hs' => hRR _ _ H3 s4 m4 hn4 K5 (I.fpOk hsz K4.free) qn h' hs'⟩
    · refine thn (T.item (cxCompX X scope (xs ++ fr.map (·.1)) { s with heap := hp2 } (upd H s.heap.objs.size (.lst [])) fp (notedBy (model X.prog X.w) X.A (compEnvC scope (cellsFrom (hp2.objs.size + 1) scope.names (clOf X.env scope.names [])) hp2.objs.size X.env) (fun x s' => compPostX (model X.prog X.w) X.A X.xe QQ (.ref s.heap.objs.size) (newEnv scope hp2.objs.size X.env.globals (cellsFrom (hp2.objs.size + 1) scope.names (clOf X.env scope.names [])) X.env.qual none .none (some X.env) X.env.builtins) (.error x) s'))) rfl rfl rfl hc i [] s3 _ H3 (fun _ _ => False) K3 (stat fr3) st3 go) fun r s4 ⟨u, hr, h4⟩ => ?_
      subst hr
      refine thn h4 fun _ s5 ⟨y, H5, K5, r5, y5, st5, fr5⟩ => ?_
      have K5' := K5.pinned (stat fr5) (T.obj _ _ st5)
      refine thn (hg _ _ _ _ (esc _ _ _ _) _ s5 _ H5 y u _ K5' r5 (step ys y H5 hys y5)) fun _ s6 ⟨σ6, H6, K6, ⟨ys6, hl6, e6⟩, q6⟩ => ?_
      subst e6
      have fin : ∀ (s8 : Shared) (H8 : Hp), Inv (cxCompX X scope (xs ++ fr.map (·.1)) { s with heap := hp2 } (upd H s.heap.objs.size (.lst [])) fp (notedBy (model X.prog X.w) X.A (compEnvC scope (cellsFrom (hp2.objs.size + 1) scope.names (clOf X.env scope.names [])) hp2.objs.size X.env) (fun x s' => compPostX (model X.prog X.w) X.A X.xe QQ (.ref s.heap.objs.size) (newEnv scope hp2.objs.size X.env.globals (cellsFrom (hp2.objs.size + 1) scope.names (clOf X.env scope.names [])) X.env.qual none .none (some X.env) X.env.builtins) (.error x) s'))) ([] ++ pinsAt fp s5.heap) (ys6 ++ frees fr σ) H8 s8 → N H8 →
          ∃ m, m < n ∧ ∃ i, ∃ ys : St, ∃ H', ys.length = xs.length ∧ Inv (cxCompX X scope (xs ++ fr.map (·.1)) { s with heap := hp2 } (upd H s.heap.objs.size (.lst [])) fp (notedBy (model X.prog X.w) X.A (compEnvC scope (cellsFrom (hp2.objs.size + 1) scope.names (clOf X.env scope.names [])) hp2.objs.size X.env) (fun x s' => compPostX (model X.prog X.w) X.A X.xe QQ (.ref s.heap.objs.size) (newEnv scope hp2.objs.size X.env.globals (cellsFrom (hp2.objs.size + 1) scope.names (clOf X.env scope.names [])) X.env.qual none .none (some X.env) X.env.builtins) (.error x) s'))) [] (ys ++ frees fr σ) H' s8 ∧ tn i s8.heap ∧ (∀ b ∈ fp, H' b = none) ∧ W i m H' := by
        intro s8 H8 K8 n8
        obtain ⟨m', hm, w8⟩ := hN H8 n8
        refine ⟨m', hm, i + 1, ys6, H8, hl6, K8.unpinned, T.keep _ _ _ st5 fun b hb o e => (K8.pin (b, o) (List.mem_append_right _ (List.mem_append_right _ (mem_pinsAt hb e)))).1, fun b hb => ?_, w8⟩
        obtain ⟨o, e, d⟩ := T.obj _ _ st5 b hb
        exact (K8.pin (b, o) (List.mem_append_right _ (List.mem_append_right _ (mem_pinsAt hb e)))).2.1
      have h7 := he _ _ _ _ (esc _ _ _ _) lands _ s6 _ H6 _ K6 q6
      have mono : ∀ {Q Q' : Option Value → Shared → Prop} {E : Value → Shared → Prop} {s' : Shared} {env : Env}, (∀ o s1, Q o s1 → Q' o s1) → turnOf elt ifs env (model X.prog X.w) X.A Q E s' → turnOf elt ifs env (model X.prog X.w) X.A Q' E s' := by
        intro Q Q' E s' env hq ht
        unfold turnOf at ht ⊢
        match ifs, hifs, ht with
        | [], _, ht => exact wpAny_mono ht (fun x s1 q => hq _ _ q) fun _ _ e => e
        | [c], _, ht =>
          refine wpAny_mono ht (fun b s1 q => ?_) fun _ _ e => e
          split at q
          · rename_i hb; rw [if_pos hb]; exact wpAny_mono q (fun x s2 q => hq _ _ q) fun _ _ e => e
          · rename_i hb; rw [if_neg hb]; exact hq _ _ q
        | _ :: _ :: _, hifs, _ => exact absurd hifs (by simp)
      refine mono (fun o s7 ⟨z7, H7, K7, r7, q7⟩ => ?_) h7
      cases o with
      | none =>
        cases z7 with
        | none => exact fin s7 H7 K7 q7
        | some z => exact r7.elim
      | some v7 =>
        cases z7 with
        | none => exact r7.elim
        | some z7 =>
          obtain ⟨zs, hz, hl, w7⟩ := q7
          exact thn (mt_append _ s7 _ H7 (.ref s.heap.objs.size) [z7] (.ref s.heap.objs.size) [v7] (fun _ H8 => N H8) K7 rfl (.cons r7 .nil) ⟨_, zs, z7, rfl, rfl, hz, hl, w7⟩) fun _ s8 ⟨_, H8, K8, _, n8⟩ => fin s8 H8 K8 n8
  exact codeAny_compStart_list loop (T.self _ 0 _ _ _ t4 loop)
variable {wi : TI}
theorem pe_compX {pos : Pos} (c : CompOkG X sc scope xs fr) (hc : X.calm = true) (hX : LandsH X EX) (hi : PI X tg iter wi)
    (hg : ∀ (s₃ : Shared) (H₃ : Hp) (fp : List Addr) (XE : Value → Shared → Prop), (cxCompX X scope (xs ++ fr.map (·.1)) s₃ H₃ fp XE).env.scope = relab sc scope → PG (cxCompX X scope (xs ++ fr.map (·.1)) s₃ H₃ fp XE) tg g)
    (he : ∀ (s₃ : Shared) (H₃ : Hp) (fp : List Addr) (XE : Value → Shared → Prop), (cxCompX X scope (xs ++ fr.map (·.1)) s₃ H₃ fp XE).env.scope = relab sc scope → LandsC (cxCompX X scope (xs ++ fr.map (·.1)) s₃ H₃ fp XE) EX → POx (cxCompX X scope (xs ++ fr.map (·.1)) s₃ H₃ fp XE) elt ifs tt)
    (hifs : ifs.length ≤ 1 := by exact Nat.le_of_ble_eq_true rfl) (hs : ∀ x, foldedSetIterable iter X.env x = pure x := by intro _; rfl) : PE X (.ListComp elt [⟨tg, iter, ifs, 0⟩] scope pos) (tCompG wi g tt xs.length fr) := by
  intro pins s σ H Q I h
  rw [eval_ListComp]
  refine comprehension_freeX rfl hs (closure_is (c.cells I)) c.kind c.loc (thn (hi pins s σ H _ I h) fun v s1 h1 => thn h1 fun itv s2 h2 => ?_)
  obtain ⟨it, fp, tn, J, H2, e, I2, T, t2, f2, hw⟩ := h2
  subst e
  refine comp_coreX (QQ := EP X pins σ Q) c hc hX hifs I2 T t2 f2 hg he hw ?_
  intro a C H' s' m hn K f q h' hs'
  exact ⟨.ref a, H', K.turned (t' := s'.toks) (fun b o hb e => (hs'.2 b hb).trans e) f.1 f.2.1 f.2.2.2.1 f.2.2.2.2.1 f.2.2.2.2.2, rfl, q⟩
end
section
variable {X : Cx} {EX : Value → Hp → Prop} {k : Nat} {f : Addr} {fd : FuncData} {ps : List Str} {sp : Sp} {dvs : List V} {ds : List Value} {x : Str} {p pos : Pos} {e : Expr} {es : List Expr} {t : TA}
theorem run_fnXC {pins : List (Addr × Obj)} {σ : St} {H : Hp} {s : Shared} {Q : VK} {us : List Value} {vs : List V} (F : FnOk X.prog X.w X.K X.mg X.base (CX1 X.prog X.w) k f fd ps sp) (hr : Room k X.A) (hb : Binds X.K fd ps ds) (hd : Vals dvs ds) (hx : LandsC X EX)
    (I : Inv X pins σ H s) (r : Vals vs us) (h : sp (vs ++ dvs) H Q fun C _ H' => EX C H') : wpAny (model X.prog X.w) X.A (call (.ref f) us) (EP X pins σ Q) X.xe s := by
  have r2 : Vals (vs ++ dvs) (us ++ ds) := r.append hd
  have hl : (us ++ ds).length = ps.length := by rw [← r2.length]; exact F.len _ _ _ _ h
  refine wpAny_call (codeAny_mono (F.run X.A X.stack s H ⟨us, []⟩ (us ++ ds) (vs ++ dvs) Q _ hr I.env0 (hb s us I.kIn hl) r2 h) fun r s' hq => ?_)
  cases r with
  | error ev =>
    obtain ⟨e, C, H', B, a0, rfl, os, bare, un, ok, fl, cov, q⟩ := hq
    have J : Inv X pins σ H' s' := I.call' os un ok bare fun b z => absurd z (by simp)
    refine hx pins σ H' s' e C B a0 J fl (fun b o e1 hb hc => cov b o e1 hb ?_) q
    rcases hc with ⟨nx, o', e'⟩ | hc
    · obtain ⟨o2, e2⟩ := I.base.there b o' e' nx
      exact .inl ⟨o2, e2⟩
    · exact .inr hc
  | ok fl =>
    cases fl with
    | ret u => exact I.after hq
    | next => exact False.elim hq
    | brk => exact False.elim hq
    | cont => exact False.elim hq
/-- a call that may raise, within a comprehension -/
theorem pe_callXC (F : FnOk X.prog X.w X.K X.mg X.base (CX1 X.prog X.w) k f fd ps sp) (hr : Room k X.A) (hg : Gl X x) (hm : X.mg x = some (.ref f)) (hk : PySem.W.keepIn X.K (.ref f) = true) (hb : Binds X.K fd ps ds) (hd : Vals dvs ds) (hx : LandsC X EX)
    (ha : PA X (e :: es) t) (hdb : (x == ("__debug__" : Str)) = false := by decide) (he : starEach (e :: es) X.env = (false, eval e X.env) :: starEach es X.env := by rfl) (hpl : (backTo pos (starEach es X.env)).any (·.1) = false := by rfl) :
    PE X (.Call (.Name x p) (e :: es) [] pos) (tCallX sp dvs (fun _ C H => EX C H) t) := by
  intro pins s σ H Q I h
  refine wpAny_Call_Name_kw (ld_glob I hg hm ?_ hdb)
  refine PySem.W.callWith_K (h₀ := X.base) I.ok.mod.kin hk (thn (ha pos pins s σ H _ I h) fun us s1 ⟨vs, H1, I1, r, q⟩ => ⟨I1.kIn, ?_⟩) he hpl
  exact run_fnXC F hr hb hd hx I1 r q
end
end L2

/-! TEXTS, more: zfill, lstrip, startswith, reversed lists, a sequence beside a text. -/
namespace L2
open PySem PySem.Spec PyProof.Rows
open Builtin Builtin.Str
section
variable {X : Cx}
theorem mt_zfill : MtM X "str.zfill" (fun x vs H Q => ∃ u i, x = .str u ∧ vs = [.int i] ∧ PadOk i = true ∧ Q (.str (Txt.zfill u i)) H) := by
  intro pins s σ H x vs v us Q I rx rv h
  obtain ⟨u, i, rfl, rfl, hp, q⟩ := h
  obtain ⟨t, rfl⟩ := rx
  obtain ⟨z, rfl, rz⟩ := rv.one
  obtain ⟨t', rfl⟩ := rz
  exact PySem.W.KXw.zfill rfl hp fun t' k => ⟨.str _, H, I.tok _, ⟨_, rfl⟩, q⟩
theorem mt_lstripC : MtM X "str.lstrip" (fun x vs H Q => ∃ u y, x = .str u ∧ vs = [.str y] ∧ u.length ≤ sizeLine ∧ Q (.str (Txt.lstripChars u y)) H) := by
  intro pins s σ H x vs v us Q I rx rv h
  obtain ⟨u, y, rfl, rfl, hp, q⟩ := h
  obtain ⟨t, rfl⟩ := rx
  obtain ⟨z, rfl, rz⟩ := rv.one
  obtain ⟨t', rfl⟩ := rz
  exact PySem.W.KXw.lstripChars rfl hp fun t' k => ⟨.str _, H, I.tok _, ⟨_, rfl⟩, q⟩
theorem mt_startsw : MtM X "str.startswith" (fun x vs H Q => ∃ u y, x = .str u ∧ vs = [.str y] ∧ Q (.bl (Txt.startswith u y)) H) := by
  intro pins s σ H x vs v us Q I rx rv h
  obtain ⟨u, y, rfl, rfl, q⟩ := h
  obtain ⟨t, rfl⟩ := rx
  obtain ⟨z, rfl, rz⟩ := rv.one
  obtain ⟨t', rfl⟩ := rz
  exact SC.startswith ⟨.bl _, H, I, rfl, q⟩
end
/-- a list of n, from its end on -/
noncomputable def Itv (K : PySem.W.Frag) (l : Addr) (n : Nat) : It :=
  ⟨fun i H => ∃ xs, SqL K H l xs ∧ xs.length = n ∧ i < n, fun i H x H' => H' = H ∧ ∀ xs, SqL K H l xs → xs[n - 1 - i]? = some x, fun i _ => n ≤ i⟩
theorem turn_rev {P : Program} {w : World} {K : PySem.W.Frag} {tg : Expr} (a it : Addr) (n : Nat) : Turn P w K tg (Itv K a n) [it] it (fun i h => i ≤ n ∧ h.IsRevIter it a ((n : Int) - 1 - (i : Int))) where
  mem := by simp
  obj := fun i h st b hb => by
    have e : b = it := by simpa using hb
    subst e
    obtain ⟨_, o, e, c, d⟩ := st
    exact ⟨o, e, fun v z => by rw [d] at z; cases z⟩
  keep := fun i h h' st k => ⟨st.1, st.2.at fun o e => k it (by simp) o e⟩
  item := by
    intro X hP hw hK hc i pins s σ H E I hf st hg
    subst hP hw hK
    obtain ⟨xs, hq, hl, hi⟩ := hg
    have hx : xs[n - 1 - i]? = some xs[n - 1 - i] := by rw [List.getElem?_eq_getElem]
    obtain ⟨its, rv, p, hz⟩ := I.list hq
    obtain ⟨u, hu, ru⟩ := rv.get hx
    obtain ⟨f0, f1, f2, f3, f4, f5⟩ := hf it (by simp)
    have e : (n : Int) - 1 - (i : Int) = ((n - 1 - i : Nat) : Int) := by omega
    have st2 := st.2
    rw [e] at st2
    refine wpAny_pyNext_rev_item st2 p.isList (x := u) (by simpa using hu) fun h' st' sb => ?_
    have I1 : Inv X pins σ H { s with heap := h' } := I.turned (t' := s.toks) (fun b o hb e => (sb.2 b hb).trans e) f0 f1 f3 f4 f5
    obtain ⟨o, e1, c, d⟩ := id st'
    have e2 : ((n - 1 - i : Nat) : Int) - 1 = (n : Int) - 1 - ((i + 1 : Nat) : Int) := by omega
    exact ⟨u, rfl, go_of (s := { s with heap := h' }) e1 c d (by decide) ⟨_, H, I1, ru, ⟨rfl, fun ys hy => by rw [I.list_inj hy hq]; exact hx⟩, ⟨hi, e2 ▸ st'⟩, fun b hb => (hf b hb).1⟩⟩
  done := by
    intro X hP hw hK hc i pins s σ H E I hf st hg
    subst hP hw hK
    have hg' : n ≤ i := hg
    obtain ⟨f0, f1, f2, f3, f4, f5⟩ := hf it (by simp)
    have e : (n : Int) - 1 - (i : Int) = -1 := by have := st.1; omega
    have st2 := st.2
    rw [e] at st2
    exact wpAny_pyNext_rev_end (I.ok.hd hc) st2 fun h' eb => ⟨rfl, I.turned (t' := s.toks) (fun b o hb e => eb b o hb e) f0 f1 f3 f4 f5⟩
  self := fun _ _ _ _ _ st h => wpAny_pyIter_revIter st.2 h
section
variable {X : Cx}
noncomputable def iRev (K : PySem.W.Frag) (ta : TA) : TI := fun σ H R => ta σ H fun vs H1 => ∃ l xs, vs = [.ref l] ∧ SqL K H1 l xs ∧ R (Itv K l xs.length) H1
theorem pi_rev {a tg : Expr} {ta : TA} {p pos : Pos} (hg : Gl X "reversed") (hm : X.mg "reversed" = none) (ha : PA X [a] ta) (hv : bootBuiltins "reversed" = some (.type "reversed") := by decide +kernel)
    (hs : starEach [a] X.env = [(false, eval a X.env)] := by rfl) :
    PI X tg (.Call (.Name "reversed" p) [a] [] pos) (iRev X.K ta) := by
  intro pins s σ H R I h
  refine Call_ (ld_blt I hg hm hv (PyProof.Rows.callWith_type1 (thn (ha pos pins s σ H _ I h) fun us s1 ⟨vs, H1, I1, r1, q1⟩ => ?_) (by rw [hs]; rfl) (by rfl)))
  obtain ⟨l, xs, e, hq, q⟩ := q1
  subst e
  obtain ⟨u, rfl, rx⟩ := vals1 r1
  cases rx
  obtain ⟨its, rv, p, hz⟩ := I1.list hq
  have hl := rv.length
  refine call_reversed_list p.isList ?_
  refine wpAny_pyIter_revIter (l := l) (i := (its.toArray.size : Int) - 1) ⟨_, Heap.get?_push_size _ rfl, rfl, rfl⟩ ?_
  refine ⟨s1.heap.objs.size, [s1.heap.objs.size], _, _, H1, rfl, I1.kept (t' := s1.toks) fun b o e => Heap.get?_push_of_some _ e, turn_rev l _ xs.length, ⟨Nat.zero_le _, ⟨_, Heap.get?_push_size _ rfl, rfl, ?_⟩⟩, fun b hb => ?_, q⟩
  · have e : (its.toArray.size : Int) - 1 = (xs.length : Int) - 1 - ((0 : Nat) : Int) := by simp; omega
    rw [← e]
    rfl
  · have e : b = s1.heap.objs.size := by simpa using hb
    subst e
    exact I1.fpOk (Nat.le_refl _) (I1.hok.fresh (Nat.le_refl _))
end
end L2
namespace L2
open PySem PySem.Spec PyProof.Rows
section
variable {prog : Program} {w : World} {A : Around} {E : Value → Shared → Prop} {s : Shared}
end
section
variable {X : Cx}
end
end L2
namespace L2
open PySem PySem.Spec PyProof.Rows
open Builtin Builtin.Str
section
variable {X : Cx}
/-- a cut of a text, exactly -/
noncomputable def rSlE : V → Option Int → Option Int → Hp → VK → Prop := fun x lo hi H Q => ∃ u, x = .str u ∧ u.length ≤ sizeLine ∧ Q (.str (Txt.slice u lo hi)) H
theorem sl_E : SlR X rSlE := by
  intro pins s σ H x v vl vu lo hi sl Q I rx hs pl pu h
  obtain ⟨z, rfl, hz, q⟩ := h
  obtain ⟨t, rfl⟩ := rx
  refine ⟨"str", _, slot_str_getitem.lookup, typeIs_str _ _ _, ?_⟩
  have part : ∀ {v : Value} {o : Option Int}, IsPart v o → ∃ l : Option (Int × Tok), v = partValue l ∧ l.map (·.1) = o := fun p => by
    cases p with
    | none => exact ⟨none, rfl, rfl⟩
    | int i t => exact ⟨some (i, t), rfl, rfl⟩
  obtain ⟨l, rfl, el⟩ := part pl
  obtain ⟨u, rfl, eu⟩ := part pu
  refine wpAny_getItem_str_slice (l := l) (u := u) (st := none) hs rfl ?_
  have hle := PyProof.Txt.length_slice_le z lo hi
  subst el eu
  unfold Txt.slice at q hle
  unfold sliceMade slicePicked
  split
  · rename_i hc
    rw [if_pos (by simpa using hc)] at q
    exact ⟨.str z, H, I, ⟨_, rfl⟩, q⟩
  · rename_i hc
    rw [if_neg (by simpa using hc)] at q hle
    exact ⟨Nat.le_trans hle hz, .str _, H, I.tok _, ⟨_, rfl⟩, q⟩
end
end L2
namespace L2
open PySem PySem.Spec PyProof.Rows
section
variable {X : Cx}
end
end L2

/-! int of a text; a list of texts put to a list. -/
namespace L2
open PySem PySem.Spec PyProof.Rows
section
variable {X : Cx}
noncomputable def rIntS : List V → Hp → VK → Prop := fun xs H Q => ∃ x n, xs = [.str x] ∧ PySem.intText? x = some n ∧ x.length ≤ 640 ∧ Q (.int n) H
theorem call_intS : CallR X (.type "int") rIntS := by
  intro pins s σ H xs us Q I r h
  obtain ⟨x, n, rfl, hn, hl, q⟩ := h
  obtain ⟨u, rfl, t, rfl⟩ := vals1 r
  exact PySem.W.KIN.call_text hn hl ⟨.int n, H, I.tok _, ⟨_, rfl⟩, q⟩
end
noncomputable def asgCatS (y x : Str) (ss : List Str) : Stmt → Bool
  | .Assign [.Name y' _] (.BinOp (.Name x' _) .Add (.List es _) _) _ => decide (y' = y) && decide (x' = x) && decide (litSs es = some ss)
  | _ => false
theorem ps_setCatS {X : Cx} {st : Stmt} {i j : Nat} {y x : Str} {ss : List Str} (h : asgCatS y x ss st = true) (hN : X.N.Nodup) (hi : X.N[i]? = some y) (hx : X.env.scope.names.lookup y = some .local) (hj : X.N[j]? = some x) (hv : X.env.scope.names.lookup x = some .local)
    (hd : (x == ("__debug__" : Str)) = false := by decide) (hc : (x == ("__classdict__" : Str)) = false := by decide) : PS X st (tAsg (tOp rCat (tVar j) (tLst (tStrsA ss))) (gName i)) := by
  unfold asgCatS at h
  split at h
  · rename_i y' p x' p' es p2 p3 p4
    simp only [Bool.and_eq_true, decide_eq_true_eq] at h
    obtain ⟨⟨rfl, rfl⟩, hl⟩ := h
    exact ps_set hN hi (.inl hx) (pe_op op_cat (pe_var hj (.inl hv) hd hc) (pe_lst (pa_strs hl))) swapB (.inr hx)
  · cases h
end L2

namespace Cw
open PySem L2
noncomputable def top (i : Nat) : Stmt := PySem.Challenge.pw_crystalwords_k19_places_written.main.body.getD i (.Pass ⟨0, 0, 0, 0⟩)
noncomputable abbrev s_divisor : Stmt := top 9
noncomputable abbrev N_divisor : List Str := ["one", "other", "greater", "lesser", "remainder"]
noncomputable abbrev s_figures : Stmt := top 10
noncomputable abbrev N_figures : List Str := ["number", "powers", "pieces", "power", "text"]
noncomputable abbrev s_halved : Stmt := top 11
noncomputable abbrev N_halved : List Str := ["pieces", "power", "shorter", "piece"]
noncomputable abbrev s_place : Stmt := top 13
noncomputable abbrev N_place : List Str := ["tops", "under", "common", "top"]
noncomputable abbrev s_fraction_text : Stmt := top 17
noncomputable abbrev N_fraction_text : List Str := ["top", "under", "common"]
noncomputable abbrev s_number_text : Stmt := top 18
noncomputable abbrev N_number_text : List Str := ["top", "under"]
noncomputable abbrev s_show_place : Stmt := top 19
noncomputable abbrev N_show_place : List Str := ["one"]
noncomputable abbrev s_read_whole : Stmt := top 20
noncomputable abbrev N_read_whole : List Str := ["text", "sign"]
noncomputable abbrev s_read_fraction : Stmt := top 21
noncomputable abbrev N_read_fraction : List Str := ["text", "pieces", "top", "bottom"]
noncomputable abbrev s_read_signed : Stmt := top 22
noncomputable abbrev N_read_signed : List Str := ["text", "pair"]
noncomputable abbrev s_parts_of : Stmt := top 23
noncomputable abbrev N_parts_of : List Str := ["text", "parts"]
noncomputable abbrev s_common_under : Stmt := top 24
noncomputable abbrev N_common_under : List Str := ["pairs", "under", "pair"]
noncomputable abbrev s_read_number : Stmt := top 25
noncomputable abbrev N_read_number : List Str := ["text"]
noncomputable abbrev s_read_place : Stmt := top 26
noncomputable abbrev N_read_place : List Str := ["text", "spot"]
noncomputable abbrev s_law_cell_at : Stmt := top 28
noncomputable abbrev N_law_cell_at : List Str := ["_law_script", "_law_k"]
noncomputable abbrev s_law_whole : Stmt := top 29
noncomputable abbrev N_law_whole : List Str := ["_law_found"]
noncomputable abbrev s_law_common : Stmt := top 30
noncomputable abbrev N_law_common : List Str := ["_law_one", "_law_other_here"]
noncomputable abbrev s_law_great : Stmt := top 31
noncomputable abbrev N_law_great : List Str := ["_law_cell"]
noncomputable abbrev s_law_share : Stmt := top 32
noncomputable abbrev N_law_share : List Str := ["_law_cell", "_law_other_here", "_law_way", "_law_top", "_law_bottom", "_law_by"]
noncomputable abbrev s_law_word : Stmt := top 33
noncomputable abbrev N_law_word : List Str := ["_law_share_here", "_law_word_here"]
noncomputable abbrev s_law_place : Stmt := top 34
noncomputable abbrev N_law_place : List Str := ["_law_worths", "_law_under", "_law_top", "_law_bottom"]
noncomputable abbrev s_law_number : Stmt := top 35
noncomputable abbrev N_law_number : List Str := ["_law_word_here", "_law_sign"]
noncomputable abbrev s_law_read : Stmt := top 36
noncomputable abbrev N_law_read : List Str := ["_law_word_here", "_law_by", "_law_words", "_law_top", "_law_bottom"]
noncomputable abbrev s_law_due : Stmt := top 37
noncomputable abbrev N_law_due : List Str := ["_law_text", "_law_words", "_law_worths"]
noncomputable abbrev s_law_other : Stmt := top 38
noncomputable abbrev N_law_other : List Str := ["_law_text", "_law_cell", "_law_sign", "_law_some", "_law_at", "_law_put"]
noncomputable abbrev s_law_is : Stmt := top 39
noncomputable abbrev N_law_is : List Str := ["_law_found", "_law_due_here"]
noncomputable abbrev s_law_only : Stmt := top 40
noncomputable abbrev N_law_only : List Str := ["_law_e"]
noncomputable abbrev s_law_right : Stmt := top 41
noncomputable abbrev N_law_right : List Str := ["_law_text", "_law_due_here", "_law_refused", "_law_only_here", "_law_found", "_law_e", "_law_told"]
noncomputable abbrev s_law : Stmt := top 42
noncomputable abbrev N_law : List Str := ["_law_script", "_law_at", "_law_cells", "_law_worths", "_law_text"]
theorem sc_divisor : FnScope N_divisor ["one", "other"] (defScope s_divisor) := ⟨rfl, rfl, rfl, by decide +kernel, rfl, by decide +kernel, by decide +kernel⟩
theorem sc_figures : FnScope N_figures ["number"] (defScope s_figures) := ⟨rfl, rfl, rfl, by decide +kernel, rfl, by decide +kernel, by decide +kernel⟩
theorem sc_halved : FnScope N_halved ["pieces", "power"] (defScope s_halved) := ⟨rfl, rfl, rfl, by decide +kernel, rfl, by decide +kernel, by decide +kernel⟩
theorem sc_place : FnScope N_place ["tops", "under"] (defScope s_place) := ⟨rfl, rfl, rfl, by decide +kernel, rfl, by decide +kernel, by decide +kernel⟩
theorem sc_fraction_text : FnScope N_fraction_text ["top", "under"] (defScope s_fraction_text) := ⟨rfl, rfl, rfl, by decide +kernel, rfl, by decide +kernel, by decide +kernel⟩
theorem sc_number_text : FnScope N_number_text ["top", "under"] (defScope s_number_text) := ⟨rfl, rfl, rfl, by decide +kernel, rfl, by decide +kernel, by decide +kernel⟩
theorem sc_show_place : FnScope N_show_place ["one"] (defScope s_show_place) := ⟨rfl, rfl, rfl, by decide +kernel, rfl, by decide +kernel, by decide +kernel⟩
theorem sc_read_whole : FnScope N_read_whole ["text"] (defScope s_read_whole) := ⟨rfl, rfl, rfl, by decide +kernel, rfl, by decide +kernel, by decide +kernel⟩
theorem sc_read_fraction : FnScope N_read_fraction ["text"] (defScope s_read_fraction) := ⟨rfl, rfl, rfl, by decide +kernel, rfl, by decide +kernel, by decide +kernel⟩
theorem sc_read_signed : FnScope N_read_signed ["text"] (defScope s_read_signed) := ⟨rfl, rfl, rfl, by decide +kernel, rfl, by decide +kernel, by decide +kernel⟩
theorem sc_parts_of : FnScope N_parts_of ["text"] (defScope s_parts_of) := ⟨rfl, rfl, rfl, by decide +kernel, rfl, by decide +kernel, by decide +kernel⟩
theorem sc_common_under : FnScope N_common_under ["pairs"] (defScope s_common_under) := ⟨rfl, rfl, rfl, by decide +kernel, rfl, by decide +kernel, by decide +kernel⟩
theorem sc_read_number : FnScope N_read_number ["text"] (defScope s_read_number) := ⟨rfl, rfl, rfl, by decide +kernel, rfl, by decide +kernel, by decide +kernel⟩
theorem sc_read_place : FnScope N_read_place ["text"] (defScope s_read_place) := ⟨rfl, rfl, rfl, by decide +kernel, rfl, by decide +kernel, by decide +kernel⟩
theorem sc_law_cell_at : FnScope N_law_cell_at ["_law_script", "_law_k"] (defScope s_law_cell_at) := ⟨rfl, rfl, rfl, by decide +kernel, rfl, by decide +kernel, by decide +kernel⟩
theorem sc_law_whole : FnScope N_law_whole ["_law_found"] (defScope s_law_whole) := ⟨rfl, rfl, rfl, by decide +kernel, rfl, by decide +kernel, by decide +kernel⟩
theorem sc_law_common : FnScope N_law_common ["_law_one", "_law_other_here"] (defScope s_law_common) := ⟨rfl, rfl, rfl, by decide +kernel, rfl, by decide +kernel, by decide +kernel⟩
theorem sc_law_great : FnScope N_law_great ["_law_cell"] (defScope s_law_great) := ⟨rfl, rfl, rfl, by decide +kernel, rfl, by decide +kernel, by decide +kernel⟩
theorem sc_law_share : FnScope N_law_share ["_law_cell", "_law_other_here"] (defScope s_law_share) := ⟨rfl, rfl, rfl, by decide +kernel, rfl, by decide +kernel, by decide +kernel⟩
theorem sc_law_word : FnScope N_law_word ["_law_share_here"] (defScope s_law_word) := ⟨rfl, rfl, rfl, by decide +kernel, rfl, by decide +kernel, by decide +kernel⟩
theorem sc_law_place : FnScope N_law_place ["_law_worths"] (defScope s_law_place) := ⟨rfl, rfl, rfl, by decide +kernel, rfl, by decide +kernel, by decide +kernel⟩
theorem sc_law_number : FnScope N_law_number ["_law_word_here"] (defScope s_law_number) := ⟨rfl, rfl, rfl, by decide +kernel, rfl, by decide +kernel, by decide +kernel⟩
theorem sc_law_read : FnScope N_law_read ["_law_word_here"] (defScope s_law_read) := ⟨rfl, rfl, rfl, by decide +kernel, rfl, by decide +kernel, by decide +kernel⟩
theorem sc_law_due : FnScope N_law_due ["_law_text"] (defScope s_law_due) := ⟨rfl, rfl, rfl, by decide +kernel, rfl, by decide +kernel, by decide +kernel⟩
theorem sc_law_other : FnScope N_law_other ["_law_text", "_law_cell", "_law_sign"] (defScope s_law_other) := ⟨rfl, rfl, rfl, by decide +kernel, rfl, by decide +kernel, by decide +kernel⟩
theorem sc_law_is : FnScope N_law_is ["_law_found", "_law_due_here"] (defScope s_law_is) := ⟨rfl, rfl, rfl, by decide +kernel, rfl, by decide +kernel, by decide +kernel⟩
theorem sc_law_only : FnScope N_law_only ["_law_e"] (defScope s_law_only) := ⟨rfl, rfl, rfl, by decide +kernel, rfl, by decide +kernel, by decide +kernel⟩
theorem sc_law_right : FnScope N_law_right ["_law_text"] (defScope s_law_right) := ⟨rfl, rfl, rfl, by decide +kernel, rfl, by decide +kernel, by decide +kernel⟩
theorem sc_law : FnScope N_law ["_law_script"] (defScope s_law) := ⟨rfl, rfl, rfl, by decide +kernel, rfl, by decide +kernel, by decide +kernel⟩
structure Adr where
  a_divisor : Addr
  d_divisor : FuncData
  a_figures : Addr
  d_figures : FuncData
  a_halved : Addr
  d_halved : FuncData
  a_place : Addr
  d_place : FuncData
  a_fraction_text : Addr
  d_fraction_text : FuncData
  a_number_text : Addr
  d_number_text : FuncData
  a_show_place : Addr
  d_show_place : FuncData
  a_read_whole : Addr
  d_read_whole : FuncData
  a_read_fraction : Addr
  d_read_fraction : FuncData
  a_read_signed : Addr
  d_read_signed : FuncData
  a_parts_of : Addr
  d_parts_of : FuncData
  a_common_under : Addr
  d_common_under : FuncData
  a_read_number : Addr
  d_read_number : FuncData
  a_read_place : Addr
  d_read_place : FuncData
  a_law_cell_at : Addr
  d_law_cell_at : FuncData
  a_law_whole : Addr
  d_law_whole : FuncData
  a_law_common : Addr
  d_law_common : FuncData
  a_law_great : Addr
  d_law_great : FuncData
  a_law_share : Addr
  d_law_share : FuncData
  a_law_word : Addr
  d_law_word : FuncData
  a_law_place : Addr
  d_law_place : FuncData
  a_law_number : Addr
  d_law_number : FuncData
  a_law_read : Addr
  d_law_read : FuncData
  a_law_due : Addr
  d_law_due : FuncData
  a_law_other : Addr
  d_law_other : FuncData
  a_law_is : Addr
  d_law_is : FuncData
  a_law_only : Addr
  d_law_only : FuncData
  a_law_right : Addr
  d_law_right : FuncData
  a_law : Addr
  d_law : FuncData
  a_CrystalError : Addr
  a_NoPlace : Addr
  a_NoDeed : Addr
  a_NoNumber : Addr
  a_NoText : Addr
  a_TooMany : Addr
structure Txt (K : PySem.W.Frag) (mg : Str → Option Value) (t : Adr) : Prop where
  F_divisor : Fun K "divisor" "divisor" s_divisor t.a_divisor t.d_divisor
  m_divisor : mg "divisor" = some (.ref t.a_divisor)
  b_divisor : Binds K t.d_divisor ["one", "other"] []
  F_figures : Fun K "figures" "figures" s_figures t.a_figures t.d_figures
  m_figures : mg "figures" = some (.ref t.a_figures)
  b_figures : Binds K t.d_figures ["number"] []
  F_halved : Fun K "halved" "halved" s_halved t.a_halved t.d_halved
  m_halved : mg "halved" = some (.ref t.a_halved)
  b_halved : Binds K t.d_halved ["pieces", "power"] []
  F_place : Fun K "place" "place" s_place t.a_place t.d_place
  m_place : mg "place" = some (.ref t.a_place)
  b_place : Binds K t.d_place ["tops", "under"] []
  F_fraction_text : Fun K "fraction_text" "fraction_text" s_fraction_text t.a_fraction_text t.d_fraction_text
  m_fraction_text : mg "fraction_text" = some (.ref t.a_fraction_text)
  b_fraction_text : Binds K t.d_fraction_text ["top", "under"] []
  F_number_text : Fun K "number_text" "number_text" s_number_text t.a_number_text t.d_number_text
  m_number_text : mg "number_text" = some (.ref t.a_number_text)
  b_number_text : Binds K t.d_number_text ["top", "under"] []
  F_show_place : Fun K "show_place" "show_place" s_show_place t.a_show_place t.d_show_place
  m_show_place : mg "show_place" = some (.ref t.a_show_place)
  b_show_place : Binds K t.d_show_place ["one"] []
  F_read_whole : Fun K "read_whole" "read_whole" s_read_whole t.a_read_whole t.d_read_whole
  m_read_whole : mg "read_whole" = some (.ref t.a_read_whole)
  b_read_whole : Binds K t.d_read_whole ["text"] []
  F_read_fraction : Fun K "read_fraction" "read_fraction" s_read_fraction t.a_read_fraction t.d_read_fraction
  m_read_fraction : mg "read_fraction" = some (.ref t.a_read_fraction)
  b_read_fraction : Binds K t.d_read_fraction ["text"] []
  F_read_signed : Fun K "read_signed" "read_signed" s_read_signed t.a_read_signed t.d_read_signed
  m_read_signed : mg "read_signed" = some (.ref t.a_read_signed)
  b_read_signed : Binds K t.d_read_signed ["text"] []
  F_parts_of : Fun K "parts_of" "parts_of" s_parts_of t.a_parts_of t.d_parts_of
  m_parts_of : mg "parts_of" = some (.ref t.a_parts_of)
  b_parts_of : Binds K t.d_parts_of ["text"] []
  F_common_under : Fun K "common_under" "common_under" s_common_under t.a_common_under t.d_common_under
  m_common_under : mg "common_under" = some (.ref t.a_common_under)
  b_common_under : Binds K t.d_common_under ["pairs"] []
  F_read_number : Fun K "read_number" "read_number" s_read_number t.a_read_number t.d_read_number
  m_read_number : mg "read_number" = some (.ref t.a_read_number)
  b_read_number : Binds K t.d_read_number ["text"] []
  F_read_place : Fun K "read_place" "read_place" s_read_place t.a_read_place t.d_read_place
  m_read_place : mg "read_place" = some (.ref t.a_read_place)
  b_read_place : Binds K t.d_read_place ["text"] []
  F_law_cell_at : Fun K "_law_cell_at" "_law_cell_at" s_law_cell_at t.a_law_cell_at t.d_law_cell_at
  m_law_cell_at : mg "_law_cell_at" = some (.ref t.a_law_cell_at)
  b_law_cell_at : Binds K t.d_law_cell_at ["_law_script", "_law_k"] []
  F_law_whole : Fun K "_law_whole" "_law_whole" s_law_whole t.a_law_whole t.d_law_whole
  m_law_whole : mg "_law_whole" = some (.ref t.a_law_whole)
  b_law_whole : Binds K t.d_law_whole ["_law_found"] []
  F_law_common : Fun K "_law_common" "_law_common" s_law_common t.a_law_common t.d_law_common
  m_law_common : mg "_law_common" = some (.ref t.a_law_common)
  b_law_common : Binds K t.d_law_common ["_law_one", "_law_other_here"] []
  F_law_great : Fun K "_law_great" "_law_great" s_law_great t.a_law_great t.d_law_great
  m_law_great : mg "_law_great" = some (.ref t.a_law_great)
  b_law_great : Binds K t.d_law_great ["_law_cell"] []
  F_law_share : Fun K "_law_share" "_law_share" s_law_share t.a_law_share t.d_law_share
  m_law_share : mg "_law_share" = some (.ref t.a_law_share)
  b_law_share : Binds K t.d_law_share ["_law_cell", "_law_other_here"] []
  F_law_word : Fun K "_law_word" "_law_word" s_law_word t.a_law_word t.d_law_word
  m_law_word : mg "_law_word" = some (.ref t.a_law_word)
  b_law_word : Binds K t.d_law_word ["_law_share_here"] []
  F_law_place : Fun K "_law_place" "_law_place" s_law_place t.a_law_place t.d_law_place
  m_law_place : mg "_law_place" = some (.ref t.a_law_place)
  b_law_place : Binds K t.d_law_place ["_law_worths"] []
  F_law_number : Fun K "_law_number" "_law_number" s_law_number t.a_law_number t.d_law_number
  m_law_number : mg "_law_number" = some (.ref t.a_law_number)
  b_law_number : Binds K t.d_law_number ["_law_word_here"] []
  F_law_read : Fun K "_law_read" "_law_read" s_law_read t.a_law_read t.d_law_read
  m_law_read : mg "_law_read" = some (.ref t.a_law_read)
  b_law_read : Binds K t.d_law_read ["_law_word_here"] []
  F_law_due : Fun K "_law_due" "_law_due" s_law_due t.a_law_due t.d_law_due
  m_law_due : mg "_law_due" = some (.ref t.a_law_due)
  b_law_due : Binds K t.d_law_due ["_law_text"] []
  F_law_other : Fun K "_law_other" "_law_other" s_law_other t.a_law_other t.d_law_other
  m_law_other : mg "_law_other" = some (.ref t.a_law_other)
  b_law_other : Binds K t.d_law_other ["_law_text", "_law_cell", "_law_sign"] []
  F_law_is : Fun K "_law_is" "_law_is" s_law_is t.a_law_is t.d_law_is
  m_law_is : mg "_law_is" = some (.ref t.a_law_is)
  b_law_is : Binds K t.d_law_is ["_law_found", "_law_due_here"] []
  F_law_only : Fun K "_law_only" "_law_only" s_law_only t.a_law_only t.d_law_only
  m_law_only : mg "_law_only" = some (.ref t.a_law_only)
  b_law_only : Binds K t.d_law_only ["_law_e"] []
  F_law_right : Fun K "_law_right" "_law_right" s_law_right t.a_law_right t.d_law_right
  m_law_right : mg "_law_right" = some (.ref t.a_law_right)
  b_law_right : Binds K t.d_law_right ["_law_text"] []
  F_law : Fun K "law" "law" s_law t.a_law t.d_law
  m_law : mg "law" = some (.ref t.a_law)
  b_law : Binds K t.d_law ["_law_script"] []
  z_range : mg "range" = none
  z_len : mg "len" = none
  z_isinstance : mg "isinstance" = none
  z_tuple : mg "tuple" = none
  z_max : mg "max" = none
  z_str : mg "str" = none
  z_ValueError : mg "ValueError" = none
  z_int : mg "int" = none
  z_bool : mg "bool" = none
  z_abs : mg "abs" = none
  z_reversed : mg "reversed" = none
  m_CrystalError : mg "CrystalError" = some (.ref t.a_CrystalError)
  m_NoPlace : mg "NoPlace" = some (.ref t.a_NoPlace)
  m_NoDeed : mg "NoDeed" = some (.ref t.a_NoDeed)
  m_NoNumber : mg "NoNumber" = some (.ref t.a_NoNumber)
  m_NoText : mg "NoText" = some (.ref t.a_NoText)
  m_TooMany : mg "TooMany" = some (.ref t.a_TooMany)
  g_FIGURES : ∃ u, mg "FIGURES" = some u ∧ RelV (.str "0123456789") u
  g_MOST_FIGURES : ∃ u, mg "MOST_FIGURES" = some u ∧ RelV (.int 100) u
  k_int : PySem.W.kitOne K (.type "int") (.type "int") = some true
  k_ib : PySem.W.kitOne K (.type "int") (.type "bool") = some false
  k_tt : PySem.W.kitOne K (.type "tuple") (.type "tuple") = some true
  k_ss : PySem.W.kitOne K (.type "str") (.type "str") = some true
  xm : PySem.W.exmOne K (.ref t.a_NoText) (.ref t.a_CrystalError) = some true
  e_ga : PySem.W.findIn K (.ref t.a_NoText) "__getattribute__" = some (some (.builtin "BaseException.__getattribute__"))
  e_gt : PySem.W.findIn K (.ref t.a_NoText) "__getattr__" = some none
  e_ca : PySem.W.findIn K (.ref t.a_NoText) "__class__" = some (some (.builtin "object.__class__"))
  e_cg : PySem.W.specialIn K (.builtin "object.__class__") "__get__" = some (some (.builtin "getset_descriptor.__get__"))
  e_tk : PySem.W.takesIn K (.builtin "object.__class__") = some true
  e_ob : PySem.W.mroIn K t.a_NoText (.type "object") = some true
  e_bx : PySem.W.mroIn K t.a_NoText (.type "BaseException") = some true
  i_VE : PySem.W.kitOne K (.ref t.a_NoText) (.type "ValueError") = some true
  i_NoPlace : PySem.W.kitOne K (.ref t.a_NoText) (.ref t.a_NoPlace) = some false
  i_NoDeed : PySem.W.kitOne K (.ref t.a_NoText) (.ref t.a_NoDeed) = some false
  i_NoNumber : PySem.W.kitOne K (.ref t.a_NoText) (.ref t.a_NoNumber) = some false
  i_TooMany : PySem.W.kitOne K (.ref t.a_NoText) (.ref t.a_TooMany) = some false
  i_NoText : PySem.W.kitOne K (.ref t.a_NoText) (.ref t.a_NoText) = some true
  x_NoText : PySem.W.excIn K t.a_NoText [.type "ValueError", .type "Exception", .type "BaseException", .type "object"] "ValueError.__new__" = true
  x_NoPlace : PySem.W.excIn K t.a_NoPlace [.type "ValueError", .type "Exception", .type "BaseException", .type "object"] "ValueError.__new__" = true
  bl : ∀ (s : Shared) (u : Value), BindsTo s t.d_law ⟨[u], []⟩ [("_law_script", u)]
local macro_rules | `(tactic| walk_at "rd2") => `(tactic| simp only [tSeq, tAsg, gName, tVar, tC, tOp, rd_rI0, rd_rI, rd_rU, tUn, tTest, tB, tIfS, tIf, tAnd, tOr, tNot, tAndV, tOrV, tNotV, tRet, tRetN, tNext, tDrop, tCall, tCallX, tCons, tNil, tCB, tTup, tLst, tPar, tSetC, tBM, tBM0, tSl, tPart, tNoPart, List.getElem?_cons_zero, List.getElem?_cons_succ, Option.some.injEq, exists_eq_left', exists_eq_left, List.set_cons_zero, List.set_cons_succ, List.cons.injEq, V.int.injEq, V.bl.injEq, V.ref.injEq, and_true, true_and, List.append_nil, ne_eq, exists_and_left, and_assoc, ↓reduceIte, Bool.not_true, Bool.not_false, Bool.false_eq_true])
noncomputable def gcdI (a b : Int) : Int := (Int.gcd a b : Int)
noncomputable def absI (u : Int) : Int := if u < 0 then -u else u
/-- the common divisor of an under and tops, as the program folds it -/
noncomputable def gl (u : Int) (ns : List Int) : Int := ns.foldl gcdI (absI u)
theorem absI_nonneg (u : Int) : 0 ≤ absI u := by unfold absI; split <;> omega
theorem absI_dvd {d u : Int} : d ∣ absI u ↔ d ∣ u := by
  unfold absI
  split
  · exact Int.dvd_neg
  · exact Iff.rfl
theorem dvd_foldl {d : Int} : ∀ (ns : List Int) (c : Int), d ∣ ns.foldl gcdI c ↔ d ∣ c ∧ ∀ t ∈ ns, d ∣ t
  | [], c => by simp
  | t :: r, c => by
    rw [List.foldl_cons, dvd_foldl r]
    unfold gcdI
    rw [Int.dvd_coe_gcd_iff]
    constructor
    · rintro ⟨⟨h1, h2⟩, h3⟩
      refine ⟨h1, fun x hx => ?_⟩
      rcases List.mem_cons.mp hx with e | e
      · rw [e]; exact h2
      · exact h3 x e
    · rintro ⟨h1, h2⟩
      exact ⟨⟨h1, h2 t List.mem_cons_self⟩, fun x hx => h2 x (List.mem_cons_of_mem _ hx)⟩
theorem dvd_gl {d u : Int} {ns : List Int} : d ∣ gl u ns ↔ d ∣ u ∧ ∀ t ∈ ns, d ∣ t := by
  unfold gl
  rw [dvd_foldl, absI_dvd]
theorem foldl_nonneg : ∀ (ns : List Int) (c : Int), 0 ≤ c → 0 ≤ ns.foldl gcdI c
  | [], _, h => h
  | t :: r, c, _ => foldl_nonneg r _ (Int.natCast_nonneg _)
theorem gl_nonneg (u : Int) (ns : List Int) : 0 ≤ gl u ns := foldl_nonneg ns _ (absI_nonneg u)
theorem gl_u (u : Int) (ns : List Int) : gl u ns ∣ u := (dvd_gl.mp (Int.dvd_refl _)).1
theorem gl_mem {u t : Int} {ns : List Int} (h : t ∈ ns) : gl u ns ∣ t := (dvd_gl.mp (Int.dvd_refl _)).2 t h
theorem gl_pos {u : Int} (ns : List Int) (h : u ≠ 0) : 0 < gl u ns := by
  have := gl_nonneg u ns
  rcases Int.lt_or_eq_of_le this with q | q
  · exact q
  · obtain ⟨k, e⟩ := gl_u u ns
    rw [← q, Int.zero_mul] at e
    exact absurd e h
theorem gl_eq_of {u v : Int} {ns ms : List Int} (h : ∀ d : Int, (d ∣ u ∧ ∀ t ∈ ns, d ∣ t) ↔ (d ∣ v ∧ ∀ t ∈ ms, d ∣ t)) : gl u ns = gl v ms :=
  Int.dvd_antisymm (gl_nonneg _ _) (gl_nonneg _ _) (dvd_gl.mpr ((h _).mp (dvd_gl.mp (Int.dvd_refl _)))) (dvd_gl.mpr ((h _).mpr (dvd_gl.mp (Int.dvd_refl _))))
theorem gl_snoc (u : Int) (ns : List Int) (t : Int) : gl u (ns ++ [t]) = gcdI (gl u ns) t := by unfold gl; rw [List.foldl_append]; rfl
/-- the divisor with the under's sign -/
noncomputable def cs (u : Int) (ns : List Int) : Int := if u < 0 then -(gl u ns) else gl u ns
theorem cs_ne {u : Int} (ns : List Int) (h : u ≠ 0) : cs u ns ≠ 0 := by
  have := gl_pos ns h
  unfold cs
  split <;> omega
theorem cs_dvd {u x : Int} {ns : List Int} (h : gl u ns ∣ x) : cs u ns ∣ x := by
  unfold cs
  split
  · exact Int.neg_dvd.mpr h
  · exact h
theorem fdiv_exact {c x : Int} (hc : c ≠ 0) (h : c ∣ x) : x.fdiv c * c = x := by
  obtain ⟨k, e⟩ := h
  subst e
  rw [Int.mul_comm c k, Int.mul_fdiv_cancel _ hc]
theorem under_pos {u : Int} (ns : List Int) (h : u ≠ 0) : 0 < u.fdiv (cs u ns) := by
  have e := fdiv_exact (cs_ne ns h) (cs_dvd (gl_u u ns))
  have g := gl_pos ns h
  rcases Int.lt_trichotomy (u.fdiv (cs u ns)) 0 with q | q | q
  · exfalso
    unfold cs at e q
    split at e
    · rename_i hu
      rw [if_pos hu] at q
      have := Int.mul_nonneg_of_nonpos_of_nonpos (Int.le_of_lt q) (show -(gl u ns) ≤ 0 by omega)
      omega
    · rename_i hu
      rw [if_neg hu] at q
      have := Int.mul_neg_of_neg_of_pos q g
      omega
  · rw [q, Int.zero_mul] at e
    exact absurd e.symm h
  · exact q
theorem cross {u t : Int} {ns : List Int} (h : u ≠ 0) (ht : t ∈ ns) : t * u.fdiv (cs u ns) = t.fdiv (cs u ns) * u := by
  have e1 := fdiv_exact (cs_ne ns h) (cs_dvd (gl_u u ns))
  have e2 := fdiv_exact (cs_ne ns h) (cs_dvd (gl_mem (u := u) ht))
  generalize u.fdiv (cs u ns) = a at *
  generalize t.fdiv (cs u ns) = b at *
  generalize cs u ns = c at *
  rw [← e2, ← e1, Int.mul_assoc, Int.mul_comm c a]
theorem gl_red {u : Int} {ns : List Int} (h : u ≠ 0) : gl (u.fdiv (cs u ns)) (ns.map fun t => t.fdiv (cs u ns)) = 1 := by
  have hc := cs_ne ns h
  have e1 := fdiv_exact hc (cs_dvd (gl_u u ns))
  have n := gl_nonneg (u.fdiv (cs u ns)) (ns.map fun t => t.fdiv (cs u ns))
  have d := dvd_gl.mp (Int.dvd_refl (gl (u.fdiv (cs u ns)) (ns.map fun t => t.fdiv (cs u ns))))
  generalize gl (u.fdiv (cs u ns)) (ns.map fun t => t.fdiv (cs u ns)) = g at *
  have key : g * cs u ns ∣ gl u ns := by
    refine dvd_gl.mpr ⟨?_, fun t ht => ?_⟩
    · have := Int.mul_dvd_mul d.1 (Int.dvd_refl (cs u ns))
      rw [e1] at this
      exact this
    · have := Int.mul_dvd_mul (d.2 _ (List.mem_map.mpr ⟨t, ht, rfl⟩)) (Int.dvd_refl (cs u ns))
      rw [fdiv_exact hc (cs_dvd (gl_mem (u := u) ht))] at this
      exact this
  have key2 : g * cs u ns ∣ 1 * cs u ns := by
    rw [Int.one_mul]
    unfold cs at key ⊢
    split at key
    · rename_i hu
      rw [if_pos hu]
      exact Int.dvd_neg.mpr key
    · rename_i hu
      rw [if_neg hu]
      exact key
  have : g ∣ 1 := Int.dvd_of_mul_dvd_mul_right hc key2
  have := Int.le_of_dvd (by decide) this
  rcases (show g = 0 ∨ g = 1 by omega) with q | q
  · subst q
    have z := d.1
    rw [Int.zero_dvd] at z
    rw [z, Int.zero_mul] at e1
    exact absurd e1.symm h
  · exact q
theorem cs_one {u : Int} {ns : List Int} (h : 0 < u) (g : gl u ns = 1) : cs u ns = 1 := by
  unfold cs
  rw [if_neg (by omega), g]
theorem red_same {u : Int} {ns : List Int} (h : 0 < u) (g : gl u ns = 1) : (ns.map fun t => t.fdiv (cs u ns)) = ns ∧ u.fdiv (cs u ns) = u := by
  rw [cs_one h g]
  refine ⟨?_, Int.fdiv_one u⟩
  rw [show (fun t : Int => t.fdiv 1) = id from funext fun t => Int.fdiv_one t, List.map_id]
theorem fmod_dvd {d u t : Int} (h : d ∣ u) : d ∣ t.fmod u ↔ d ∣ t := by
  rw [Int.fmod_def]
  have q : d ∣ u * t.fdiv u := Int.dvd_mul_of_dvd_left h
  constructor
  · intro z
    have := Int.dvd_add z q
    rwa [Int.sub_add_cancel] at this
  · intro z
    exact Int.dvd_sub z q
theorem gl_rest (u : Int) (ns : List Int) : gl u (ns.map fun t => t.fmod u) = gl u ns := by
  refine gl_eq_of fun d => ?_
  constructor
  · rintro ⟨h1, h2⟩
    exact ⟨h1, fun t ht => (fmod_dvd h1).mp (h2 _ (List.mem_map.mpr ⟨t, ht, rfl⟩))⟩
  · rintro ⟨h1, h2⟩
    refine ⟨h1, fun x hx => ?_⟩
    obtain ⟨t, ht, e⟩ := List.mem_map.mp hx
    subst e
    exact (fmod_dvd h1).mpr (h2 t ht)
theorem rest_rest {u : Int} (hu : 0 < u) (ns : List Int) : ((ns.map fun t => t.fmod u).map fun t => t.fmod u) = ns.map fun t => t.fmod u := by
  rw [List.map_map]
  refine List.map_congr_left fun t _ => ?_
  show (t.fmod u).fmod u = t.fmod u
  rw [Int.fmod_eq_emod_of_nonneg t (Int.le_of_lt hu), Int.fmod_eq_emod_of_nonneg _ (Int.le_of_lt hu)]
  exact Int.emod_emod_of_dvd t (Int.dvd_refl u)
/-- the places beside: every second number one whole less -/
noncomputable def besd (u : Int) (rs : List Int) : List Int := rs.mapIdx fun k t => t - (k : Int) % 2 * u
theorem gl_besd (u : Int) (rs : List Int) : gl u (besd u rs) = gl u rs := by
  refine gl_eq_of fun d => ?_
  unfold besd
  constructor
  · rintro ⟨h1, h2⟩
    refine ⟨h1, fun t ht => ?_⟩
    obtain ⟨k, hk, e⟩ := List.getElem_of_mem ht
    have q := h2 (t - (k : Int) % 2 * u) (by
      rw [List.mem_mapIdx]
      exact ⟨k, hk, by rw [e]⟩)
    have := Int.dvd_add q (show d ∣ (k : Int) % 2 * u from Int.dvd_mul_of_dvd_right h1)
    rwa [Int.sub_add_cancel] at this
  · rintro ⟨h1, h2⟩
    refine ⟨h1, fun x hx => ?_⟩
    rw [List.mem_mapIdx] at hx
    obtain ⟨k, hk, e⟩ := hx
    subst e
    exact Int.dvd_sub (h2 _ (List.getElem_mem hk)) (Int.dvd_mul_of_dvd_right h1)
theorem rest_besd {u : Int} (hu : 0 < u) {rs : List Int} (h : ∀ r ∈ rs, 0 ≤ r ∧ r < u) : ((besd u rs).map fun t => t.fmod u) = rs := by
  unfold besd
  refine List.ext_getElem (by simp) fun k h1 h2 => ?_
  rw [List.getElem_map, List.getElem_mapIdx]
  have hr := h _ (List.getElem_mem h2)
  rw [Int.fmod_eq_emod_of_nonneg _ (Int.le_of_lt hu), Int.sub_mul_emod_self_right]
  exact Int.emod_eq_of_lt hr.1 hr.2
theorem rest_in {u : Int} (hu : 0 < u) (ns : List Int) : ∀ r ∈ ns.map (fun t => t.fmod u), 0 ≤ r ∧ r < u := fun r hr => by
  obtain ⟨t, _, e⟩ := List.mem_map.mp hr
  subst e
  exact ⟨Int.fmod_nonneg_of_pos t hu, Int.fmod_lt_of_pos t hu⟩
theorem rest_diff {u : Int} (hu : 0 < u) (t : Int) : (t.fmod u - t).fmod u = 0 := by
  rw [Int.fmod_eq_emod_of_nonneg t (Int.le_of_lt hu), Int.fmod_eq_emod_of_nonneg _ (Int.le_of_lt hu)]
  exact Int.emod_eq_zero_of_dvd (by
    have := Int.emod_add_mul_ediv t u
    exact ⟨-(t / u), by rw [Int.mul_neg]; omega⟩)
theorem gcd_fmodI (g l : Int) : Int.gcd l (Int.fmod g l) = Int.gcd g l := by
  rw [Int.fmod_def, Int.gcd_sub_mul_left_right, Int.gcd_comm]
theorem absI_gcd (a b : Int) : Int.gcd (if a < 0 then -a else a) (if b < 0 then -b else b) = Int.gcd a b := by
  split <;> split <;> simp
theorem absI_nn (a : Int) : 0 ≤ (if a < 0 then -a else a) := by split <;> omega
theorem gcd_end {g l a b : Int} (h : Int.gcd g l = Int.gcd a b) (hg : 0 ≤ g) (z : l = 0) : g = gcdI a b := by
  rw [z, Int.gcd_zero_right] at h
  unfold gcdI
  rw [← h]
  omega
noncomputable def sp_gcd : Sp := fun vs H Q _ => ∃ a b, vs = [.int a, .int b] ∧ Q (.int (gcdI a b)) H
noncomputable abbrev sp_divisor : Sp := sp_gcd
noncomputable abbrev sp_law_common : Sp := sp_gcd
/-- a place stands at p -/
noncomputable def PlaceAt (H : Hp) (p : Addr) (ns : List Int) (u : Int) : Prop := ∃ q, H p = some (.tup [.ref q, .int u]) ∧ H q = some (.tup (ns.map V.int))
theorem PlaceAt.up {H H' : Hp} {p : Addr} {ns : List Int} {u : Int} (h : PlaceAt H p ns u) (s : Same H H') : PlaceAt H' p ns u := let ⟨q, h1, h2⟩ := h; ⟨q, s _ _ h1, s _ _ h2⟩
noncomputable def small (n : Int) : Prop := n.natAbs < 2 ^ 8990
theorem sizeBig {n : Nat} (h : n ≤ 1000) : n < sizeLine := small1000 h
theorem small_log {c : Int} (h : small c) (z : c ≠ 0) : c.natAbs.log2 < 9000 := Nat.lt_of_lt_of_le ((Nat.log2_lt (by omega)).mpr h) (by decide)
theorem small_dvd {c u : Int} (h : small u) (z : u ≠ 0) (d : c ∣ u) : small c := by
  have := Int.natAbs_dvd_natAbs.mpr d
  have := Nat.le_of_dvd (by omega) this
  unfold small at *
  omega

noncomputable def redT (u : Int) (ns : List Int) : List Int := ns.map fun t => t.fdiv (cs u ns)
noncomputable def redU (u : Int) (ns : List Int) : Int := u.fdiv (cs u ns)
noncomputable def restT (u : Int) (ns : List Int) : List Int := ns.map fun t => t.fmod u
noncomputable def sp_place (K : PySem.W.Frag) (C : Addr) : Sp := fun vs H Q E => ∃ (b : Bool) (a : Addr) (ns : List Int) (u : Int), vs = [.ref a, .int u] ∧ SqB b K H a (ns.map V.int) ∧ ns.length ≤ 100 ∧ small u ∧
  ((u = 0 ∨ ns = []) → E (.ref C) none H) ∧ (u ≠ 0 → ns ≠ [] → ∀ p H', Same H H' → PlaceAt H' p (redT u ns) (redU u ns) → Q (.ref p) H')
noncomputable def sp_rest_place (K : PySem.W.Frag) : Sp := fun vs H Q _ => ∃ (p : Addr) (ns : List Int) (u : Int), vs = [.ref p] ∧ PlaceAt H p ns u ∧ ns.length ≤ 100 ∧ 0 < u ∧ ∀ p' H', Same H H' → PlaceAt H' p' (restT u ns) u → Q (.ref p') H'
theorem take_snoc {α : Type} {ns : List α} {i : Nat} {n : α} (h : ns[i]? = some n) : ns.take (i + 1) = ns.take i ++ [n] := by
  rw [List.take_add_one, h]
  rfl

section
variable {P : Program} {w : World} {K : PySem.W.Frag} {mg : Str → Option Value} {base : Heap} {t : Adr}
theorem atI_ints {ns : List Int} {k : Int} (h0 : 0 ≤ k) (h1 : k < ns.length) : atI (ns.map V.int) k = some (.int (ns.getD k.toNat 0)) := by
  obtain ⟨j, rfl⟩ := Int.eq_ofNat_of_zero_le h0
  exact atI_at (int_at (getD_at (by omega))) rfl
noncomputable def sp_law_cell_at (K : PySem.W.Frag) : Sp := fun vs H Q _ => ∃ (p : Addr) (ns : List Int) (k : Int), vs = [.ref p, .int k] ∧ SqL K H p (ns.map V.int) ∧ 0 ≤ k ∧ Q (.int (ns.getD k.toNat 0)) H
noncomputable def sp_law_whole : Sp := fun vs H Q _ => ∃ i, vs = [.int i] ∧ Q (.bl true) H
theorem ok_law_cell_at (T : Txt K mg t) : FnOk P w K mg base CX0 1 t.a_law_cell_at t.d_law_cell_at ["_law_script", "_law_k"] (sp_law_cell_at K) := by
  refine T.F_law_cell_at.ok sc_law_cell_at (fun vs H Q E h => ?_) (fun cdv A outer s H vs Q E hr h => ?_)
  · obtain ⟨p, ns, k, rfl, _⟩ := h
    rfl
  · obtain ⟨p, ns, k, rfl, hS, h0, q⟩ := h
    refine ⟨_, (pss_cons (ps_if (pt_cmpR op_lt (pv 1) (pe_callB call_lenB rfl T.z_len (by decide +kernel) (pa_cons (pv 0) pa_nil)) (nomark _))
      (pss_one (ps_ret (pe_ix ix_B (pv 0) (pv 1) (fun _ _ => rfl))))
      pss_nil)
      (pss_one (ps_ret pe_int))), ?_⟩
    show tSeq _ _ _ [some (.ref p), some (.int k)] H
    walk_at "rd2"
    refine ints_len (b := false) hS ?_
    walk_at "rd2"
    by_cases z : k < ns.length
    · rw [decide_eq_true z]
      exact iteT ⟨false, p, _, _, _, rfl, rfl, hS, atI_ints h0 z, q⟩
    · rw [decide_eq_false z]
      refine iteF ?_
      have e : ns.getD k.toNat 0 = 0 := by
        rw [List.getD_eq_getElem?_getD, List.getElem?_eq_none (by omega)]
        rfl
      rw [e] at q
      exact q
theorem ok_law_whole (T : Txt K mg t) : FnOk P w K mg base CX0 1 t.a_law_whole t.d_law_whole ["_law_found"] sp_law_whole := by
  refine T.F_law_whole.ok sc_law_whole (fun vs H Q E h => ?_) (fun cdv A outer s H vs Q E hr h => ?_)
  · obtain ⟨i, rfl, _⟩ := h
    rfl
  · obtain ⟨i, rfl, q⟩ := h
    refine ⟨_, (pss_one (ps_ret (pe_and (pe_callB call_isi rfl T.z_isinstance (by decide +kernel) (pa_cons (pv 0) (pa_cons (pe_bltn (v := .ty "int") rfl T.z_int (by decide +kernel) rfl) pa_nil))) (pe_one (pe_not (pe_callB call_isi rfl T.z_isinstance (by decide +kernel) (pa_cons (pv 0) (pa_cons (pe_bltn (v := .ty "bool") rfl T.z_bool (by decide +kernel) rfl) pa_nil)))))))), ?_⟩
    show tRet _ _ [some (.int i)] H
    walk_at "rd2"
    refine ⟨_, _, _, _, rfl, .ty (.int i), rfl, T.k_int, ?_⟩
    walk_at "rd2"
    refine ⟨_, _, _, _, rfl, .ty (.int i), rfl, T.k_ib, ?_⟩
    walk_at "rd2"
    exact q

theorem rd_gcd {a b : Int} {H : Hp} {Q : VK} {E : XK} : sp_gcd [.int a, .int b] H Q E = Q (.int (gcdI a b)) H := propext ⟨fun ⟨_, _, e, q⟩ => by cases e; exact q, fun q => ⟨_, _, rfl, q⟩⟩
theorem ok_divisor (T : Txt K mg t) : FnOk P w K mg base CX0 1 t.a_divisor t.d_divisor ["one", "other"] sp_divisor := by
  refine T.F_divisor.ok sc_divisor (fun vs H Q E h => ?_) (fun cdv A outer s H vs Q E hr h => ?_)
  · obtain ⟨a, b, rfl, _⟩ := h
    rfl
  · obtain ⟨a, b, rfl, k⟩ := h
    refine ⟨_, (pss_cons (ps_set (i := 2) sc_divisor.nd rfl (Or.inl rfl) (pe_callB call_abs rfl T.z_abs (by decide +kernel) (pa_cons (pv 0) pa_nil)))
      (pss_cons (ps_set (i := 3) sc_divisor.nd rfl (Or.inl rfl) (pe_callB call_abs rfl T.z_abs (by decide +kernel) (pa_cons (pv 1) pa_nil)))
      (pss_cons (ps_while PassesOwn.never (pt_cmpR op_neZ (pv 3) pe_int (nomark _))
      (pss_cons (ps_set (i := 4) sc_divisor.nd rfl (Or.inl rfl) (pe_op op_modN (pv 2) (pv 3)))
      (pss_cons (ps_set (i := 2) sc_divisor.nd rfl (Or.inl rfl) (pv 3))
      (pss_one (ps_set (i := 3) sc_divisor.nd rfl (Or.inl rfl) (pv 4))))))
      (pss_one (ps_ret (pv 2)))))), ?_⟩
    show tSeq _ _ _ [some (.int a), some (.int b), none, none, none] H
    walk_at "rd2"
    refine ⟨fun m σ H1 => ∃ g l r, σ = [some (.int a), some (.int b), some (.int g), some (.int l), r] ∧ H1 = H ∧ 0 ≤ g ∧ 0 ≤ l ∧ Int.gcd g l = Int.gcd a b ∧ m = l.toNat,
      ⟨_, _, _, _, rfl, rfl, absI_nn a, absI_nn b, absI_gcd a b, rfl⟩, ?_⟩
    rintro m σ H1 ⟨g, l, r, rfl, rfl, hg, hl, e, rfl⟩
    walk_at "rd2"
    by_cases z : l = 0
    · rw [decide_eq_true z]
      refine iteF ?_
      rw [gcd_end e hg z]
      exact k
    · rw [decide_eq_false z]
      refine iteT ⟨fun σ' H' => σ' = [some (.int a), some (.int b), some (.int l), some (.int (g.fmod l)), some (.int (g.fmod l))] ∧ H' = H1, ?_, z, rfl, rfl⟩
      rintro σ' H' ⟨rfl, rfl⟩
      have l1 := Int.fmod_lt_of_pos g (show 0 < l by omega)
      have l2 := Int.fmod_nonneg_of_pos g (show 0 < l by omega)
      exact ⟨(g.fmod l).toNat, by omega, _, _, _, rfl, rfl, hl, l2, by rw [gcd_fmodI]; exact e, rfl⟩

theorem ok_place (T : Txt K mg t) : FnOk P w K mg base (CX1 P w) 2 t.a_place t.d_place ["tops", "under"] (sp_place K t.a_NoPlace) := by
  have G_divisor : FnOk P w K mg base CX0 1 t.a_divisor t.d_divisor ["one", "other"] sp_divisor := ok_divisor T
  refine T.F_place.okX sc_place (fun vs H Q E h => ?_) (fun cdv A outer s H vs Q E hr h => ?_)
  · obtain ⟨b, a, ns, u, rfl, _⟩ := h
    rfl
  · obtain ⟨b, a, ns, u, rfl, hS, hl, su, hE, hQ⟩ := h
    refine ⟨_, (pss_cons (ps_if (pt_cmpR op_eqZ (pv 1) pe_int (nomark _))
      (pss_one (ps_raise rfl landsN_def rfl T.m_NoPlace T.x_NoPlace PySem.F.excBase_ValueError (pa_cons pe_str pa_nil)))
      pss_nil)
      (pss_cons (ps_if (pt_cmpR op_eqZ (pe_callB call_lenB rfl T.z_len (by decide +kernel) (pa_cons (pv 0) pa_nil)) pe_int (nomark _))
      (pss_one (ps_raise rfl landsN_def rfl T.m_NoPlace T.x_NoPlace PySem.F.excBase_ValueError (pa_cons pe_str pa_nil)))
      pss_nil)
      (pss_cons (ps_set (i := 2) sc_place.nd rfl (Or.inr rfl) (pe_callB call_abs rfl T.z_abs (by decide +kernel) (pa_cons (pv 1) pa_nil)))
      (pss_cons (PS.nox (ps_for PassesOwn.never rfl (pi_seq (pv 0)) (pg_name (i := 3) sc_place.nd rfl (Or.inl rfl))
      (pss_one (ps_set (i := 2) sc_place.nd rfl (Or.inr rfl) (pe_call G_divisor (hr.mono (by omega)) rfl T.m_divisor T.F_divisor.kp T.b_divisor .nil pass0 (pa_cons (pv 2) (pa_cons (pv 3) pa_nil)))))))
      (pss_cons (ps_if (pt_cmpR op_lt (pv 1) pe_int (nomark _))
      (pss_one (ps_set (i := 2) sc_place.nd rfl (Or.inr rfl) (pe_un un_neg (pv 2))))
      pss_nil)
      (pss_one (ps_ret (pe_tup (pa_cons (pe_callTy call_tupB rfl T.z_tuple (by decide +kernel) (pa_cons (pe_compG (xs := ["top"]) (fr := [("common", 2)]) (g := (gName 0)) (tt := (tEl (tOp (rI CDivB fun i j => .int (i.fdiv j)) (tVar 0) (tVar 1)))) (compG_ok (sc := defScope s_place) (N := N_place) rfl rfl (by decide +kernel)) rfl (pi_seq (pv 0)) (fun _ _ _ hE1 => (pg_own (N := ["top", "common"]) (i := 0) hE1 rfl (by decide +kernel))) (fun _ _ _ hE1 => (po_el (pe_op op_fdivB (pv 0) (pv 1))))) pa_nil)) (pa_cons (pe_op op_fdivB (pv 1) (pv 2)) pa_nil)))))))))), ?_⟩
    show tSeq _ _ _ [some (.ref a), some (.int u), none, none] H
    refine st fun N1 e1 => ?_
    simp only [tRaise]
    walk_at "rd2"
    refine ite2 (fun z => ⟨by decide, hE (.inl (of_decide_eq_true z))⟩) (fun z => ?_)
    have hu : u ≠ 0 := fun q => z (decide_eq_true q)
    subst e1
    refine st fun N1 e1 => ?_
    simp only [tRaise]
    walk_at "rd2"
    refine ints_len hS ?_
    walk_at "rd2"
    refine ite2 (fun z => ⟨by decide, hE (.inr ?_)⟩) (fun z => ?_)
    · have := of_decide_eq_true z
      exact List.eq_nil_of_length_eq_zero (by omega)
    have hne : ns ≠ [] := fun q => z (decide_eq_true (by rw [q]; rfl))
    subst e1
    refine st fun N1 e1 => ?_
    walk_at "rd2"
    subst e1
    refine st fun N1 e1 => for_st fun B eB => ?_
    simp only [iSeq]
    walk_at "rd2"
    refine ⟨b, ⟨_, hS⟩, ?_⟩
    refine fr_seq (g := gName 3) (tb := B) (fun i σ H1 => ∃ v3, σ = [some (.ref a), some (.int u), some (.int (gl u (ns.take i))), v3] ∧ H1 = H) ⟨_, rfl, rfl⟩ (fun i σ H1 _ ⟨_, _, e⟩ => e ▸ hS) ?_ ?_
    · rintro i x σ H1 hi ⟨v3, rfl, rfl⟩
      obtain ⟨n, hn, rfl⟩ := ints_at hi
      subst eB
      walk_at "rd2"
      simp only [rd_gcd]
      rw [take_snoc hn, gl_snoc]
      first | trivial | exact ⟨_, rfl, rfl⟩
    · rintro σ H1 ⟨v3, rfl, rfl⟩
      rw [List.length_map, List.take_length]
      subst e1
      refine st fun N2 e2 => ?_
      have key2 : N2 [some (.ref a), some (.int u), some (.int (cs u ns)), v3] H1 := by
        subst e2
        have sc1 : small (cs u ns) := small_dvd su hu (cs_dvd (gl_u u ns))
        have hd : ∀ x, CDivB x (cs u ns) := fun x => ⟨cs_ne ns hu, small_log sc1 (cs_ne ns hu)⟩
        walk_at "rd2"
        refine compE_st fun B eB => ?_
        simp only [iSeq]
        walk_at "rd2"
        refine ⟨b, ⟨_, hS⟩, fun a1 ha1 => cg_seq (fun j y _ => ∃ n, ns[j]? = some n ∧ y = .int (n.fdiv (cs u ns))) ha1 hS (by rw [List.length_map]; omega) (fun _ _ _ _ r _ => r) ?_ ?_⟩
        · intro i x H2 zs hx _ _ Q' hQ'
          obtain ⟨n, hn, rfl⟩ := ints_at hx
          subst eB
          show tOp _ _ _ [some (.int n), some (.int (cs u ns))] H2 Q'
          walk_at "rd2"
          exact ⟨hd n, hQ' _ H2 (Same.refl _) ⟨n, hn, rfl⟩⟩
        · intro H2 ys s1 e1 hly hr2
          have ey : ys = (redT u ns).map V.int := by
            unfold redT
            rw [List.map_map]
            exact list_is (by simpa using hly) hr2
          subst ey
          refine ⟨a1, _, rfl, .inl ⟨SqL.of e1, fun l hl1 => ?_⟩⟩
          walk_at "rd2"
          refine ⟨hd u, (by show 2 ≤ sizeLine; decide), fun p hp => hQ hu hne p _ ((s1.trans (Same.new hl1)).trans (Same.new hp)) ⟨l, upd_same, ?_⟩⟩
          rw [upd_ne (ne_of_none upd_same hp)]
          exact upd_same
      walk_at "rd2"
      unfold cs at key2
      refine ite2 (fun z => ?_) (fun z => ?_)
      · rw [if_pos (of_decide_eq_true z)] at key2
        exact key2
      · rw [if_neg (fun q => z (decide_eq_true q))] at key2
        exact key2
theorem place_ix0 {H : Hp} {p : Addr} {ns : List Int} {u : Int} {Q : VK} (h : PlaceAt H p ns u) (q : ∀ x, H x = some (.tup (ns.map V.int)) → Q (.ref x) H) : rIxB K (.ref p) (.int 0) H Q := let ⟨x, h1, h2⟩ := h; ⟨true, p, _, _, _, rfl, rfl, SqB.tup h1, rfl, q x h2⟩
theorem place_ix1 {H : Hp} {p : Addr} {ns : List Int} {u : Int} {Q : VK} (h : PlaceAt H p ns u) (q : Q (.int u) H) : rIxB K (.ref p) (.int 1) H Q := let ⟨x, h1, h2⟩ := h; ⟨true, p, _, _, _, rfl, rfl, SqB.tup h1, rfl, q⟩
section
open PySem.NumText
theorem dg_all (n : Nat) : AllDigits ((Nat.toDigits 10 n).map Char.toNat) := fun c hc => by
  obtain ⟨ch, hch, e⟩ := List.mem_map.mp hc
  have r := Nat.isDigit_of_mem_toDigits (by decide) (by decide) hch
  rw [← e]
  simp only [Char.isDigit, Bool.and_eq_true, decide_eq_true_eq, UInt32.le_iff_toNat_le] at r
  exact r
noncomputable def dec (n : Nat) : Str := Str.ofString (toString (n : Int))
theorem dec_cps (n : Nat) : (dec n).cps.toList = (Nat.toDigits 10 n).map Char.toNat := by
  unfold dec
  rw [show toString ((n : Nat) : Int) = toString (Int.ofNat n) from rfl, PyProof.Rows.text_ofNat]
theorem dec_len {n k : Nat} (hk : 1 ≤ k) (h : n < 10 ^ k) : (dec n).length ≤ k := by
  have : (dec n).length = (dec n).cps.toList.length := by simp [Str.length]
  rw [this, dec_cps, List.length_map]
  exact PyProof.Rows.digits10_le hk h
noncomputable def zf (n : Nat) : List Nat := List.replicate (64 - (dec n).length) 48 ++ (Nat.toDigits 10 n).map Char.toNat
theorem zf_len {n : Nat} (h : n < 10 ^ 64) : (zf n).length = 64 := by
  have h1 := dec_len (k := 64) (by decide) h
  have : (dec n).length = (dec n).cps.toList.length := by simp [Str.length]
  rw [dec_cps] at this
  unfold zf
  rw [List.length_append, List.length_replicate, ← this]
  omega
theorem zf_all (n : Nat) : AllDigits (zf n) := fun c hc => by
  rcases List.mem_append.mp hc with h | h
  · rw [List.eq_of_mem_replicate h]; decide
  · exact dg_all n c h
theorem val_app : ∀ (ds cs : List Nat), digitsVal (cs ++ ds) = digitsVal cs * 10 ^ ds.length + digitsVal ds := by
  intro ds
  have key : ∀ (ds : List Nat) (a : Nat), ds.foldl (fun acc c => acc * 10 + (c - 48)) a = a * 10 ^ ds.length + ds.foldl (fun acc c => acc * 10 + (c - 48)) 0 := by
    intro ds
    induction ds with
    | nil => intro a; simp
    | cons d r ih =>
      intro a
      rw [List.foldl_cons, List.foldl_cons, ih, ih (0 * 10 + (d - 48)), List.length_cons, Nat.pow_succ]
      rw [Nat.zero_mul, Nat.zero_add, Nat.add_mul, Nat.mul_assoc, Nat.mul_comm 10 (10 ^ r.length), Nat.add_assoc]
  intro cs
  unfold digitsVal
  rw [List.foldl_append, key]
theorem val_zeros : ∀ (k : Nat) (cs : List Nat), digitsVal (List.replicate k 48 ++ cs) = digitsVal cs
  | 0, _ => by simp
  | k + 1, cs => by rw [List.replicate_succ, List.cons_append, digitsVal_zero, val_zeros k cs]
theorem val_back' (m : Nat) : digitsVal ((Nat.toDigits 10 m).map Char.toNat) = m := PySem.W.KIN.val_back m
theorem zf_val (n : Nat) : digitsVal (zf n) = n := by unfold zf; rw [val_zeros, val_back']
theorem drop_zf {n q r : Nat} (hr : r < 10 ^ 64) (e : n = q * 10 ^ 64 + r) : (zf q ++ zf r).dropWhile (· == 48) = if n = 0 then [] else (Nat.toDigits 10 n).map Char.toNat := by
  have hv : digitsVal (zf q ++ zf r) = n := by rw [val_app, zf_len hr, zf_val, zf_val, e]
  have ha : AllDigits (zf q ++ zf r) := fun c hc => (List.mem_append.mp hc).elim (zf_all q c) (zf_all r c)
  have t := toDigits_all _ ha
  rw [hv] at t
  cases hd : (zf q ++ zf r).dropWhile (· == 48) with
  | nil =>
    rw [hd] at t
    have t' : Nat.toDigits 10 n = ['0'] := t
    have := val_back' n
    rw [t'] at this
    have z : n = 0 := this.symm
    rw [if_pos z]
  | cons c l =>
    rw [hd] at t
    have t' : Nat.toDigits 10 n = (c :: l).map Char.ofNat := t
    have hsub : ∀ x ∈ c :: l, 48 ≤ x ∧ x ≤ 57 := fun x hx => ha x (List.dropWhile_sublist _ |>.subset (hd ▸ hx))
    have em : ((c :: l).map Char.ofNat).map Char.toNat = c :: l := by
      rw [List.map_map]
      have : ∀ x ∈ c :: l, (Char.toNat ∘ Char.ofNat) x = x := fun x hx => by
        have := hsub x hx
        have key : ∀ y, y < 58 → (Char.ofNat y).toNat = y := by decide
        exact key x (by omega)
      rw [List.map_congr_left this, List.map_id'']
      intro x; rfl
    have hn : n ≠ 0 := fun z => by
      rw [z] at t'
      have hc : c ≠ 48 := fun z2 => by
        have := List.head_dropWhile_not (p := (· == 48)) (l := zf q ++ zf r) (by rw [hd]; simp)
        simp [hd, z2] at this
      have e0 : Nat.toDigits 10 0 = ['0'] := by decide
      rw [e0] at t'
      have := congrArg (List.map Char.toNat) t'
      rw [em] at this
      simp at this
      exact hc this.1.symm
    rw [if_neg hn, t', em]
theorem lstrip0 (x : Str) : (Txt.lstripChars x "0").cps.toList = x.cps.toList.dropWhile (· == 48) := by
  have eg : (fun c => ("0" : Str).cps.contains c) = (fun c : Nat => c == 48) := by
    funext c
    have : ("0" : Str).cps = #[48] := by decide +kernel
    rw [this]
    simp only [List.contains_toArray, List.contains_cons, List.contains_nil, Bool.or_false]
  have key : ∀ l : List Nat, l.drop (l.takeWhile (· == 48)).length = l.dropWhile (· == 48) := by
    intro l
    induction l with
    | nil => rfl
    | cons c r ih =>
      by_cases h : (c == 48) = true
      · rw [List.takeWhile_cons, if_pos h, List.dropWhile_cons, if_pos h, List.length_cons, List.drop_succ_cons, ih]
      · rw [List.takeWhile_cons, if_neg h, List.dropWhile_cons, if_neg h]; rfl
  unfold Txt.lstripChars Txt.stripBy
  show (if stripSame (fun c => ("0" : Str).cps.contains c) true false x = true then x else stripped (fun c => ("0" : Str).cps.contains c) true false x).cps.toList = _
  rw [eg]
  unfold stripSame stripped stripLo stripHi
  simp only [if_true, Bool.false_eq_true, if_false]
  split
  · rename_i h
    simp only [Bool.and_eq_true, beq_iff_eq] at h
    have := key x.cps.toList
    rw [h.1] at this
    exact this
  · rw [← key]
    show (x.cps.extract _ _).toList = _
    rw [Array.toList_extract]
    show List.take _ (List.drop _ _) = _
    exact List.take_of_length_le (by simp [Str.length])
theorem zfill64 {n : Nat} (h : n < 10 ^ 64) : (Txt.zfill (dec n) 64).cps.toList = zf n := by
  have hl := dec_len (k := 64) (by decide) h
  unfold Txt.zfill
  split
  · rename_i h2
    have : (dec n).length = 64 := by omega
    unfold zf
    rw [dec_cps, this]
    rfl
  · have hne : ∀ c, (dec n).cps[0]? = some c → 48 ≤ c ∧ c ≤ 57 := fun c hc => by
      have : c ∈ (dec n).cps.toList := by
        have h3 : (dec n).cps.toList[0]? = some c := by simpa using hc
        exact List.mem_of_getElem? h3
      rw [dec_cps] at this
      exact dg_all n c this
    have ez : zfilled (dec n) ((64 : Int).toNat - (dec n).length) = Builtin.Str.padded (dec n) ((64 : Int).toNat - (dec n).length) 0 48 := by
      unfold zfilled
      split
      · rename_i h3; have := hne _ h3; omega
      · rename_i h3; have := hne _ h3; omega
      · rfl
    rw [ez]
    unfold Builtin.Str.padded zf
    simp [dec_cps]
theorem str_ext {x y : Str} (h : x.cps.toList = y.cps.toList) : x = y := by
  cases x; cases y
  congr 1
  exact Array.toList_inj.mp h
theorem join2 (x y : Str) : Txt.join ("" : Str) [x, y] = x ++ y := by
  unfold Txt.join
  rw [PySem.StrLaws.glued_eq_join]
  show x ++ ("" : Str) ++ y = x ++ y
  have : x ++ ("" : Str) = x := str_ext (by show (x.cps ++ ("" : Str).cps).toList = _; have : ("" : Str).cps = #[] := by decide +kernel
                                            rw [this]; simp)
  rw [this]
theorem fig_is {n : Nat} (h : n < 10 ^ 100) : let q := n / 10 ^ 64; let r := n % 10 ^ 64; (Txt.lstripChars (Txt.join ("" : Str) [Txt.zfill (dec q) 64, Txt.zfill (dec r) 64]) "0") = if n = 0 then ("" : Str) else dec n := by
  intro q r
  have hr : r < 10 ^ 64 := Nat.mod_lt _ (by decide +kernel)
  have hq : q < 10 ^ 64 := Nat.lt_of_lt_of_le (Nat.div_lt_of_lt_mul (show n < 10 ^ 64 * 10 ^ 36 by rw [← Nat.pow_add]; exact h)) (Nat.pow_le_pow_right (by decide) (by decide))
  have e : n = q * 10 ^ 64 + r := (Nat.div_add_mod' n (10 ^ 64)).symm
  refine str_ext ?_
  rw [lstrip0, join2]
  show ((Txt.zfill (dec q) 64).cps ++ (Txt.zfill (dec r) 64).cps).toList.dropWhile _ = _
  rw [Array.toList_append, zfill64 hq, zfill64 hr, drop_zf hr e]
  split
  · have : ("" : Str).cps = #[] := by decide +kernel
    rw [this]
  · rw [dec_cps]
theorem dvs (x y : Int) (h1 : y ≠ 0) (h2 : y.natAbs < 1073741824) : CDivB x y := ⟨h1, Nat.lt_of_lt_of_le ((Nat.log2_lt (by omega)).mpr (show y.natAbs < 2 ^ 30 from h2)) (by decide)⟩
theorem fms (x y : Int) (h : 0 < y) : 0 ≤ x.fmod y ∧ x.fmod y < y := ⟨Int.fmod_nonneg_of_pos x h, Int.fmod_lt_of_pos x h⟩
theorem len_app (x y : Str) : (x ++ y).length = x.length + y.length := by
  show (x.cps ++ y.cps).size = _
  rw [Array.size_append]; rfl
theorem one_len (c : Nat) : (⟨#[c]⟩ : Str).length = 1 := rfl
theorem sizeLe {n : Nat} (h : n ≤ 100000) : n ≤ sizeLine := Nat.le_trans h (by decide)
noncomputable def ten100 : Int := 10 ^ 100
theorem app_assoc (x y z : Str) : x ++ y ++ z = x ++ (y ++ z) := str_ext (by show (x.cps ++ y.cps ++ z.cps).toList = (x.cps ++ (y.cps ++ z.cps)).toList; simp)
theorem app_nil (x : Str) : x ++ ("" : Str) = x := str_ext (by
  show (x.cps ++ ("" : Str).cps).toList = _
  have : ("" : Str).cps = #[] := by decide +kernel
  rw [this]; simp)
theorem nil_app (x : Str) : ("" : Str) ++ x = x := str_ext (by
  show (("" : Str).cps ++ x.cps).toList = _
  have : ("" : Str).cps = #[] := by decide +kernel
  rw [this]; simp)
noncomputable def In100 (n : Int) : Prop := n.natAbs < 10 ^ 100
noncomputable def sp_halved (K : PySem.W.Frag) : Sp := fun vs H Q _ => ∃ (a : Addr) (n p : Int), vs = [.ref a, .int p] ∧ SqL K H a [.int n] ∧ 0 < p ∧ p.natAbs.log2 < 9000 ∧ ∀ l H', Same H H' → H' l = some (.lst [.int (n.fdiv p), .int (n.fmod p)]) → Q (.ref l) H'
noncomputable def sp_figures : Sp := fun vs H Q _ => ∃ n : Int, vs = [.int n] ∧ 0 ≤ n ∧ In100 n ∧ ∀ H', Same H H' → Q (.str (dec n.toNat)) H'
theorem dec100 {n : Nat} (h : n < 10 ^ 100) : (dec n).length ≤ 100 := dec_len (by decide) h
theorem nat100 {n : Int} (h : In100 n) : n.natAbs < 10 ^ 100 := h
theorem fdiv_le {a b : Int} (ha : 0 ≤ a) (hb : 0 < b) : 0 ≤ a.fdiv b ∧ a.fdiv b ≤ a := by
  rw [Int.fdiv_eq_ediv_of_nonneg _ (Int.le_of_lt hb)]
  exact ⟨Int.ediv_nonneg ha (Int.le_of_lt hb), Int.ediv_le_self _ ha⟩
theorem gcd_le {a b : Int} (hb : 0 < b) : 0 < gcdI a b ∧ gcdI a b ≤ b := by
  have d : gcdI a b ∣ b := Int.gcd_dvd_right ..
  have h0 : 0 ≤ gcdI a b := Int.natCast_nonneg _
  have hne : gcdI a b ≠ 0 := fun z => by
    rw [z] at d
    have := Int.zero_dvd.mp d
    omega
  exact ⟨by omega, Int.le_of_dvd hb d⟩
theorem fr_rev {K : PySem.W.Frag} {l : Addr} {n : Nat} {xs : List V} {g : TG} {tb : TS} {nx : St → Hp → Prop} {rt : VK} {σ : St} {H : Hp} (Pv : Nat → St → Hp → Prop) (h0 : Pv 0 σ H) (hn : xs.length = n) (hl : ∀ i σ H, i ≤ n → Pv i σ H → SqL K H l xs)
    (hs : ∀ i x σ H, xs[n - 1 - i]? = some x → i < n → Pv i σ H → g x σ H fun σ2 H2 => tb { nx := Pv (i + 1), rt := rt, bk := nx, ct := Pv (i + 1) } σ2 H2) (hd : ∀ σ H, Pv n σ H → nx σ H) : LoopW (Itv K l n) g tb nx rt σ H := by
  refine ⟨fun i m σ H => m = n - i ∧ i ≤ n ∧ Pv i σ H, ⟨n, by simp, Nat.zero_le _, h0⟩, ?_⟩
  rintro i m σ H ⟨rfl, hi, p⟩
  by_cases hlt : i < n
  · refine .inr ⟨⟨xs, hl i σ H hi p, hn, hlt⟩, Pv (i + 1), fun σ' H' p' => ⟨n - (i + 1), by omega, rfl, hlt, p'⟩, fun x H' y => ?_⟩
    obtain ⟨e, hx⟩ := y
    subst e
    exact hs i x σ _ (hx xs (hl i σ _ hi p)) hlt p
  · have e : i = n := by omega
    subst e
    exact .inl ⟨Nat.le_refl _, hd σ H p⟩
theorem log_small {z : Nat} (h : z < 2 ^ 1900) : z.log2 < 1920 := by
  by_cases e : z = 0
  · subst e; decide
  · exact Nat.lt_of_lt_of_le ((Nat.log2_lt e).mpr h) (by decide)
theorem ok_halved (T : Txt K mg t) : FnOk P w K mg base CX0 1 t.a_halved t.d_halved ["pieces", "power"] (sp_halved K) := by
  refine T.F_halved.ok sc_halved (fun vs H Q E h => ?_) (fun cdv A outer s H vs Q E hr h => ?_)
  · obtain ⟨a, n, p, rfl, _⟩ := h
    rfl
  · obtain ⟨a, n, p, rfl, hS, hp, hl, hQ⟩ := h
    refine ⟨_, (pss_cons (ps_set (i := 2) sc_halved.nd rfl (Or.inl rfl) (pe_lst pa_nil))
      (pss_cons (ps_for PassesOwn.never rfl (pi_seq (pv 0)) (pg_name (i := 3) sc_halved.nd rfl (Or.inl rfl))
      (pss_cons (ps_expr (pe_bm PySem.F.plainAttrs_list PySem.F.slot_list_append PySem.F.type_list_append mt_append (pv 2) (pa_cons (pe_op op_fdivB (pv 3) (pv 1)) pa_nil)))
      (pss_one (ps_expr (pe_bm PySem.F.plainAttrs_list PySem.F.slot_list_append PySem.F.type_list_append mt_append (pv 2) (pa_cons (pe_op op_modN (pv 3) (pv 1)) pa_nil))))))
      (pss_one (ps_ret (pv 2))))), ?_⟩
    show tSeq _ _ _ [some (.ref a), some (.int p), none, none] H
    refine st fun N1 e1 => ?_
    walk_at "rd2"
    refine ⟨Nat.zero_le _, fun l hl0 => ?_⟩
    have s1 : Same H (upd H l (.lst [])) := Same.new hl0
    have el : (upd H l (.lst [])) l = some (.lst []) := upd_same
    generalize upd H l (.lst []) = H1 at s1 el
    subst e1
    refine st fun N1 e1 => for_st fun B eB => ?_
    simp only [iSeq]
    walk_at "rd2"
    refine ⟨false, ⟨_, s1.seq hS⟩, ?_⟩
    refine fr_seq (b := false) (g := gName 3) (tb := B) (fun i σ H2 => ∃ v3, σ = [some (.ref a), some (.int p), some (.ref l), v3] ∧ Same H H2 ∧ H2 l = some (.lst (if i = 0 then [] else [.int (n.fdiv p), .int (n.fmod p)]))) ⟨none, rfl, s1, el⟩ (fun i σ H2 _ ⟨_, _, s2, _⟩ => s2.seq hS) ?_ ?_
    · rintro i x σ H2 ex ⟨v3, rfl, s2, e2⟩
      match i, ex with
      | 0, ex =>
        cases ex
        subst eB
        show tSeq _ _ _ [some (.ref a), some (.int p), some (.ref l), some (.int n)] H2
        refine st fun N2 e3 => ?_
        walk_at "rd2"
        refine ⟨.inl ⟨rfl, _, SqL.of e2⟩, ⟨by omega, hl⟩, l, _, _, rfl, rfl, e2, small1000 (show 0 ≤ 1000 by decide), ?_⟩
        subst e3
        walk_at "rd2"
        have e4 : (upd H2 l (.lst ([] ++ [.int (n.fdiv p)]))) l = some (.lst [.int (n.fdiv p)]) := upd_same
        refine ⟨.inl ⟨rfl, _, SqL.of e4⟩, by omega, l, _, _, rfl, rfl, e4, small1000 (show 1 ≤ 1000 by decide), ?_⟩
        exact ⟨Same.over hl0 (Same.over hl0 s2), upd_same⟩
    · rintro σ H2 ⟨v3, rfl, s2, e2⟩
      subst e1
      walk_at "rd2"
      exact hQ l H2 s2 e2
theorem abs_nat (n : Int) : (if n < 0 then -n else n) = (n.natAbs : Int) := by split <;> omega
theorem ok_figures (T : Txt K mg t) : FnOk P w K mg base CX0 2 t.a_figures t.d_figures ["number"] sp_figures := by
  have G_halved : FnOk P w K mg base CX0 1 t.a_halved t.d_halved ["pieces", "power"] (sp_halved K) := ok_halved T
  refine T.F_figures.ok sc_figures (fun vs H Q E h => ?_) (fun cdv A outer s H vs Q E hr h => ?_)
  · obtain ⟨n, rfl, _⟩ := h
    rfl
  · obtain ⟨n, rfl, h0, h1, hQ⟩ := h
    obtain ⟨k, rfl⟩ := Int.eq_ofNat_of_zero_le h0
    have hk : k < 10 ^ 100 := h1
    have e64 : (10 : Int) ^ Int.toNat 64 = ((10 ^ 64 : Nat) : Int) := by decide +kernel
    have p64 : (0 : Int) < ((10 ^ 64 : Nat) : Int) := by decide +kernel
    refine ⟨_, (pss_cons (ps_set (i := 1) sc_figures.nd rfl (Or.inl rfl) (pe_lst (pa_cons (pe_op op_pow pe_int pe_int) pa_nil)))
      (pss_cons (ps_while PassesOwn.never (pt_cmpR op_le (pe_op op_mulB (pe_ix ix_B (pv 1) (pe_un un_neg pe_int) (fun _ _ => rfl)) (pe_ix ix_B (pv 1) (pe_un un_neg pe_int) (fun _ _ => rfl))) (pv 0) (nomark _))
      (pss_one (ps_expr (pe_bm PySem.F.plainAttrs_list PySem.F.slot_list_append PySem.F.type_list_append mt_append (pv 1) (pa_cons (pe_op op_mulB (pe_ix ix_B (pv 1) (pe_un un_neg pe_int) (fun _ _ => rfl)) (pe_ix ix_B (pv 1) (pe_un un_neg pe_int) (fun _ _ => rfl))) pa_nil)))))
      (pss_cons (ps_set (i := 2) sc_figures.nd rfl (Or.inl rfl) (pe_lst (pa_cons (pv 0) pa_nil)))
      (pss_cons (ps_for PassesOwn.never rfl (pi_rev rfl T.z_reversed (pa_cons (pv 1) pa_nil)) (pg_name (i := 3) sc_figures.nd rfl (Or.inl rfl))
      (pss_one (ps_set (i := 2) sc_figures.nd rfl (Or.inl rfl) (pe_call G_halved (hr.mono (by omega)) rfl T.m_halved T.F_halved.kp T.b_halved .nil pass0 (pa_cons (pv 2) (pa_cons (pv 3) pa_nil))))))
      (pss_cons (ps_set (i := 4) sc_figures.nd rfl (Or.inl rfl) (pe_bm PySem.F.plainAttrs_str PySem.F.slot_str_lstrip PySem.F.type_str_lstrip mt_lstripC (pe_bm PySem.F.plainAttrs_str PySem.F.slot_str_join PySem.F.type_str_join mt_join pe_str (pa_cons (pe_compG (xs := ["piece"]) (fr := []) (g := (gName 0)) (tt := (tEl (tBM K "str" (fun x vs H Q => ∃ u i, x = .str u ∧ vs = [.int i] ∧ PadOk i = true ∧ Q (.str (Txt.zfill u i)) H) (tCB (fun xs H Q => ∃ i, xs = [.int i] ∧ i.natAbs.log2 < 1920 ∧ Q (.str (toString i)) H) (tCons (tVar 0) tNil)) (tCons (tC (.int 64)) tNil)))) (compG_ok (sc := defScope s_figures) (N := N_figures) rfl rfl (by decide +kernel)) rfl (pi_seq (pv 2)) (fun _ _ _ hE1 => (pg_own (N := ["piece"]) (i := 0) hE1 rfl (by decide +kernel))) (fun _ _ _ hE1 => (po_el (pe_bm PySem.F.plainAttrs_str PySem.F.slot_str_zfill PySem.F.type_str_zfill mt_zfill (pe_callTy call_str_int rfl T.z_str (by decide +kernel) (pa_cons (pv 0) pa_nil)) (pa_cons pe_int pa_nil))))) pa_nil)) (pa_cons pe_str pa_nil)))
      (pss_one (ps_ret (pe_ifExp (pt_cmpR op_eq (pv 4) pe_str (nomark _)) pe_str (pv 4))))))))), ?_⟩
    show tSeq _ _ _ [some (.int k), none, none, none, none] H
    refine st fun N1 e1 => ?_
    walk_at "rd2"
    rw [e64]
    refine ⟨⟨by decide, by decide, by decide⟩, by show 1 ≤ sizeLine; decide, fun l1 hl1 => ?_⟩
    have s1 : Same H (upd H l1 (.lst [.int ((10 ^ 64 : Nat) : Int)])) := Same.new hl1
    have el : (upd H l1 (.lst [.int ((10 ^ 64 : Nat) : Int)])) l1 = some (.lst [.int ((10 ^ 64 : Nat) : Int)]) := upd_same
    generalize upd H l1 (.lst [.int ((10 ^ 64 : Nat) : Int)]) = H1 at s1 el
    subst e1
    refine st fun N1 e1 => while_st fun B eB => ?_
    refine ⟨fun m σ H2 => σ = [some (.int k), some (.ref l1), none, none, none] ∧ H2 = H1, ⟨0, rfl, rfl⟩, ?_⟩
    rintro m σ H2 ⟨rfl, rfl⟩
    walk_at "rd2"
    refine ⟨false, l1, _, _, _, rfl, rfl, SqB.lst el, rfl, false, l1, _, _, _, rfl, rfl, SqB.lst el, rfl, ?_⟩
    walk_at "rd2"
    have big : ¬ (((10 ^ 64 : Nat) : Int) * ((10 ^ 64 : Nat) : Int) ≤ (k : Int)) := by
      rw [← Int.natCast_mul]
      have : 10 ^ 64 * 10 ^ 64 = 10 ^ 128 := by rw [← Nat.pow_add]
      have h2 : 10 ^ 100 ≤ 10 ^ 128 := Nat.pow_le_pow_right (by decide) (by decide)
      omega
    rw [decide_eq_false big]
    refine ⟨PyProof.Rows.mulOk_of_bits (m := 400) (n := 400) (by decide +kernel) (by decide +kernel) (by decide), iteF ?_⟩
    subst e1
    refine st fun N1 e1 => ?_
    walk_at "rd2"
    refine ⟨by show 1 ≤ sizeLine; decide, fun l2 hl2 => ?_⟩
    have s2 : Same H2 (upd H2 l2 (.lst [.int k])) := Same.new hl2
    have el2 : (upd H2 l2 (.lst [.int k])) l2 = some (.lst [.int k]) := upd_same
    have el1 := s2 _ _ el
    generalize upd H2 l2 (.lst [.int k]) = H3 at s2 el2 el1
    subst e1
    refine st fun N1 e1 => for_st fun B eB => ?_
    simp only [iRev]
    walk_at "rd2"
    refine ⟨_, SqL.of el1, ?_⟩
    refine fr_rev (n := 1) (xs := [.int ((10 ^ 64 : Nat) : Int)]) (g := gName 3) (tb := B) (fun i σ H4 => ∃ l3 v3, σ = [some (.int k), some (.ref l1), some (.ref l3), v3, none] ∧ Same H3 H4 ∧ H4 l3 = some (.lst (if i = 0 then [.int k] else [.int ((k : Int).fdiv ((10 ^ 64 : Nat) : Int)), .int ((k : Int).fmod ((10 ^ 64 : Nat) : Int))]))) ⟨l2, none, rfl, Same.refl _, el2⟩ rfl (fun i σ H4 _ ⟨_, _, _, s4, _⟩ => SqL.of (s4 _ _ el1)) ?_ ?_
    · rintro i x σ H4 ex hi ⟨l3, v3, rfl, s4, e4⟩
      have e0 : i = 0 := by omega
      subst e0
      cases ex
      subst eB
      show tAsg _ _ _ [some (.int k), some (.ref l1), some (.ref l3), some (.int ((10 ^ 64 : Nat) : Int)), none] H4
      walk_at "rd2"
      refine ⟨l3, k, _, rfl, SqL.of e4, p64, by decide +kernel, fun l5 H5 s5 e5 => ?_⟩
      exact ⟨l5, rfl, s4.trans s5, e5⟩
    · rintro σ H4 ⟨l3, v3, rfl, s4, e4⟩
      have e4' : H4 l3 = some (.lst [.int ((k : Int).fdiv ((10 ^ 64 : Nat) : Int)), .int ((k : Int).fmod ((10 ^ 64 : Nat) : Int))]) := e4
      have ef : (k : Int).fdiv ((10 ^ 64 : Nat) : Int) = ((k / 10 ^ 64 : Nat) : Int) := by rw [Int.fdiv_eq_ediv_of_nonneg _ (Int.le_of_lt p64)]; rfl
      have em : (k : Int).fmod ((10 ^ 64 : Nat) : Int) = ((k % 10 ^ 64 : Nat) : Int) := by rw [Int.fmod_eq_emod_of_nonneg _ (Int.le_of_lt p64)]; rfl
      rw [ef, em] at e4'
      have hr : k % 10 ^ 64 < 10 ^ 64 := Nat.mod_lt _ (by decide +kernel)
      have hq : k / 10 ^ 64 < 10 ^ 64 := Nat.lt_of_lt_of_le (Nat.div_lt_of_lt_mul (show k < 10 ^ 64 * 10 ^ 36 by rw [← Nat.pow_add]; exact hk)) (Nat.pow_le_pow_right (by decide) (by decide))
      have fig := fig_is hk
      dsimp only at fig
      generalize k / 10 ^ 64 = q at *
      generalize k % 10 ^ 64 = r at *
      subst e1
      refine st fun N1 e1 => ?_
      walk_at "rd2"
      refine ⟨rfl, ?_⟩
      refine compE_st fun C eC => ?_
      simp only [iSeq]
      walk_at "rd2"
      refine ⟨false, ⟨_, SqB.lst e4'⟩, fun a6 ha6 => ?_⟩
      refine cg_seq (fun j y _ => ∃ z : Nat, ([q, r] : List Nat)[j]? = some z ∧ y = .str (Txt.zfill (dec z) 64)) ha6 (SqB.lst e4') (show 2 ≤ 1000 by decide) (fun _ _ _ _ r _ => r) ?_ ?_
      · intro j x H6 zs ex s6 ez Q' hQ'
        obtain ⟨z, ez2, rfl, hz⟩ : ∃ z : Nat, ([q, r] : List Nat)[j]? = some z ∧ x = .int z ∧ z < 10 ^ 64 := by
          match j, ex with
          | 0, ex => cases ex; exact ⟨q, rfl, rfl, hq⟩
          | 1, ex => cases ex; exact ⟨r, rfl, rfl, hr⟩
        subst eC
        show tBM _ _ _ _ _ [some (.int z)] H6 Q'
        walk_at "rd2"
        have hlog : (z : Int).natAbs.log2 < 1920 := log_small (Nat.lt_of_lt_of_le hz (by decide +kernel))
        exact ⟨hlog, rfl, dec z, rfl, by decide, hQ' _ _ (Same.refl _) ⟨z, ez2, rfl⟩⟩
      · intro H6 zs s6 ez hlz hR
        have ezs : zs = [Txt.zfill (dec q) 64, Txt.zfill (dec r) 64].map V.str := by
          match zs, hlz with
          | [z0, z1], _ =>
            obtain ⟨x, h1, h2⟩ := hR 0 z0 rfl
            obtain ⟨x', h1', h2'⟩ := hR 1 z1 rfl
            cases h1
            cases h1'
            rw [h2, h2']
            rfl
        subst ezs
        try walk_at "rd2"
        have lz : ∀ z, z < 10 ^ 64 → (Txt.zfill (dec z) 64).length = 64 := fun z hz => by
          have : (Txt.zfill (dec z) 64).length = (Txt.zfill (dec z) 64).cps.toList.length := by simp [Str.length]
          rw [this, zfill64 hz, zf_len hz]
        have jo : JoinOk ("" : Str) [Txt.zfill (dec q) 64, Txt.zfill (dec r) 64] = true := by
          unfold JoinOk
          rw [Bool.not_eq_true']
          refine PySem.StrLaws.joinFits (B := 64) (fun x hx => ?_) (by show 2 * 64 + 2 * _ ≤ _; have : ("" : Str).length = 0 := by decide +kernel
                                                                       rw [this]; decide)
          rcases List.mem_cons.mp hx with e | e
          · rw [e]; exact Nat.le_of_eq (lz q hq)
          · rw [List.mem_singleton.mp e]; exact Nat.le_of_eq (lz r hr)
        have jl : (Txt.join ("" : Str) [Txt.zfill (dec q) 64, Txt.zfill (dec r) 64]).length = 128 := by
          rw [join2, len_app, lz q hq, lz r hr]
        refine ⟨false, "", a6, _, rfl, rfl, SqB.lst ez, jo, rfl, _, rfl, "0", rfl, by rw [jl]; exact sizeLe (by decide), ?_⟩
        rw [fig]
        have sH : Same H H6 := ((s1.trans s2).trans s4).trans s6
        subst e1
        walk_at "rd2"
        by_cases z : k = 0
        · subst z
          refine ⟨rfl, _, rfl, ?_⟩
          have e : decide (V.str (if (0 : Nat) = 0 then ("" : Str) else dec 0) = V.str ("" : Str)) = true := decide_eq_true (by rw [if_pos rfl])
          rw [e]
          refine iteT ?_
          have e0 : dec (((0 : Nat) : Int)).toNat = ("0" : Str) := by decide +kernel
          have := hQ H6 sH
          rw [e0] at this
          exact this
        · refine ⟨rfl, _, rfl, ?_⟩
          have e : decide (V.str (if k = 0 then ("" : Str) else dec k) = V.str ("" : Str)) = false := decide_eq_false (fun h => by
            rw [if_neg z] at h
            have h2 : dec k = ("" : Str) := by injection h
            have h3 : (dec k).cps.toList = [] := by rw [h2]; decide +kernel
            rw [dec_cps] at h3
            have v := val_back' k
            rw [h3] at v
            exact z v.symm)
          rw [e]
          refine iteF ?_
          rw [if_neg z]
          exact hQ H6 sH
theorem join_ok {xs : List Str} {sep : Str} (h1 : ∀ x ∈ xs, x.length ≤ 2000) (h2 : xs.length ≤ 10) (h3 : sep.length ≤ 1) : JoinOk sep xs = true := by
  unfold JoinOk
  rw [Bool.not_eq_true']
  refine PySem.StrLaws.joinFits (B := 2000) h1 ?_
  have : xs.length * 2000 ≤ 10 * 2000 := Nat.mul_le_mul_right _ h2
  have : xs.length * sep.length ≤ 10 * 1 := Nat.mul_le_mul h2 h3
  omega
theorem list_isS {ys : List V} {L : List Str} (hl : ys.length = L.length) (h : ∀ (j : Nat) (y : V), ys[j]? = some y → ∃ x, L[j]? = some x ∧ y = .str x) : ys = L.map V.str := by
  refine List.ext_getElem (by rw [hl, List.length_map]) fun j h1 h2 => ?_
  obtain ⟨x, e1, e2⟩ := h j ys[j] (by rw [List.getElem?_eq_getElem h1])
  rw [List.getElem_map, e2]
  have hj : j < L.length := by omega
  rw [List.getElem?_eq_getElem hj] at e1
  cases e1
  rfl
theorem call_isiK {X : Cx} (h : X.K = K) : CallR X (.builtin "isinstance") (rIsi K) := by
  subst h
  exact call_isi
theorem ix_BK {X : Cx} (h : X.K = K) : IxR X (rIxB K) := by
  subst h
  exact ix_B
theorem cg_seqI {b : Bool} {l : Addr} {xs : List V} (P : Nat → List V → Hp → Prop) (ha : H a = none) (hS : SqB b K H l xs) (hz : xs.length ≤ 1000) (h0 : P 0 [] (upd H a (.lst [])))
    (hl : ∀ i zs H1, P i zs H1 → zs.length ≤ i) (mono : ∀ i zs H1 H2, P i zs H1 → SameX a H1 H2 → P i zs H2)
    (he : ∀ i x H1 zs, xs[i]? = some x → Same H H1 → H1 a = some (.lst zs) → P i zs H1 → ∀ C : Option V → Hp → Prop,
      (∀ y H2, Same H1 H2 → P (i + 1) (zs ++ [y]) H2 → C (some y) H2) → (∀ H2, Same H1 H2 → P (i + 1) zs H2 → C none H2) → tt (some x :: frees fr σ) H1 C)
    (hd : ∀ H1 ys, Same H H1 → H1 a = some (.lst ys) → P xs.length ys H1 → Q (.ref a) H1) : CompWG (Its K b l) (gName 0) tt 1 fr σ a H Q := by
  refine cg_inv xs.length P ha hz h0 hl mono (fun i H1 hi s => Its.go (hS.up s) (x := xs[i]) (by simp [hi])) (fun H1 s => Its.stop (hS.up s) (Nat.le_refl _)) ?_ hd
  intro i H1 zs hi s1 ez p ys x H3 hys hy C hC1 hC2
  obtain ⟨e1, e2⟩ := Its.yld (hS.up s1) hy
  subst e1
  match ys, hys with
  | [o], _ => exact ⟨⟨[some x], rfl, rfl⟩, he i x H3 zs e2 s1 ez p C hC1 hC2⟩
theorem none_left {fr : List (Str × Nat)} {σ : St} {a : Addr} {H : Hp} {Q : VK} {b : Bool} {l : Addr} {ns : List Int} (ha : H a = none) (hS : SqB b K H l (ns.map V.int)) (hz : ns.length ≤ 1000)
    (hd : ∀ H1, Same H H1 → H1 a = some (.lst []) → Q (.ref a) H1) : CompWG (Its K b l) (gName 0) (tElIf (tNot (tB (tCall sp_law_whole [] E0 (tCons (tVar 0) tNil)))) (tVar 0)) 1 fr σ a H Q := by
  refine cg_seqI (fun _ zs _ => zs = []) ha hS (by rw [List.length_map]; exact hz) rfl (fun i zs H1 p => by rw [p]; exact Nat.zero_le _) (fun _ _ _ _ r _ => r) ?_ (fun H1 ys s1 e p => hd H1 s1 (by rw [e, p]))
  intro i x H1 zs ex s1 ez p C hC1 hC2
  obtain ⟨n, en, rfl⟩ := ints_at ex
  simp only [tElIf]
  walk_at "rd2"
  exact ⟨n, rfl, _, rfl, iteF (hC2 H1 (Same.refl _) p)⟩
theorem gcdI_mul (a b v : Int) (hv : 0 < v) : gcdI (a * v) (b * v) = gcdI a b * v := by
  unfold gcdI
  rw [Int.gcd_mul_right]
  have : ((v.natAbs : Nat) : Int) = v := by omega
  rw [Int.natCast_mul, this]
theorem gl_mul {u v : Int} (hv : 0 < v) (ts : List Int) : gl (u * v) (ts.map (· * v)) = gl u ts * v := by
  have h0 : ∀ (ts : List Int) (a : Int), (ts.map (· * v)).foldl gcdI (a * v) = ts.foldl gcdI a * v := by
    intro ts
    induction ts with
    | nil => intro a; rfl
    | cons t r ih => intro a; rw [List.map_cons, List.foldl_cons, List.foldl_cons, gcdI_mul _ _ _ hv, ih]
  unfold gl
  have : absI (u * v) = absI u * v := by
    unfold absI
    rcases Int.lt_or_le u 0 with l | l
    · have h2 : u * v < 0 := Int.mul_neg_of_neg_of_pos l hv
      rw [if_pos l, if_pos h2, Int.neg_mul]
    · have h2 : 0 ≤ u * v := Int.mul_nonneg l (Int.le_of_lt hv)
      rw [if_neg (by omega), if_neg (by omega)]
  rw [this, h0]
theorem low_dvd {u v : Int} {ts ns : List Int} (hv : 0 < v) (gu : gl u ts = 1) (hl : ts.length = ns.length) (h : ∀ (i : Nat) (x y : Int), ts[i]? = some x → ns[i]? = some y → x * v = y * u) : u ∣ v := by
  have e := gl_mul (u := u) hv ts
  rw [gu, Int.one_mul] at e
  rw [← e]
  refine dvd_gl.mpr ⟨Int.dvd_mul_right u v, fun t ht => ?_⟩
  obtain ⟨x, hx, rfl⟩ := List.mem_map.mp ht
  obtain ⟨i, hi, ei⟩ := List.getElem_of_mem hx
  have hi2 : i < ns.length := by omega
  have := h i x ns[i] (by simp [hi, ei]) (by simp [hi2])
  show u ∣ x * v
  rw [this]
  exact Int.dvd_mul_left _ _
theorem low_uniq {u v : Int} {ts ns : List Int} (hu : 0 < u) (hv : 0 < v) (gu : gl u ts = 1) (gv : gl v ns = 1) (hl : ts.length = ns.length) (h : ∀ (i : Nat) (x y : Int), ts[i]? = some x → ns[i]? = some y → x * v = y * u) : ts = ns ∧ u = v := by
  have h1 := low_dvd hv gu hl h
  have h2 := low_dvd hu gv hl.symm fun i x y e1 e2 => (h i y x e2 e1).symm
  have e : u = v := Int.dvd_antisymm (by omega) (by omega) h1 h2
  subst e
  refine ⟨List.ext_getElem hl fun i h1 h2 => ?_, rfl⟩
  exact Int.eq_of_mul_eq_mul_right (by omega) (h i _ _ (by simp [h1]) (by simp [h2]))
theorem red_cross {u : Int} {ns : List Int} (h : u ≠ 0) {i : Nat} {x y : Int} (e1 : ns[i]? = some x) (e2 : (redT u ns)[i]? = some y) : x * redU u ns = y * u := by
  unfold redT at e2
  rw [List.getElem?_map, e1] at e2
  cases e2
  exact cross h (List.mem_of_getElem? e1)
theorem red_eq {p w : Int} {xs ys : List Int} (hp : 0 < p) (hw : 0 < w) (hl : xs.length = ys.length) (h : ∀ (i : Nat) (x y : Int), xs[i]? = some x → ys[i]? = some y → x * w = y * p) : redT p xs = redT w ys ∧ redU p xs = redU w ys := by
  have p0 : p ≠ 0 := by omega
  have w0 : w ≠ 0 := by omega
  refine low_uniq (under_pos xs p0) (under_pos ys w0) (gl_red p0) (gl_red w0) (by simp [redT, hl]) fun i a b ea eb => ?_
  have hi : i < xs.length := by have := (List.getElem?_eq_some_iff.mp ea).1; simpa [redT] using this
  have hi2 : i < ys.length := by omega
  have k1 := red_cross p0 (i := i) (x := xs[i]) (by simp [hi]) ea
  have k2 := red_cross w0 (i := i) (x := ys[i]) (by simp [hi2]) eb
  have k3 := h i xs[i] ys[i] (by simp [hi]) (by simp [hi2])
  have c1 : (a * redU w ys) * (p * w) = (b * redU p xs) * (p * w) := by
    have : (a * redU w ys) * (p * w) = (a * p) * (redU w ys * w) := by grind
    rw [this, ← k1]
    have : (b * redU p xs) * (p * w) = (b * w) * (redU p xs * p) := by grind
    rw [this, ← k2]
    have : xs[i] * redU p xs * (redU w ys * w) = (xs[i] * w) * (redU p xs * redU w ys) := by grind
    rw [this, k3]
    grind
  exact Int.eq_of_mul_eq_mul_right (Int.mul_ne_zero p0 w0) c1
theorem Dt.place {H : Hp} {p : Addr} {ts : List Int} {u : Int} (h : PlaceAt H p ts u) : Dt K H (.ref p) (.tuple [intsD true ts, .int u]) := by
  obtain ⟨q, h1, h2⟩ := h
  exact .tup (SqT.of h1) (.cons (Dt.intsB (SqB.tup h2)) (.cons (.int u) .nil))
theorem iT_place (ts : List Int) (u : Int) : iT 2 (.tuple [intsD true ts, .int u]) = true := by
  have := iT_ints true 0 ts
  simp [iT, this]
theorem place_ne {H : Hp} {p q : Addr} {ts ns : List Int} {u v : Int} {Q : VK} (h1 : PlaceAt H p ts u) (h2 : PlaceAt H q ns v) (e : ts = ns ∧ u = v) (k : Q (.bl false) H) : rNeD K (.ref p) (.ref q) H Q := by
  obtain ⟨rfl, rfl⟩ := e
  exact neD_of 2 (by decide) (Dt.place h1) (Dt.place h2) (iT_place _ _) (iT_place _ _) (b := true) (by simp) k
theorem cut_lenM (ns : List Int) (k : Nat) : ∃ ms : List Int, cutV (ns.map V.int) none (some (k : Int)) = ms.map V.int ∧ ms.length ≤ k := by
  refine ⟨_, cut_ints ns none (some (k : Int)), ?_⟩
  rw [HT.sIx_none, HT.sIx_nat, List.length_take, List.length_drop]
  omega

end
section
open PySem.NumText
noncomputable def comma : Str := ","
noncomputable def slash : Str := "/"
noncomputable def minus : Str := "-"
noncomputable def ten : Str := "0123456789"
theorem comma_is : comma = ⟨#[44]⟩ := by decide +kernel
theorem slash_is : slash = ⟨#[47]⟩ := by decide +kernel
theorem minus_is : minus = ⟨#[45]⟩ := by decide +kernel
noncomputable def digB (c : Nat) : Bool := decide (48 ≤ c) && decide (c ≤ 57)
noncomputable def inT (x : Str) (c : Nat) : Bool := !(Builtin.Str.occurrences x ⟨#[c]⟩ 0 x.length 1).isEmpty
theorem ext10 : ∀ i < 10, ten.cps.extract i (i + 1) = #[ten.cps.getD i 0] ∧ ten.cps.getD i 0 < 123 := by decide +kernel
theorem dig_small : ∀ c < 123, inT ten c = digB c := by decide +kernel
theorem big_of {x : Str} {n c : Nat} (hl : x.length = n) (h : ∀ i < n, x.cps.extract i (i + 1) = #[x.cps.getD i 0] ∧ x.cps.getD i 0 < 123) (hc : 123 ≤ c) : inT x c = false := by
  have e : Builtin.Str.occurrences x ⟨#[c]⟩ 0 x.length 1 = [] := PySem.W.occ_nil_of_no x ⟨#[c]⟩ 1 fun i hi => by
    have hi' : i < n := by rw [← hl]; exact hi
    obtain ⟨k1, k2⟩ := h i hi'
    show (x.cps.extract i (i + 1) == #[c]) = false
    rw [k1]
    have : x.cps.getD i 0 ≠ c := by omega
    simp only [beq_eq_false_iff_ne, ne_eq]
    intro z
    apply this
    simpa using z
  unfold inT
  rw [e]
  rfl
theorem dig_is (c : Nat) : inT ten c = digB c := by
  by_cases h : c < 123
  · exact dig_small c h
  · rw [big_of (n := 10) (by decide +kernel) ext10 (by omega)]
    unfold digB
    rw [decide_eq_false (show ¬ c ≤ 57 by omega), Bool.and_false]
noncomputable def wholeB (x : Str) : Bool := decide (1 ≤ x.length) && (decide (x.length ≤ 100) && (!(decide (x.cps.toList[0]? = some 48)) && x.cps.toList.all digB))
noncomputable def valN (x : Str) : Nat := digitsVal x.cps.toList
theorem len_list (x : Str) : x.cps.toList.length = x.length := by simp [Str.length]
theorem val_lt : ∀ (cs : List Nat) (a : Nat), AllDigits cs → cs.foldl (fun acc c => acc * 10 + (c - 48)) a < (a + 1) * 10 ^ cs.length
  | [], a, _ => by simp
  | c :: r, a, h => by
    have := val_lt r (a * 10 + (c - 48)) h.tail
    have hc := h.head
    rw [List.foldl_cons, List.length_cons, Nat.pow_succ]
    refine Nat.lt_of_lt_of_le this ?_
    rw [Nat.mul_comm (10 ^ r.length) 10, ← Nat.mul_assoc]
    exact Nat.mul_le_mul_right _ (by omega)
theorem whole_all {x : Str} (h : wholeB x = true) : AllDigits x.cps.toList ∧ x.cps.toList ≠ [] ∧ x.length ≤ 100 ∧ ∃ c r, x.cps.toList = c :: r ∧ 49 ≤ c := by
  unfold wholeB at h
  simp only [Bool.and_eq_true, decide_eq_true_eq, Bool.not_eq_true', decide_eq_false_iff_not, List.all_eq_true] at h
  obtain ⟨h1, h2, h3, h4⟩ := h
  have ha : AllDigits x.cps.toList := fun c hc => by
    have := h4 c hc
    unfold digB at this
    simpa using this
  have hl := len_list x
  cases e : x.cps.toList with
  | nil => rw [e] at hl; simp at hl; omega
  | cons c r =>
    refine ⟨e ▸ ha, by simp, h2, c, r, rfl, ?_⟩
    rw [e] at h3 ha
    have := ha.head
    have : c ≠ 48 := fun z => h3 (by rw [z]; rfl)
    omega
theorem char_back {cs : List Nat} (h : AllDigits cs) : (cs.map Char.ofNat).map Char.toNat = cs := by
  rw [List.map_map]
  conv => rhs; rw [← List.map_id cs]
  refine List.map_congr_left fun c hc => ?_
  have := h c hc
  have : c < 58 := by omega
  exact (show ∀ c < 58, (Char.ofNat c).toNat = c by decide) c this
theorem whole_dec {x : Str} (h : wholeB x = true) : dec (valN x) = x := by
  obtain ⟨h1, h2, h3, c, r, e, hc⟩ := whole_all h
  refine str_ext ?_
  rw [dec_cps]
  unfold valN
  rw [toDigits_digitsVal r.length x.cps.toList (by rw [e]; rfl) h1 (.inr ⟨c, r, e, hc⟩), char_back h1]
theorem whole_lt {x : Str} (h : wholeB x = true) : valN x < 10 ^ 100 := by
  obtain ⟨h1, h2, h3, _⟩ := whole_all h
  have := val_lt x.cps.toList 0 h1
  rw [len_list, Nat.zero_add, Nat.one_mul] at this
  exact Nat.lt_of_lt_of_le this (Nat.pow_le_pow_right (by decide) h3)
theorem whole_pos {x : Str} (h : wholeB x = true) : 0 < valN x := by
  obtain ⟨h1, h2, h3, c, r, e, hc⟩ := whole_all h
  rcases Nat.eq_zero_or_pos (valN x) with z | z
  · exfalso
    have e2 := whole_dec h
    rw [z] at e2
    rw [← e2] at e
    have : (dec 0).cps.toList = [48] := by decide +kernel
    rw [this] at e
    cases e
    omega
  · exact z
theorem dec_head {n : Nat} (h0 : 0 < n) : ∃ c r, (dec n).cps.toList = c :: r ∧ 49 ≤ c ∧ c ≤ 57 := by
  have ha := dg_all n
  rw [← dec_cps] at ha
  have hv : digitsVal (dec n).cps.toList = n := by rw [dec_cps, val_back']
  have t := toDigits_all _ ha
  rw [hv] at t
  have hl : (dec n).cps.toList.length = (Nat.toDigits 10 n).length := by rw [dec_cps, List.length_map]
  cases e : (dec n).cps.toList with
  | nil => rw [e] at hv; have : digitsVal [] = 0 := rfl; omega
  | cons c r =>
    have hc := ha c (by rw [e]; exact List.mem_cons_self)
    refine ⟨c, r, rfl, ?_, hc.2⟩
    by_cases z : c = 48
    · exfalso
      subst z
      rw [e, List.dropWhile_cons, if_pos (by rfl)] at t
      rw [e] at hl
      have hd : (r.dropWhile (· == 48)).length ≤ r.length := (List.dropWhile_suffix _).length_le
      split at t
      · have v := val_back' n
        rw [t] at v
        have v0 : digitsVal (['0'].map Char.toNat) = 0 := by decide
        omega
      · rename_i c2 r2 e2
        rw [t, List.length_map] at hl
        rw [e2] at hd
        simp only [List.length_cons] at hl hd
        omega
    · omega
theorem dec_all (n : Nat) : AllDigits (dec n).cps.toList := by rw [dec_cps]; exact dg_all n
theorem dec_whole {n : Nat} (h0 : 0 < n) (h : n < 10 ^ 100) : wholeB (dec n) = true ∧ valN (dec n) = n := by
  obtain ⟨c, r, e, h1, h2⟩ := dec_head h0
  have hl := len_list (dec n)
  refine ⟨?_, by unfold valN; rw [dec_cps, val_back']⟩
  unfold wholeB
  simp only [Bool.and_eq_true, decide_eq_true_eq, Bool.not_eq_true', decide_eq_false_iff_not, List.all_eq_true]
  refine ⟨by rw [e] at hl; simp at hl; omega, dec100 h, ?_, fun d hd => ?_⟩
  · rw [e]
    intro z
    have : c = 48 := by simpa using z
    omega
  · have := dec_all n d hd
    unfold digB
    simpa using this
theorem app_cut {c : Nat} : ∀ {p q X Y : List Nat}, c ∉ p → c ∉ q → p ++ c :: X = q ++ c :: Y → p = q ∧ X = Y
  | [], [], X, Y, _, _, e => by simpa using e
  | [], b :: q, X, Y, _, h, e => by
    simp only [List.nil_append, List.cons_append, List.cons.injEq] at e
    exact absurd (by rw [e.1]; exact List.mem_cons_self) h
  | a :: p, [], X, Y, h, _, e => by
    simp only [List.nil_append, List.cons_append, List.cons.injEq] at e
    exact absurd (by rw [← e.1]; exact List.mem_cons_self) h
  | a :: p, b :: q, X, Y, h1, h2, e => by
    simp only [List.cons_append, List.cons.injEq] at e
    obtain ⟨k1, k2⟩ := app_cut (p := p) (q := q) (fun z => h1 (List.mem_cons_of_mem _ z)) (fun z => h2 (List.mem_cons_of_mem _ z)) e.2
    exact ⟨by rw [e.1, k1], k2⟩
theorem join_cons (c : Nat) (p q : Str) (r : List Str) : (Str.join ⟨#[c]⟩ (p :: q :: r)).cps.toList = p.cps.toList ++ c :: (Str.join ⟨#[c]⟩ (q :: r)).cps.toList := by
  show (p ++ ⟨#[c]⟩ ++ Str.join ⟨#[c]⟩ (q :: r)).cps.toList = _
  simp only [Str.cps_append, Array.toList_append]
  simp
theorem join_inj (c : Nat) : ∀ (L M : List Str), L ≠ [] → M ≠ [] → (∀ p ∈ L, c ∉ p.cps.toList) → (∀ p ∈ M, c ∉ p.cps.toList) → (Str.join ⟨#[c]⟩ L).cps.toList = (Str.join ⟨#[c]⟩ M).cps.toList → L = M
  | [], _, h, _, _, _, _ => absurd rfl h
  | _, [], _, h, _, _, _ => absurd rfl h
  | [p], [q], _, _, _, _, e => by have e' : p = q := str_ext e; rw [e']
  | [p], q :: q' :: s, _, _, hp, _, e => by
    rw [join_cons] at e
    exact absurd (by rw [show (Str.join ⟨#[c]⟩ [p]) = p from rfl] at e; rw [e]; simp) (hp p List.mem_cons_self)
  | p :: p' :: r, [q], _, _, _, hq, e => by
    rw [join_cons] at e
    exact absurd (by rw [show (Str.join ⟨#[c]⟩ [q]) = q from rfl] at e; rw [← e]; simp) (hq q List.mem_cons_self)
  | p :: p' :: r, q :: q' :: s, _, _, hp, hq, e => by
    rw [join_cons, join_cons] at e
    obtain ⟨e1, e2⟩ := app_cut (hp p List.mem_cons_self) (hq q List.mem_cons_self) e
    have := join_inj c (p' :: r) (q' :: s) (by simp) (by simp) (fun z hz => hp z (List.mem_cons_of_mem _ hz)) (fun z hz => hq z (List.mem_cons_of_mem _ hz)) e2
    rw [str_ext e1, this]
theorem split_is {c : Nat} {u : Str} {L : List Str} (hne : L ≠ []) (hf : ∀ p ∈ L, c ∉ p.cps.toList) (e : Str.join ⟨#[c]⟩ L = u) : Txt.split u ⟨#[c]⟩ = L := by
  have h1 := PySem.StrLaws.join_split u ⟨#[c]⟩
  have h2 := PySem.StrLaws.split_free u c
  have h3 : Txt.split u ⟨#[c]⟩ ≠ [] := fun z => by
    have := PyProof.Rows.split_pos u ⟨#[c]⟩
    rw [z] at this
    simp at this
  exact join_inj c _ _ h3 hne h2 hf (by rw [h1, e])
theorem txt_join (y : Str) (L : List Str) : Txt.join y L = Str.join y L := by
  unfold Txt.join
  rw [PySem.StrLaws.glued_eq_join]
end
section
open PySem.NumText
noncomputable def fracL : List Str → Option (Int × Int)
  | [a] => if wholeB a = true then some ((valN a : Int), 1) else none
  | [a, b] => if wholeB a = true ∧ wholeB b = true ∧ valN b ≠ 1 ∧ gcdI (valN a) (valN b) = 1 then some ((valN a : Int), (valN b : Int)) else none
  | _ => none
noncomputable def fracV (x : Str) : Option (Int × Int) := fracL (Txt.split x slash)
noncomputable def tailS (x : Str) : Str := Txt.slice x (some 1) none
noncomputable def negP (p : Int × Int) : Int × Int := (-p.1, p.2)
noncomputable def numV (x : Str) : Option (Int × Int) := if x = "0" then some (0, 1) else if Txt.startswith x minus = true then (fracV (tailS x)).map negP else fracV x
structure GoodPr (p : Int × Int) : Prop where
  pos : 0 < p.2
  top : p.1.natAbs < 10 ^ 100
  bot : p.2.natAbs < 10 ^ 100
  low : gcdI p.1 p.2 = 1
noncomputable def fracW (n b : Nat) : Str := if b = 1 then dec n else dec n ++ slash ++ dec b
noncomputable def wordT (p : Int × Int) : Str := if p.1 < 0 then minus ++ fracW p.1.natAbs p.2.toNat else fracW p.1.natAbs p.2.toNat
theorem sw_minus {x : Str} : Txt.startswith x minus = true ↔ ∃ r, x.cps.toList = 45 :: r := by
  have l1 : minus.length = 1 := by decide +kernel
  have l2 : minus.cps = #[45] := by decide +kernel
  unfold Txt.startswith Builtin.Str.subAt
  rw [l1, l2]
  cases e : x.cps.toList with
  | nil =>
    have : x.length = 0 := by rw [← len_list, e]; rfl
    rw [this]
    simp
  | cons c r =>
    have hx : x = ⟨(c :: r).toArray⟩ := str_ext (by rw [e])
    subst hx
    have e1 : decide (0 + 1 ≤ (⟨(c :: r).toArray⟩ : Str).length) = true := decide_eq_true (by show 0 + 1 ≤ (c :: r).toArray.size; simp)
    rw [e1, Bool.true_and]
    have e2 : ((⟨(c :: r).toArray⟩ : Str).cps.extract 0 (0 + 1)) = #[c] := by simp
    rw [e2]
    simp
theorem tail_is {x : Str} {c : Nat} {r : List Nat} (e : x.cps.toList = c :: r) : (tailS x).cps.toList = r := by
  unfold tailS
  have hl : x.length = r.length + 1 := by rw [← len_list, e]; rfl
  rw [PyProof.Rows.slice_from_eq (b := (x.length : Int)) (by decide) (by omega) rfl]
  show (List.take _ (List.drop _ _)).toArray.toList = _
  rw [List.toList_toArray, show (1 : Int).toNat = 1 from rfl, e, hl]
  show List.take (((r.length + 1 : Nat) : Int) - 1).toNat r = r
  rw [List.take_of_length_le (by omega)]
theorem tail_minus {x : Str} (h : Txt.startswith x minus = true) : x = minus ++ tailS x := by
  obtain ⟨r, e⟩ := sw_minus.mp h
  refine str_ext ?_
  show _ = (minus.cps ++ (tailS x).cps).toList
  rw [Array.toList_append, tail_is e, e, minus_is]
  rfl
theorem head_minus {x : Str} {Q : Prop} (h : Txt.slice x none (some 1) = minus ↔ Q) : (Txt.slice x none (some 1) = minus) = Q := propext h
theorem minus_app (y : Str) : (minus ++ y).cps.toList = 45 :: y.cps.toList := by
  show (minus.cps ++ y.cps).toList = _
  rw [Array.toList_append, minus_is]
  rfl
theorem tail_app (y : Str) : tailS (minus ++ y) = y := str_ext (tail_is (minus_app y))
theorem free_dig {x : Str} {c : Nat} (h : AllDigits x.cps.toList) (hc : c < 48) : c ∉ x.cps.toList := fun z => by
  have := h c z
  omega
theorem frac_good {x : Str} {p : Int × Int} (h : fracV x = some p) : GoodPr p ∧ 0 < p.1 ∧ fracW p.1.natAbs p.2.toNat = x := by
  unfold fracV at h
  have j := PySem.StrLaws.join_split x slash
  match e : Txt.split x slash with
  | [] => rw [e] at h; cases h
  | [a] =>
    rw [e] at h j
    have j' : a = x := j
    have h : (if wholeB a = true then some ((valN a : Int), (1 : Int)) else none) = some p := h
    split at h
    · rename_i ha
      cases h
      have h1 := whole_pos ha
      have h2 := whole_lt ha
      refine ⟨⟨by show (0 : Int) < 1; decide, h2, by show (1 : Int).natAbs < 10 ^ 100; decide, by show gcdI _ 1 = 1; unfold gcdI; simp⟩, by show (0 : Int) < (valN a : Int); omega, ?_⟩
      show fracW (valN a : Int).natAbs 1 = x
      unfold fracW
      rw [if_pos rfl, Int.natAbs_natCast, whole_dec ha, j']
    · cases h
  | [a, b] =>
    rw [e] at h j
    have j' : a ++ slash ++ b = x := j
    have h : (if wholeB a = true ∧ wholeB b = true ∧ valN b ≠ 1 ∧ gcdI (valN a) (valN b) = 1 then some ((valN a : Int), (valN b : Int)) else none) = some p := h
    split at h
    · rename_i hh
      obtain ⟨ha, hb, hn, hg⟩ := hh
      cases h
      have h1 := whole_pos ha
      have h2 := whole_lt ha
      have h3 := whole_pos hb
      have h4 := whole_lt hb
      refine ⟨⟨by show (0 : Int) < (valN b : Int); omega, h2, h4, hg⟩, by show (0 : Int) < (valN a : Int); omega, ?_⟩
      show fracW (valN a : Int).natAbs (valN b : Int).toNat = x
      unfold fracW
      rw [Int.toNat_natCast, if_neg hn, Int.natAbs_natCast, whole_dec ha, whole_dec hb, j']
    · cases h
  | a :: b :: c :: r => rw [e] at h; cases h
theorem frac_back {n b : Nat} (h1 : 0 < n) (h2 : n < 10 ^ 100) (h3 : 0 < b) (h4 : b < 10 ^ 100) (hg : gcdI (n : Int) (b : Int) = 1) : fracV (fracW n b) = some ((n : Int), (b : Int)) := by
  obtain ⟨w1, w2⟩ := dec_whole h1 h2
  obtain ⟨w3, w4⟩ := dec_whole h3 h4
  unfold fracW fracV
  by_cases z : b = 1
  · rw [if_pos z, slash_is, split_is (c := 47) (u := dec n) (L := [dec n]) (by simp) (fun p hp => by rw [List.mem_singleton.mp hp]; exact free_dig (dec_all n) (by decide)) rfl]
    show (if wholeB (dec n) = true then some ((valN (dec n) : Int), (1 : Int)) else none) = _
    rw [if_pos w1, w2, z]
    rfl
  · rw [if_neg z, slash_is, split_is (c := 47) (u := dec n ++ ⟨#[47]⟩ ++ dec b) (L := [dec n, dec b]) (by simp) (fun p hp => by
      rcases List.mem_cons.mp hp with q | q
      · rw [q]; exact free_dig (dec_all n) (by decide)
      · rw [List.mem_singleton.mp q]; exact free_dig (dec_all b) (by decide)) rfl]
    show (if wholeB (dec n) = true ∧ wholeB (dec b) = true ∧ valN (dec b) ≠ 1 ∧ gcdI (valN (dec n)) (valN (dec b)) = 1 then some ((valN (dec n) : Int), (valN (dec b) : Int)) else none) = _
    rw [if_pos ⟨w1, w3, by rw [w4]; exact z, by rw [w2, w4]; exact hg⟩, w2, w4]
theorem gcd_negL (a b : Int) : gcdI (-a) b = gcdI a b := by unfold gcdI; simp [Int.gcd]
theorem dec0 : dec 0 = "0" := by decide +kernel
theorem num_good {x : Str} {p : Int × Int} (h : numV x = some p) : GoodPr p ∧ wordT p = x := by
  unfold numV at h
  split at h
  · rename_i e
    cases h
    refine ⟨⟨by decide, by decide, by decide, by decide⟩, ?_⟩
    rw [e]
    decide +kernel
  · split at h
    · rename_i hs
      cases e : fracV (tailS x) with
      | none => rw [e] at h; cases h
      | some q =>
        rw [e] at h
        have h' : negP q = p := by simpa using h
        obtain ⟨g, g2, g3⟩ := frac_good e
        subst h'
        refine ⟨⟨g.pos, by show (-q.1).natAbs < _; rw [Int.natAbs_neg]; exact g.top, g.bot, by show gcdI (-q.1) q.2 = 1; rw [gcd_negL]; exact g.low⟩, ?_⟩
        unfold wordT
        rw [if_pos (show (negP q).1 < 0 by show -q.1 < 0; omega)]
        show minus ++ fracW (-q.1).natAbs q.2.toNat = x
        rw [Int.natAbs_neg, g3]
        exact (tail_minus hs).symm
    · obtain ⟨g, g2, g3⟩ := frac_good h
      refine ⟨g, ?_⟩
      unfold wordT
      rw [if_neg (by omega)]
      exact g3
theorem fracW_head {n b : Nat} (h : 0 < n) : ∃ c r, (fracW n b).cps.toList = c :: r ∧ 49 ≤ c ∧ c ≤ 57 := by
  obtain ⟨c, r, e, h1, h2⟩ := dec_head h
  unfold fracW
  split
  · exact ⟨c, r, e, h1, h2⟩
  · refine ⟨c, r ++ (slash ++ dec b).cps.toList, ?_, h1, h2⟩
    rw [app_assoc]
    show ((dec n).cps ++ (slash ++ dec b).cps).toList = _
    rw [Array.toList_append, e]
    rfl
theorem zero_cps : ("0" : Str).cps.toList = [48] := by decide +kernel
theorem num_back {p : Int × Int} (g : GoodPr p) : numV (wordT p) = some p := by
  obtain ⟨a, b⟩ := p
  have hb : 0 < b := g.pos
  have hb2 : b.natAbs < 10 ^ 100 := g.bot
  have ha : a.natAbs < 10 ^ 100 := g.top
  have hg : gcdI a b = 1 := g.low
  unfold wordT
  show numV (if a < 0 then minus ++ fracW a.natAbs b.toNat else fracW a.natAbs b.toNat) = some (a, b)
  have hbn : b.toNat = b.natAbs := by omega
  by_cases z : a = 0
  · subst z
    have b1 : b = 1 := by
      unfold gcdI at hg
      rw [Int.gcd_zero_left] at hg
      omega
    subst b1
    rw [if_neg (by decide)]
    have : fracW (0 : Int).natAbs (1 : Int).toNat = "0" := dec0
    rw [this]
    unfold numV
    rw [if_pos rfl]
  · have hn : 0 < a.natAbs := by omega
    have key : fracV (fracW a.natAbs b.toNat) = some ((a.natAbs : Int), b) := by
      rw [frac_back hn ha (by omega) (by omega) (by
        rw [show ((b.toNat : Nat) : Int) = b by omega]
        unfold gcdI at hg ⊢
        rw [← hg]
        simp [Int.gcd])]
      rw [show ((b.toNat : Nat) : Int) = b by omega]
    obtain ⟨c, r, e, h1, h2⟩ := fracW_head (b := b.toNat) hn
    by_cases s : a < 0
    · rw [if_pos s]
      unfold numV
      rw [if_neg (fun q => by
        have q2 := minus_app (fracW a.natAbs b.toNat)
        rw [q, zero_cps] at q2
        cases q2), if_pos (sw_minus.mpr ⟨_, minus_app _⟩), tail_app, key]
      show some (-(a.natAbs : Int), b) = some (a, b)
      rw [show -(a.natAbs : Int) = a by omega]
    · rw [if_neg s]
      unfold numV
      rw [if_neg (fun q => by
        rw [q, zero_cps] at e
        cases e
        omega), if_neg (fun q => by
        obtain ⟨r', e'⟩ := sw_minus.mp q
        rw [e] at e'
        cases e'
        omega), key]
      rw [show (a.natAbs : Int) = a by omega]
theorem word_free {p : Int × Int} : 44 ∉ (wordT p).cps.toList := by
  have hf : ∀ n b : Nat, 44 ∉ (fracW n b).cps.toList := fun n b => by
    unfold fracW
    split
    · exact free_dig (dec_all n) (by decide)
    · show 44 ∉ ((dec n).cps ++ slash.cps ++ (dec b).cps).toList
      rw [Array.toList_append, Array.toList_append, slash_is]
      simp only [List.mem_append, not_or]
      exact ⟨⟨free_dig (dec_all n) (by decide), by simp⟩, free_dig (dec_all b) (by decide)⟩
  unfold wordT
  split
  · rw [minus_app]
    simp only [List.mem_cons, not_or]
    exact ⟨by decide, hf _ _⟩
  · exact hf _ _
theorem slash_len : slash.length = 1 := by decide +kernel
theorem minus_len : minus.length = 1 := by decide +kernel
theorem fracW_len {n b : Nat} (h1 : n < 10 ^ 100) (h2 : b < 10 ^ 100) : (fracW n b).length ≤ 201 := by
  have d1 := dec100 h1
  have d2 := dec100 h2
  unfold fracW
  split
  · omega
  · rw [len_app, len_app, slash_len]; omega
theorem word_len {p : Int × Int} (g : GoodPr p) : (wordT p).length ≤ 202 := by
  have := fracW_len g.top (b := p.2.toNat) (by have := g.bot; have := g.pos; omega)
  unfold wordT
  split
  · rw [len_app, minus_len]; omega
  · omega
/-- a text with a minus ahead -/
theorem slice1 (x : Str) : (Txt.slice x none (some 1) = minus) ↔ Txt.startswith x minus = true := by
  rw [sw_minus]
  cases e : x.cps.toList with
  | nil =>
    have h0 : x.length = 0 := by rw [← len_list, e]; rfl
    constructor
    · intro h
      have := PyProof.Txt.length_slice_le x none (some 1)
      rw [h, minus_len] at this
      omega
    · rintro ⟨r, h⟩
      cases h
  | cons c r =>
    have hl : x.length = r.length + 1 := by rw [← len_list, e]; rfl
    have k := beq_iff_eq.mp (PyProof.Rows.slice_closes_toL (x := x) (j := 1) (by decide) (by omega))
    rw [e] at k
    have k' : Txt.slice x none (some 1) = ⟨#[c]⟩ := k
    rw [k', minus_is]
    constructor
    · intro h
      have : c = 45 := by simpa using h
      exact ⟨r, by rw [this]⟩
    · rintro ⟨r', h⟩
      cases h
      rfl
end
section
/-- what the law puts under all: the least multiple -/
noncomputable def lawU (ps : List (Int × Int)) : Int := ps.foldl (fun u p => (u * p.2).fdiv (gcdI u p.2)) 1
noncomputable def lawT (ps : List (Int × Int)) : List Int := ps.map fun p => p.1 * (lawU ps).fdiv p.2
noncomputable def proU (ps : List (Int × Int)) : Int := ps.foldl (fun u p => u * p.2) 1
noncomputable def proT (ps : List (Int × Int)) : List Int := ps.map fun p => p.1 * (proU ps).fdiv p.2
theorem lcm_step {u b : Int} (hu : 0 < u) (hb : 0 < b) : (u * b).fdiv (gcdI u b) = (Int.lcm u b : Int) := by
  have g : 0 < gcdI u b := by
    unfold gcdI
    have := Int.gcd_pos_of_ne_zero_left (a := u) b (by omega)
    omega
  have e : (Int.gcd u b : Int) * (Int.lcm u b : Int) = u * b := by
    have := Int.gcd_mul_lcm u b
    have h2 : ((Int.gcd u b * Int.lcm u b : Nat) : Int) = ((u.natAbs * b.natAbs : Nat) : Int) := by rw [this]
    push_cast at h2
    rw [show (u.natAbs : Int) = u by omega, show (b.natAbs : Int) = b by omega] at h2
    exact h2
  rw [← e]
  unfold gcdI at g ⊢
  rw [Int.mul_comm, Int.mul_fdiv_cancel _ (by omega)]
theorem fold_lcm : ∀ (ps : List (Int × Int)) (u : Int), 0 < u → (∀ p ∈ ps, 0 < p.2) → 0 < ps.foldl (fun u p => (u * p.2).fdiv (gcdI u p.2)) u ∧ u ∣ ps.foldl (fun u p => (u * p.2).fdiv (gcdI u p.2)) u ∧ (∀ p ∈ ps, p.2 ∣ ps.foldl (fun u p => (u * p.2).fdiv (gcdI u p.2)) u) ∧ ∀ m : Int, u ∣ m → (∀ p ∈ ps, p.2 ∣ m) → ps.foldl (fun u p => (u * p.2).fdiv (gcdI u p.2)) u ∣ m
  | [], u, hu, _ => ⟨hu, Int.dvd_refl _, fun p hp => by simp at hp, fun m h _ => h⟩
  | q :: r, u, hu, h => by
    have hq := h q List.mem_cons_self
    have e := lcm_step hu hq
    have hp : 0 < (Int.lcm u q.2 : Int) := by
      have := Int.lcm_pos (m := u) (n := q.2) (by omega) (by omega)
      omega
    obtain ⟨h1, h2, h3, h4⟩ := fold_lcm r (Int.lcm u q.2 : Int) hp fun p hp => h p (List.mem_cons_of_mem _ hp)
    rw [List.foldl_cons, e]
    refine ⟨h1, Int.dvd_trans (Int.dvd_lcm_left u q.2) h2, fun p hp => ?_, fun m k1 k2 => ?_⟩
    · rcases List.mem_cons.mp hp with z | z
      · rw [z]; exact Int.dvd_trans (Int.dvd_lcm_right u q.2) h2
      · exact h3 p z
    · exact h4 m (Int.coe_lcm_dvd k1 (k2 q List.mem_cons_self)) fun p hp => k2 p (List.mem_cons_of_mem _ hp)
theorem fold_pro : ∀ (ps : List (Int × Int)) (u : Int), 0 < u → (∀ p ∈ ps, 0 < p.2) → 0 < ps.foldl (fun u p => u * p.2) u ∧ u ∣ ps.foldl (fun u p => u * p.2) u ∧ ∀ p ∈ ps, p.2 ∣ ps.foldl (fun u p => u * p.2) u
  | [], u, hu, _ => ⟨hu, Int.dvd_refl _, fun p hp => by simp at hp⟩
  | q :: r, u, hu, h => by
    have hq := h q List.mem_cons_self
    obtain ⟨h1, h2, h3⟩ := fold_pro r (u * q.2) (Int.mul_pos hu hq) fun p hp => h p (List.mem_cons_of_mem _ hp)
    rw [List.foldl_cons]
    refine ⟨h1, Int.dvd_trans ⟨q.2, rfl⟩ h2, fun p hp => ?_⟩
    rcases List.mem_cons.mp hp with z | z
    · rw [z]; exact Int.dvd_trans ⟨u, by rw [Int.mul_comm]⟩ h2
    · exact h3 p z
theorem lawU_pos {ps : List (Int × Int)} (h : ∀ p ∈ ps, GoodPr p) : 0 < lawU ps := (fold_lcm ps 1 (by decide) fun p hp => (h p hp).pos).1
theorem lawU_dvd {ps : List (Int × Int)} (h : ∀ p ∈ ps, GoodPr p) : ∀ p ∈ ps, p.2 ∣ lawU ps := (fold_lcm ps 1 (by decide) fun p hp => (h p hp).pos).2.2.1
theorem lawU_least {ps : List (Int × Int)} (h : ∀ p ∈ ps, GoodPr p) {m : Int} (k : ∀ p ∈ ps, p.2 ∣ m) : lawU ps ∣ m := (fold_lcm ps 1 (by decide) fun p hp => (h p hp).pos).2.2.2 m (Int.one_dvd _) k
theorem proU_pos {ps : List (Int × Int)} (h : ∀ p ∈ ps, GoodPr p) : 0 < proU ps := (fold_pro ps 1 (by decide) fun p hp => (h p hp).pos).1
theorem proU_dvd {ps : List (Int × Int)} (h : ∀ p ∈ ps, GoodPr p) : ∀ p ∈ ps, p.2 ∣ proU ps := (fold_pro ps 1 (by decide) fun p hp => (h p hp).pos).2.2
theorem mul_div {u b : Int} (hb : 0 < b) (h : b ∣ u) : u.fdiv b * b = u := fdiv_exact (by omega) h
/-- the law's place is in lowest terms -/
theorem law_low {ps : List (Int × Int)} (h : ∀ p ∈ ps, GoodPr p) : gl (lawU ps) (lawT ps) = 1 := by
  have hu := lawU_pos h
  have hu0 : lawU ps ≠ 0 := by omega
  have g0 := gl_pos (lawT ps) hu0
  have d0 := gl_u (lawU ps) (lawT ps)
  obtain ⟨m, em⟩ := d0
  have hd : lawU ps ∣ m := by
    refine lawU_least h fun p hp => ?_
    have gp := h p hp
    have d1 : gl (lawU ps) (lawT ps) ∣ p.1 * (lawU ps).fdiv p.2 := gl_mem (List.mem_map.mpr ⟨p, hp, rfl⟩)
    obtain ⟨n, en⟩ := d1
    have e2 := mul_div gp.pos (lawU_dvd h p hp)
    generalize (lawU ps).fdiv p.2 = f at *
    have e3 : p.1 * m = n * p.2 := by
      have : gl (lawU ps) (lawT ps) * (p.1 * m) = gl (lawU ps) (lawT ps) * (n * p.2) := by
        calc gl (lawU ps) (lawT ps) * (p.1 * m) = p.1 * (gl (lawU ps) (lawT ps) * m) := by grind
          _ = p.1 * lawU ps := by rw [← em]
          _ = p.1 * (f * p.2) := by rw [e2]
          _ = p.1 * f * p.2 := by rw [Int.mul_assoc]
          _ = gl (lawU ps) (lawT ps) * n * p.2 := by rw [en]
          _ = _ := by rw [Int.mul_assoc]
      exact Int.eq_of_mul_eq_mul_left (by omega) this
    have lo := gp.low
    unfold gcdI at lo
    have lo' : Int.gcd p.2 p.1 = 1 := by rw [Int.gcd_comm]; omega
    have dd : p.2 ∣ p.1 * m := ⟨n, by rw [e3, Int.mul_comm]⟩
    have dn := Int.natAbs_dvd_natAbs.mpr dd
    rw [Int.natAbs_mul] at dn
    exact Int.natAbs_dvd_natAbs.mp (Nat.Coprime.dvd_of_dvd_mul_left (show Nat.Coprime p.2.natAbs p.1.natAbs from lo') dn)
  have hm : 0 < m := by
    rcases Int.lt_trichotomy m 0 with z | z | z
    · have := Int.mul_neg_of_pos_of_neg g0 z; omega
    · rw [z, Int.mul_zero] at em; omega
    · exact z
  have le := Int.le_of_dvd hm hd
  have : gl (lawU ps) (lawT ps) * m ≤ 1 * m := by rw [← em]; omega
  have := Int.le_of_mul_le_mul_right this hm
  omega
theorem law_is_red {ps : List (Int × Int)} (h : ∀ p ∈ ps, GoodPr p) : redT (proU ps) (proT ps) = lawT ps ∧ redU (proU ps) (proT ps) = lawU ps := by
  have hp := proU_pos h
  have hl := lawU_pos h
  have p0 : proU ps ≠ 0 := by omega
  refine low_uniq (under_pos _ p0) hl (gl_red p0) (law_low h) (by simp [redT, proT, lawT]) fun i x y ex ey => ?_
  have e1 : ∃ p, ps[i]? = some p := by
    cases e : ps[i]? with
    | none => unfold lawT at ey; rw [List.getElem?_map, e] at ey; cases ey
    | some p => exact ⟨p, rfl⟩
  obtain ⟨p, e⟩ := e1
  have hm := List.mem_of_getElem? e
  have gp := h p hm
  have ea : (proT ps)[i]? = some (p.1 * (proU ps).fdiv p.2) := by unfold proT; rw [List.getElem?_map, e]; rfl
  have eb : y = p.1 * (lawU ps).fdiv p.2 := by unfold lawT at ey; rw [List.getElem?_map, e] at ey; cases ey; rfl
  have k := red_cross p0 ea ex
  have k1 := mul_div gp.pos (proU_dvd h p hm)
  have k2 := mul_div gp.pos (lawU_dvd h p hm)
  rw [eb]
  generalize (proU ps).fdiv p.2 = f1 at *
  generalize (lawU ps).fdiv p.2 = f2 at *
  generalize redU (proU ps) (proT ps) = r at *
  generalize proU ps = pu at *
  generalize lawU ps = lu at *
  have b0 : p.2 ≠ 0 := by have := gp.pos; omega
  have f0 : f1 ≠ 0 := fun z => by rw [z, Int.zero_mul] at k1; omega
  refine Int.eq_of_mul_eq_mul_left (a := f1 * p.2) (by rw [k1]; omega) ?_
  have : x * (f1 * p.2) = p.1 * f1 * r := by rw [k1]; exact k.symm
  calc f1 * p.2 * (x * lu) = x * (f1 * p.2) * lu := by grind
    _ = p.1 * f1 * r * lu := by rw [this]
    _ = f1 * p.2 * (p.1 * f2 * r) := by rw [← k2]; grind
theorem pro_le : ∀ (ps : List (Int × Int)) (u : Int), 0 < u → (∀ p ∈ ps, GoodPr p) → ∀ k : Nat, u < 10 ^ k → ps.foldl (fun u p => u * p.2) u < 10 ^ (k + 100 * ps.length)
  | [], u, _, _, k, h => by simpa using h
  | q :: r, u, hu, h, k, hk => by
    have hq := h q List.mem_cons_self
    have h2 : q.2 < 10 ^ 100 := by have := hq.bot; have := hq.pos; omega
    have := pro_le r (u * q.2) (Int.mul_pos hu hq.pos) (fun p hp => h p (List.mem_cons_of_mem _ hp)) (k + 100) (by
      rw [Int.pow_add]
      have a1 : u * q.2 < u * 10 ^ 100 := Int.mul_lt_mul_of_pos_left h2 hu
      have a2 : u * 10 ^ 100 < 10 ^ k * 10 ^ 100 := Int.mul_lt_mul_of_pos_right hk (by decide)
      omega)
    rw [List.foldl_cons, List.length_cons]
    rw [show k + 100 * (r.length + 1) = k + 100 + 100 * r.length by omega]
    exact this
theorem law_le {ps : List (Int × Int)} (h : ∀ p ∈ ps, GoodPr p) : lawU ps ≤ proU ps := Int.le_of_dvd (proU_pos h) (lawU_least h (proU_dvd h))
end
noncomputable def okL (L : List Str) : Prop := (L.length = 2 ∨ L.length = 3) ∧ ∀ x ∈ L, ∃ p, numV x = some p
noncomputable def numG (x : Str) : Int × Int := (numV x).getD (0, 1)
noncomputable def prs (L : List Str) : List (Int × Int) := L.map numG
noncomputable def tupP (p : Int × Int) : HO := .tup [.int p.1, .int p.2]
noncomputable def PairsL (H : Hp) (l : Addr) (ps : List (Int × Int)) : Prop := ∃ ys, H l = some (.lst ys) ∧ ys.length = ps.length ∧ ∀ (j : Nat) (y : V), ys[j]? = some y → ∃ a p, y = .ref a ∧ ps[j]? = some p ∧ H a = some (tupP p)
theorem PairsL.up {H H' : Hp} {l : Addr} {ps : List (Int × Int)} (h : PairsL H l ps) (s : Same H H') : PairsL H' l ps := let ⟨ys, h1, h2, h3⟩ := h; ⟨ys, s _ _ h1, h2, fun j y e => let ⟨a, p, k1, k2, k3⟩ := h3 j y e; ⟨a, p, k1, k2, s _ _ k3⟩⟩
noncomputable def sgnV (x : Str) : Option (Int × Int) := if Txt.startswith x minus = true then (fracV (tailS x)).map negP else fracV x
noncomputable def sp_fraction_text : Sp := fun vs H Q _ => ∃ (n b : Nat) (m : Int), vs = [.int ((n : Int) * m), .int ((b : Int) * m)] ∧ 0 < m ∧ 0 < b ∧ n < 10 ^ 100 ∧ b < 10 ^ 100 ∧ gcdI (n : Int) (b : Int) = 1 ∧ small ((b : Int) * m) ∧ ∀ H', Same H H' → Q (.str (fracW n b)) H'
noncomputable def sp_number_text : Sp := fun vs H Q _ => ∃ (p : Int × Int) (m : Int), vs = [.int (p.1 * m), .int (p.2 * m)] ∧ 0 < m ∧ GoodPr p ∧ small (p.2 * m) ∧ ∀ H', Same H H' → Q (.str (wordT p)) H'
noncomputable def sp_show_place (K : PySem.W.Frag) : Sp := fun vs H Q _ => ∃ (q : Addr) (u : Int) (ps : List (Int × Int)), vs = [.ref q] ∧ PlaceAt H q (ps.map fun p => p.1 * u.fdiv p.2) u ∧ 0 < u ∧ small u ∧ ps.length ≤ 3 ∧ (∀ p ∈ ps, GoodPr p ∧ p.2 ∣ u) ∧ ∀ H', Same H H' → Q (.str (Txt.join comma (ps.map wordT))) H'
noncomputable def sp_read_whole (C : Addr) : Sp := fun vs H Q E => ∃ x : Str, vs = [.str x] ∧ x.length ≤ 1500 ∧ (wholeB x = false → E (.ref C) none H) ∧ (wholeB x = true → Q (.int (valN x)) H)
noncomputable def sp_read_opt (f : Str → Option (Int × Int)) (C : Addr) : Sp := fun vs H Q E => ∃ x : Str, vs = [.str x] ∧ x.length ≤ 1500 ∧ (f x = none → ∀ H', Same H H' → E (.ref C) none H') ∧ (∀ p, f x = some p → ∀ a H', Same H H' → H' a = some (tupP p) → Q (.ref a) H')
noncomputable abbrev sp_read_fraction (_ : PySem.W.Frag) (C : Addr) : Sp := sp_read_opt fracV C
noncomputable abbrev sp_read_signed (_ : PySem.W.Frag) (C : Addr) : Sp := sp_read_opt sgnV C
noncomputable abbrev sp_read_number (_ : PySem.W.Frag) (C : Addr) : Sp := sp_read_opt numV C
noncomputable def sp_parts_of (K : PySem.W.Frag) (C : Addr) : Sp := fun vs H Q E => ∃ x : Str, vs = [.str x] ∧ x.length ≤ 1500 ∧ (¬ ((Txt.split x comma).length = 2 ∨ (Txt.split x comma).length = 3) → ∀ H', Same H H' → E (.ref C) none H') ∧
  (((Txt.split x comma).length = 2 ∨ (Txt.split x comma).length = 3) → ∀ l H', Same H H' → H' l = some (.lst ((Txt.split x comma).map V.str)) → Q (.ref l) H')
noncomputable def sp_common_under (K : PySem.W.Frag) : Sp := fun vs H Q _ => ∃ (l : Addr) (ps : List (Int × Int)), vs = [.ref l] ∧ PairsL H l ps ∧ ps.length ≤ 3 ∧ (∀ p ∈ ps, GoodPr p) ∧ ∀ a q H', Same H H' → H' a = some (.tup [.ref q, .int (proU ps)]) → H' q = some (.lst ((proT ps).map V.int)) → Q (.ref a) H'
noncomputable def sp_read_place (K : PySem.W.Frag) (C : Addr) : Sp := fun vs H Q E => ∃ x : Str, vs = [.str x] ∧ x.length ≤ 1500 ∧ (¬ okL (Txt.split x comma) → ∀ H', Same H H' → E (.ref C) none H') ∧ (okL (Txt.split x comma) → ∀ q H', Same H H' → PlaceAt H' q (lawT (prs (Txt.split x comma))) (lawU (prs (Txt.split x comma))) → Q (.ref q) H')
noncomputable def sp_law_great : Sp := fun vs H Q _ => ∃ c : Int, vs = [.int c] ∧ Builtin.Int.intBits c ≤ 1100000 ∧ ∀ v : Int, 0 < v → v < 10 ^ 100 → Q (.int v) H
noncomputable def sp_law_share (K : PySem.W.Frag) : Sp := fun vs H Q _ => ∃ c o : Int, vs = [.int c, .int o] ∧ Builtin.Int.intBits c ≤ 1100000 ∧ Builtin.Int.intBits o ≤ 1100000 ∧ ∀ (a : Addr) (p : Int × Int) H', Same H H' → GoodPr p → H' a = some (tupP p) → Q (.ref a) H'
noncomputable def sp_law_word (K : PySem.W.Frag) : Sp := fun vs H Q _ => ∃ (a : Addr) (p : Int × Int), vs = [.ref a] ∧ H a = some (tupP p) ∧ GoodPr p ∧ Q (.str (wordT p)) H
noncomputable def sp_law_place (K : PySem.W.Frag) : Sp := fun vs H Q _ => ∃ (l : Addr) (ps : List (Int × Int)), vs = [.ref l] ∧ PairsL H l ps ∧ ps.length ≤ 3 ∧ (∀ p ∈ ps, GoodPr p) ∧ ∀ q H', Same H H' → PlaceAt H' q (lawT ps) (lawU ps) → Q (.ref q) H'
noncomputable def sp_law_number : Sp := fun vs H Q _ => ∃ x : Str, vs = [.str x] ∧ x.length ≤ 1500 ∧ Q (.int (if wholeB x = true then (valN x : Int) else 0)) H
noncomputable def sp_law_read (K : PySem.W.Frag) : Sp := fun vs H Q _ => ∃ x : Str, vs = [.str x] ∧ x.length ≤ 1500 ∧ (numV x = none → ∀ H', Same H H' → Q .non H') ∧ (∀ p, numV x = some p → ∀ a H', Same H H' → H' a = some (tupP p) → Q (.ref a) H')
noncomputable def sp_law_due (K : PySem.W.Frag) : Sp := fun vs H Q _ => ∃ x : Str, vs = [.str x] ∧ x.length ≤ 1500 ∧ (¬ okL (Txt.split x comma) → ∀ H', Same H H' → Q .non H') ∧ (okL (Txt.split x comma) → ∀ q H', Same H H' → PlaceAt H' q (lawT (prs (Txt.split x comma))) (lawU (prs (Txt.split x comma))) → Q (.ref q) H')
noncomputable def sp_law_other : Sp := fun vs H Q _ => ∃ (x : Str) (c s : Int), vs = [.str x, .int c, .int s] ∧ x.length ≤ 700 ∧ ∀ (y : Str) H', Same H H' → y.length ≤ 1500 → Q (.str y) H'
noncomputable def sp_law_is (K : PySem.W.Frag) : Sp := fun vs H Q _ => ∃ (p q : Addr) (ts : List Int) (u : Int), vs = [.ref p, .ref q] ∧ PlaceAt H p ts u ∧ PlaceAt H q ts u ∧ ts.length ≤ 100 ∧ ∀ H', Same H H' → Q (.bl true) H'
noncomputable def sp_law_only (C : Addr) : Sp := fun vs H Q _ => ∃ e, vs = [.ref e] ∧ H e = some (ExcAt e (.ref C)) ∧ Q (.bl true) H
noncomputable def sp_law_right (K : PySem.W.Frag) : Sp := fun vs H Q _ => ∃ x : Str, vs = [.str x] ∧ x.length ≤ 1500 ∧ ∀ H', Same H H' → Q (.bl true) H'
theorem ecls (T : Txt K mg t) : ExcCls K t.a_NoText := ⟨T.e_ga, T.e_gt, T.e_ca, T.e_cg, T.e_tk, T.e_ob, T.e_bx, by
  have q := T.e_ob
  unfold PySem.W.mroIn at q
  cases e : PySem.W.clsIn K t.a_NoText with
  | none => rw [e] at q; cases q
  | some c => rfl⟩
theorem parts_le (u : Str) (y : Str) (h : u.length ≤ 2000) : (Builtin.Str.partsBetween u (Builtin.Str.occurrences u y 0 u.length (u.length + 1)) y.length).length ≤ 2002 := by
  rw [PyProof.Rows.len_partsBetween]
  have := PySem.StrLaws.occ_length_le u y 0 u.length (u.length + 1)
  omega
theorem cut_ne (u y : Str) : 1 ≤ (Txt.split u y).length := PyProof.Rows.split_pos u y
theorem part_le {u x y : Str} (h : x ∈ Txt.split u y) : x.length ≤ u.length := by
  unfold Txt.split at h
  split at h
  · rw [List.mem_singleton.mp h]; exact Nat.le_refl _
  · split at h
    · rw [List.mem_singleton.mp h]; exact Nat.le_refl _
    · unfold Builtin.Str.partsBetween at h
      obtain ⟨⟨i, j⟩, _, rfl⟩ := List.mem_map.mp h
      exact strSub_length_le u i j
theorem slash_len0 : (slash.length == 0) = false := by decide +kernel
theorem comma_len0 : (comma.length == 0) = false := by decide +kernel
theorem num_some {x : Str} {p : Int × Int} (h : numV x = some p) : numG x = p := by unfold numG; rw [h]; rfl
theorem prs_good {L : List Str} (h : okL L) : ∀ p ∈ prs L, GoodPr p := fun p hp => by
  obtain ⟨x, hx, rfl⟩ := List.mem_map.mp hp
  obtain ⟨q, e⟩ := h.2 x hx
  rw [num_some e]
  exact (num_good e).1
theorem prs_len (L : List Str) : (prs L).length = L.length := by unfold prs; simp
theorem prs_words {L : List Str} (h : okL L) : (prs L).map wordT = L := by
  unfold prs
  rw [List.map_map]
  conv => rhs; rw [← List.map_id L]
  refine List.map_congr_left fun x hx => ?_
  obtain ⟨q, e⟩ := h.2 x hx
  show wordT (numG x) = x
  rw [num_some e]
  exact (num_good e).2
theorem proU_small {ps : List (Int × Int)} (h : ∀ p ∈ ps, GoodPr p) (hl : ps.length ≤ 3) : small (proU ps) := by
  have h1 := proU_pos h
  have h2 := pro_le ps 1 (by decide) h 1 (by decide)
  have h3 : (10 : Int) ^ (1 + 100 * ps.length) ≤ 10 ^ 301 := by
    have : (10 : Nat) ^ (1 + 100 * ps.length) ≤ 10 ^ 301 := Nat.pow_le_pow_right (by decide) (by omega)
    exact_mod_cast this
  unfold small
  have h4 : (proU ps).natAbs < 10 ^ 301 := by
    have e : ((proU ps).natAbs : Int) = proU ps := by omega
    have : ((proU ps).natAbs : Int) < 10 ^ 301 := by rw [e]; exact Int.lt_of_lt_of_le h2 h3
    exact_mod_cast this
  exact Nat.lt_of_lt_of_le h4 (show (10 : Nat) ^ 301 ≤ 2 ^ 8990 from Nat.le_trans (show (10 : Nat) ^ 301 ≤ 2 ^ 2000 by decide +kernel) (Nat.pow_le_pow_right (by decide) (by decide)))
theorem lawU_small {ps : List (Int × Int)} (h : ∀ p ∈ ps, GoodPr p) (hl : ps.length ≤ 3) : small (lawU ps) := by
  have := proU_small h hl
  have := law_le h
  have := lawU_pos h
  unfold small at *
  omega
theorem digs_all {x : Str} (h : wholeB x = true) : intText? x = some ((valN x : Nat) : Int) := PySem.intText_digits (whole_all h).1 (whole_all h).2.1 (by have := (whole_all h).2.2.1; omega)
theorem one_of {x : Str} : 1 ≤ x.length ↔ ¬ V.str x = V.str (Str.ofString "") := by
  constructor
  · intro h e
    have e2 : x = Str.ofString "" := by injection e
    rw [e2] at h
    exact absurd h (by decide +kernel)
  · intro h
    rcases Nat.eq_zero_or_pos x.length with z | z
    · refine absurd ?_ h
      obtain ⟨a⟩ := x
      have : a = #[] := Array.eq_empty_of_size_eq_zero z
      rw [this]
      rfl
    · exact z
theorem sw_zero {x : Str} : Txt.startswith x (Str.ofString "0") = decide (x.cps.toList[0]? = some 48) := by
  have l1 : (Str.ofString "0").length = 1 := by decide +kernel
  have l2 : (Str.ofString "0").cps = #[48] := by decide +kernel
  unfold Txt.startswith Builtin.Str.subAt
  rw [l1, l2]
  cases e : x.cps.toList with
  | nil =>
    have : x.length = 0 := by rw [← len_list, e]; rfl
    rw [this]
    simp
  | cons c r =>
    have hx : x = ⟨(c :: r).toArray⟩ := str_ext (by rw [e])
    subst hx
    have e1 : decide (0 + 1 ≤ (⟨(c :: r).toArray⟩ : Str).length) = true := decide_eq_true (by show 0 + 1 ≤ (c :: r).toArray.size; simp)
    rw [e1, Bool.true_and]
    have e2 : ((⟨(c :: r).toArray⟩ : Str).cps.extract 0 (0 + 1)) = #[c] := by simp
    rw [e2]
    by_cases z : c = 48
    · subst z; rfl
    · simp [z]
theorem cg_seqP {K : PySem.W.Frag} {l a : Addr} {ys0 : List V} {ps : List (Int × Int)} {te : TE} {fr : List (Str × Nat)} {σ : St} {H : Hp} {Q : VK} (R : Nat → V → Hp → Prop) (ha : H a = none) (hl : H l = some (.lst ys0))
    (pk : ∀ (j : Nat) (y : V), ys0[j]? = some y → ∃ a p, y = .ref a ∧ ps[j]? = some p ∧ H a = some (tupP p)) (hz : ys0.length ≤ 1000) (mono : ∀ i y H1 H2, R i y H1 → SameX a H1 H2 → R i y H2)
    (he : ∀ i p H1 zs, ps[i]? = some p → Same H H1 → H1 a = some (.lst zs) → ∀ Q' : VK, (∀ y H2, Same H1 H2 → R i y H2 → Q' y H2) → te (some (.int p.1) :: some (.int p.2) :: frees fr σ) H1 Q')
    (hd : ∀ H1 ys, Same H H1 → H1 a = some (.lst ys) → ys.length = ys0.length → (∀ j y, ys[j]? = some y → R j y H1) → Q (.ref a) H1) : CompWG (Its K false l) (gTup K 2 (gCons (gName 0) (gCons (gName 1) gNil))) (tEl te) 2 fr σ a H Q := by
  have hS : SqB false K H l ys0 := SqB.lst hl
  refine cg_rel ys0.length R ha hz mono (fun i H1 hi s => Its.go (hS.up s) (x := ys0[i]) (by simp [hi])) (fun H1 s => Its.stop (hS.up s) (Nat.le_refl _)) ?_ hd
  intro i H1 zs hi s1 ez ys x H3 hys hy Q' hQ'
  obtain ⟨e1, e2⟩ := Its.yld (hS.up s1) hy
  subst e1
  obtain ⟨q, p, rfl, ep, hq⟩ := pk i x e2
  match ys, hys with
  | [o1, o2], _ => exact ⟨q, _, rfl, SqT.of (s1 _ _ hq), rfl, _, _, rfl, _, _, rfl, rfl, ⟨[_, _], rfl, rfl⟩, he i p H3 zs ep s1 ez Q' hQ'⟩
theorem proU_snoc {ps : List (Int × Int)} {i : Nat} {p : Int × Int} (h : ps[i]? = some p) : proU (ps.take (i + 1)) = proU (ps.take i) * p.2 := by
  unfold proU
  rw [take_snoc h, List.foldl_append]
  rfl
theorem lawU_snoc {ps : List (Int × Int)} {i : Nat} {p : Int × Int} (h : ps[i]? = some p) : lawU (ps.take (i + 1)) = (lawU (ps.take i) * p.2).fdiv (gcdI (lawU (ps.take i)) p.2) := by
  unfold lawU
  rw [take_snoc h, List.foldl_append]
  rfl
theorem good_take {ps : List (Int × Int)} (h : ∀ p ∈ ps, GoodPr p) (i : Nat) : ∀ p ∈ ps.take i, GoodPr p := fun p hp => h p (List.mem_of_mem_take hp)
theorem take_le3 {α : Type} {ps : List α} (h : ps.length ≤ 3) (i : Nat) : (ps.take i).length ≤ 3 := by rw [List.length_take]; omega
theorem small_bits {x : Int} (h : small x) : Builtin.Int.intBits x ≤ 8990 := intBits_le_iff.mpr h
theorem pr_bits {x : Int} (h : x.natAbs < 10 ^ 100) : Builtin.Int.intBits x ≤ 400 := intBits_le_iff.mpr (Nat.lt_of_lt_of_le h (show 10 ^ 100 ≤ 2 ^ 400 by decide +kernel))
theorem pr_div {p : Int × Int} (g : GoodPr p) (x : Int) : CDivB x p.2 := ⟨by have := g.pos; omega, Nat.lt_of_lt_of_le ((Nat.log2_lt (by have := g.pos; omega)).mpr (Nat.lt_of_lt_of_le g.bot (show 10 ^ 100 ≤ 2 ^ 400 by decide +kernel))) (by decide)⟩
theorem fdiv_small {u b : Int} (h : small u) : small (u.fdiv b) := Nat.lt_of_le_of_lt (natAbs_fdiv_le u b) h
theorem inV2 (L x y : Int) : inV (.int L) [.int x, .int y] = decide (L = x ∨ L = y) := by
  have e : inV (.int L) [.int x, .int y] = (eqV (.int x) (.int L) || (eqV (.int y) (.int L) || false)) := rfl
  have f : ∀ a b : Int, eqV (.int a) (.int b) = decide (a = b) := fun a b => by
    first | rfl | (unfold eqV; rfl) | (simp only [eqV]; by_cases h : a = b <;> simp [h])
  rw [e, f, f, Bool.or_false]
  by_cases h1 : x = L
  · rw [decide_eq_true h1, decide_eq_true (p := L = x ∨ L = y) (Or.inl h1.symm)]; rfl
  · rw [decide_eq_false h1]
    by_cases h2 : y = L
    · rw [decide_eq_true h2, decide_eq_true (p := L = x ∨ L = y) (Or.inr h2.symm)]; rfl
    · rw [decide_eq_false h2, decide_eq_false (p := L = x ∨ L = y) (by omega)]; rfl
theorem ok_law_common (T : Txt K mg t) : FnOk P w K mg base CX0 1 t.a_law_common t.d_law_common ["_law_one", "_law_other_here"] sp_law_common := by
  refine T.F_law_common.ok sc_law_common (fun vs H Q E h => ?_) (fun cdv A outer s H vs Q E hr h => ?_)
  · obtain ⟨a, b, rfl, _⟩ := h
    rfl
  · obtain ⟨a, b, rfl, k⟩ := h
    refine ⟨_, (pss_cons (ps_set (i := 0) sc_law_common.nd rfl (Or.inl rfl) (pe_callB call_abs rfl T.z_abs (by decide +kernel) (pa_cons (pv 0) pa_nil)))
      (pss_cons (ps_set (i := 1) sc_law_common.nd rfl (Or.inl rfl) (pe_callB call_abs rfl T.z_abs (by decide +kernel) (pa_cons (pv 1) pa_nil)))
      (pss_cons (ps_while PassesOwn.never (pt_cmpR op_gt (pv 1) pe_int (nomark _))
      (pss_one (ps_par (i := 0) (j := 1) rfl sc_law_common.nd rfl rfl (by decide) rfl rfl (pa_cons (pv 1) (pa_cons (pe_op op_modN (pv 0) (pv 1)) pa_nil)) rfl)))
      (pss_one (ps_ret (pv 0)))))), ?_⟩
    show tSeq _ _ _ [some (.int a), some (.int b)] H
    walk_at "rd2"
    refine ⟨fun m σ H1 => ∃ g l, σ = [some (.int g), some (.int l)] ∧ H1 = H ∧ 0 ≤ g ∧ 0 ≤ l ∧ Int.gcd g l = Int.gcd a b ∧ m = l.toNat,
      ⟨_, _, _, rfl, rfl, absI_nn a, absI_nn b, absI_gcd a b, rfl⟩, ?_⟩
    rintro m σ H1 ⟨g, l, rfl, rfl, hg, hl, e, rfl⟩
    walk_at "rd2"
    by_cases z : 0 < l
    · rw [decide_eq_true z]
      refine iteT ⟨fun σ' H' => σ' = [some (.int l), some (.int (g.fmod l))] ∧ H' = H1, ?_, by omega, rfl, rfl⟩
      rintro σ' H' ⟨rfl, rfl⟩
      have l1 := Int.fmod_lt_of_pos g z
      have l2 := Int.fmod_nonneg_of_pos g z
      exact ⟨(g.fmod l).toNat, by omega, _, _, rfl, rfl, hl, l2, by rw [gcd_fmodI]; exact e, rfl⟩
    · rw [decide_eq_false z]
      refine iteF ?_
      rw [gcd_end e hg (by omega)]
      exact k
theorem gcd_mulR {n b m : Int} (hm : 0 < m) (h : gcdI n b = 1) : gcdI (n * m) (b * m) = m := by rw [gcdI_mul n b m hm, h, Int.one_mul]
theorem fd_mul {n m : Int} (hm : 0 < m) : (n * m).fdiv m = n := Int.mul_fdiv_cancel _ (by omega)
theorem ok_fraction_text (T : Txt K mg t) : FnOk P w K mg base CX0 3 t.a_fraction_text t.d_fraction_text ["top", "under"] sp_fraction_text := by
  have G_divisor : FnOk P w K mg base CX0 1 t.a_divisor t.d_divisor ["one", "other"] sp_divisor := ok_divisor T
  have G_figures : FnOk P w K mg base CX0 2 t.a_figures t.d_figures ["number"] sp_figures := ok_figures T
  refine T.F_fraction_text.ok sc_fraction_text (fun vs H Q E h => ?_) (fun cdv A outer s H vs Q E hr h => ?_)
  · obtain ⟨n, b, m, rfl, _⟩ := h
    rfl
  · obtain ⟨n, b, m, rfl, hm, hb, hn1, hb1, hg, hs, hQ⟩ := h
    have hbm : 0 < (b : Int) * m := Int.mul_pos (by omega) hm
    have sm : small m := small_dvd hs (by omega) ⟨b, by rw [Int.mul_comm]⟩
    have cm : ∀ x, CDivB x m := fun x => ⟨by omega, small_log sm (by omega)⟩
    refine ⟨_, (pss_cons (ps_set (i := 2) sc_fraction_text.nd rfl (Or.inl rfl) (pe_call G_divisor (hr.mono (by omega)) rfl T.m_divisor T.F_divisor.kp T.b_divisor .nil pass0 (pa_cons (pv 0) (pa_cons (pv 1) pa_nil))))
      (pss_cons (ps_if (pt_cmpR op_eqZ (pv 2) (pv 1) (nomark _))
      (pss_one (ps_ret (pe_call G_figures (hr.mono (by omega)) rfl T.m_figures T.F_figures.kp T.b_figures .nil pass0 (pa_cons (pe_op op_fdivB (pv 0) (pv 1)) pa_nil))))
      pss_nil)
      (pss_one (ps_ret (pe_op op_add_str (pe_op op_add_str (pe_call G_figures (hr.mono (by omega)) rfl T.m_figures T.F_figures.kp T.b_figures .nil pass0 (pa_cons (pe_op op_fdivB (pv 0) (pv 2)) pa_nil)) pe_str) (pe_call G_figures (hr.mono (by omega)) rfl T.m_figures T.F_figures.kp T.b_figures .nil pass0 (pa_cons (pe_op op_fdivB (pv 1) (pv 2)) pa_nil))))))), ?_⟩
    show tSeq _ _ _ [some (.int ((n : Int) * m)), some (.int ((b : Int) * m)), none] H
    refine st fun N1 e1 => ?_
    walk_at "rd2"
    refine ⟨_, _, rfl, ?_⟩
    rw [gcd_mulR hm hg]
    subst e1
    refine st fun N1 e1 => ?_
    walk_at "rd2"
    unfold fracW at hQ
    by_cases z : b = 1
    · have e : (b : Int) * m = m := by rw [z]; simp
      rw [e, decide_eq_true rfl]
      rw [if_pos z] at hQ
      refine iteT ⟨cm _, _, rfl, ?_⟩
      rw [fd_mul hm]
      exact ⟨by omega, show ((n : Int)).natAbs < _ by omega, fun H' s' => hQ H' s'⟩
    · have e : ¬ m = (b : Int) * m := fun q => by
        have : (1 : Int) * m = (b : Int) * m := by rw [Int.one_mul]; exact q
        have := Int.eq_of_mul_eq_mul_right (by omega) this
        omega
      rw [decide_eq_false e]
      rw [if_neg z] at hQ
      refine iteF ?_
      subst e1
      walk_at "rd2"
      refine ⟨cm _, _, rfl, ?_⟩
      rw [fd_mul hm, fd_mul hm]
      refine ⟨by omega, show ((n : Int)).natAbs < _ by omega, fun H1 s1 => ?_⟩
      have l1 : (dec n).length ≤ 100 := dec100 hn1
      have l2 : (dec b).length ≤ 100 := dec100 hb1
      have l3 : (Str.ofString "/").length = 1 := by decide +kernel
      refine ⟨_, rfl, _, rfl, sizeLe (by show (dec n).length + _ ≤ _; omega), cm _, _, rfl, by omega, show ((b : Int)).natAbs < _ by omega, fun H2 s2 => ?_⟩
      exact ⟨_, rfl, _, rfl, sizeLe (by rw [len_app]; show (dec n).length + _ + (dec b).length ≤ _; omega), hQ H2 (s1.trans s2)⟩
theorem ok_number_text (T : Txt K mg t) : FnOk P w K mg base CX0 4 t.a_number_text t.d_number_text ["top", "under"] sp_number_text := by
  have G_fraction_text : FnOk P w K mg base CX0 3 t.a_fraction_text t.d_fraction_text ["top", "under"] sp_fraction_text := ok_fraction_text T
  refine T.F_number_text.ok sc_number_text (fun vs H Q E h => ?_) (fun cdv A outer s H vs Q E hr h => ?_)
  · obtain ⟨p, m, rfl, _⟩ := h
    rfl
  · obtain ⟨p, m, rfl, hm, g, hs, hQ⟩ := h
    have gb := g.bot
    have gt := g.top
    have gp := g.pos
    refine ⟨_, (pss_one (ps_ret (pe_op op_add_str (pe_ifExp (pt_cmpR op_lt (pv 0) pe_int (nomark _)) pe_str pe_str) (pe_call G_fraction_text (hr.mono (by omega)) rfl T.m_fraction_text T.F_fraction_text.kp T.b_fraction_text .nil pass0 (pa_cons (pe_callB call_abs rfl T.z_abs (by decide +kernel) (pa_cons (pv 0) pa_nil)) (pa_cons (pv 1) pa_nil)))))), ?_⟩
    show tRet _ _ [some (.int (p.1 * m)), some (.int (p.2 * m))] H
    walk_at "rd2"
    have e1 : (if p.1 * m < 0 then -(p.1 * m) else p.1 * m) = (p.1.natAbs : Int) * m := by
      by_cases z : p.1 < 0
      · have := Int.mul_neg_of_neg_of_pos z hm
        rw [if_pos this, show (p.1.natAbs : Int) = -p.1 by omega, Int.neg_mul]
      · have := Int.mul_nonneg (show 0 ≤ p.1 by omega) (Int.le_of_lt hm)
        rw [if_neg (by omega), show (p.1.natAbs : Int) = p.1 by omega]
    have e2 : p.2 * m = (p.2.toNat : Int) * m := by rw [show ((p.2.toNat : Nat) : Int) = p.2 by omega]
    have fl : (fracW p.1.natAbs p.2.toNat).length ≤ 201 := fracW_len gt (by omega)
    have call : ∀ Q' : VK, (∀ H', Same H H' → Q' (.str (fracW p.1.natAbs p.2.toNat)) H') → sp_fraction_text [.int (if p.1 * m < 0 then -(p.1 * m) else p.1 * m), .int (p.2 * m)] H Q' E0 := fun Q' q => by
      rw [e1, e2]
      refine ⟨_, _, m, rfl, hm, by omega, gt, by omega, ?_, by rw [← e2]; exact hs, q⟩
      have lo := g.low
      rw [show ((p.2.toNat : Nat) : Int) = p.2 by omega]
      unfold gcdI at lo ⊢
      rw [← lo]
      simp [Int.gcd]
    unfold wordT at hQ
    by_cases z : p.1 < 0
    · have := Int.mul_neg_of_neg_of_pos z hm
      rw [decide_eq_true this]
      rw [if_pos z] at hQ
      refine iteT (call _ fun H' s' => ⟨_, rfl, _, rfl, sizeLe ?_, hQ H' s'⟩)
      have : (Str.ofString "-").length = 1 := by decide +kernel
      omega
    · have := Int.mul_nonneg (show 0 ≤ p.1 by omega) (Int.le_of_lt hm)
      rw [decide_eq_false (by omega)]
      rw [if_neg z] at hQ
      refine iteF (call _ fun H' s' => ⟨_, rfl, _, rfl, sizeLe ?_, ?_⟩)
      · have : (Str.ofString "").length = 0 := by decide +kernel
        omega
      · have e : (Str.ofString "") ++ fracW p.1.natAbs p.2.toNat = fracW p.1.natAbs p.2.toNat := nil_app _
        rw [e]
        exact hQ H' s'
theorem ok_read_whole (T : Txt K mg t) : FnOk P w K mg base (CX1 P w) 1 t.a_read_whole t.d_read_whole ["text"] (sp_read_whole t.a_NoText) := by
  refine T.F_read_whole.okX sc_read_whole (fun vs H Q E h => ?_) (fun cdv A outer s H vs Q E hr h => ?_)
  · obtain ⟨x, rfl, _⟩ := h
    rfl
  · obtain ⟨x, rfl, hx, hE, hQ⟩ := h
    refine ⟨_, (pss_cons (ps_if (PW.pt (pw_or (pt_cmpR op_eq (pv 0) pe_str (nomark _)) (pw_or (pt_cmpR op_gt (pe_callB call_len_str rfl T.z_len (by decide +kernel) (pa_cons (pv 0) pa_nil)) (pe_globE (v := (.int 100)) rfl T.g_MOST_FIGURES) (nomark _)) (pw_or1 (pt_val (pe_bm PySem.F.plainAttrs_str PySem.F.slot_str_startswith PySem.F.type_str_startswith mt_startsw (pv 0) (pa_cons pe_str pa_nil)))))))
      (pss_one (ps_raise rfl landsN_def rfl T.m_NoText T.x_NoText PySem.F.excBase_ValueError (pa_cons pe_str pa_nil)))
      pss_nil)
      (pss_cons (ps_for PassesOwn.leaving rfl (pi_str (pv 0)) (pg_name (i := 1) sc_read_whole.nd rfl (Or.inl rfl))
      (pss_one (ps_if (pt_cmpR op_notin_str (pv 1) (pe_globE (v := (.str "0123456789")) rfl T.g_FIGURES) rfl)
      (pss_one (ps_raise rfl landsN_def rfl T.m_NoText T.x_NoText PySem.F.excBase_ValueError (pa_cons pe_str pa_nil)))
      pss_nil)))
      (pss_one (ps_ret (pe_callTy call_intS rfl T.z_int (by decide +kernel) (pa_cons (pv 0) pa_nil)))))), ?_⟩
    show tSeq _ _ _ [some (.str x), none] H
    have bad : ¬ (1 ≤ x.length ∧ x.length ≤ 100 ∧ x.cps.toList[0]? ≠ some 48 ∧ x.cps.toList.all digB = true) → wholeB x = false := fun h => by
      unfold wholeB
      rw [Bool.eq_false_iff]
      intro z
      simp only [Bool.and_eq_true, decide_eq_true_eq, Bool.not_eq_true', decide_eq_false_iff_not] at z
      exact h z
    refine st fun N1 e1 => ?_
    simp only [tRaise]
    walk_at "rd2"
    by_cases k1 : V.str x = V.str (Str.ofString "")
    · refine ⟨rfl, _, rfl, ?_⟩
      rw [decide_eq_true k1]
      refine iteT ⟨by decide, hE (bad fun h => one_of.mp h.1 k1)⟩
    refine ⟨rfl, _, rfl, ?_⟩
    rw [decide_eq_false k1]
    refine iteF ⟨_, rfl, Nat.le_trans hx (by decide), ?_⟩
    by_cases k2 : x.length ≤ 100
    case neg =>
      rw [decide_eq_true (by omega)]
      refine iteT ?_
      simp only [tRaise]
      walk_at "rd2"
      exact ⟨by decide, hE (bad fun h => k2 h.2.1)⟩
    rw [decide_eq_false (by omega)]
    refine iteF ⟨rfl, _, rfl, _, rfl, ?_⟩
    rw [sw_zero]
    by_cases k3 : x.cps.toList[0]? = some 48
    case pos =>
      rw [decide_eq_true k3]
      refine iteT ?_
      simp only [tRaise]
      walk_at "rd2"
      exact ⟨by decide, hE (bad fun h => h.2.2.1 k3)⟩
    rw [decide_eq_false k3]
    refine iteF ?_
    subst e1
    refine st fun N1 e1 => for_st fun B eB => ?_
    simp only [iStr]
    walk_at "rd2"
    refine ⟨x, rfl, ?_⟩
    refine fr_str (g := gName 1) (tb := B) (fun j σ H3 => ∃ v3, σ = [some (.str x), v3] ∧ H3 = H ∧ ∀ c ∈ x.cps.toList.take j, digB c = true) ⟨_, rfl, rfl, fun c hc => by simp at hc⟩ ?_ ?_
    · rintro j c σ H3 hc ⟨v3, rfl, rfl, hok3⟩
      have hc' : x.cps.toList[j]? = some c := by simpa using hc
      subst eB
      walk_at "rd2"
      refine ⟨_, rfl, _, rfl, ?_⟩
      have ek : (!(!(Builtin.Str.occurrences (Str.ofString "0123456789") ⟨#[c]⟩ 0 (Str.ofString "0123456789").length 1).isEmpty)) = !digB c := by
        rw [← dig_is c]; rfl
      rw [ek]
      cases k4 : digB c with
      | false =>
        refine iteT ?_
        simp only [tRaise]
        walk_at "rd2"
        refine ⟨by decide, hE (bad fun h => ?_)⟩
        have := List.all_eq_true.mp h.2.2.2 c (List.mem_of_getElem? hc')
        rw [k4] at this
        cases this
      | true =>
        refine iteF fun d hd => ?_
        rw [take_snoc hc'] at hd
        rcases List.mem_append.mp hd with h | h
        · exact hok3 d h
        · rw [List.mem_singleton.mp h]; exact k4
    · rintro σ H2 ⟨v, rfl, rfl, hok⟩
      rw [show x.cps.size = x.cps.toList.length by simp, List.take_length] at hok
      have hw : wholeB x = true := by
        unfold wholeB
        simp only [Bool.and_eq_true, decide_eq_true_eq, Bool.not_eq_true', decide_eq_false_iff_not]
        exact ⟨one_of.mpr k1, k2, k3, List.all_eq_true.mpr hok⟩
      subst e1
      walk_at "rd2"
      exact ⟨x, _, rfl, digs_all hw, by omega, hQ hw⟩
theorem ok_law_number (T : Txt K mg t) : FnOk P w K mg base CX0 1 t.a_law_number t.d_law_number ["_law_word_here"] sp_law_number := by
  refine T.F_law_number.ok sc_law_number (fun vs H Q E h => ?_) (fun cdv A outer s H vs Q E hr h => ?_)
  · obtain ⟨x, rfl, _⟩ := h
    rfl
  · obtain ⟨x, rfl, hx, hQ⟩ := h
    refine ⟨_, (pss_cons (ps_if (PW.pt (pw_or (pt_cmpR op_gt (pe_callB call_len_str rfl T.z_len (by decide +kernel) (pa_cons (pv 0) pa_nil)) pe_int (nomark _)) (pw_or (pt_cmpR op_eq (pv 0) pe_str (nomark _)) (pw_or1 (pt_cmpR op_eq (pe_ix ix_str (pv 0) pe_int (fun _ _ => rfl)) pe_str (nomark _))))))
      (pss_one (ps_ret pe_int))
      pss_nil)
      (pss_cons (ps_for PassesOwn.never rfl (pi_str (pv 0)) (pg_name (i := 1) sc_law_number.nd rfl (Or.inl rfl))
      (pss_one (ps_if (pt_cmpR op_notin_str (pv 1) pe_str rfl)
      (pss_one (ps_ret pe_int))
      pss_nil)))
      (pss_one (ps_ret (pe_callTy call_intS rfl T.z_int (by decide +kernel) (pa_cons (pv 0) pa_nil)))))), ?_⟩
    show tSeq _ _ _ [some (.str x), none] H
    refine st fun N1 e1 => ?_
    walk_at "rd2"
    have bad : ¬ (1 ≤ x.length ∧ x.length ≤ 100 ∧ x.cps.toList[0]? ≠ some 48 ∧ x.cps.toList.all digB = true) → Q (.int 0) H := fun h => by
      have : wholeB x = false := by
        unfold wholeB
        rw [Bool.eq_false_iff]
        intro z
        simp only [Bool.and_eq_true, decide_eq_true_eq, Bool.not_eq_true', decide_eq_false_iff_not] at z
        exact h z
      rw [this, if_neg (by simp)] at hQ
      exact hQ
    refine ⟨x, rfl, Nat.le_trans hx (by decide), ?_⟩
    by_cases k2 : x.length ≤ 100
    case neg =>
      rw [decide_eq_true (by omega)]
      exact iteT (bad fun h => k2 h.2.1)
    rw [decide_eq_false (by omega)]
    refine iteF ⟨rfl, _, rfl, ?_⟩
    by_cases k1 : V.str x = V.str (Str.ofString "")
    · rw [decide_eq_true k1]
      exact iteT (bad fun h => one_of.mp h.1 k1)
    rw [decide_eq_false k1]
    have h1 := one_of.mpr k1
    cases e0 : x.cps.toList with
    | nil => have := len_list x; rw [e0] at this; simp at this; omega
    | cons c r =>
    have ec : x.cps.toList[0]? = some c := by rw [e0]; rfl
    have hc0 : x.cps[0]? = some c := by rw [← ec]; simp
    refine iteF ⟨x, 0, c, rfl, rfl, Nat.le_trans hx (by decide), atI_at (i := 0) ec rfl, rfl, _, rfl, ?_⟩
    have k3' : (V.str (⟨#[c]⟩ : Str) = V.str (Str.ofString "0")) ↔ c = 48 := by
      have : (Str.ofString "0") = ⟨#[48]⟩ := by decide +kernel
      rw [this]
      simp
    by_cases k3 : c = 48
    case pos =>
      rw [decide_eq_true (k3'.mpr k3)]
      exact iteT (bad fun h => h.2.2.1 (by rw [ec, k3]))
    rw [decide_eq_false fun q => k3 (k3'.mp q)]
    refine iteF ?_
    subst e1
    refine st fun N1 e1 => for_st fun B eB => ?_
    simp only [iStr]
    walk_at "rd2"
    refine ⟨x, rfl, ?_⟩
    refine fr_str (g := gName 1) (tb := B) (fun j σ H3 => ∃ v3, σ = [some (.str x), v3] ∧ H3 = H ∧ ∀ c ∈ x.cps.toList.take j, digB c = true) ⟨_, rfl, rfl, fun c hc => by simp at hc⟩ ?_ ?_
    · rintro j d σ H3 hc ⟨v3, rfl, rfl, hok3⟩
      have hc' : x.cps.toList[j]? = some d := by simpa using hc
      subst eB
      walk_at "rd2"
      refine ⟨_, rfl, _, rfl, ?_⟩
      have ek : (!(!(Builtin.Str.occurrences (Str.ofString "0123456789") ⟨#[d]⟩ 0 (Str.ofString "0123456789").length 1).isEmpty)) = !digB d := by
        rw [← dig_is d]; rfl
      rw [ek]
      cases k4 : digB d with
      | false =>
        refine iteT (bad fun h => ?_)
        have := List.all_eq_true.mp h.2.2.2 d (List.mem_of_getElem? hc')
        rw [k4] at this
        cases this
      | true =>
        refine iteF fun d' hd => ?_
        rw [take_snoc hc'] at hd
        rcases List.mem_append.mp hd with h | h
        · exact hok3 d' h
        · rw [List.mem_singleton.mp h]; exact k4
    · rintro σ H2 ⟨v, rfl, rfl, hok⟩
      rw [show x.cps.size = x.cps.toList.length by simp, List.take_length] at hok
      have hw : wholeB x = true := by
        unfold wholeB
        simp only [Bool.and_eq_true, decide_eq_true_eq, Bool.not_eq_true', decide_eq_false_iff_not]
        exact ⟨h1, k2, by rw [ec]; simpa using k3, List.all_eq_true.mpr hok⟩
      rw [if_pos hw] at hQ
      subst e1
      walk_at "rd2"
      exact ⟨x, _, rfl, digs_all hw, by omega, hQ⟩
theorem ok_read_fraction (T : Txt K mg t) : FnOk P w K mg base (CX1 P w) 2 t.a_read_fraction t.d_read_fraction ["text"] (sp_read_fraction K t.a_NoText) := by
  have G_divisor : FnOk P w K mg base CX0 1 t.a_divisor t.d_divisor ["one", "other"] sp_divisor := ok_divisor T
  have G_read_whole : FnOk P w K mg base (CX1 P w) 1 t.a_read_whole t.d_read_whole ["text"] (sp_read_whole t.a_NoText) := ok_read_whole T
  refine T.F_read_fraction.okX sc_read_fraction (fun vs H Q E h => ?_) (fun cdv A outer s H vs Q E hr h => ?_)
  · obtain ⟨x, rfl, _⟩ := h
    rfl
  · obtain ⟨x, rfl, hx, hE, hQ⟩ := h
    refine ⟨_, (pss_cons (ps_set (i := 1) sc_read_fraction.nd rfl (Or.inl rfl) (pe_bm PySem.F.plainAttrs_str PySem.F.slot_str_split PySem.F.type_str_split mt_split (pv 0) (pa_cons pe_str pa_nil)))
      (pss_cons (ps_if (pt_cmpR op_gt (pe_callB call_lenB rfl T.z_len (by decide +kernel) (pa_cons (pv 1) pa_nil)) pe_int (nomark _))
      (pss_one (ps_raise rfl landsN_def rfl T.m_NoText T.x_NoText PySem.F.excBase_ValueError (pa_cons pe_str pa_nil)))
      pss_nil)
      (pss_cons (ps_set (i := 2) sc_read_fraction.nd rfl (Or.inl rfl) (pe_callX G_read_whole (hr.mono (by omega)) rfl T.m_read_whole T.F_read_whole.kp T.b_read_whole .nil lands_def (pa_cons (pe_ix ix_B (pv 1) pe_int (fun _ _ => rfl)) pa_nil)))
      (pss_cons (ps_if (pt_cmpR op_eqZ (pe_callB call_lenB rfl T.z_len (by decide +kernel) (pa_cons (pv 1) pa_nil)) pe_int (nomark _))
      (pss_one (ps_ret (pe_tup (pa_cons (pv 2) (pa_cons pe_int pa_nil)))))
      pss_nil)
      (pss_cons (ps_set (i := 3) sc_read_fraction.nd rfl (Or.inl rfl) (pe_callX G_read_whole (hr.mono (by omega)) rfl T.m_read_whole T.F_read_whole.kp T.b_read_whole .nil lands_def (pa_cons (pe_ix ix_B (pv 1) pe_int (fun _ _ => rfl)) pa_nil)))
      (pss_cons (ps_if (PW.pt (pw_or (pt_cmpR op_eqZ (pv 3) pe_int (nomark _)) (pw_or1 (pt_cmpR op_neZ (pe_call G_divisor (hr.mono (by omega)) rfl T.m_divisor T.F_divisor.kp T.b_divisor .nil pass0 (pa_cons (pv 2) (pa_cons (pv 3) pa_nil))) pe_int (nomark _)))))
      (pss_one (ps_raise rfl landsN_def rfl T.m_NoText T.x_NoText PySem.F.excBase_ValueError (pa_cons pe_str pa_nil)))
      pss_nil)
      (pss_one (ps_ret (pe_tup (pa_cons (pv 2) (pa_cons (pv 3) pa_nil))))))))))), ?_⟩
    show tSeq _ _ _ [some (.str x), none, none, none] H
    have hne := cut_ne x slash
    have hpl : ∀ z ∈ Txt.split x slash, z.length ≤ 1500 := fun z hz => Nat.le_trans (part_le hz) hx
    refine st fun N1 e1 => ?_
    walk_at "rd2"
    refine ⟨rfl, x, slash, rfl, rfl, slash_len0, Nat.le_trans hx (by decide), Nat.le_trans (parts_le x slash (by omega)) (by decide), fun l hl => ?_⟩
    have s1 : Same H (upd H l (.lst ((Txt.split x slash).map V.str))) := Same.new hl
    have el : (upd H l (.lst ((Txt.split x slash).map V.str))) l = some (.lst ((Txt.split x slash).map V.str)) := upd_same
    generalize upd H l (.lst ((Txt.split x slash).map V.str)) = H1 at s1 el
    have hf : fracV x = fracL (Txt.split x slash) := rfl
    generalize hxs : Txt.split x slash = xs at *
    have hlen : ∀ Q' : VK, Q' (.int xs.length) H1 → rLenB K [.ref l] H1 Q' := fun Q' q => ⟨false, l, _, rfl, SqB.lst el, by rw [List.length_map]; exact q⟩
    have hix : ∀ (k : Nat) (z : Str) (Q' : VK), xs[k]? = some z → Q' (.str z) H1 → rIxB K (.ref l) (.int k) H1 Q' := fun k z Q' e q => ⟨false, l, _, _, _, rfl, rfl, SqB.lst el, atI_at (i := k) (by rw [List.getElem?_map, e]; rfl) rfl, q⟩
    subst e1
    refine st fun N1 e1 => ?_
    simp only [tRaise]
    walk_at "rd2"
    refine hlen _ ?_
    walk_at "rd2"
    by_cases k1 : xs.length ≤ 2
    case neg =>
      rw [decide_eq_true (by omega)]
      refine iteT ?_
      simp only [tRaise]
      walk_at "rd2"
      refine ⟨by decide, hE ?_ _ s1⟩
      rw [hf]
      match xs, k1 with
      | a :: b :: c :: r, _ => rfl
      | [], k => exact absurd (by simp) k
      | [a], k => exact absurd (by simp) k
      | [a, b], k => exact absurd (by simp) k
    rw [decide_eq_false (by omega)]
    refine iteF ?_
    subst e1
    refine st fun N1 e1 => ?_
    walk_at "rd2"
    have e0 : ∃ a r, xs = a :: r ∧ r.length ≤ 1 := by
      match xs, hne, k1 with
      | a :: r, _, k => exact ⟨a, r, rfl, by simpa using k⟩
    obtain ⟨a, r, exs, hr1⟩ := e0
    have ha0 : xs[0]? = some a := by rw [exs]; rfl
    refine hix 0 a _ ha0 ⟨a, rfl, hpl a (List.mem_of_getElem? ha0), fun hw => hE ?_ _ s1, fun hw => ?_⟩
    · rw [hf, exs]
      match r, hr1 with
      | [], _ => show (if wholeB a = true then some ((valN a : Int), (1 : Int)) else none) = none; rw [if_neg (by rw [hw]; decide)]
      | [b], _ => show (if wholeB a = true ∧ wholeB b = true ∧ valN b ≠ 1 ∧ gcdI (valN a) (valN b) = 1 then some ((valN a : Int), (valN b : Int)) else none) = none; rw [if_neg (by rw [hw]; simp)]
    subst e1
    refine st fun N1 e1 => ?_
    walk_at "rd2"
    refine hlen _ ?_
    walk_at "rd2"
    match r, hr1, exs with
    | [], _, exs =>
      rw [exs, decide_eq_true (by rfl)]
      refine iteT ⟨sizeLe (by simp), fun p hp => hQ ((valN a : Int), 1) ?_ p _ (s1.trans (Same.new hp)) upd_same⟩
      rw [hf, exs]
      show (if wholeB a = true then some ((valN a : Int), (1 : Int)) else none) = _
      rw [if_pos hw]
    | [b], _, exs =>
      rw [exs, decide_eq_false (show ¬ (([a, b].length : Nat) : Int) = 1 by simp)]
      refine iteF ?_
      have hb0 : xs[1]? = some b := by rw [exs]; rfl
      have hf2 : fracV x = (if wholeB a = true ∧ wholeB b = true ∧ valN b ≠ 1 ∧ gcdI (valN a) (valN b) = 1 then some ((valN a : Int), (valN b : Int)) else none) := by rw [hf, exs]; rfl
      subst e1
      refine st fun N1 e1 => ?_
      walk_at "rd2"
      refine hix 1 b _ hb0 ⟨b, rfl, hpl b (List.mem_of_getElem? hb0), fun hw2 => hE ?_ _ s1, fun hw2 => ?_⟩
      · rw [hf2, if_neg (by rw [hw2]; simp)]
      subst e1
      refine st fun N1 e1 => ?_
      walk_at "rd2"
      by_cases z : (valN b : Int) = 1
      · rw [decide_eq_true z]
        refine iteT ?_
        simp only [tRaise]
        walk_at "rd2"
        refine ⟨by decide, hE ?_ _ s1⟩
        rw [hf2, if_neg (fun h => h.2.2.1 (by omega))]
      rw [decide_eq_false z]
      refine iteF ⟨_, _, rfl, ?_⟩
      walk_at "rd2"
      by_cases z2 : gcdI (valN a) (valN b) = 1
      case neg =>
        rw [decide_eq_false z2]
        refine iteT ?_
        simp only [tRaise]
        walk_at "rd2"
        refine ⟨by decide, hE ?_ _ s1⟩
        rw [hf2, if_neg (fun h => z2 h.2.2.2)]
      rw [decide_eq_true z2]
      refine iteF ?_
      subst e1
      walk_at "rd2"
      refine ⟨sizeLe (by simp), fun p hp => hQ ((valN a : Int), (valN b : Int)) ?_ p _ (s1.trans (Same.new hp)) upd_same⟩
      rw [hf2, if_pos ⟨hw, hw2, by omega, z2⟩]
theorem ok_read_signed (T : Txt K mg t) : FnOk P w K mg base (CX1 P w) 3 t.a_read_signed t.d_read_signed ["text"] (sp_read_signed K t.a_NoText) := by
  have G_read_fraction : FnOk P w K mg base (CX1 P w) 2 t.a_read_fraction t.d_read_fraction ["text"] (sp_read_fraction K t.a_NoText) := ok_read_fraction T
  refine T.F_read_signed.okX sc_read_signed (fun vs H Q E h => ?_) (fun cdv A outer s H vs Q E hr h => ?_)
  · obtain ⟨x, rfl, _⟩ := h
    rfl
  · obtain ⟨x, rfl, hx, hE, hQ⟩ := h
    refine ⟨_, (pss_cons (ps_if (pt_not (pt_val (pe_bm PySem.F.plainAttrs_str PySem.F.slot_str_startswith PySem.F.type_str_startswith mt_startsw (pv 0) (pa_cons pe_str pa_nil))))
      (pss_one (ps_ret (pe_callX G_read_fraction (hr.mono (by omega)) rfl T.m_read_fraction T.F_read_fraction.kp T.b_read_fraction .nil lands_def (pa_cons (pv 0) pa_nil))))
      pss_nil)
      (pss_cons (ps_set (i := 1) sc_read_signed.nd rfl (Or.inl rfl) (pe_callX G_read_fraction (hr.mono (by omega)) rfl T.m_read_fraction T.F_read_fraction.kp T.b_read_fraction .nil lands_def (pa_cons (pe_slice sl_E (pv 0) (po_some pe_int) po_none) pa_nil)))
      (pss_one (ps_ret (pe_tup (pa_cons (pe_un un_neg (pe_ix ix_B (pv 1) pe_int (fun _ _ => rfl))) (pa_cons (pe_ix ix_B (pv 1) pe_int (fun _ _ => rfl)) pa_nil))))))), ?_⟩
    show tSeq _ _ _ [some (.str x), none] H
    refine st fun N1 e1 => ?_
    walk_at "rd2"
    refine ⟨rfl, _, rfl, _, rfl, ?_⟩
    unfold sgnV at hE hQ
    by_cases z : Txt.startswith x minus = true
    · rw [if_pos z] at hE hQ
      rw [show Txt.startswith x (Str.ofString "-") = true from z]
      refine iteF ?_
      subst e1
      refine st fun N1 e1 => ?_
      walk_at "rd2"
      have ht : (tailS x).length ≤ 1500 := Nat.le_trans (PyProof.Txt.length_slice_le x (some 1) none) hx
      refine ⟨x, rfl, Nat.le_trans hx (by decide), tailS x, rfl, ht, fun h H' s' => hE (by rw [h]; rfl) H' s', fun p hp a H1 s1 ha => ?_⟩
      have i0 : ∀ Q' : VK, Q' (.int p.1) H1 → rIxB K (.ref a) (.int 0) H1 Q' := fun Q' q => ⟨true, a, _, _, _, rfl, rfl, SqB.tup ha, atI_at (i := 0) rfl rfl, q⟩
      have i1 : ∀ Q' : VK, Q' (.int p.2) H1 → rIxB K (.ref a) (.int 1) H1 Q' := fun Q' q => ⟨true, a, _, _, _, rfl, rfl, SqB.tup ha, atI_at (i := 1) rfl rfl, q⟩
      subst e1
      walk_at "rd2"
      refine i0 _ ?_
      walk_at "rd2"
      refine i1 _ ?_
      exact ⟨sizeLe (by simp), fun q hq => hQ (negP p) (by rw [hp]; rfl) q _ (s1.trans (Same.new hq)) upd_same⟩
    · rw [if_neg z] at hE hQ
      have z' : Txt.startswith x (Str.ofString "-") = false := (Bool.eq_false_iff.mpr z : Txt.startswith x minus = false)
      rw [z']
      refine iteT ⟨x, rfl, hx, hE, hQ⟩
theorem ok_read_number (T : Txt K mg t) : FnOk P w K mg base (CX1 P w) 4 t.a_read_number t.d_read_number ["text"] (sp_read_number K t.a_NoText) := by
  have G_read_signed : FnOk P w K mg base (CX1 P w) 3 t.a_read_signed t.d_read_signed ["text"] (sp_read_signed K t.a_NoText) := ok_read_signed T
  refine T.F_read_number.okX sc_read_number (fun vs H Q E h => ?_) (fun cdv A outer s H vs Q E hr h => ?_)
  · obtain ⟨x, rfl, _⟩ := h
    rfl
  · obtain ⟨x, rfl, hx, hE, hQ⟩ := h
    refine ⟨_, (pss_one (ps_ret (pe_ifExp (pt_cmpR op_eq (pv 0) pe_str (nomark _)) (pe_tup (pa_cons pe_int (pa_cons pe_int pa_nil))) (pe_callX G_read_signed (hr.mono (by omega)) rfl T.m_read_signed T.F_read_signed.kp T.b_read_signed .nil lands_def (pa_cons (pv 0) pa_nil))))), ?_⟩
    show tRet _ _ [some (.str x)] H
    walk_at "rd2"
    refine ⟨rfl, _, rfl, ?_⟩
    unfold numV at hE hQ
    by_cases z : x = "0"
    · rw [if_pos z] at hE hQ
      rw [decide_eq_true (by rw [z] : V.str x = V.str (Str.ofString "0"))]
      exact iteT ⟨sizeLe (by simp), fun p hp => hQ _ rfl p _ (Same.new hp) upd_same⟩
    · rw [if_neg z] at hE hQ
      rw [decide_eq_false (fun q => z (by injection q) : ¬ V.str x = V.str (Str.ofString "0"))]
      exact iteF ⟨x, rfl, hx, hE, hQ⟩
theorem ok_parts_of (T : Txt K mg t) : FnOk P w K mg base (CX1 P w) 1 t.a_parts_of t.d_parts_of ["text"] (sp_parts_of K t.a_NoText) := by
  refine T.F_parts_of.okX sc_parts_of (fun vs H Q E h => ?_) (fun cdv A outer s H vs Q E hr h => ?_)
  · obtain ⟨x, rfl, _⟩ := h
    rfl
  · obtain ⟨x, rfl, hx, hE, hQ⟩ := h
    refine ⟨_, (pss_cons (ps_set (i := 1) sc_parts_of.nd rfl (Or.inl rfl) (pe_bm PySem.F.plainAttrs_str PySem.F.slot_str_split PySem.F.type_str_split mt_split (pv 0) (pa_cons pe_str pa_nil)))
      (pss_cons (ps_if (pt_cmpR op_notIn_seq (pe_callB call_lenB rfl T.z_len (by decide +kernel) (pa_cons (pv 1) pa_nil)) (pe_tup (pa_cons pe_int (pa_cons pe_int pa_nil))) rfl)
      (pss_one (ps_raise rfl landsN_def rfl T.m_NoText T.x_NoText PySem.F.excBase_ValueError (pa_cons pe_str pa_nil)))
      pss_nil)
      (pss_one (ps_ret (pv 1))))), ?_⟩
    show tSeq _ _ _ [some (.str x), none] H
    refine st fun N1 e1 => ?_
    walk_at "rd2"
    refine ⟨rfl, x, comma, rfl, rfl, comma_len0, Nat.le_trans hx (by decide), Nat.le_trans (parts_le x comma (by omega)) (by decide), fun l hl => ?_⟩
    have s1 : Same H (upd H l (.lst ((Txt.split x comma).map V.str))) := Same.new hl
    have el : (upd H l (.lst ((Txt.split x comma).map V.str))) l = some (.lst ((Txt.split x comma).map V.str)) := upd_same
    generalize upd H l (.lst ((Txt.split x comma).map V.str)) = H1 at s1 el
    have hlen : ∀ Q' : VK, Q' (.int (Txt.split x comma).length) H1 → rLenB K [.ref l] H1 Q' := fun Q' q => ⟨false, l, _, rfl, SqB.lst el, by rw [List.length_map]; exact q⟩
    subst e1
    refine st fun N1 e1 => ?_
    walk_at "rd2"
    refine hlen _ ⟨by show 2 ≤ sizeLine; decide, fun p1 hp1 => ?_⟩
    have s2 : Same H1 (upd H1 p1 (.tup [.int 2, .int 3])) := Same.new hp1
    refine ⟨p1, _, rfl, .inr (SqT.of upd_same), rfl, rfl, _, rfl, ?_⟩
    generalize upd H1 p1 (.tup [.int 2, .int 3]) = H2 at s2
    rw [inV2]
    by_cases hax : (Txt.split x comma).length = 2 ∨ (Txt.split x comma).length = 3
    case neg =>
      rw [decide_eq_false (by omega)]
      refine iteT ?_
      simp only [tRaise]
      walk_at "rd2"
      exact ⟨by decide, hE hax _ (s1.trans s2)⟩
    rw [decide_eq_true (by omega)]
    refine iteF ?_
    subst e1
    walk_at "rd2"
    exact hQ hax l _ (s1.trans s2) (s2 _ _ el)
theorem pair_ix {H : Hp} {a : Addr} {p : Int × Int} (h : H a = some (tupP p)) : (∀ Q' : VK, Q' (.int p.1) H → rIxB K (.ref a) (.int 0) H Q') ∧ ∀ Q' : VK, Q' (.int p.2) H → rIxB K (.ref a) (.int 1) H Q' :=
  ⟨fun Q' q => ⟨true, a, _, _, _, rfl, rfl, SqB.tup h, atI_at (i := 0) rfl rfl, q⟩, fun Q' q => ⟨true, a, _, _, _, rfl, rfl, SqB.tup h, atI_at (i := 1) rfl rfl, q⟩⟩
theorem ok_common_under (T : Txt K mg t) : FnOk P w K mg base CX0 1 t.a_common_under t.d_common_under ["pairs"] (sp_common_under K) := by
  refine T.F_common_under.ok sc_common_under (fun vs H Q E h => ?_) (fun cdv A outer s H vs Q E hr h => ?_)
  · obtain ⟨l, ps, rfl, _⟩ := h
    rfl
  · obtain ⟨l, ps, rfl, ⟨ys, hl, hly, hys⟩, hn, hg, hQ⟩ := h
    refine ⟨_, (pss_cons (ps_set (i := 1) sc_common_under.nd rfl (Or.inr rfl) pe_int)
      (pss_cons (ps_for PassesOwn.never rfl (pi_seq (pv 0)) (pg_name (i := 2) sc_common_under.nd rfl (Or.inl rfl))
      (pss_one (ps_set (i := 1) sc_common_under.nd rfl (Or.inr rfl) (pe_op op_mulB (pv 1) (pe_ix ix_B (pv 2) pe_int (fun _ _ => rfl))))))
      (pss_one (ps_ret (pe_tup (pa_cons (pe_compG (xs := ["pair"]) (fr := [("under", 1)]) (g := (gName 0)) (tt := (tEl (tOp (rI (fun i j => IntMulOk i j) fun i j => .int (i * j)) (tOp (rIxB K) (tVar 0) (tC (.int 0))) (tOp (rI CDivB fun i j => .int (i.fdiv j)) (tVar 1) (tOp (rIxB K) (tVar 0) (tC (.int 1))))))) (compG_ok (sc := defScope s_common_under) (N := N_common_under) rfl rfl (by decide +kernel)) rfl (pi_seq (pv 0)) (fun _ _ _ hE1 => (pg_own (N := ["pair", "under"]) (i := 0) hE1 rfl (by decide +kernel))) (fun _ _ _ hE1 => (po_el (pe_op op_mulB (pe_ix ix_B (pv 0) pe_int (fun _ _ => rfl)) (pe_op op_fdivB (pv 1) (pe_ix ix_B (pv 0) pe_int (fun _ _ => rfl))))))) (pa_cons (pv 1) pa_nil))))))), ?_⟩
    show tSeq _ _ _ [some (.ref l), none, none] H
    refine st fun N1 e1 => ?_
    walk_at "rd2"
    subst e1
    refine st fun N1 e1 => for_st fun B eB => ?_
    simp only [iSeq]
    walk_at "rd2"
    refine ⟨false, ⟨_, SqB.lst hl⟩, ?_⟩
    have pk : ∀ (i : Nat) (y : V), ys[i]? = some y → ∃ a p, y = .ref a ∧ ps[i]? = some p ∧ H a = some (tupP p) := hys
    refine fr_seq (g := gName 2) (tb := B) (fun i σ H2 => ∃ v, σ = [some (.ref l), some (.int (proU (ps.take i))), v] ∧ H2 = H) ⟨none, rfl, rfl⟩ (fun i σ H2 _ ⟨_, _, e⟩ => e ▸ SqB.lst hl) ?_ ?_
    · rintro i y σ H2 hi ⟨v, rfl, rfl⟩
      obtain ⟨a, p, rfl, ep, ha⟩ := pk i y hi
      have i1 : ∀ Q' : VK, Q' (.int p.2) H2 → rIxB K (.ref a) (.int 1) H2 Q' := fun Q' q => ⟨true, a, _, _, _, rfl, rfl, SqB.tup ha, atI_at (i := 1) rfl rfl, q⟩
      subst eB
      show tAsg _ _ _ [some (.ref l), some (.int (proU (ps.take i))), some (.ref a)] H2
      walk_at "rd2"
      refine i1 _ ?_
      walk_at "rd2"
      have gp := hg p (List.mem_of_getElem? ep)
      refine ⟨IntMulOk.of_le (small_bits (proU_small (good_take hg i) (take_le3 hn i))) (pr_bits gp.bot) (by decide), ?_⟩
      exact (proU_snoc ep).symm
    · rintro σ H2 ⟨v, rfl, rfl⟩
      rw [hly, List.take_length]
      have hps := proU_small hg hn
      subst e1
      walk_at "rd2"
      refine compE_st fun B2 eB2 => ?_
      simp only [iSeq]
      walk_at "rd2"
      refine ⟨false, ⟨_, SqB.lst hl⟩, fun a1 ha1 => ?_⟩
      refine cg_seq (fun j y _ => ∃ p, ps[j]? = some p ∧ y = .int (p.1 * (proU ps).fdiv p.2)) ha1 (SqB.lst hl) (by omega) (fun _ _ _ _ r _ => r) ?_ ?_
      · intro i y H3 zs hy s3 ez Q' hQ'
        obtain ⟨a, p, rfl, ep, ha⟩ := pk i y hy
        have gp := hg p (List.mem_of_getElem? ep)
        have ha3 := s3 _ _ ha
        have i0 : ∀ Q' : VK, Q' (.int p.1) H3 → rIxB K (.ref a) (.int 0) H3 Q' := fun Q' q => ⟨true, a, _, _, _, rfl, rfl, SqB.tup ha3, atI_at (i := 0) rfl rfl, q⟩
        have i1 : ∀ Q' : VK, Q' (.int p.2) H3 → rIxB K (.ref a) (.int 1) H3 Q' := fun Q' q => ⟨true, a, _, _, _, rfl, rfl, SqB.tup ha3, atI_at (i := 1) rfl rfl, q⟩
        subst eB2
        show tOp _ _ _ [some (.ref a), some (.int (proU ps))] H3 Q'
        walk_at "rd2"
        refine i0 _ ?_
        try walk_at "rd2"
        refine i1 _ ?_
        try walk_at "rd2"
        exact ⟨pr_div gp _, IntMulOk.of_le (pr_bits gp.top) (small_bits (fdiv_small hps)) (by decide), hQ' _ _ (Same.refl _) ⟨p, ep, rfl⟩⟩
      · intro H3 zs s3 ez hlz hR
        have ez2 : zs = (proT ps).map V.int := by
          unfold proT
          rw [List.map_map]
          exact list_is (by omega) hR
        subst ez2
        exact ⟨by show 2 ≤ sizeLine; decide, fun q hq => hQ q a1 _ (s3.trans (Same.new hq)) upd_same ((Same.new hq) _ _ ez)⟩
theorem ok_law_great (T : Txt K mg t) : FnOk P w K mg base CX0 1 t.a_law_great t.d_law_great ["_law_cell"] sp_law_great := by
  refine T.F_law_great.ok sc_law_great (fun vs H Q E h => ?_) (fun cdv A outer s H vs Q E hr h => ?_)
  · obtain ⟨c, rfl, _⟩ := h
    rfl
  · obtain ⟨c, rfl, hb, hQ⟩ := h
    refine ⟨_, (pss_one (ps_ret (pe_op op_add pe_int (pe_op op_modN (pe_op op_mulB (pe_op op_mulB (pv 0) (pe_op op_pow pe_int pe_int)) (pe_op op_pow pe_int pe_int)) (pe_op op_sub (pe_op op_mulB (pe_op op_pow pe_int pe_int) (pe_op op_pow pe_int pe_int)) pe_int))))), ?_⟩
    show tRet _ _ [some (.int c)] H
    walk_at "rd2"
    have b1 : Builtin.Int.intBits ((13 : Int) ^ Int.toNat 60) ≤ 300 := by decide +kernel
    have b2 : Builtin.Int.intBits ((17 : Int) ^ Int.toNat 26) ≤ 300 := by decide +kernel
    have b3 : Builtin.Int.intBits ((10 : Int) ^ Int.toNat 50) ≤ 300 := by decide +kernel
    have m0 : (0 : Int) < 10 ^ Int.toNat 50 * 10 ^ Int.toNat 50 - 1 := by decide +kernel
    have m1 : (10 : Int) ^ Int.toNat 50 * 10 ^ Int.toNat 50 - 1 < 10 ^ 100 := by decide +kernel
    refine ⟨⟨by decide, by decide, by decide⟩, IntMulOk.of_le hb b1 (by decide), ⟨by decide, by decide, by decide⟩, IntMulOk.of_le (intBits_mul_le hb b1) b2 (by decide), ⟨by decide, by decide, by decide⟩, ⟨by decide, by decide, by decide⟩, IntMulOk.of_le b3 b3 (by decide), ?_, ?_⟩
    · omega
    generalize (10 : Int) ^ Int.toNat 50 * 10 ^ Int.toNat 50 - 1 = m at *
    generalize (c * 13 ^ Int.toNat 60 * 17 ^ Int.toNat 26) = x at *
    have l1 := Int.fmod_nonneg_of_pos x m0
    have l2 := Int.fmod_lt_of_pos x m0
    exact hQ _ (by omega) (by omega)
theorem ok_law_share (T : Txt K mg t) : FnOk P w K mg base CX0 2 t.a_law_share t.d_law_share ["_law_cell", "_law_other_here"] (sp_law_share K) := by
  have G_law_great : FnOk P w K mg base CX0 1 t.a_law_great t.d_law_great ["_law_cell"] sp_law_great := ok_law_great T
  have G_law_common : FnOk P w K mg base CX0 1 t.a_law_common t.d_law_common ["_law_one", "_law_other_here"] sp_law_common := ok_law_common T
  refine T.F_law_share.ok sc_law_share (fun vs H Q E h => ?_) (fun cdv A outer s H vs Q E hr h => ?_)
  · obtain ⟨c, o, rfl, _⟩ := h
    rfl
  · obtain ⟨c, o, rfl, hc, ho, hQ⟩ := h
    refine ⟨_, (pss_cons (ps_set (i := 2) sc_law_share.nd rfl (Or.inl rfl) (pe_op op_modN (pv 0) pe_int))
      (pss_cons (ps_set (i := 3) sc_law_share.nd rfl (Or.inl rfl) (pe_op op_sub (pe_op op_modN (pe_op op_add (pe_op op_fdivB (pv 0) pe_int) pe_int) pe_int) pe_int))
      (pss_cons (ps_set (i := 4) sc_law_share.nd rfl (Or.inl rfl) pe_int)
      (pss_cons (ps_if (PW.pt (pw_or (pt_cmpR op_eqZ (pv 2) pe_int (nomark _)) (pw_or1 (pt_cmpR op_eqZ (pv 2) pe_int (nomark _)))))
      (pss_one (ps_set (i := 3) sc_law_share.nd rfl (Or.inl rfl) (pe_op op_mulB (pe_op op_sub pe_int (pe_op op_mulB pe_int (pe_op op_modN (pe_op op_fdivB (pv 0) pe_int) pe_int))) (pe_call G_law_great (hr.mono (by omega)) rfl T.m_law_great T.F_law_great.kp T.b_law_great .nil pass0 (pa_cons (pe_op op_fdivB (pv 0) pe_int) pa_nil)))))
      pss_nil)
      (pss_cons (ps_if (PW.pt (pw_or (pt_cmpR op_eqZ (pv 2) pe_int (nomark _)) (pw_or (pt_cmpR op_eqZ (pv 2) pe_int (nomark _)) (pw_or1 (pt_cmpR op_eqZ (pv 2) pe_int (nomark _))))))
      (pss_one (ps_set (i := 4) sc_law_share.nd rfl (Or.inl rfl) (pe_op op_add pe_int (pe_op op_modN (pv 1) pe_int))))
      pss_nil)
      (pss_cons (ps_if (PW.pt (pw_or (pt_cmpR op_eqZ (pv 2) pe_int (nomark _)) (pw_or1 (pt_cmpR op_eqZ (pv 2) pe_int (nomark _)))))
      (pss_one (ps_set (i := 4) sc_law_share.nd rfl (Or.inl rfl) (pe_call G_law_great (hr.mono (by omega)) rfl T.m_law_great T.F_law_great.kp T.b_law_great .nil pass0 (pa_cons (pv 1) pa_nil))))
      pss_nil)
      (pss_cons (ps_set (i := 5) sc_law_share.nd rfl (Or.inl rfl) (pe_call G_law_common (hr.mono (by omega)) rfl T.m_law_common T.F_law_common.kp T.b_law_common .nil pass0 (pa_cons (pv 3) (pa_cons (pv 4) pa_nil))))
      (pss_one (ps_ret (pe_tup (pa_cons (pe_op op_fdivB (pv 3) (pv 5)) (pa_cons (pe_op op_fdivB (pv 4) (pv 5)) pa_nil)))))))))))), ?_⟩
    show tSeq _ _ _ [some (.int c), some (.int o), none, none, none, none] H
    refine st fun N1 e1 => ?_
    walk_at "rd2"
    refine ⟨by decide, ?_⟩
    have f8 := fms c 8 (by decide)
    generalize c.fmod 8 = way at f8 ⊢
    subst e1
    refine st fun N1 e1 => ?_
    walk_at "rd2"
    refine ⟨dvs _ 8 (by decide) (by decide), by decide, ?_⟩
    have f31 := fms (c.fdiv 8 + 15) 31 (by decide)
    have ht : ((c.fdiv 8 + 15).fmod 31 - 15).natAbs < 10 ^ 100 := Nat.lt_of_lt_of_le (show _ < 100 by omega) (by decide +kernel)
    generalize (c.fdiv 8 + 15).fmod 31 - 15 = top at ht ⊢
    subst e1
    refine st fun N1 e1 => ?_
    walk_at "rd2"
    subst e1
    refine st fun N1 e1 => ?_
    have k1 : ∀ top : Int, top.natAbs < 10 ^ 100 → N1 [some (.int c), some (.int o), some (.int way), some (.int top), some (.int 1), none] H := by
      intro top ht
      subst e1
      refine st fun N2 e2 => ?_
      have k2 : ∀ bot : Int, 0 < bot → bot.natAbs < 10 ^ 100 → N2 [some (.int c), some (.int o), some (.int way), some (.int top), some (.int bot), none] H := by
        intro bot hb0 hb1
        subst e2
        refine st fun N3 e3 => ?_
        have k3 : ∀ bot : Int, 0 < bot → bot.natAbs < 10 ^ 100 → N3 [some (.int c), some (.int o), some (.int way), some (.int top), some (.int bot), none] H := by
          intro bot hb0 hb1
          subst e3
          refine st fun N4 e4 => ?_
          walk_at "rd2"
          refine ⟨_, _, rfl, ?_⟩
          obtain ⟨g0, g1⟩ := gcd_le (a := top) hb0
          have gd1 : gcdI top bot ∣ top := Int.gcd_dvd_left _ _
          have gd2 : gcdI top bot ∣ bot := Int.gcd_dvd_right _ _
          have cd : ∀ x, CDivB x (gcdI top bot) := fun x => ⟨by omega, Nat.lt_of_lt_of_le ((Nat.log2_lt (by omega)).mpr (Nat.lt_of_lt_of_le (show (gcdI top bot).natAbs < 10 ^ 100 by omega) (show 10 ^ 100 ≤ 2 ^ 400 by decide +kernel))) (by decide)⟩
          subst e4
          walk_at "rd2"
          refine ⟨cd _, cd _, by show 2 ≤ sizeLine; decide, fun q hq => hQ q (top.fdiv (gcdI top bot), bot.fdiv (gcdI top bot)) _ (Same.new hq) ?_ upd_same⟩
          have e1 := fdiv_exact (by omega) gd1
          have e2 := fdiv_exact (by omega) gd2
          have hg : gcdI (top.fdiv (gcdI top bot) * gcdI top bot) (bot.fdiv (gcdI top bot) * gcdI top bot) = gcdI top bot := by rw [e1, e2]
          have n1 := natAbs_fdiv_le top (gcdI top bot)
          have n2 := natAbs_fdiv_le bot (gcdI top bot)
          generalize top.fdiv (gcdI top bot) = x at *
          generalize bot.fdiv (gcdI top bot) = y at *
          generalize gcdI top bot = g at *
          rw [gcdI_mul x y g g0] at hg
          have y0 : 0 < y := by
            rcases Int.lt_trichotomy y 0 with z | z | z
            · have := Int.mul_neg_of_neg_of_pos z g0; omega
            · rw [z, Int.zero_mul] at e2; omega
            · exact z
          refine ⟨y0, Nat.lt_of_le_of_lt n1 ht, Nat.lt_of_le_of_lt n2 hb1, ?_⟩
          show gcdI x y = 1
          exact Int.eq_of_mul_eq_mul_right (show g ≠ 0 by omega) (by rw [hg, Int.one_mul])
        walk_at "rd2"
        have gr : ∀ Q' : VK, (∀ v : Int, 0 < v → v < 10 ^ 100 → Q' (.int v) H) → sp_law_great [.int o] H Q' E0 := fun Q' q => ⟨o, rfl, ho, q⟩
        split
        · exact gr _ fun v h0 h1 => k3 v h0 (by omega)
        · split
          · exact gr _ fun v h0 h1 => k3 v h0 (by omega)
          · exact k3 bot hb0 hb1
      walk_at "rd2"
      have f24 := fms o 24 (by decide)
      have b24 : (1 + o.fmod 24).natAbs < 10 ^ 100 := Nat.lt_of_lt_of_le (show _ < 100 by omega) (by decide +kernel)
      split
      · exact ⟨by decide, k2 _ (by omega) b24⟩
      · split
        · exact ⟨by decide, k2 _ (by omega) b24⟩
        · split
          · exact ⟨by decide, k2 _ (by omega) b24⟩
          · exact k2 1 (by decide) (by decide)
    walk_at "rd2"
    have f2 := fms (c.fdiv 8) 2 (by decide)
    have gr : ∀ Q' : VK, (∀ v : Int, 0 < v → v < 10 ^ 100 → Q' (.int v) H) → sp_law_great [.int (c.fdiv 16)] H Q' E0 := fun Q' q => ⟨_, rfl, intBits_fdiv_le hc, q⟩
    have big : sp_law_great [.int (c.fdiv 16)] H (fun y H2 => rI (fun i j => IntMulOk i j) (fun i j => V.int (i * j)) (V.int (1 - 2 * (c.fdiv 8).fmod 2)) y H2 fun x H1 => N1 [some (V.int c), some (V.int o), some (V.int way), some x, some (V.int 1), none] H1) E0 := by
      refine gr _ fun v h0 h1 => ⟨_, _, rfl, rfl, IntMulOk.of_left (intBits_le_iff.mpr (by omega)), k1 _ ?_⟩
      rcases (show (c.fdiv 8).fmod 2 = 0 ∨ (c.fdiv 8).fmod 2 = 1 by omega) with z | z
      · rw [z]; omega
      · rw [z]; omega
    have bigC : CDivB c 8 ∧ ¬(2 : Int) = 0 ∧ IntMulOk 2 ((c.fdiv 8).fmod 2) ∧ CDivB c 16 ∧ sp_law_great [.int (c.fdiv 16)] H (fun y H2 => rI (fun i j => IntMulOk i j) (fun i j => V.int (i * j)) (V.int (1 - 2 * (c.fdiv 8).fmod 2)) y H2 fun x H1 => N1 [some (V.int c), some (V.int o), some (V.int way), some x, some (V.int 1), none] H1) E0 :=
      ⟨dvs _ 8 (by decide) (by decide), by decide, IntMulOk.of_left (by decide), dvs _ 16 (by decide) (by decide), big⟩
    split
    · exact bigC
    · split
      · exact bigC
      · exact k1 top ht
theorem ok_law_word (T : Txt K mg t) : FnOk P w K mg base CX0 1 t.a_law_word t.d_law_word ["_law_share_here"] (sp_law_word K) := by
  refine T.F_law_word.ok sc_law_word (fun vs H Q E h => ?_) (fun cdv A outer s H vs Q E hr h => ?_)
  · obtain ⟨a, p, rfl, _⟩ := h
    rfl
  · obtain ⟨a, p, rfl, hp, g, hQ⟩ := h
    have i0 : ∀ Q' : VK, Q' (.int p.1) H → rIxB K (.ref a) (.int 0) H Q' := fun Q' q => ⟨true, a, _, _, _, rfl, rfl, SqB.tup hp, atI_at (i := 0) rfl rfl, q⟩
    have i1 : ∀ Q' : VK, Q' (.int p.2) H → rIxB K (.ref a) (.int 1) H Q' := fun Q' q => ⟨true, a, _, _, _, rfl, rfl, SqB.tup hp, atI_at (i := 1) rfl rfl, q⟩
    refine ⟨_, (pss_cons (ps_set (i := 1) sc_law_word.nd rfl (Or.inl rfl) (pe_callTy call_str_int rfl T.z_str (by decide +kernel) (pa_cons (pe_callB call_abs rfl T.z_abs (by decide +kernel) (pa_cons (pe_ix ix_B (pv 0) pe_int (fun _ _ => rfl)) pa_nil)) pa_nil)))
      (pss_cons (ps_if (pt_cmpR op_gt (pe_ix ix_B (pv 0) pe_int (fun _ _ => rfl)) pe_int (nomark _))
      (pss_one (ps_set (i := 1) sc_law_word.nd rfl (Or.inl rfl) (pe_op op_add_str (pe_op op_add_str (pv 1) pe_str) (pe_callTy call_str_int rfl T.z_str (by decide +kernel) (pa_cons (pe_ix ix_B (pv 0) pe_int (fun _ _ => rfl)) pa_nil)))))
      pss_nil)
      (pss_cons (ps_if (pt_cmpR op_lt (pe_ix ix_B (pv 0) pe_int (fun _ _ => rfl)) pe_int (nomark _))
      (pss_one (ps_ret (pe_op op_add_str pe_str (pv 1))))
      pss_nil)
      (pss_one (ps_ret (pv 1)))))), ?_⟩
    show tSeq _ _ _ [some (.ref a), none] H
    refine st fun N1 e1 => ?_
    walk_at "rd2"
    refine i0 _ ?_
    walk_at "rd2"
    have gt := g.top
    have gb := g.bot
    have gp := g.pos
    have lg : ∀ z : Nat, z < 10 ^ 100 → z.log2 < 1920 := fun z b => log_small (Nat.lt_of_lt_of_le b (show 10 ^ 100 ≤ 2 ^ 1900 by decide +kernel))
    rw [abs_nat]
    refine ⟨lg _ (by omega), ?_⟩
    have d1 : (dec p.1.natAbs).length ≤ 100 := dec100 gt
    have d2 : (dec p.2.toNat).length ≤ 100 := dec100 (by omega)
    have fl : (fracW p.1.natAbs p.2.toNat).length ≤ 201 := fracW_len gt (by omega)
    subst e1
    refine st fun N1 e1 => ?_
    have key : N1 [some (.ref a), some (.str (fracW p.1.natAbs p.2.toNat))] H := by
      subst e1
      refine st fun N2 e2 => ?_
      walk_at "rd2"
      refine i0 _ ?_
      walk_at "rd2"
      unfold wordT at hQ
      by_cases z : p.1 < 0
      · rw [decide_eq_true z]
        rw [if_pos z] at hQ
        refine iteT ⟨_, rfl, _, rfl, sizeLe ?_, hQ⟩
        have : (Str.ofString "-").length = 1 := by decide +kernel
        omega
      · rw [decide_eq_false z]
        rw [if_neg z] at hQ
        refine iteF ?_
        subst e2
        walk_at "rd2"
        exact hQ
    walk_at "rd2"
    refine i1 _ ?_
    walk_at "rd2"
    by_cases z : p.2 = 1
    · rw [decide_eq_false (by omega)]
      refine iteF ?_
      unfold fracW at key
      rw [if_pos (by omega)] at key
      exact key
    · rw [decide_eq_true (by omega)]
      have l3 : (Str.ofString "/").length = 1 := by decide +kernel
      refine iteT ⟨_, rfl, _, rfl, sizeLe (by show (dec p.1.natAbs).length + _ ≤ _; omega), i1 _ ?_⟩
      walk_at "rd2"
      refine ⟨lg _ (by omega), _, rfl, _, rfl, ?_, ?_⟩
      · show (dec p.1.natAbs ++ Str.ofString "/").length + _ ≤ _
        rw [len_app]
        have : (Str.ofString (toString p.2)).length ≤ 100 := by
          have e : toString p.2 = toString ((p.2.toNat : Nat) : Int) := by rw [show ((p.2.toNat : Nat) : Int) = p.2 by omega]
          rw [e]
          exact d2
        exact sizeLe (by omega)
      · unfold fracW at key
        rw [if_neg (by omega)] at key
        have e : toString p.2 = toString ((p.2.toNat : Nat) : Int) := by rw [show ((p.2.toNat : Nat) : Int) = p.2 by omega]
        rw [e]
        exact key
theorem ok_law_place (T : Txt K mg t) : FnOk P w K mg base CX0 2 t.a_law_place t.d_law_place ["_law_worths"] (sp_law_place K) := by
  have G_law_common : FnOk P w K mg base CX0 1 t.a_law_common t.d_law_common ["_law_one", "_law_other_here"] sp_law_common := ok_law_common T
  refine T.F_law_place.ok sc_law_place (fun vs H Q E h => ?_) (fun cdv A outer s H vs Q E hr h => ?_)
  · obtain ⟨l, ps, rfl, _⟩ := h
    rfl
  · obtain ⟨l, ps, rfl, ⟨ys, hl, hly, pk⟩, hn, hg, hQ⟩ := h
    refine ⟨_, (pss_cons (ps_set (i := 1) sc_law_place.nd rfl (Or.inr rfl) pe_int)
      (pss_cons (ps_for PassesOwn.never rfl (pi_seq (pv 0)) (pg_tup rfl (pgs_cons (pg_name (i := 2) sc_law_place.nd rfl (Or.inl rfl)) (pgs_cons (pg_name (i := 3) sc_law_place.nd rfl (Or.inl rfl)) pgs_nil)))
      (pss_one (ps_set (i := 1) sc_law_place.nd rfl (Or.inr rfl) (pe_op op_fdivB (pe_op op_mulB (pv 1) (pv 3)) (pe_call G_law_common (hr.mono (by omega)) rfl T.m_law_common T.F_law_common.kp T.b_law_common .nil pass0 (pa_cons (pv 1) (pa_cons (pv 3) pa_nil)))))))
      (pss_one (ps_ret (pe_tup (pa_cons (pe_callTy call_tupB rfl T.z_tuple (by decide +kernel) (pa_cons (pe_compG (xs := ["_law_top", "_law_bottom"]) (fr := [("_law_under", 1)]) (g := (gTup K 2 (gCons (gName 0) (gCons (gName 1) gNil)))) (tt := (tEl (tOp (rI (fun i j => IntMulOk i j) fun i j => .int (i * j)) (tVar 0) (tOp (rI CDivB fun i j => .int (i.fdiv j)) (tVar 2) (tVar 1))))) (compG_ok (sc := defScope s_law_place) (N := N_law_place) rfl rfl (by decide +kernel)) rfl (pi_seq (pv 0)) (fun _ _ _ hE1 => (pg_tup rfl (pgs_cons (pg_own (N := ["_law_top", "_law_bottom", "_law_under"]) (i := 0) hE1 rfl (by decide +kernel)) (pgs_cons (pg_own (N := ["_law_top", "_law_bottom", "_law_under"]) (i := 1) hE1 rfl (by decide +kernel)) pgs_nil)))) (fun _ _ _ hE1 => (po_el (pe_op op_mulB (pv 0) (pe_op op_fdivB (pv 2) (pv 1)))))) pa_nil)) (pa_cons (pv 1) pa_nil))))))), ?_⟩
    show tSeq _ _ _ [some (.ref l), none, none, none] H
    refine st fun N1 e1 => ?_
    walk_at "rd2"
    subst e1
    refine st fun N1 e1 => for_st fun B eB => ?_
    simp only [iSeq]
    walk_at "rd2"
    refine ⟨false, ⟨_, SqB.lst hl⟩, ?_⟩
    refine fr_seq (g := gTup K 2 (gCons (gName 2) (gCons (gName 3) gNil))) (tb := B) (fun i σ H2 => ∃ v2 v3, σ = [some (.ref l), some (.int (lawU (ps.take i))), v2, v3] ∧ H2 = H) ⟨none, none, rfl, rfl⟩ (fun i σ H2 _ ⟨_, _, _, e⟩ => e ▸ SqB.lst hl) ?_ ?_
    · rintro i y σ H2 hi ⟨v2, v3, rfl, rfl⟩
      obtain ⟨a, p, rfl, ep, ha⟩ := pk i y hi
      have gp := hg p (List.mem_of_getElem? ep)
      have hU := lawU_small (good_take hg i) (take_le3 hn i)
      have hU0 := lawU_pos (good_take hg i)
      have hgd : gcdI (lawU (ps.take i)) p.2 ∣ lawU (ps.take i) := Int.gcd_dvd_left _ _
      have hg0 : gcdI (lawU (ps.take i)) p.2 ≠ 0 := fun z => by rw [z, Int.zero_dvd] at hgd; omega
      refine ⟨a, _, rfl, SqT.of ha, rfl, _, _, rfl, _, _, rfl, rfl, ?_⟩
      subst eB
      show tAsg _ _ _ [some (.ref l), some (.int (lawU (ps.take i))), some (.int p.1), some (.int p.2)] H2
      walk_at "rd2"
      refine ⟨IntMulOk.of_le (small_bits hU) (pr_bits gp.bot) (by decide), _, _, rfl, ?_⟩
      walk_at "rd2"
      refine ⟨⟨hg0, small_log (small_dvd hU (by omega) hgd) hg0⟩, ?_⟩
      rw [← lawU_snoc ep]
    · rintro σ H2 ⟨v2, v3, rfl, rfl⟩
      rw [hly, List.take_length]
      have hps := lawU_small hg hn
      subst e1
      walk_at "rd2"
      refine compE_st fun B2 eB2 => ?_
      simp only [iSeq]
      walk_at "rd2"
      refine ⟨false, ⟨_, SqB.lst hl⟩, fun a1 ha1 => ?_⟩
      refine cg_seqP (fun j y _ => ∃ p, ps[j]? = some p ∧ y = .int (p.1 * (lawU ps).fdiv p.2)) ha1 hl pk (by omega) (fun _ _ _ _ r _ => r) ?_ ?_
      · intro i p H3 zs ep s3 ez Q' hQ'
        have gp := hg p (List.mem_of_getElem? ep)
        subst eB2
        show tOp _ _ _ [some (.int p.1), some (.int p.2), some (.int (lawU ps))] H3 Q'
        walk_at "rd2"
        exact ⟨pr_div gp _, IntMulOk.of_le (pr_bits gp.top) (small_bits (fdiv_small hps)) (by decide), hQ' _ _ (Same.refl _) ⟨p, ep, rfl⟩⟩
      · intro H3 zs s3 ez hlz hR
        have ez2 : zs = (lawT ps).map V.int := by
          unfold lawT
          rw [List.map_map]
          exact list_is (by omega) hR
        subst ez2
        exact ⟨a1, _, rfl, .inl ⟨SqL.of ez, fun q hq => ⟨by show 2 ≤ sizeLine; decide, fun p hp => hQ p _ (s3.trans ((Same.new hq).trans (Same.new hp))) ⟨q, upd_same, (Same.new hp) _ _ upd_same⟩⟩⟩⟩
theorem ok_law_read (T : Txt K mg t) : FnOk P w K mg base CX0 2 t.a_law_read t.d_law_read ["_law_word_here"] (sp_law_read K) := by
  have G_law_common : FnOk P w K mg base CX0 1 t.a_law_common t.d_law_common ["_law_one", "_law_other_here"] sp_law_common := ok_law_common T
  have G_law_number : FnOk P w K mg base CX0 1 t.a_law_number t.d_law_number ["_law_word_here"] sp_law_number := ok_law_number T
  refine T.F_law_read.ok sc_law_read (fun vs H Q E h => ?_) (fun cdv A outer s H vs Q E hr h => ?_)
  · obtain ⟨x, rfl, _⟩ := h
    rfl
  · obtain ⟨x, rfl, hx, hE, hQ⟩ := h
    refine ⟨_, (pss_cons (ps_set (i := 1) sc_law_read.nd rfl (Or.inl rfl) pe_int)
      (pss_cons (ps_if (pt_cmpR op_eq (pv 0) pe_str (nomark _))
      (pss_one (ps_ret (pe_tup (pa_cons pe_int (pa_cons pe_int pa_nil)))))
      pss_nil)
      (pss_cons (ps_if (pt_cmpR op_eq (pe_slice sl_E (pv 0) po_none (po_some pe_int)) pe_str (nomark _))
      (pss_cons (ps_set (i := 1) sc_law_read.nd rfl (Or.inl rfl) (pe_un un_neg pe_int))
      (pss_one (ps_set (i := 0) sc_law_read.nd rfl (Or.inl rfl) (pe_slice sl_E (pv 0) (po_some pe_int) po_none))))
      pss_nil)
      (pss_cons (ps_set (i := 2) sc_law_read.nd rfl (Or.inl rfl) (pe_bm PySem.F.plainAttrs_str PySem.F.slot_str_split PySem.F.type_str_split mt_split (pv 0) (pa_cons pe_str pa_nil)))
      (pss_cons (ps_set (i := 3) sc_law_read.nd rfl (Or.inl rfl) (pe_call G_law_number (hr.mono (by omega)) rfl T.m_law_number T.F_law_number.kp T.b_law_number .nil pass0 (pa_cons (pe_ix ix_B (pv 2) pe_int (fun _ _ => rfl)) pa_nil)))
      (pss_cons (ps_set (i := 4) sc_law_read.nd rfl (Or.inl rfl) pe_int)
      (pss_cons (ps_if (pt_cmpR op_eqZ (pe_callB call_lenB rfl T.z_len (by decide +kernel) (pa_cons (pv 2) pa_nil)) pe_int (nomark _))
      (pss_cons (ps_set (i := 4) sc_law_read.nd rfl (Or.inl rfl) (pe_call G_law_number (hr.mono (by omega)) rfl T.m_law_number T.F_law_number.kp T.b_law_number .nil pass0 (pa_cons (pe_ix ix_B (pv 2) pe_int (fun _ _ => rfl)) pa_nil)))
      (pss_one (ps_if (PW.pt (pw_or (pt_cmpR op_lt (pv 4) pe_int (nomark _)) (pw_or1 (pt_cmpR op_neZ (pe_call G_law_common (hr.mono (by omega)) rfl T.m_law_common T.F_law_common.kp T.b_law_common .nil pass0 (pa_cons (pv 3) (pa_cons (pv 4) pa_nil))) pe_int (nomark _)))))
      (pss_one (ps_ret pe_non))
      pss_nil)))
      pss_nil)
      (pss_cons (ps_if (PW.pt (pw_or (pt_cmpR op_gt (pe_callB call_lenB rfl T.z_len (by decide +kernel) (pa_cons (pv 2) pa_nil)) pe_int (nomark _)) (pw_or1 (pt_cmpR op_eqZ (pv 3) pe_int (nomark _)))))
      (pss_one (ps_ret pe_non))
      pss_nil)
      (pss_one (ps_ret (pe_tup (pa_cons (pe_op op_mulB (pv 1) (pv 3)) (pa_cons (pv 4) pa_nil))))))))))))), ?_⟩
    show tSeq _ _ _ [some (.str x), none, none, none, none] H
    refine st fun N1 e1 => ?_
    walk_at "rd2"
    subst e1
    refine st fun N1 e1 => ?_
    walk_at "rd2"
    refine ⟨rfl, _, rfl, ?_⟩
    unfold numV at hE hQ
    by_cases z : x = "0"
    · rw [if_pos z] at hE hQ
      rw [decide_eq_true (by rw [z] : V.str x = V.str (Str.ofString "0"))]
      exact iteT ⟨by show 2 ≤ sizeLine; decide, fun p hp => hQ _ rfl p _ (Same.new hp) upd_same⟩
    rw [if_neg z] at hE hQ
    rw [decide_eq_false (fun q => z (by injection q) : ¬ V.str x = V.str (Str.ofString "0"))]
    refine iteF ?_
    subst e1
    refine st fun N1 e1 => ?_
    have key : ∀ (b : Int) (y : Str), (b = 1 ∨ b = -1) → y.length ≤ 1500 → (fracV y = none → ∀ H', Same H H' → Q .non H') → (∀ p, fracV y = some p → ∀ a H', Same H H' → H' a = some (tupP (b * p.1, p.2)) → Q (.ref a) H') → N1 [some (.str y), some (.int b), none, none, none] H := by
      intro b y hb hy hE hQ
      have hne := cut_ne y slash
      have hpl : ∀ z ∈ Txt.split y slash, z.length ≤ 1500 := fun z hz => Nat.le_trans (part_le hz) hy
      subst e1
      refine st fun N1 e1 => ?_
      walk_at "rd2"
      refine ⟨rfl, y, slash, rfl, rfl, slash_len0, Nat.le_trans hy (by decide), Nat.le_trans (parts_le y slash (by omega)) (by decide), fun l hl => ?_⟩
      have s1 : Same H (upd H l (.lst ((Txt.split y slash).map V.str))) := Same.new hl
      have el : (upd H l (.lst ((Txt.split y slash).map V.str))) l = some (.lst ((Txt.split y slash).map V.str)) := upd_same
      generalize upd H l (.lst ((Txt.split y slash).map V.str)) = H1 at s1 el
      have hf : fracV y = fracL (Txt.split y slash) := rfl
      generalize hxs : Txt.split y slash = xs at *
      have hlen : ∀ Q' : VK, Q' (.int xs.length) H1 → rLenB K [.ref l] H1 Q' := fun Q' q => ⟨false, l, _, rfl, SqB.lst el, by rw [List.length_map]; exact q⟩
      have hix : ∀ (k : Nat) (z : Str) (Q' : VK), xs[k]? = some z → Q' (.str z) H1 → rIxB K (.ref l) (.int k) H1 Q' := fun k z Q' e q => ⟨false, l, _, _, _, rfl, rfl, SqB.lst el, atI_at (i := k) (by rw [List.getElem?_map, e]; rfl) rfl, q⟩
      subst e1
      refine st fun N1 e1 => ?_
      walk_at "rd2"
      have e0 : ∃ a r, xs = a :: r := by
        match xs, hne with
        | a :: r, _ => exact ⟨a, r, rfl⟩
      obtain ⟨a, r, exs⟩ := e0
      have ha0 : xs[0]? = some a := by rw [exs]; rfl
      refine hix 0 a _ ha0 ⟨a, rfl, hpl a (List.mem_of_getElem? ha0), ?_⟩
      subst e1
      refine st fun N1 e1 => ?_
      walk_at "rd2"
      subst e1
      refine st fun N1 e1 => ?_
      have tp0 : (if wholeB a = true then (valN a : Int) else 0) = 0 ↔ wholeB a = false := by
        cases hw : wholeB a with
        | false => simp
        | true => have := whole_pos hw; simp; omega
      have last : ∀ bt : Int, (xs.length > 2 ∨ wholeB a = false → fracV y = none) → (¬ (xs.length > 2 ∨ wholeB a = false) → fracV y = some ((valN a : Int), bt)) → N1 [some (.str y), some (.int b), some (.ref l), some (.int (if wholeB a = true then (valN a : Int) else 0)), some (.int bt)] H1 := by
        intro bt h1 h2
        subst e1
        refine st fun N2 e2 => ?_
        walk_at "rd2"
        refine hlen _ ?_
        try walk_at "rd2"
        by_cases k : 2 < xs.length
        · rw [decide_eq_true (by omega)]
          exact iteT (hE (h1 (.inl k)) _ s1)
        rw [decide_eq_false (by omega)]
        refine iteF ?_
        by_cases k2 : wholeB a = true
        case neg =>
          have k2' : wholeB a = false := by simpa using k2
          rw [decide_eq_true (tp0.mpr k2')]
          exact iteT (hE (h1 (.inr k2')) _ s1)
        rw [decide_eq_false (fun q => by rw [tp0] at q; rw [q] at k2; cases k2)]
        refine iteF ?_
        rw [if_pos k2]
        subst e2
        walk_at "rd2"
        refine ⟨IntMulOk.of_left (intBits_le_iff.mpr (by omega)), by show 2 ≤ sizeLine; decide, fun p hp => hQ _ (h2 (fun h => ?_)) p _ (s1.trans (Same.new hp)) upd_same⟩
        rcases h with h | h
        · exact k h
        · rw [h] at k2; cases k2
      walk_at "rd2"
      refine hlen _ ?_
      try walk_at "rd2"
      by_cases k : xs.length = 2
      · rw [decide_eq_true (by omega)]
        obtain ⟨b2, er⟩ : ∃ b2, r = [b2] := by
          rw [exs] at k
          match r, k with
          | [b2], _ => exact ⟨b2, rfl⟩
        subst er
        have hb0 : xs[1]? = some b2 := by rw [exs]; rfl
        have hf2 : fracV y = (if wholeB a = true ∧ wholeB b2 = true ∧ valN b2 ≠ 1 ∧ gcdI (valN a) (valN b2) = 1 then some ((valN a : Int), (valN b2 : Int)) else none) := by rw [hf, exs]; rfl
        refine iteT (hix 1 b2 _ hb0 ⟨b2, rfl, hpl b2 (List.mem_of_getElem? hb0), ?_⟩)
        walk_at "rd2"
        have vb : ∀ v : Int, v = (if wholeB b2 = true then (valN b2 : Int) else 0) → (2 ≤ v → wholeB b2 = true ∧ v = valN b2 ∧ valN b2 ≠ 1) ∧ (v < 2 → ¬ (wholeB b2 = true ∧ valN b2 ≠ 1)) := by
          intro v ev
          cases hw : wholeB b2 with
          | false =>
            rw [hw, if_neg (by decide)] at ev
            exact ⟨fun h => by omega, fun _ h => by cases h.1⟩
          | true =>
            rw [hw, if_pos rfl] at ev
            have := whole_pos hw
            exact ⟨fun h => ⟨rfl, ev, by omega⟩, fun h h2 => h2.2 (by omega)⟩
        obtain ⟨vb1, vb2⟩ := vb _ rfl
        generalize (if wholeB b2 = true then (valN b2 : Int) else 0) = v at *
        by_cases kb : v < 2
        · rw [decide_eq_true kb]
          refine iteT (hE ?_ _ s1)
          rw [hf2, if_neg (fun h => vb2 kb ⟨h.2.1, h.2.2.1⟩)]
        rw [decide_eq_false kb]
        obtain ⟨w1, w2, w3⟩ := vb1 (by omega)
        refine iteF ⟨_, _, rfl, ?_⟩
        try walk_at "rd2"
        by_cases kg : gcdI (if wholeB a = true then (valN a : Int) else 0) v = 1
        · rw [decide_eq_true kg]
          refine iteF (last v (fun h => ?_) fun h => ?_)
          · rw [hf2, if_neg (fun q => ?_)]
            rcases h with h | h
            · omega
            · rw [h] at q; cases q.1
          · have ha : wholeB a = true := by
              cases hw : wholeB a with
              | false => exact absurd (.inr hw) h
              | true => rfl
            rw [if_pos ha, w2] at kg
            rw [hf2, if_pos ⟨ha, w1, w3, kg⟩, w2]
        · rw [decide_eq_false kg]
          refine iteT (hE ?_ _ s1)
          rw [hf2, if_neg (fun q => kg ?_)]
          rw [if_pos q.1, w2]
          exact q.2.2.2
      · rw [decide_eq_false (by omega)]
        refine iteF (last 1 (fun h => ?_) fun h => ?_)
        · rw [hf, exs]
          rw [exs] at h k
          match r, k, h with
          | [], _, h =>
            have h' : wholeB a = false := by
              rcases h with h | h
              · simp at h
              · exact h
            show (if wholeB a = true then some ((valN a : Int), (1 : Int)) else none) = none
            rw [if_neg (by rw [h']; decide)]
          | [b2], k, _ => exact absurd rfl k
          | _ :: _ :: _, _, _ => rfl
        · rw [hf, exs]
          rw [exs] at h k
          match r, k, h with
          | [], _, h =>
            have h' : wholeB a = true := by
              cases hw : wholeB a with
              | false => exact absurd (.inr hw) h
              | true => rfl
            show (if wholeB a = true then some ((valN a : Int), (1 : Int)) else none) = _
            rw [if_pos h']
          | [b2], k, _ => exact absurd rfl k
          | _ :: _ :: _, _, h => exact absurd (.inl (by simp)) h
    walk_at "rd2"
    refine ⟨x, rfl, Nat.le_trans hx (by decide), ?_⟩
    try walk_at "rd2"
    refine ⟨rfl, _, rfl, ?_⟩
    have ht : (tailS x).length ≤ 1500 := Nat.le_trans (PyProof.Txt.length_slice_le x (some 1) none) hx
    have e3 : (V.str (Txt.slice x none (some 1)) = V.str (Str.ofString "-")) ↔ Txt.startswith x minus = true := by
      rw [← slice1 x]
      constructor
      · intro h; injection h
      · intro h; rw [h]; rfl
    by_cases sm : Txt.startswith x minus = true
    · rw [if_pos sm] at hE hQ
      rw [decide_eq_true (e3.mpr sm)]
      refine iteT ⟨x, rfl, Nat.le_trans hx (by decide), key (-1) (tailS x) (.inr rfl) ht (fun h => hE (by rw [h]; rfl)) fun p hp a H' s' ha => hQ (negP p) (by rw [hp]; rfl) a H' s' ?_⟩
      rw [show negP p = (-1 * p.1, p.2) by unfold negP; rw [Int.neg_mul, Int.one_mul]]
      exact ha
    · rw [if_neg sm] at hE hQ
      rw [decide_eq_false (fun q => sm (e3.mp q))]
      refine iteF (key 1 x (.inl rfl) hx hE fun p hp a H' s' ha => hQ p hp a H' s' ?_)
      rw [show p = (1 * p.1, p.2) by rw [Int.one_mul]]
      exact ha
theorem ok_law_due (T : Txt K mg t) : FnOk P w K mg base CX0 3 t.a_law_due t.d_law_due ["_law_text"] (sp_law_due K) := by
  have G_law_read : FnOk P w K mg base CX0 2 t.a_law_read t.d_law_read ["_law_word_here"] (sp_law_read K) := ok_law_read T
  have G_law_place : FnOk P w K mg base CX0 2 t.a_law_place t.d_law_place ["_law_worths"] (sp_law_place K) := ok_law_place T
  refine T.F_law_due.ok sc_law_due (fun vs H Q E h => ?_) (fun cdv A outer s H vs Q E hr h => ?_)
  · obtain ⟨x, rfl, _⟩ := h
    rfl
  · obtain ⟨x, rfl, hx, hE, hQ⟩ := h
    refine ⟨_, (pss_cons (ps_set (i := 1) sc_law_due.nd rfl (Or.inl rfl) (pe_bm PySem.F.plainAttrs_str PySem.F.slot_str_split PySem.F.type_str_split mt_split (pv 0) (pa_cons pe_str pa_nil)))
      (pss_cons (ps_if (PW.pt (pw_and (pt_cmpR op_neZ (pe_callB call_lenB rfl T.z_len (by decide +kernel) (pa_cons (pv 1) pa_nil)) pe_int (nomark _)) (pw_and1 (pt_cmpR op_neZ (pe_callB call_lenB rfl T.z_len (by decide +kernel) (pa_cons (pv 1) pa_nil)) pe_int (nomark _)))))
      (pss_one (ps_ret pe_non))
      pss_nil)
      (pss_cons (ps_setCG (i := 2) (xs := ["_law_word_here"]) (fr := []) (g := (gName 0)) (tt := (tEl (tCall (sp_law_read K) [] E0 (tCons (tVar 0) tNil)))) (compG_ok (sc := defScope s_law_due) (N := N_law_due) rfl rfl (by decide +kernel)) rfl sc_law_due.nd rfl rfl (pi_seq (pv 1)) (fun _ _ _ hE1 => (pg_own (N := ["_law_word_here"]) (i := 0) hE1 rfl (by decide +kernel))) (fun _ _ _ hE1 => (po_el (pe_call G_law_read (hr.mono (by omega)) rfl T.m_law_read T.F_law_read.kp T.b_law_read .nil pass0 (pa_cons (pv 0) pa_nil)))))
      (pss_cons (ps_if (pt_cmpR op_gt (pe_callB call_lenB rfl T.z_len (by decide +kernel) (pa_cons (pe_compG (xs := ["_law_share_here"]) (fr := []) (g := (gName 0)) (tt := (tElIf (tTest (tOp (fun x y H Q => y = V.non ∧ Q (V.bl (decide (x = V.non))) H) (tVar 0) (tC .non))) (tVar 0))) (compG_ok (sc := defScope s_law_due) (N := N_law_due) rfl rfl (by decide +kernel)) rfl (pi_seq (pv 2)) (fun _ _ _ hE1 => (pg_own (N := ["_law_share_here"]) (i := 0) hE1 rfl (by decide +kernel))) (fun _ _ _ hE1 => (po_if (pt_cmpR op_isN (pv 0) pe_non (nomark _)) (pv 0)))) pa_nil)) pe_int (nomark _))
      (pss_one (ps_ret pe_non))
      pss_nil)
      (pss_one (ps_ret (pe_call G_law_place (hr.mono (by omega)) rfl T.m_law_place T.F_law_place.kp T.b_law_place .nil pass0 (pa_cons (pv 2) pa_nil)))))))), ?_⟩
    show tSeq _ _ _ [some (.str x), none, none] H
    have hpl : ∀ z ∈ Txt.split x comma, z.length ≤ 1500 := fun z hz => Nat.le_trans (part_le hz) hx
    refine st fun N1 e1 => ?_
    walk_at "rd2"
    refine ⟨rfl, x, comma, rfl, rfl, comma_len0, Nat.le_trans hx (by decide), Nat.le_trans (parts_le x comma (by omega)) (by decide), fun l hl => ?_⟩
    have s1 : Same H (upd H l (.lst ((Txt.split x comma).map V.str))) := Same.new hl
    have el : (upd H l (.lst ((Txt.split x comma).map V.str))) l = some (.lst ((Txt.split x comma).map V.str)) := upd_same
    generalize upd H l (.lst ((Txt.split x comma).map V.str)) = H1 at s1 el
    generalize hxs : Txt.split x comma = xs at *
    have hlen : ∀ Q' : VK, Q' (.int xs.length) H1 → rLenB K [.ref l] H1 Q' := fun Q' q => ⟨false, l, _, rfl, SqB.lst el, by rw [List.length_map]; exact q⟩
    subst e1
    refine st fun N1 e1 => ?_
    walk_at "rd2"
    refine hlen _ ?_
    try walk_at "rd2"
    have main : (xs.length = 2 ∨ xs.length = 3) → N1 [some (.str x), some (.ref l), none] H1 := by
      intro hk
      subst e1
      refine st fun N1 e1 => compE_st fun B eB => ?_
      simp only [iSeq]
      walk_at "rd2"
      refine ⟨false, ⟨_, SqB.lst el⟩, fun a1 ha1 => ?_⟩
      refine cg_seq (fun j y H' => ∃ z, xs[j]? = some z ∧ ((numV z = none ∧ y = .non) ∨ ∃ p a, numV z = some p ∧ y = .ref a ∧ a ≠ a1 ∧ H' a = some (tupP p))) ha1 (SqB.lst el) (by rw [List.length_map]; omega)
        (fun i y H1 H2 ⟨z, h1, h2⟩ sx => ⟨z, h1, h2.imp id fun ⟨p, a, k1, k2, k3, k4⟩ => ⟨p, a, k1, k2, k3, sx _ _ k3 k4⟩⟩) ?_ ?_
      · intro k y H2 zs ey s2 ez Q' hQ'
        obtain ⟨z, ez2, rfl⟩ : ∃ z, xs[k]? = some z ∧ y = .str z := by
          rw [List.getElem?_map] at ey
          cases e : xs[k]? with
          | none => rw [e] at ey; cases ey
          | some z => rw [e] at ey; exact ⟨z, rfl, (Option.some.inj ey).symm⟩
        have hz := List.mem_of_getElem? ez2
        subst eB
        show tCall _ _ _ _ [some (.str z)] H2 Q'
        walk_at "rd2"
        refine ⟨z, rfl, hpl z hz, fun hno H3 s3 => hQ' _ _ s3 ⟨z, ez2, .inl ⟨hno, rfl⟩⟩, fun p hp a H3 s3 ha => hQ' _ _ s3 ⟨z, ez2, .inr ⟨p, a, hp, rfl, fun q => ?_, ha⟩⟩⟩
        rw [q, s3 _ _ ez] at ha
        cases ha
      · intro H2 zs s2 ez hlz hR
        have hlz' : zs.length = xs.length := by rw [hlz, List.length_map]
        have okI : okL xs ↔ ∀ y ∈ zs, y ≠ .non := by
          constructor
          · intro ok y hy e
            obtain ⟨k, ek⟩ := List.getElem?_of_mem hy
            obtain ⟨z, h1, h2⟩ := hR k y ek
            obtain ⟨p, hp⟩ := ok.2 z (List.mem_of_getElem? h1)
            rcases h2 with h2 | ⟨p', a, k1, k2, _⟩
            · rw [hp] at h2; cases h2.1
            · rw [k2] at e; cases e
          · intro h
            refine ⟨hk, fun z hz => ?_⟩
            obtain ⟨k, ek⟩ := List.getElem?_of_mem hz
            have kl : k < zs.length := by rw [hlz']; exact (List.getElem?_eq_some_iff.mp ek).1
            obtain ⟨z', h1, h2⟩ := hR k zs[k] (List.getElem?_eq_getElem kl)
            rw [ek] at h1
            cases h1
            rcases h2 with h2 | ⟨p', a, k1, k2, _⟩
            · exact absurd h2.2 (h _ (List.getElem_mem kl))
            · exact ⟨p', k1⟩
        subst e1
        refine st fun N1 e1 => ?_
        walk_at "rd2"
        refine compI_st fun C B eC eB => ?_
        simp only [iSeq]
        walk_at "rd2"
        refine ⟨false, ⟨_, SqB.lst ez⟩, fun a2 ha2 => ?_⟩
        subst eC
        subst eB
        refine cg_seqI (fun i ws _ => ws.length ≤ i ∧ (ws = [] ↔ ∀ y ∈ zs.take i, y ≠ .non)) ha2 (SqB.lst ez) (by omega) ⟨Nat.le_refl 0, by simp⟩ (fun i ws H1 p => p.1) (fun _ _ _ _ r _ => r) ?_ ?_
        · intro i y H3 ws ey s3 ew p C' hC1 hC2
          simp only [tElIf]
          walk_at "rd2"
          have tk : zs.take (i + 1) = zs.take i ++ [y] := take_snoc ey
          by_cases k : y = .non
          · rw [decide_eq_true k]
            refine iteT (hC1 y H3 (Same.refl _) ⟨by rw [List.length_append]; have := p.1; simp; omega, ?_⟩)
            constructor
            · intro h; simp at h
            · intro h; exact absurd k (h y (by rw [tk]; simp))
          · rw [decide_eq_false k]
            refine iteF (hC2 H3 (Same.refl _) ⟨Nat.le_succ_of_le p.1, ?_⟩)
            rw [p.2, tk]
            constructor
            · intro h z hz
              rcases List.mem_append.mp hz with q | q
              · exact h z q
              · rw [List.mem_singleton.mp q]; exact k
            · intro h z hz
              exact h z (List.mem_append_left _ hz)
        · intro H3 ws s3 ew p
          refine ⟨false, a2, _, rfl, SqB.lst ew, ?_⟩
          rw [List.take_length, ← okI] at p
          try walk_at "rd2"
          by_cases ok : okL xs
          · have e : ws = [] := p.2.mpr ok
            rw [e]
            refine iteF ?_
            subst e1
            walk_at "rd2"
            have hg := prs_good ok
            refine ⟨a1, prs xs, rfl, ⟨zs, s3 _ _ ez, by rw [prs_len]; exact hlz', fun j y ey => ?_⟩, by rw [prs_len]; omega, hg, fun q H4 s4 hq => hQ ok q H4 (((s1.trans s2).trans s3).trans s4) hq⟩
            obtain ⟨z, h1, h2⟩ := hR j y ey
            rcases h2 with h2 | ⟨p', a, k1, k2, k3, k4⟩
            · exact absurd h2.2 (okI.mp ok y (List.mem_of_getElem? ey))
            · refine ⟨a, p', k2, ?_, s3 _ _ k4⟩
              unfold prs
              rw [List.getElem?_map, h1]
              show some (numG z) = _
              rw [num_some k1]
          · have e : ws ≠ [] := fun z => ok (p.2.mp z)
            have e2 : 0 < ws.length := List.length_pos_iff.mpr e
            rw [decide_eq_true (by omega)]
            exact iteT (hE ok _ ((s1.trans s2).trans s3))
    by_cases k2 : xs.length = 2
    · rw [decide_eq_true (by omega)]
      exact iteF (main (.inl k2))
    · rw [decide_eq_false (by omega)]
      refine iteT (hlen _ ?_)
      try walk_at "rd2"
      by_cases k3 : xs.length = 3
      · rw [decide_eq_true (by omega)]
        exact iteF (main (.inr k3))
      · rw [decide_eq_false (by omega)]
        exact iteT (hE (fun g => by have := g.1; omega) _ s1)
@[irreducible] noncomputable def S_o (k : Nat) : Stmt := (defBody s_law_other).getD k (.Pass ⟨0, 0, 0, 0⟩)
theorem PS_at {X : Cx} {k : Nat} {u : TS} (h : PS X ((defBody s_law_other).getD k (.Pass ⟨0, 0, 0, 0⟩)) u) : PS X (S_o k) u := by unfold S_o; exact h
theorem B_other : defBody s_law_other = [S_o 0, S_o 1, S_o 2, S_o 3, S_o 4, S_o 5, S_o 6] := by unfold S_o; kernel_rfl
noncomputable def some14 : List Str := ["", ",", "0", "0,0,0,0", "0,-0", "0,00", "1,", " 1,2", "1/1,0", "2/4,0", "0/3,0", "1/-2,0", "+1,0", "--1,0"]
noncomputable def some8 : List Str := ["1/2/3,0", "1/0,0", "01,0", "1.5,0", "x,y", "1/02,5", "1_0,0", "1\t,0"]
theorem some14_le : ∀ x ∈ some14, x.length ≤ 13 := by decide +kernel
theorem some8_le : ∀ x ∈ some8, x.length ≤ 13 := by decide +kernel
theorem ok_law_other (T : Txt K mg t) : FnOk P w K mg base CX0 1 t.a_law_other t.d_law_other ["_law_text", "_law_cell", "_law_sign"] sp_law_other := by
  refine T.F_law_other.ok sc_law_other (fun vs H Q E h => ?_) (fun cdv A outer s H vs Q E hr h => ?_)
  · obtain ⟨x, c, sg, rfl, _⟩ := h
    rfl
  · obtain ⟨x, c, sg, rfl, hx, hQ⟩ := h
    have Z0 := (ps_setStrs (X := (cxOf CX0 P w K mg base N_law_other "_law_other" (defScope s_law_other) t.a_law_other cdv A outer s H E).nox) (st := S_o 0) (i := 3) (x := "_law_some") (ss := some14) (by decide +kernel) sc_law_other.nd rfl rfl)
    have Z1 := (ps_setCatS (X := (cxOf CX0 P w K mg base N_law_other "_law_other" (defScope s_law_other) t.a_law_other cdv A outer s H E).nox) (st := S_o 1) (i := 3) (j := 3) (x := "_law_some") (y := "_law_some") (ss := some8) (by decide +kernel) sc_law_other.nd rfl rfl rfl rfl)
    have Z2 := PS_at (X := (cxOf CX0 P w K mg base N_law_other "_law_other" (defScope s_law_other) t.a_law_other cdv A outer s H E).nox) (k := 2) (ps_if (pt_cmpR op_eqZ (pe_op op_modN (pv 1) pe_int) pe_int (nomark _))
      (pss_one (ps_ret (pe_ix ix_B (pv 3) (pe_op op_modN (pe_op op_fdivB (pv 1) pe_int) pe_int) (fun _ _ => rfl))))
      pss_nil)
    have Z3 := PS_at (X := (cxOf CX0 P w K mg base N_law_other "_law_other" (defScope s_law_other) t.a_law_other cdv A outer s H E).nox) (k := 3) (ps_set (i := 4) sc_law_other.nd rfl (Or.inl rfl) (pe_op op_modN (pe_op op_fdivB (pv 1) pe_int) (pe_op op_add (pe_callB call_len_str rfl T.z_len (by decide +kernel) (pa_cons (pv 0) pa_nil)) pe_int)))
    have Z4 := PS_at (X := (cxOf CX0 P w K mg base N_law_other "_law_other" (defScope s_law_other) t.a_law_other cdv A outer s H E).nox) (k := 4) (ps_set (i := 5) sc_law_other.nd rfl (Or.inl rfl) (pe_ix ix_str pe_str (pe_op op_modN (pv 2) pe_int) (fun _ _ => rfl)))
    have Z5 := PS_at (X := (cxOf CX0 P w K mg base N_law_other "_law_other" (defScope s_law_other) t.a_law_other cdv A outer s H E).nox) (k := 5) (ps_if (pt_cmpR op_eqZ (pe_op op_modN (pv 1) pe_int) pe_int (nomark _))
      (pss_one (ps_set (i := 5) sc_law_other.nd rfl (Or.inl rfl) pe_str))
      pss_nil)
    have Z6 := PS_at (X := (cxOf CX0 P w K mg base N_law_other "_law_other" (defScope s_law_other) t.a_law_other cdv A outer s H E).nox) (k := 6) (ps_ret (pe_op op_add_str (pe_op op_add_str (pe_slice sl_S (pv 0) po_none (po_some (pv 4))) (pv 5)) (pe_slice sl_S (pv 0) (po_some (pe_op op_add (pv 4) (pe_ix ix_B (pe_lst (pa_cons pe_int (pa_cons pe_int (pa_cons pe_int (pa_cons pe_int pa_nil))))) (pe_op op_modN (pv 1) pe_int) (fun _ _ => rfl)))) po_none)))
    have ZZ := (pss_cons Z0 (pss_cons Z1 (pss_cons Z2 (pss_cons Z3 (pss_cons Z4 (pss_cons Z5 (pss_one Z6)))))))
    rw [B_other]
    refine ⟨_, ZZ, ?_⟩
    clear Z0 Z1 Z2 Z3 Z4 Z5 Z6 ZZ
    show tSeq _ _ _ [some (.str x), some (.int c), some (.int sg), none, none, none] H
    refine st fun N1 e1 => ?_
    simp only [tAsg, tLst, tStrsA]
    refine ⟨by show 14 ≤ sizeLine; decide, fun p1 hp1 => ?_⟩
    have s1 : Same H (upd H p1 (.lst (some14.map V.str))) := Same.new hp1
    have el1 : (upd H p1 (.lst (some14.map V.str))) p1 = _ := upd_same
    generalize upd H p1 (.lst (some14.map V.str)) = H1 at s1 el1
    show N1 [some (.str x), some (.int c), some (.int sg), some (.ref p1), none, none] H1
    subst e1
    refine st fun N1 e1 => ?_
    simp only [tAsg, tOp, tLst, tStrsA]
    walk_at "rd2"
    refine ⟨by show 8 ≤ sizeLine; decide, fun p2 hp2 => ?_⟩
    have s2 : Same H1 (upd H1 p2 (.lst (some8.map V.str))) := Same.new hp2
    have el2 : (upd H1 p2 (.lst (some8.map V.str))) p2 = _ := upd_same
    refine ⟨p1, p2, some14.map V.str, some8.map V.str, rfl, rfl, s2 _ _ el1, el2, by show 22 ≤ sizeLine; decide, fun p3 hp3 => ?_⟩
    rw [← List.map_append]
    show N1 [some (.str x), some (.int c), some (.int sg), some (.ref p3), none, none] (upd (upd H1 p2 (.lst (some8.map V.str))) p3 (.lst ((some14 ++ some8).map V.str)))
    have s3 : Same H (upd (upd H1 p2 (.lst (some8.map V.str))) p3 (.lst ((some14 ++ some8).map V.str))) := (s1.trans s2).trans (Same.new hp3)
    have el3 : (upd (upd H1 p2 (.lst (some8.map V.str))) p3 (.lst ((some14 ++ some8).map V.str))) p3 = _ := upd_same
    have hodd : ∀ x ∈ some14 ++ some8, x.length ≤ 13 := fun x hx => (List.mem_append.mp hx).elim (some14_le x) (some8_le x)
    have lodd : (some14 ++ some8).length = 22 := rfl
    generalize some14 ++ some8 = odd at s3 el3 hodd lodd ⊢
    generalize upd (upd H1 p2 (.lst (some8.map V.str))) p3 (.lst (odd.map V.str)) = H2 at s3 el3 ⊢
    clear el1 el2 s1 s2 hp1 hp2 hp3
    subst e1
    have f4 := fms c 4 (by decide)
    refine st fun N1 e1 => ?_
    walk_at "rd2"
    refine ⟨by decide, ?_⟩
    split
    · have f22 := fms (c.fdiv 4) 22 (by decide)
      obtain ⟨k, ek⟩ := Int.eq_ofNat_of_zero_le f22.1
      rw [ek]
      refine ⟨dvs _ 4 (by decide) (by decide), by decide, ?_⟩
      have hk : k < odd.length := by omega
      exact ⟨false, p3, _, _, _, rfl, rfl, SqB.lst el3, atI_at (i := k) (by rw [List.getElem?_map, List.getElem?_eq_getElem hk]; rfl) rfl, hQ _ _ s3 (Nat.le_trans (hodd _ (List.getElem_mem hk)) (by decide))⟩
    · subst e1
      refine st fun N1 e1 => ?_
      walk_at "rd2"
      refine ⟨dvs _ 4 (by decide) (by decide), x, rfl, sizeLe (by omega), by omega, ?_⟩
      generalize (c.fdiv 4).fmod ((x.length : Int) + 1) = at4
      subst e1
      refine st fun N1 e1 => ?_
      walk_at "rd2"
      refine ⟨by decide, ?_⟩
      have f19 := fms sg 19 (by decide)
      obtain ⟨k, ek⟩ := Int.eq_ofNat_of_zero_le f19.1
      rw [ek]
      have hk : k < (Str.ofString "0123456789,-/+ x_\n\t").cps.toList.length := by
        have : (Str.ofString "0123456789,-/+ x_\n\t").cps.toList.length = 19 := by decide +kernel
        omega
      refine ⟨_, k, (Str.ofString "0123456789,-/+ x_\n\t").cps.toList[k], rfl, rfl, sizeLe (by decide +kernel), atI_at (i := k) (by rw [List.getElem?_eq_getElem hk]) rfl, ?_⟩
      generalize (Str.ofString "0123456789,-/+ x_\n\t").cps.toList[k] = ch
      subst e1
      refine st fun N1 e1 => ?_
      have key : ∀ pt : Str, pt.length ≤ 1 → N1 [some (.str x), some (.int c), some (.int sg), some (.ref p3), some (.int at4), some (.str pt)] H2 := by
        intro pt hpt
        subst e1
        walk_at "rd2"
        refine ⟨x, rfl, sizeLe (by omega), fun z hz => ?_⟩
        try walk_at "rd2"
        refine ⟨z, rfl, pt, rfl, sizeLe (by omega), ?_⟩
        have hzs : (z ++ pt).length ≤ x.length + 1 := by rw [len_app]; omega
        generalize z ++ pt = zs at hzs ⊢
        refine ⟨by show 4 ≤ sizeLine; decide, fun p4 hp4 => ⟨by decide, ?_⟩⟩
        have s4 : Same H2 (upd H2 p4 (.lst [V.int 0, V.int 1, V.int 0, V.int 1])) := Same.new hp4
        have el4 : (upd H2 p4 (.lst [V.int 0, V.int 1, V.int 0, V.int 1])) p4 = _ := upd_same
        generalize upd H2 p4 (.lst [V.int 0, V.int 1, V.int 0, V.int 1]) = H3 at s4 el4
        generalize c.fmod 4 = f at f4
        have fin : ∀ o : Int, rI0 (fun i j => V.int (i + j)) (V.int at4) (.int o) H3 fun x_1 H1 => ∃ i, x_1 = V.int i ∧ rSlS (V.str x) (some i) none H1 fun y H2 => ∃ i, V.str zs = V.str i ∧ ∃ x, y = V.str x ∧ i.length + x.length ≤ sizeLine ∧ Q (V.str (i ++ x)) H2 := by
          intro o
          walk_at "rd2"
          exact ⟨x, rfl, sizeLe (by omega), fun z2 h2 => ⟨zs, rfl, z2, rfl, sizeLe (by omega), hQ _ _ (s3.trans s4) (by rw [len_app]; omega)⟩⟩
        rcases (show f = 0 ∨ f = 1 ∨ f = 2 ∨ f = 3 by omega) with rfl | rfl | rfl | rfl
        all_goals exact ⟨false, p4, _, _, _, rfl, rfl, SqB.lst el4, rfl, fin _⟩
      walk_at "rd2"
      refine ⟨by decide, ?_⟩
      split
      · exact key _ (by decide +kernel)
      · exact key _ (Nat.le_refl 1)
theorem ok_law_only (T : Txt K mg t) : FnOkA P w K mg base 1 t.a_law_only t.d_law_only ["_law_e"] (sp_law_only t.a_NoText) := by
  refine T.F_law_only.okA sc_law_only (fun vs H Q E h => ?_) (fun cdv A outer s H vs Q E hr h => ?_)
  · obtain ⟨e, rfl, _⟩ := h
    rfl
  · obtain ⟨e, rfl, he, q⟩ := h
    refine ⟨_, (pss_cons (ps_if (PW.pt (pw_or (pt_val (pe_callB call_isi rfl T.z_isinstance (by decide +kernel) (pa_cons (pv 0) (pa_cons (pe_glob (v := .ref t.a_NoPlace) rfl T.m_NoPlace rfl) pa_nil)))) (pw_or1 (pt_val (pe_callB call_isi rfl T.z_isinstance (by decide +kernel) (pa_cons (pv 0) (pa_cons (pe_glob (v := .ref t.a_NoDeed) rfl T.m_NoDeed rfl) pa_nil)))))))
      (pss_one (ps_ret pe_bl))
      pss_nil)
      (pss_cons (ps_if (PW.pt (pw_or (pt_val (pe_callB call_isi rfl T.z_isinstance (by decide +kernel) (pa_cons (pv 0) (pa_cons (pe_glob (v := .ref t.a_NoNumber) rfl T.m_NoNumber rfl) pa_nil)))) (pw_or1 (pt_val (pe_callB call_isi rfl T.z_isinstance (by decide +kernel) (pa_cons (pv 0) (pa_cons (pe_glob (v := .ref t.a_TooMany) rfl T.m_TooMany rfl) pa_nil)))))))
      (pss_one (ps_ret pe_bl))
      pss_nil)
      (pss_one (ps_ret (pe_and (pe_callB call_isi rfl T.z_isinstance (by decide +kernel) (pa_cons (pv 0) (pa_cons (pe_glob (v := .ref t.a_NoText) rfl T.m_NoText rfl) pa_nil))) (pe_one (pe_callB call_isi rfl T.z_isinstance (by decide +kernel) (pa_cons (pv 0) (pa_cons (pe_bltn (v := .ty "ValueError") rfl T.z_ValueError (by decide +kernel) rfl) pa_nil))))))))), ?_⟩
    show tSeq _ _ _ [some (.ref e)] H
    have isi : ∀ (c : V) (b : Bool) (Q' : VK), isCls c = true → PySem.W.kitOne K (.ref t.a_NoText) (clsV c) = some b → Q' (.bl b) H → rIsi K [.ref e, c] H Q' := fun c b Q' h1 h2 h3 => ⟨_, _, _, _, rfl, .exc he (ecls T), h1, h2, h3⟩
    refine st fun N1 e1 => ?_
    walk_at "rd2"
    refine isi _ _ _ rfl T.i_NoPlace ⟨_, rfl, iteF (isi _ _ _ rfl T.i_NoDeed ⟨_, rfl, iteF ?_⟩)⟩
    subst e1
    refine st fun N1 e1 => ?_
    walk_at "rd2"
    refine isi _ _ _ rfl T.i_NoNumber ⟨_, rfl, iteF (isi _ _ _ rfl T.i_TooMany ⟨_, rfl, iteF ?_⟩)⟩
    subst e1
    walk_at "rd2"
    exact isi _ _ _ rfl T.i_NoText ⟨_, rfl, iteT (isi _ _ _ rfl T.i_VE q)⟩
theorem ok_law_is (T : Txt K mg t) : FnOk P w K mg base CX0 2 t.a_law_is t.d_law_is ["_law_found", "_law_due_here"] (sp_law_is K) := by
  have G_law_whole : FnOk P w K mg base CX0 1 t.a_law_whole t.d_law_whole ["_law_found"] sp_law_whole := ok_law_whole T
  refine T.F_law_is.ok sc_law_is (fun vs H Q E h => ?_) (fun cdv A outer s H vs Q E hr h => ?_)
  · obtain ⟨p, q, ts, u, rfl, _⟩ := h
    rfl
  · obtain ⟨p, q, ts, u, rfl, hP, hD, hl, hQ⟩ := h
    have hu := hr.units
    refine ⟨_, (pss_cons (ps_if (PW.pt (pw_or (pt_not (pt_val (pe_callB call_isi rfl T.z_isinstance (by decide +kernel) (pa_cons (pv 0) (pa_cons (pe_bltn (v := .ty "tuple") rfl T.z_tuple (by decide +kernel) rfl) pa_nil))))) (pw_or (pt_cmpR op_neZ (pe_callB call_lenB rfl T.z_len (by decide +kernel) (pa_cons (pv 0) pa_nil)) pe_int (nomark _)) (pw_or (pt_not (pt_val (pe_callB call_isi rfl T.z_isinstance (by decide +kernel) (pa_cons (pe_ix ix_B (pv 0) pe_int (fun _ _ => rfl)) (pa_cons (pe_bltn (v := .ty "tuple") rfl T.z_tuple (by decide +kernel) rfl) pa_nil))))) (pw_or1 (pt_not (pt_val (pe_call G_law_whole (hr.mono (by omega)) rfl T.m_law_whole T.F_law_whole.kp T.b_law_whole .nil pass0 (pa_cons (pe_ix ix_B (pv 0) pe_int (fun _ _ => rfl)) pa_nil)))))))))
      (pss_one (ps_ret pe_bl))
      pss_nil)
      (pss_cons (ps_if (pt_cmpR op_gt (pe_callB call_lenB rfl T.z_len (by decide +kernel) (pa_cons (pe_compG (xs := ["_law_number_here"]) (fr := []) (g := (gName 0)) (tt := (tElIf (tNot (tB (tCall (sp_law_whole) [] E0 (tCons (tVar 0) tNil)))) (tVar 0))) (compG_ok (sc := defScope s_law_is) (N := N_law_is) rfl rfl (by decide +kernel)) rfl (pi_seq (pe_ix ix_B (pv 0) pe_int (fun _ _ => rfl))) (fun _ _ _ hE1 => (pg_own (N := ["_law_number_here"]) (i := 0) hE1 rfl (by decide +kernel))) (fun _ _ _ hE1 => (po_if (pt_not (pt_val (pe_call G_law_whole (hr.mono (by omega)) rfl T.m_law_whole T.F_law_whole.kp T.b_law_whole .nil pass0 (pa_cons (pv 0) pa_nil)))) (pv 0)))) pa_nil)) pe_int (nomark _))
      (pss_one (ps_ret pe_bl))
      pss_nil)
      (pss_one (ps_ret (pe_cmpR (op_eqD hu) (pv 0) (pv 1) (nomark _)))))), ?_⟩
    show tSeq _ _ _ [some (.ref p), some (.ref q)] H
    refine st fun N1 e1 => ?_
    walk_at "rd2"
    have isT : ∀ (a : Addr) (xs : List V) (Q' : VK) (H : Hp), SqT K H a xs → Q' (.bl true) H → rIsi K [.ref a, .ty "tuple"] H Q' := fun a xs Q' H h1 h2 => ⟨_, _, _, _, rfl, .tupS h1, rfl, T.k_tt, h2⟩
    obtain ⟨pt, hp1, hp2⟩ := id hP
    refine isT p _ _ _ (SqT.of hp1) ?_
    walk_at "rd2"
    refine ⟨true, p, _, rfl, SqB.tup hp1, ?_⟩
    walk_at "rd2"
    refine iteF ?_
    refine place_ix0 hP fun x hx => isT x _ _ _ (SqT.of hx) ?_
    try walk_at "rd2"
    refine place_ix1 hP ⟨u, rfl, ?_⟩
    try walk_at "rd2"
    try refine iteF ?_
    subst e1
    refine st fun N1 e1 => ?_
    walk_at "rd2"
    refine compI_st fun C B eC eB => ?_
    simp only [iSeq]
    walk_at "rd2"
    refine place_ix0 hP fun x hx => ⟨true, x, rfl, ⟨_, SqB.tup hx⟩, fun a1 ha1 => ?_⟩
    subst eC
    subst eB
    refine none_left ha1 (SqB.tup hx) (by omega) fun H1 s1 e2 => ⟨false, a1, _, rfl, SqB.lst e2, ?_⟩
    try walk_at "rd2"
    try refine iteF ?_
    subst e1
    walk_at "rd2"
    refine eqD_of 2 (by decide) (Dt.place (hP.up s1)) (Dt.place (hD.up s1)) (iT_place _ _) (iT_place _ _) (b := true) (by simp) (hQ H1 s1)
theorem ok_show_place (T : Txt K mg t) : FnOk P w K mg base CX0 5 t.a_show_place t.d_show_place ["one"] (sp_show_place K) := by
  have G_number_text : FnOk P w K mg base CX0 4 t.a_number_text t.d_number_text ["top", "under"] sp_number_text := ok_number_text T
  refine T.F_show_place.ok sc_show_place (fun vs H Q E h => ?_) (fun cdv A outer s H vs Q E hr h => ?_)
  · obtain ⟨q, u, ps, rfl, _⟩ := h
    rfl
  · obtain ⟨q, u, ps, rfl, hP, hu, hs, hn, hg, hQ⟩ := h
    refine ⟨_, (pss_one (ps_ret (pe_bm PySem.F.plainAttrs_str PySem.F.slot_str_join PySem.F.type_str_join mt_join pe_str (pa_cons (pe_compG (xs := ["top"]) (fr := [("one", 0)]) (g := (gName 0)) (tt := (tEl (tCall (sp_number_text) [] E0 (tCons (tVar 0) (tCons (tOp (rIxB K) (tVar 1) (tC (.int 1))) tNil))))) (compG_ok (sc := defScope s_show_place) (N := N_show_place) rfl rfl (by decide +kernel)) rfl (pi_seq (pe_ix ix_B (pv 0) pe_int (fun _ _ => rfl))) (fun _ _ _ hE1 => (pg_own (N := ["top", "one"]) (i := 0) hE1 rfl (by decide +kernel))) (fun _ _ _ hE1 => (po_el (pe_call G_number_text (hr.mono (by omega)) rfl T.m_number_text T.F_number_text.kp T.b_number_text .nil pass0 (pa_cons (pv 0) (pa_cons (pe_ix ix_B (pv 1) pe_int (fun _ _ => rfl)) pa_nil)))))) pa_nil)))), ?_⟩
    show tRet _ _ [some (.ref q)] H
    walk_at "rd2"
    refine ⟨rfl, ?_⟩
    refine compE_st fun B eB => ?_
    simp only [iSeq]
    walk_at "rd2"
    refine place_ix0 hP fun x hx => ⟨true, x, rfl, ⟨_, SqB.tup hx⟩, fun a1 ha1 => ?_⟩
    refine cg_seq (fun j y _ => ∃ p, ps[j]? = some p ∧ y = .str (wordT p)) ha1 (SqB.tup hx) (by rw [List.length_map, List.length_map]; omega) (fun _ _ _ _ r _ => r) ?_ ?_
    · intro k y H2 zs ey s2 ez Q' hQ'
      obtain ⟨n, en, rfl⟩ := ints_at ey
      obtain ⟨p, ep, epn⟩ : ∃ p, ps[k]? = some p ∧ p.1 * u.fdiv p.2 = n := by
        rw [List.getElem?_map] at en
        cases e : ps[k]? with
        | none => rw [e] at en; cases en
        | some p => rw [e] at en; exact ⟨p, rfl, Option.some.inj en⟩
      obtain ⟨gp, gd⟩ := hg p (List.mem_of_getElem? ep)
      have eu := mul_div gp.pos gd
      have m0 : 0 < u.fdiv p.2 := by
        rcases Int.lt_trichotomy (u.fdiv p.2) 0 with z | z | z
        · have := Int.mul_neg_of_neg_of_pos z gp.pos; omega
        · rw [z, Int.zero_mul] at eu; omega
        · exact z
      have eu2 : p.2 * u.fdiv p.2 = u := by rw [Int.mul_comm]; exact eu
      subst eB
      show tCall _ _ _ _ [some (.int n), some (.ref q)] H2 Q'
      walk_at "rd2"
      refine place_ix1 (hP.up s2) ?_
      try walk_at "rd2"
      refine ⟨p, u.fdiv p.2, by rw [epn, eu2], m0, gp, by rw [eu2]; exact hs, fun H3 s3 => hQ' _ _ s3 ⟨p, ep, rfl⟩⟩
    · intro H2 zs s2 ez hlz hR
      have ez2 : zs = (ps.map wordT).map V.str := by
        rw [List.map_map]
        exact list_is (by rw [hlz]; simp) hR
      subst ez2
      refine ⟨false, comma, a1, ps.map wordT, rfl, rfl, SqB.lst ez, join_ok (fun z hz => ?_) (by rw [List.length_map]; omega) (by decide +kernel), hQ H2 s2⟩
      obtain ⟨p, hp, rfl⟩ := List.mem_map.mp hz
      exact Nat.le_trans (word_len (hg p hp).1) (by decide)
theorem ok_read_place (T : Txt K mg t) : FnOk P w K mg base (CX1 P w) 5 t.a_read_place t.d_read_place ["text"] (sp_read_place K t.a_NoText) := by
  have G_parts_of : FnOk P w K mg base (CX1 P w) 1 t.a_parts_of t.d_parts_of ["text"] (sp_parts_of K t.a_NoText) := ok_parts_of T
  have G_read_number : FnOk P w K mg base (CX1 P w) 4 t.a_read_number t.d_read_number ["text"] (sp_read_number K t.a_NoText) := ok_read_number T
  have G_common_under : FnOk P w K mg base CX0 1 t.a_common_under t.d_common_under ["pairs"] (sp_common_under K) := ok_common_under T
  have G_place : FnOk P w K mg base (CX1 P w) 2 t.a_place t.d_place ["tops", "under"] (sp_place K t.a_NoPlace) := ok_place T
  refine T.F_read_place.okX sc_read_place (fun vs H Q E h => ?_) (fun cdv A outer s H vs Q E hr h => ?_)
  · obtain ⟨x, rfl, _⟩ := h
    rfl
  · obtain ⟨x, rfl, hx, hE, hQ⟩ := h
    refine ⟨_, (pss_cons (ps_set (i := 1) sc_read_place.nd rfl (Or.inl rfl) (pe_call G_common_under (hr.mono (by omega)) rfl T.m_common_under T.F_common_under.kp T.b_common_under .nil pass0 (pa_cons (pe_compX (xs := ["part"]) (fr := []) (g := (gName 0)) (compG_ok (sc := defScope s_read_place) (N := N_read_place) rfl rfl (by decide +kernel)) rfl landsH_def (pi_seq (pe_callX G_parts_of (hr.mono (by omega)) rfl T.m_parts_of T.F_parts_of.kp T.b_parts_of .nil lands_def (pa_cons (pv 0) pa_nil))) (fun _ _ _ _ hE1 => (pg_own (N := ["part"]) (i := 0) hE1 rfl (by decide +kernel))) (fun _ _ _ _ hE1 hC => (po_el (pe_callXC G_read_number (hr.mono (by omega)) rfl T.m_read_number T.F_read_number.kp T.b_read_number .nil hC (pa_cons (pv 0) pa_nil))))) pa_nil)))
      (pss_one (ps_ret (pe_call G_place (hr.mono (by omega)) rfl T.m_place T.F_place.kp T.b_place .nil passes1 (pa_cons (pe_ix ix_B (pv 1) pe_int (fun _ _ => rfl)) (pa_cons (pe_ix ix_B (pv 1) pe_int (fun _ _ => rfl)) pa_nil)))))), ?_⟩
    show tSeq _ _ _ [some (.str x), none] H
    refine st fun N1 e1 => ?_
    walk_at "rd2"
    refine compE_st fun B eB => ?_
    simp only [iSeq]
    walk_at "rd2"
    have hpl : ∀ z ∈ Txt.split x comma, z.length ≤ 1500 := fun z hz => Nat.le_trans (part_le hz) hx
    refine ⟨x, rfl, hx, fun nk H1 s1 => hE (fun g => nk g.1) _ s1, fun hk l H1 s1 el => ?_⟩
    generalize hxs : Txt.split x comma = xs at *
    refine ⟨false, l, rfl, ⟨_, SqB.lst el⟩, fun a1 ha1 => ?_⟩
    refine cg_seq (fun j y H' => ∃ z p a, xs[j]? = some z ∧ numV z = some p ∧ y = .ref a ∧ a ≠ a1 ∧ H' a = some (tupP p)) ha1 (SqB.lst el) (by rw [List.length_map]; omega)
      (fun i y H1 H2 ⟨z, p, a, h1, h2, h3, h4, h5⟩ sx => ⟨z, p, a, h1, h2, h3, h4, sx _ _ h4 h5⟩) ?_ ?_
    · intro k y H2 zs ey s2 ez Q' hQ'
      obtain ⟨z, ez2, rfl⟩ : ∃ z, xs[k]? = some z ∧ y = .str z := by
        rw [List.getElem?_map] at ey
        cases e : xs[k]? with
        | none => rw [e] at ey; cases ey
        | some z => rw [e] at ey; exact ⟨z, rfl, (Option.some.inj ey).symm⟩
      have hz := List.mem_of_getElem? ez2
      subst eB
      show tCallX _ _ _ _ [some (.str z)] H2 Q'
      walk_at "rd2"
      refine ⟨z, rfl, hpl z hz, fun hno H3 s3 => hE (fun g => ?_) _ ((s1.trans s2).trans s3), fun p hp a H3 s3 ha => hQ' _ _ s3 ⟨z, p, a, ez2, hp, rfl, fun q => ?_, ha⟩⟩
      · obtain ⟨p, hp⟩ := g.2 z hz
        rw [hno] at hp
        cases hp
      · rw [q, s3 _ _ ez] at ha
        cases ha
    · intro H2 zs s2 ez hlz hR
      have ok : okL xs := ⟨hk, fun z hz => by
        obtain ⟨k, ek⟩ := List.getElem?_of_mem hz
        have kl : k < zs.length := by rw [hlz, List.length_map]; exact (List.getElem?_eq_some_iff.mp ek).1
        obtain ⟨z', p, b, h1, h2, _⟩ := hR k zs[k] (List.getElem?_eq_getElem kl)
        rw [ek] at h1
        cases h1
        exact ⟨p, h2⟩⟩
      have hg := prs_good ok
      have hn : (prs xs).length ≤ 3 := by rw [prs_len]; omega
      refine ⟨a1, prs xs, rfl, ⟨zs, ez, by rw [prs_len]; simpa using hlz, fun j y ey => ?_⟩, hn, hg, fun a q H3 s3 ha hq => ?_⟩
      · obtain ⟨z, p, b, h1, h2, h3, h4, h5⟩ := hR j y ey
        refine ⟨b, p, h3, ?_, h5⟩
        unfold prs
        rw [List.getElem?_map, h1]
        show some (numG z) = _
        rw [num_some h2]
      · subst e1
        walk_at "rd2"
        refine ⟨true, a, _, _, _, rfl, rfl, SqB.tup ha, atI_at (i := 0) rfl rfl, ?_⟩
        try walk_at "rd2"
        refine ⟨true, a, _, _, _, rfl, rfl, SqB.tup ha, atI_at (i := 1) rfl rfl, ?_⟩
        try walk_at "rd2"
        have lt : (proT (prs xs)).length = xs.length := by unfold proT; rw [List.length_map, prs_len]
        have p0 := proU_pos hg
        refine ⟨false, q, proT (prs xs), proU (prs xs), rfl, SqB.lst hq, by omega, proU_small hg hn, fun z => ?_, fun _ _ p3 H4 s4 hP => ?_⟩
        · rcases z with z | z
          · omega
          · rw [z] at lt; simp at lt; omega
        · obtain ⟨r1, r2⟩ := law_is_red hg
          rw [r1, r2] at hP
          exact hQ ok p3 H4 (((s1.trans s2).trans s3).trans s4) hP
theorem ok_law_right (T : Txt K mg t) : FnOk P w K mg base CX0 6 t.a_law_right t.d_law_right ["_law_text"] (sp_law_right K) := by
  have G_law_due : FnOk P w K mg base CX0 3 t.a_law_due t.d_law_due ["_law_text"] (sp_law_due K) := ok_law_due T
  have G_read_place : FnOk P w K mg base (CX1 P w) 5 t.a_read_place t.d_read_place ["text"] (sp_read_place K t.a_NoText) := ok_read_place T
  have G_law_only : FnOkA P w K mg base 1 t.a_law_only t.d_law_only ["_law_e"] (sp_law_only t.a_NoText) := ok_law_only T
  have G_law_is : FnOk P w K mg base CX0 2 t.a_law_is t.d_law_is ["_law_found", "_law_due_here"] (sp_law_is K) := ok_law_is T
  have G_show_place : FnOk P w K mg base CX0 5 t.a_show_place t.d_show_place ["one"] (sp_show_place K) := ok_show_place T
  refine T.F_law_right.ok sc_law_right (fun vs H Q E h => ?_) (fun cdv A outer s H vs Q E hr h => ?_)
  · obtain ⟨u, rfl, _⟩ := h
    rfl
  · obtain ⟨u, rfl, hul, hQ⟩ := h
    have hu := hr.units
    refine ⟨_, (pss_cons (ps_set (i := 1) sc_law_right.nd rfl (Or.inl rfl) (pe_call G_law_due (hr.mono (by omega)) rfl T.m_law_due T.F_law_due.kp T.b_law_due .nil pass0 (pa_cons (pv 0) pa_nil)))
      (pss_cons (ps_set (i := 2) sc_law_right.nd rfl (Or.inl rfl) pe_bl)
      (pss_cons (ps_set (i := 3) sc_law_right.nd rfl (Or.inl rfl) pe_bl)
      (pss_cons (ps_set (i := 4) sc_law_right.nd rfl (Or.inl rfl) pe_non)
      (pss_cons (ps_try (i := 5) rfl rfl rfl sc_law_right.nd rfl rfl rfl T.m_CrystalError (fun _ _ _ hL =>
      (pss_one (ps_set (i := 4) sc_law_right.nd rfl (Or.inl rfl) (pe_callX G_read_place (hr.mono (by omega)) rfl T.m_read_place T.F_read_place.kp T.b_read_place .nil hL (pa_cons (pv 0) pa_nil))))) (fun _ =>
      (pss_cons (ps_set (i := 2) sc_law_right.nd rfl (Or.inl rfl) pe_bl)
      (pss_one (ps_set (i := 3) sc_law_right.nd rfl (Or.inl rfl) (pe_callA G_law_only ((hr.a.mark _).mono (by omega)) rfl T.m_law_only T.F_law_only.kp T.b_law_only .nil (pa_cons (pv 5) pa_nil)))))))
      (pss_cons (ps_if (pt_cmpR op_isN (pv 1) pe_non (nomark _))
      (pss_one (ps_ret (pe_and (pv 2) (pe_one (pv 3)))))
      pss_nil)
      (pss_cons (ps_if (PW.pt (pw_or (pt_val (pv 2)) (pw_or1 (pt_not (pt_val (pe_call G_law_is (hr.mono (by omega)) rfl T.m_law_is T.F_law_is.kp T.b_law_is .nil pass0 (pa_cons (pv 4) (pa_cons (pv 1) pa_nil))))))))
      (pss_one (ps_ret pe_bl))
      pss_nil)
      (pss_cons (ps_set (i := 6) sc_law_right.nd rfl (Or.inl rfl) (pe_call G_show_place (hr.mono (by omega)) rfl T.m_show_place T.F_show_place.kp T.b_show_place .nil pass0 (pa_cons (pv 4) pa_nil)))
      (pss_one (ps_ret (pe_and (pe_callB call_isi rfl T.z_isinstance (by decide +kernel) (pa_cons (pv 6) (pa_cons (pe_bltn (v := .ty "str") rfl T.z_str (by decide +kernel) rfl) pa_nil))) (pe_one (pe_cmpR op_eq (pv 6) (pv 0) (nomark _)))))))))))))), ?_⟩
    show tSeq _ _ _ [some (.str u), none, none, none, none, none, none] H
    refine st fun N1 e1 => ?_
    walk_at "rd2"
    refine ⟨u, rfl, hul, fun ng H1 s1 => ?_, fun g p H1 s1 ep => ?_⟩
    · subst e1
      refine st fun N1 e1 => ?_
      walk_at "rd2"
      subst e1
      refine st fun N1 e1 => ?_
      walk_at "rd2"
      subst e1
      refine st fun N1 e1 => ?_
      walk_at "rd2"
      subst e1
      refine st fun N1 e1 => ?_
      have keyR : ∀ (H4 : Hp), Same H H4 → N1 [some (.str u), some .non, some (.bl true), some (.bl true), some .non, none, none] H4 := by
        intro H4 s4
        subst e1
        walk_at "rd2"
        exact iteT (hQ H4 s4)
      simp only [tTry]
      walk_at "rd2"
      exact ⟨u, rfl, hul, fun _ H4 s4 => ⟨T.xm, fun e he => ⟨e, rfl, upd_same, keyR _ (s1.trans (s4.trans (Same.new he)))⟩⟩, fun g => absurd g ng⟩
    · subst e1
      refine st fun N1 e1 => ?_
      walk_at "rd2"
      subst e1
      refine st fun N1 e1 => ?_
      walk_at "rd2"
      subst e1
      refine st fun N1 e1 => ?_
      walk_at "rd2"
      subst e1
      refine st fun N1 e1 => ?_
      have hgd := prs_good g
      have hn : (prs (Txt.split u comma)).length ≤ 3 := by rw [prs_len]; have := g.1; omega
      have keyO : ∀ (H4 : Hp) (q : Addr), Same H1 H4 → PlaceAt H4 q (lawT (prs (Txt.split u comma))) (lawU (prs (Txt.split u comma))) → N1 [some (.str u), some (.ref p), some (.bl false), some (.bl false), some (.ref q), none, none] H4 := by
        intro H4 q s4 eq
        subst e1
        refine st fun N1 e1 => ?_
        walk_at "rd2"
        have ep0 : decide (V.ref p = V.non) = false := decide_eq_false (fun h => by cases h)
        rw [ep0]
        refine iteF ?_
        subst e1
        refine st fun N1 e1 => ?_
        walk_at "rd2"
        refine ⟨q, p, _, _, rfl, eq, ep.up s4, by unfold lawT; rw [List.length_map]; omega, fun H5 s5 => ⟨_, rfl, iteF ?_⟩⟩
        subst e1
        refine st fun N1 e1 => ?_
        walk_at "rd2"
        refine ⟨q, lawU (prs (Txt.split u comma)), prs (Txt.split u comma), rfl, eq.up s5, lawU_pos hgd, lawU_small hgd hn, hn, fun z hz => ⟨hgd z hz, lawU_dvd hgd z hz⟩, fun H6 s6 => ?_⟩
        have ej : Txt.join comma ((prs (Txt.split u comma)).map wordT) = u := by rw [prs_words g]; exact join_split comma_len0
        rw [ej]
        subst e1
        walk_at "rd2"
        refine ⟨_, _, _, _, rfl, .ty (.str u), rfl, T.k_ss, _, rfl, iteT ?_⟩
        refine ⟨rfl, ?_⟩
        rw [decide_eq_true rfl]
        exact hQ H6 (((s1.trans s4).trans s5).trans s6)
      simp only [tTry]
      walk_at "rd2"
      exact ⟨u, rfl, hul, fun ng => absurd g ng, fun _ q H4 s4 eq => keyO H4 q s4 eq⟩
theorem join_le {xs : List Str} {B : Nat} (h : ∀ x ∈ xs, x.length ≤ B) : (Txt.join comma xs).length ≤ xs.length * (B + 1) := by
  rw [txt_join]
  refine Nat.le_trans (PySem.StrLaws.join_length_le comma xs) ?_
  have e1 : comma.length = 1 := by decide +kernel
  have := PySem.StrLaws.sumLen_le xs h
  rw [e1]
  have e2 : xs.length * (B + 1) = xs.length * B + xs.length := Nat.mul_succ _ _
  omega
theorem pairs_of {H : Hp} : ∀ zs : List V, (∀ z ∈ zs, ∃ p b, GoodPr p ∧ z = .ref b ∧ H b = some (tupP p)) → ∃ ps : List (Int × Int), ps.length = zs.length ∧ (∀ p ∈ ps, GoodPr p) ∧ ∀ (j : Nat) (y : V), zs[j]? = some y → ∃ a p, y = .ref a ∧ ps[j]? = some p ∧ H a = some (tupP p)
  | [], _ => ⟨[], rfl, fun p hp => by simp at hp, fun j y e => by simp at e⟩
  | z :: r, h => by
    obtain ⟨ps, h1, h2, h3⟩ := pairs_of r fun y hy => h y (List.mem_cons_of_mem _ hy)
    obtain ⟨p, b, g, rfl, hb⟩ := h z List.mem_cons_self
    refine ⟨p :: ps, by simp [h1], fun q hq => ?_, fun j y e => ?_⟩
    · rcases List.mem_cons.mp hq with k | k
      · rw [k]; exact g
      · exact h2 q k
    · cases j with
      | zero => cases e; exact ⟨b, p, rfl, rfl, hb⟩
      | succ j => exact h3 j y e
theorem back_words {ps : List (Int × Int)} (hn : ps.length = 2 ∨ ps.length = 3) (hg : ∀ p ∈ ps, GoodPr p) : Txt.split (Txt.join comma (ps.map wordT)) comma = ps.map wordT ∧ okL (ps.map wordT) ∧ prs (ps.map wordT) = ps := by
  refine ⟨?_, ⟨by rw [List.length_map]; exact hn, fun x hx => ?_⟩, ?_⟩
  · rw [txt_join, comma_is]
    refine split_is (fun h => ?_) (fun p hp => ?_) rfl
    · have := congrArg List.length h
      rw [List.length_map] at this
      simp at this
      rw [this] at hn
      simp at hn
    · obtain ⟨q, _, rfl⟩ := List.mem_map.mp hp
      exact word_free
  · obtain ⟨q, hq, rfl⟩ := List.mem_map.mp hx
    exact ⟨q, num_back (hg q hq)⟩
  · unfold prs
    rw [List.map_map]
    conv => rhs; rw [← List.map_id ps]
    refine List.map_congr_left fun q hq => ?_
    exact num_some (num_back (hg q hq))
theorem ok_law (T : Txt K mg t) : FnOk P w K mg base CX0 8 t.a_law t.d_law ["_law_script"] (spLaw K) := by
  have G_law_cell_at : FnOk P w K mg base CX0 1 t.a_law_cell_at t.d_law_cell_at ["_law_script", "_law_k"] (sp_law_cell_at K) := ok_law_cell_at T
  have G_law_share : FnOk P w K mg base CX0 2 t.a_law_share t.d_law_share ["_law_cell", "_law_other_here"] (sp_law_share K) := ok_law_share T
  have G_law_word : FnOk P w K mg base CX0 1 t.a_law_word t.d_law_word ["_law_share_here"] (sp_law_word K) := ok_law_word T
  have G_law_place : FnOk P w K mg base CX0 2 t.a_law_place t.d_law_place ["_law_worths"] (sp_law_place K) := ok_law_place T
  have G_law_due : FnOk P w K mg base CX0 3 t.a_law_due t.d_law_due ["_law_text"] (sp_law_due K) := ok_law_due T
  have G_law_other : FnOk P w K mg base CX0 1 t.a_law_other t.d_law_other ["_law_text", "_law_cell", "_law_sign"] sp_law_other := ok_law_other T
  have G_law_right : FnOk P w K mg base CX0 6 t.a_law_right t.d_law_right ["_law_text"] (sp_law_right K) := ok_law_right T
  refine T.F_law.ok sc_law (fun vs H Q E h => ?_) (fun cdv A outer s H vs Q E hr h => ?_)
  · obtain ⟨a, ns, rfl, _⟩ := h
    rfl
  · obtain ⟨a, ns, rfl, hS, hlen, hbits, hQ⟩ := h
    have hu := hr.units
    refine ⟨_, (pss_cons (ps_for PassesOwn.never rfl (pi_range3 rfl T.z_range (pa_cons pe_int (pa_cons (pe_callB (call_max2 rfl) rfl T.z_max (by decide +kernel) (pa_cons pe_int (pa_cons (pe_callB call_lenB rfl T.z_len (by decide +kernel) (pa_cons (pv 0) pa_nil)) pa_nil))) (pa_cons pe_int pa_nil)))) (pg_name (i := 1) sc_law.nd rfl (Or.inr rfl))
      (pss_cons (ps_set (i := 2) sc_law.nd rfl (Or.inr rfl) (pe_compG (xs := ["_law_k"]) (fr := [("_law_script", 0), ("_law_at", 1)]) (g := (gName 0)) (tt := (tEl (tCall (sp_law_cell_at K) [] E0 (tCons (tVar 1) (tCons (tOp (rI0 fun i j => .int (i + j)) (tVar 2) (tVar 0)) tNil))))) (compG_ok (sc := defScope s_law) (N := N_law) rfl rfl (by decide +kernel)) rfl (pi_range1 rfl T.z_range (pa_cons pe_int pa_nil)) (fun _ _ _ hE1 => (pg_own (N := ["_law_k", "_law_script", "_law_at"]) (i := 0) hE1 rfl (by decide +kernel))) (fun _ _ _ hE1 => (po_el (pe_call G_law_cell_at (hr.mono (by omega)) rfl T.m_law_cell_at T.F_law_cell_at.kp T.b_law_cell_at .nil pass0 (pa_cons (pv 1) (pa_cons (pe_op op_add (pv 2) (pv 0)) pa_nil)))))))
      (pss_cons (ps_setCG (i := 3) (xs := ["_law_k"]) (fr := [("_law_cells", 2)]) (g := (gName 0)) (tt := (tEl (tCall (sp_law_share K) [] E0 (tCons (tOp (rIxB K) (tVar 1) (tVar 0)) (tCons (tOp (rI0 fun i j => .int (i + j)) (tOp (rI (fun i j => IntMulOk i j) fun i j => .int (i * j)) (tOp (rIxB K) (tVar 1) (tC (.int 3))) (tOp (rI0 fun i j => .int (i + j)) (tVar 0) (tC (.int 1)))) (tVar 0)) tNil))))) (compG_ok (sc := defScope s_law) (N := N_law) rfl rfl (by decide +kernel)) rfl sc_law.nd rfl rfl (pi_range1 rfl T.z_range (pa_cons (pe_op op_add pe_int (pe_op op_modN (pe_ix ix_B (pv 2) pe_int (fun _ _ => rfl)) pe_int)) pa_nil)) (fun _ _ _ hE1 => (pg_own (N := ["_law_k", "_law_cells"]) (i := 0) hE1 rfl (by decide +kernel))) (fun _ _ _ hE1 => (po_el (pe_call G_law_share (hr.mono (by omega)) rfl T.m_law_share T.F_law_share.kp T.b_law_share .nil pass0 (pa_cons (pe_ix ix_B (pv 1) (pv 0) (fun _ _ => rfl)) (pa_cons (pe_op op_add (pe_op op_mulB (pe_ix ix_B (pv 1) pe_int (fun _ _ => rfl)) (pe_op op_add (pv 0) pe_int)) (pv 0)) pa_nil))))))
      (pss_cons (ps_set (i := 4) sc_law.nd rfl (Or.inl rfl) (pe_bm PySem.F.plainAttrs_str PySem.F.slot_str_join PySem.F.type_str_join mt_join pe_str (pa_cons (pe_compG (xs := ["_law_share_here"]) (fr := []) (g := (gName 0)) (tt := (tEl (tCall (sp_law_word K) [] E0 (tCons (tVar 0) tNil)))) (compG_ok (sc := defScope s_law) (N := N_law) rfl rfl (by decide +kernel)) rfl (pi_seq (pv 3)) (fun _ _ _ hE1 => (pg_own (N := ["_law_share_here"]) (i := 0) hE1 rfl (by decide +kernel))) (fun _ _ _ hE1 => (po_el (pe_call G_law_word (hr.mono (by omega)) rfl T.m_law_word T.F_law_word.kp T.b_law_word .nil pass0 (pa_cons (pv 0) pa_nil))))) pa_nil)))
      (pss_cons (ps_if (PW.pt (pw_or (pt_cmpR (op_neD hu) (pe_call G_law_due (hr.mono (by omega)) rfl T.m_law_due T.F_law_due.kp T.b_law_due .nil pass0 (pa_cons (pv 4) pa_nil)) (pe_call G_law_place (hr.mono (by omega)) rfl T.m_law_place T.F_law_place.kp T.b_law_place .nil pass0 (pa_cons (pv 3) pa_nil)) (nomark _)) (pw_or1 (pt_not (pt_val (pe_call G_law_right (hr.mono (by omega)) rfl T.m_law_right T.F_law_right.kp T.b_law_right .nil pass0 (pa_cons (pv 4) pa_nil)))))))
      (pss_one (ps_ret pe_bl))
      pss_nil)
      (pss_one (ps_if (pt_not (pt_val (pe_call G_law_right (hr.mono (by omega)) rfl T.m_law_right T.F_law_right.kp T.b_law_right .nil pass0 (pa_cons (pe_call G_law_other (hr.mono (by omega)) rfl T.m_law_other T.F_law_other.kp T.b_law_other .nil pass0 (pa_cons (pv 4) (pa_cons (pe_ix ix_B (pv 2) pe_int (fun _ _ => rfl)) (pa_cons (pe_ix ix_B (pv 2) pe_int (fun _ _ => rfl)) pa_nil)))) pa_nil))))
      (pss_one (ps_ret pe_bl))
      pss_nil)))))))
      (pss_one (ps_ret pe_bl))), ?_⟩
    show tSeq _ _ _ [some (.ref a), none, none, none, none] H
    refine st fun N1 e1 => for_st fun B eB => ?_
    simp only [iRng3]
    walk_at "rd2"
    refine ints_len (b := false) hS ⟨_, rfl, by decide, by decide, by split <;> omega, by split <;> omega, by decide, by decide, ?_⟩
    refine fr_step (g := gName 1) (tb := B) (fun i σ H1 => ∃ (v1 v2 v3 v4 : Option V), σ = [some (.ref a), v1, v2, v3, v4] ∧ Same H H1) ⟨none, none, none, none, rfl, Same.refl _⟩ ?_ ?_
    · rintro i σ H1 hi ⟨v1, v2, v3, v4, rfl, s1⟩
      subst eB
      show tSeq _ _ _ [some (.ref a), some (.int (0 + (i : Int) * 7)), v2, v3, v4] H1
      refine st fun N2 e2 => ?_
      walk_at "rd2"
      refine compE_st fun C eC => ?_
      simp only [iRng1]
      walk_at "rd2"
      refine ⟨by decide, by decide, fun a1 ha1 => ?_⟩
      refine cg_range (len := 7) (fun k y _ => k < 7 ∧ y = .int (ns.getD (0 + (i : Int) * 7 + (0 + (k : Int))).toNat 0)) ha1 (by decide) (fun _ _ _ _ r _ => r) ?_ ?_
      · intro k H2 zs hk s2 ez Q' hQ'
        subst eC
        show tCall _ _ _ _ [some (.int (0 + (k : Int))), some (.ref a), some (.int (0 + (i : Int) * 7))] H2 Q'
        walk_at "rd2"
        exact ⟨a, ns, _, rfl, (s1.trans s2).seq hS, by omega, hQ' _ _ (Same.refl _) ⟨hk, rfl⟩⟩
      · intro H2 ys s2 e2' hly hr2
        have ey : ys = ((List.range 7).map fun (k : Nat) => ns.getD (0 + (i : Int) * 7 + (0 + (k : Int))).toNat 0).map V.int := by
          refine list_is (by simpa using hly) fun k z e => ?_
          obtain ⟨hk, rfl⟩ := hr2 k z e
          exact ⟨_, by rw [List.getElem?_map, List.getElem?_range hk]; rfl, rfl⟩
        subst ey
        have hcb : ∀ m ∈ (List.range 7).map fun (k : Nat) => ns.getD (0 + (i : Int) * 7 + (0 + ((k : Nat) : Int))).toNat 0, Builtin.Int.intBits m ≤ 1048576 := fun m hm => by
          obtain ⟨k, _, rfl⟩ := List.mem_map.mp hm
          by_cases hk : (0 + (i : Int) * 7 + (0 + (k : Int))).toNat < ns.length
          · exact hbits _ (L2.getD_mem hk)
          · rw [List.getD_eq_getElem?_getD, List.getElem?_eq_none (by omega)]
            exact intBits_le_iff.mpr (Nat.two_pow_pos _)
        have hcl : ((List.range 7).map fun (k : Nat) => ns.getD (0 + (i : Int) * 7 + (0 + ((k : Nat) : Int))).toNat 0).length = 7 := by simp
        generalize ((List.range 7).map fun (k : Nat) => ns.getD (0 + (i : Int) * 7 + (0 + ((k : Nat) : Int))).toNat 0) = cs at *
        have s02 := s1.trans s2
        have cix : ∀ (H' : Hp) (k : Nat) (Q' : VK), Same H2 H' → k < 7 → Q' (.int (cs.getD k 0)) H' → rIxB K (.ref a1) (.int k) H' Q' := fun H' k Q' s' hk q => ⟨false, a1, _, _, _, rfl, rfl, SqB.lst (s' _ _ e2'), atI_at (int_at (getD_at (k := k) (by omega))) rfl, q⟩
        have cb : ∀ k, k < 7 → Builtin.Int.intBits (cs.getD k 0) ≤ 1048576 := fun k hk => hcb _ (L2.getD_mem (by omega))
        subst e2
        refine st fun N2 e2 => ?_
        walk_at "rd2"
        refine compE_st fun C eC => ?_
        simp only [iRng1]
        walk_at "rd2"
        refine cix H2 4 _ (Same.refl _) (by decide) ?_
        try walk_at "rd2"
        have f2 := fms (cs.getD 4 0) 2 (by decide)
        obtain ⟨n, en⟩ := Int.eq_ofNat_of_zero_le (show 0 ≤ 2 + (cs.getD 4 0).fmod 2 by omega)
        rw [en]
        have hn : n = 2 ∨ n = 3 := by omega
        refine ⟨by decide, by omega, by omega, fun a2 ha2 => ?_⟩
        rw [Int.toNat_natCast]
        refine cg_range (len := n) (fun k y H' => ∃ p b, GoodPr p ∧ y = .ref b ∧ b ≠ a2 ∧ H' b = some (tupP p)) ha2 (by omega) (fun i y H1 H2 ⟨p, b, h1, h2, h3, h4⟩ sx => ⟨p, b, h1, h2, h3, sx _ _ h3 h4⟩) ?_ ?_
        · intro k H3 zs hk s3 ez Q' hQ'
          subst eC
          show tCall _ _ _ _ [some (.int (0 + (k : Int))), some (.ref a1)] H3 Q'
          walk_at "rd2"
          rw [Int.zero_add]
          refine cix H3 k _ s3 (by omega) ?_
          try walk_at "rd2"
          refine cix H3 3 _ s3 (by decide) ?_
          try walk_at "rd2"
          have b3 := cb 3 (by decide)
          have bk := cb k (by omega)
          have bk1 : Builtin.Int.intBits ((k : Int) + 1) ≤ 64 := intBits_le_iff.mpr (by omega)
          have bk2 : Builtin.Int.intBits (k : Int) ≤ 64 := intBits_le_iff.mpr (by omega)
          refine ⟨IntMulOk.of_right bk1, _, _, rfl, Nat.le_trans bk (by decide), Nat.le_trans (intBits_add_le (intBits_mul_le b3 bk1) bk2) (by decide), fun b p H4 s4 gp hb => hQ' _ _ s4 ⟨p, b, gp, rfl, fun q => ?_, hb⟩⟩
          rw [q, s4 _ _ ez] at hb
          cases hb
        · intro H3 zs s3 ez hlz hR
          obtain ⟨ps, hp1, hp2, hp3⟩ := pairs_of (H := H3) zs fun z hz => by
            obtain ⟨k, ek⟩ := List.getElem?_of_mem hz
            obtain ⟨p, b, h1, h2, _, h4⟩ := hR k z ek
            exact ⟨p, b, h1, h2, h4⟩
          have hn3 : ps.length = 2 ∨ ps.length = 3 := by omega
          obtain ⟨w1, w2, w3⟩ := back_words hn3 hp2
          have hPL : PairsL H3 a2 ps := ⟨zs, ez, hp1.symm, hp3⟩
          subst e2
          refine st fun N2 e2 => ?_
          walk_at "rd2"
          refine ⟨rfl, ?_⟩
          refine compE_st fun C eC => ?_
          simp only [iSeq]
          walk_at "rd2"
          refine ⟨false, ⟨_, SqB.lst ez⟩, fun a3 ha3 => ?_⟩
          refine cg_seq (fun j y _ => ∃ p, ps[j]? = some p ∧ y = .str (wordT p)) ha3 (SqB.lst ez) (by omega) (fun _ _ _ _ r _ => r) ?_ ?_
          · intro k y H4 zs4 ey s4 ez4 Q' hQ'
            obtain ⟨b, p, rfl, ep, hb⟩ := hp3 k y ey
            subst eC
            show tCall _ _ _ _ [some (.ref b)] H4 Q'
            walk_at "rd2"
            exact ⟨b, p, rfl, s4 _ _ hb, hp2 p (List.mem_of_getElem? ep), hQ' _ _ (Same.refl _) ⟨p, ep, rfl⟩⟩
          · intro H4 zs4 s4 ez4 hlz4 hR4
            have ez2 : zs4 = (ps.map wordT).map V.str := by
              rw [List.map_map]
              exact list_is (by rw [hlz4]; omega) hR4
            subst ez2
            have wl : ∀ z ∈ ps.map wordT, z.length ≤ 202 := fun z hz => by
              obtain ⟨p, hp, rfl⟩ := List.mem_map.mp hz
              exact word_len (hp2 p hp)
            refine ⟨false, comma, a3, ps.map wordT, rfl, rfl, SqB.lst ez4, join_ok (fun z hz => Nat.le_trans (wl z hz) (by decide)) (by rw [List.length_map]; omega) (by decide +kernel), ?_⟩
            have jl : (Txt.join comma (ps.map wordT)).length ≤ 700 := by
              have := join_le wl
              rw [List.length_map] at this
              have : ps.length * (202 + 1) ≤ 3 * 203 := Nat.mul_le_mul_right _ (by omega)
              omega
            rw [← w1] at w2 w3
            generalize Txt.join comma (ps.map wordT) = x at *
            subst e2
            refine st fun N2 e2 => ?_
            walk_at "rd2"
            refine ⟨x, rfl, by omega, fun ng => absurd w2 ng, fun _ q H5 s5 hq => ?_⟩
            try walk_at "rd2"
            refine ⟨a2, ps, rfl, (hPL.up s4).up s5, by omega, hp2, fun q2 H6 s6 hq2 => ?_⟩
            rw [w3] at hq
            refine place_ne (hq.up s6) hq2 ⟨rfl, rfl⟩ ⟨_, rfl, iteF ?_⟩
            refine ⟨x, rfl, by omega, fun H7 s7 => ⟨_, rfl, iteF ?_⟩⟩
            subst e2
            walk_at "rd2"
            have sA := ((s4.trans s5).trans s6).trans s7
            refine cix H7 5 _ (s3.trans sA) (by decide) ?_
            try walk_at "rd2"
            refine cix H7 6 _ (s3.trans sA) (by decide) ?_
            try walk_at "rd2"
            refine ⟨x, _, _, rfl, jl, fun y H8 s8 hy => ?_⟩
            refine ⟨y, rfl, hy, fun H9 s9 => ⟨_, rfl, iteF ?_⟩⟩
            exact (((s02.trans s3).trans sA).trans s8).trans s9
    · rintro σ H1 ⟨v1, v2, v3, v4, rfl, s1⟩
      subst e1
      walk_at "rd2"
      exact hQ _

end
theorem txt_mk {K : PySem.W.Frag} {h : Heap} {mg : Str → Option Value} (X : K.In h) (G : h.Ns mainGlobals mg)
    {f_divisor : Addr} {od_divisor an_divisor : Option Addr} {sl_divisor : Array (Option Value)} {oc_divisor kV_divisor dc_divisor pm_divisor cd_divisor ct_divisor : Value}
    {f_figures : Addr} {od_figures an_figures : Option Addr} {sl_figures : Array (Option Value)} {oc_figures kV_figures dc_figures pm_figures cd_figures ct_figures : Value}
    {f_halved : Addr} {od_halved an_halved : Option Addr} {sl_halved : Array (Option Value)} {oc_halved kV_halved dc_halved pm_halved cd_halved ct_halved : Value}
    {f_place : Addr} {od_place an_place : Option Addr} {sl_place : Array (Option Value)} {oc_place kV_place dc_place pm_place cd_place ct_place : Value}
    {f_fraction_text : Addr} {od_fraction_text an_fraction_text : Option Addr} {sl_fraction_text : Array (Option Value)} {oc_fraction_text kV_fraction_text dc_fraction_text pm_fraction_text cd_fraction_text ct_fraction_text : Value}
    {f_number_text : Addr} {od_number_text an_number_text : Option Addr} {sl_number_text : Array (Option Value)} {oc_number_text kV_number_text dc_number_text pm_number_text cd_number_text ct_number_text : Value}
    {f_show_place : Addr} {od_show_place an_show_place : Option Addr} {sl_show_place : Array (Option Value)} {oc_show_place kV_show_place dc_show_place pm_show_place cd_show_place ct_show_place : Value}
    {f_read_whole : Addr} {od_read_whole an_read_whole : Option Addr} {sl_read_whole : Array (Option Value)} {oc_read_whole kV_read_whole dc_read_whole pm_read_whole cd_read_whole ct_read_whole : Value}
    {f_read_fraction : Addr} {od_read_fraction an_read_fraction : Option Addr} {sl_read_fraction : Array (Option Value)} {oc_read_fraction kV_read_fraction dc_read_fraction pm_read_fraction cd_read_fraction ct_read_fraction : Value}
    {f_read_signed : Addr} {od_read_signed an_read_signed : Option Addr} {sl_read_signed : Array (Option Value)} {oc_read_signed kV_read_signed dc_read_signed pm_read_signed cd_read_signed ct_read_signed : Value}
    {f_parts_of : Addr} {od_parts_of an_parts_of : Option Addr} {sl_parts_of : Array (Option Value)} {oc_parts_of kV_parts_of dc_parts_of pm_parts_of cd_parts_of ct_parts_of : Value}
    {f_common_under : Addr} {od_common_under an_common_under : Option Addr} {sl_common_under : Array (Option Value)} {oc_common_under kV_common_under dc_common_under pm_common_under cd_common_under ct_common_under : Value}
    {f_read_number : Addr} {od_read_number an_read_number : Option Addr} {sl_read_number : Array (Option Value)} {oc_read_number kV_read_number dc_read_number pm_read_number cd_read_number ct_read_number : Value}
    {f_read_place : Addr} {od_read_place an_read_place : Option Addr} {sl_read_place : Array (Option Value)} {oc_read_place kV_read_place dc_read_place pm_read_place cd_read_place ct_read_place : Value}
    {f_law_cell_at : Addr} {od_law_cell_at an_law_cell_at : Option Addr} {sl_law_cell_at : Array (Option Value)} {oc_law_cell_at kV_law_cell_at dc_law_cell_at pm_law_cell_at cd_law_cell_at ct_law_cell_at : Value}
    {f_law_whole : Addr} {od_law_whole an_law_whole : Option Addr} {sl_law_whole : Array (Option Value)} {oc_law_whole kV_law_whole dc_law_whole pm_law_whole cd_law_whole ct_law_whole : Value}
    {f_law_common : Addr} {od_law_common an_law_common : Option Addr} {sl_law_common : Array (Option Value)} {oc_law_common kV_law_common dc_law_common pm_law_common cd_law_common ct_law_common : Value}
    {f_law_great : Addr} {od_law_great an_law_great : Option Addr} {sl_law_great : Array (Option Value)} {oc_law_great kV_law_great dc_law_great pm_law_great cd_law_great ct_law_great : Value}
    {f_law_share : Addr} {od_law_share an_law_share : Option Addr} {sl_law_share : Array (Option Value)} {oc_law_share kV_law_share dc_law_share pm_law_share cd_law_share ct_law_share : Value}
    {f_law_word : Addr} {od_law_word an_law_word : Option Addr} {sl_law_word : Array (Option Value)} {oc_law_word kV_law_word dc_law_word pm_law_word cd_law_word ct_law_word : Value}
    {f_law_place : Addr} {od_law_place an_law_place : Option Addr} {sl_law_place : Array (Option Value)} {oc_law_place kV_law_place dc_law_place pm_law_place cd_law_place ct_law_place : Value}
    {f_law_number : Addr} {od_law_number an_law_number : Option Addr} {sl_law_number : Array (Option Value)} {oc_law_number kV_law_number dc_law_number pm_law_number cd_law_number ct_law_number : Value}
    {f_law_read : Addr} {od_law_read an_law_read : Option Addr} {sl_law_read : Array (Option Value)} {oc_law_read kV_law_read dc_law_read pm_law_read cd_law_read ct_law_read : Value}
    {f_law_due : Addr} {od_law_due an_law_due : Option Addr} {sl_law_due : Array (Option Value)} {oc_law_due kV_law_due dc_law_due pm_law_due cd_law_due ct_law_due : Value}
    {f_law_other : Addr} {od_law_other an_law_other : Option Addr} {sl_law_other : Array (Option Value)} {oc_law_other kV_law_other dc_law_other pm_law_other cd_law_other ct_law_other : Value}
    {f_law_is : Addr} {od_law_is an_law_is : Option Addr} {sl_law_is : Array (Option Value)} {oc_law_is kV_law_is dc_law_is pm_law_is cd_law_is ct_law_is : Value}
    {f_law_only : Addr} {od_law_only an_law_only : Option Addr} {sl_law_only : Array (Option Value)} {oc_law_only kV_law_only dc_law_only pm_law_only cd_law_only ct_law_only : Value}
    {f_law_right : Addr} {od_law_right an_law_right : Option Addr} {sl_law_right : Array (Option Value)} {oc_law_right kV_law_right dc_law_right pm_law_right cd_law_right ct_law_right : Value}
    {f_law : Addr} {od_law an_law : Option Addr} {sl_law : Array (Option Value)} {oc_law kV_law dc_law pm_law cd_law ct_law : Value}
    {C_CrystalError : Addr}
    {C_NoPlace : Addr}
    {C_NoDeed : Addr}
    {C_NoNumber : Addr}
    {C_NoText : Addr}
    {C_TooMany : Addr}
    {tk_FIGURES : Tok}
    {tk_MOST_FIGURES : Tok}
    (n_divisor : PySem.W.nsIn K mainGlobals "divisor" = some (some (.ref f_divisor)))
    (l_divisor : K.lookup f_divisor = some ⟨oc_divisor, od_divisor, .func (PySem.W.fnOf "divisor" "divisor" (defArgs s_divisor) (defBody s_divisor) (defScope s_divisor) .none kV_divisor dc_divisor pm_divisor an_divisor cd_divisor ct_divisor), sl_divisor⟩)
    (c_divisor : PySem.W.codeIn K cd_divisor "divisor" = true)
    (k_divisor : PySem.W.keepIn K (.ref f_divisor) = true)
    (n_figures : PySem.W.nsIn K mainGlobals "figures" = some (some (.ref f_figures)))
    (l_figures : K.lookup f_figures = some ⟨oc_figures, od_figures, .func (PySem.W.fnOf "figures" "figures" (defArgs s_figures) (defBody s_figures) (defScope s_figures) .none kV_figures dc_figures pm_figures an_figures cd_figures ct_figures), sl_figures⟩)
    (c_figures : PySem.W.codeIn K cd_figures "figures" = true)
    (k_figures : PySem.W.keepIn K (.ref f_figures) = true)
    (n_halved : PySem.W.nsIn K mainGlobals "halved" = some (some (.ref f_halved)))
    (l_halved : K.lookup f_halved = some ⟨oc_halved, od_halved, .func (PySem.W.fnOf "halved" "halved" (defArgs s_halved) (defBody s_halved) (defScope s_halved) .none kV_halved dc_halved pm_halved an_halved cd_halved ct_halved), sl_halved⟩)
    (c_halved : PySem.W.codeIn K cd_halved "halved" = true)
    (k_halved : PySem.W.keepIn K (.ref f_halved) = true)
    (n_place : PySem.W.nsIn K mainGlobals "place" = some (some (.ref f_place)))
    (l_place : K.lookup f_place = some ⟨oc_place, od_place, .func (PySem.W.fnOf "place" "place" (defArgs s_place) (defBody s_place) (defScope s_place) .none kV_place dc_place pm_place an_place cd_place ct_place), sl_place⟩)
    (c_place : PySem.W.codeIn K cd_place "place" = true)
    (k_place : PySem.W.keepIn K (.ref f_place) = true)
    (n_fraction_text : PySem.W.nsIn K mainGlobals "fraction_text" = some (some (.ref f_fraction_text)))
    (l_fraction_text : K.lookup f_fraction_text = some ⟨oc_fraction_text, od_fraction_text, .func (PySem.W.fnOf "fraction_text" "fraction_text" (defArgs s_fraction_text) (defBody s_fraction_text) (defScope s_fraction_text) .none kV_fraction_text dc_fraction_text pm_fraction_text an_fraction_text cd_fraction_text ct_fraction_text), sl_fraction_text⟩)
    (c_fraction_text : PySem.W.codeIn K cd_fraction_text "fraction_text" = true)
    (k_fraction_text : PySem.W.keepIn K (.ref f_fraction_text) = true)
    (n_number_text : PySem.W.nsIn K mainGlobals "number_text" = some (some (.ref f_number_text)))
    (l_number_text : K.lookup f_number_text = some ⟨oc_number_text, od_number_text, .func (PySem.W.fnOf "number_text" "number_text" (defArgs s_number_text) (defBody s_number_text) (defScope s_number_text) .none kV_number_text dc_number_text pm_number_text an_number_text cd_number_text ct_number_text), sl_number_text⟩)
    (c_number_text : PySem.W.codeIn K cd_number_text "number_text" = true)
    (k_number_text : PySem.W.keepIn K (.ref f_number_text) = true)
    (n_show_place : PySem.W.nsIn K mainGlobals "show_place" = some (some (.ref f_show_place)))
    (l_show_place : K.lookup f_show_place = some ⟨oc_show_place, od_show_place, .func (PySem.W.fnOf "show_place" "show_place" (defArgs s_show_place) (defBody s_show_place) (defScope s_show_place) .none kV_show_place dc_show_place pm_show_place an_show_place cd_show_place ct_show_place), sl_show_place⟩)
    (c_show_place : PySem.W.codeIn K cd_show_place "show_place" = true)
    (k_show_place : PySem.W.keepIn K (.ref f_show_place) = true)
    (n_read_whole : PySem.W.nsIn K mainGlobals "read_whole" = some (some (.ref f_read_whole)))
    (l_read_whole : K.lookup f_read_whole = some ⟨oc_read_whole, od_read_whole, .func (PySem.W.fnOf "read_whole" "read_whole" (defArgs s_read_whole) (defBody s_read_whole) (defScope s_read_whole) .none kV_read_whole dc_read_whole pm_read_whole an_read_whole cd_read_whole ct_read_whole), sl_read_whole⟩)
    (c_read_whole : PySem.W.codeIn K cd_read_whole "read_whole" = true)
    (k_read_whole : PySem.W.keepIn K (.ref f_read_whole) = true)
    (n_read_fraction : PySem.W.nsIn K mainGlobals "read_fraction" = some (some (.ref f_read_fraction)))
    (l_read_fraction : K.lookup f_read_fraction = some ⟨oc_read_fraction, od_read_fraction, .func (PySem.W.fnOf "read_fraction" "read_fraction" (defArgs s_read_fraction) (defBody s_read_fraction) (defScope s_read_fraction) .none kV_read_fraction dc_read_fraction pm_read_fraction an_read_fraction cd_read_fraction ct_read_fraction), sl_read_fraction⟩)
    (c_read_fraction : PySem.W.codeIn K cd_read_fraction "read_fraction" = true)
    (k_read_fraction : PySem.W.keepIn K (.ref f_read_fraction) = true)
    (n_read_signed : PySem.W.nsIn K mainGlobals "read_signed" = some (some (.ref f_read_signed)))
    (l_read_signed : K.lookup f_read_signed = some ⟨oc_read_signed, od_read_signed, .func (PySem.W.fnOf "read_signed" "read_signed" (defArgs s_read_signed) (defBody s_read_signed) (defScope s_read_signed) .none kV_read_signed dc_read_signed pm_read_signed an_read_signed cd_read_signed ct_read_signed), sl_read_signed⟩)
    (c_read_signed : PySem.W.codeIn K cd_read_signed "read_signed" = true)
    (k_read_signed : PySem.W.keepIn K (.ref f_read_signed) = true)
    (n_parts_of : PySem.W.nsIn K mainGlobals "parts_of" = some (some (.ref f_parts_of)))
    (l_parts_of : K.lookup f_parts_of = some ⟨oc_parts_of, od_parts_of, .func (PySem.W.fnOf "parts_of" "parts_of" (defArgs s_parts_of) (defBody s_parts_of) (defScope s_parts_of) .none kV_parts_of dc_parts_of pm_parts_of an_parts_of cd_parts_of ct_parts_of), sl_parts_of⟩)
    (c_parts_of : PySem.W.codeIn K cd_parts_of "parts_of" = true)
    (k_parts_of : PySem.W.keepIn K (.ref f_parts_of) = true)
    (n_common_under : PySem.W.nsIn K mainGlobals "common_under" = some (some (.ref f_common_under)))
    (l_common_under : K.lookup f_common_under = some ⟨oc_common_under, od_common_under, .func (PySem.W.fnOf "common_under" "common_under" (defArgs s_common_under) (defBody s_common_under) (defScope s_common_under) .none kV_common_under dc_common_under pm_common_under an_common_under cd_common_under ct_common_under), sl_common_under⟩)
    (c_common_under : PySem.W.codeIn K cd_common_under "common_under" = true)
    (k_common_under : PySem.W.keepIn K (.ref f_common_under) = true)
    (n_read_number : PySem.W.nsIn K mainGlobals "read_number" = some (some (.ref f_read_number)))
    (l_read_number : K.lookup f_read_number = some ⟨oc_read_number, od_read_number, .func (PySem.W.fnOf "read_number" "read_number" (defArgs s_read_number) (defBody s_read_number) (defScope s_read_number) .none kV_read_number dc_read_number pm_read_number an_read_number cd_read_number ct_read_number), sl_read_number⟩)
    (c_read_number : PySem.W.codeIn K cd_read_number "read_number" = true)
    (k_read_number : PySem.W.keepIn K (.ref f_read_number) = true)
    (n_read_place : PySem.W.nsIn K mainGlobals "read_place" = some (some (.ref f_read_place)))
    (l_read_place : K.lookup f_read_place = some ⟨oc_read_place, od_read_place, .func (PySem.W.fnOf "read_place" "read_place" (defArgs s_read_place) (defBody s_read_place) (defScope s_read_place) .none kV_read_place dc_read_place pm_read_place an_read_place cd_read_place ct_read_place), sl_read_place⟩)
    (c_read_place : PySem.W.codeIn K cd_read_place "read_place" = true)
    (k_read_place : PySem.W.keepIn K (.ref f_read_place) = true)
    (n_law_cell_at : PySem.W.nsIn K mainGlobals "_law_cell_at" = some (some (.ref f_law_cell_at)))
    (l_law_cell_at : K.lookup f_law_cell_at = some ⟨oc_law_cell_at, od_law_cell_at, .func (PySem.W.fnOf "_law_cell_at" "_law_cell_at" (defArgs s_law_cell_at) (defBody s_law_cell_at) (defScope s_law_cell_at) .none kV_law_cell_at dc_law_cell_at pm_law_cell_at an_law_cell_at cd_law_cell_at ct_law_cell_at), sl_law_cell_at⟩)
    (c_law_cell_at : PySem.W.codeIn K cd_law_cell_at "_law_cell_at" = true)
    (k_law_cell_at : PySem.W.keepIn K (.ref f_law_cell_at) = true)
    (n_law_whole : PySem.W.nsIn K mainGlobals "_law_whole" = some (some (.ref f_law_whole)))
    (l_law_whole : K.lookup f_law_whole = some ⟨oc_law_whole, od_law_whole, .func (PySem.W.fnOf "_law_whole" "_law_whole" (defArgs s_law_whole) (defBody s_law_whole) (defScope s_law_whole) .none kV_law_whole dc_law_whole pm_law_whole an_law_whole cd_law_whole ct_law_whole), sl_law_whole⟩)
    (c_law_whole : PySem.W.codeIn K cd_law_whole "_law_whole" = true)
    (k_law_whole : PySem.W.keepIn K (.ref f_law_whole) = true)
    (n_law_common : PySem.W.nsIn K mainGlobals "_law_common" = some (some (.ref f_law_common)))
    (l_law_common : K.lookup f_law_common = some ⟨oc_law_common, od_law_common, .func (PySem.W.fnOf "_law_common" "_law_common" (defArgs s_law_common) (defBody s_law_common) (defScope s_law_common) .none kV_law_common dc_law_common pm_law_common an_law_common cd_law_common ct_law_common), sl_law_common⟩)
    (c_law_common : PySem.W.codeIn K cd_law_common "_law_common" = true)
    (k_law_common : PySem.W.keepIn K (.ref f_law_common) = true)
    (n_law_great : PySem.W.nsIn K mainGlobals "_law_great" = some (some (.ref f_law_great)))
    (l_law_great : K.lookup f_law_great = some ⟨oc_law_great, od_law_great, .func (PySem.W.fnOf "_law_great" "_law_great" (defArgs s_law_great) (defBody s_law_great) (defScope s_law_great) .none kV_law_great dc_law_great pm_law_great an_law_great cd_law_great ct_law_great), sl_law_great⟩)
    (c_law_great : PySem.W.codeIn K cd_law_great "_law_great" = true)
    (k_law_great : PySem.W.keepIn K (.ref f_law_great) = true)
    (n_law_share : PySem.W.nsIn K mainGlobals "_law_share" = some (some (.ref f_law_share)))
    (l_law_share : K.lookup f_law_share = some ⟨oc_law_share, od_law_share, .func (PySem.W.fnOf "_law_share" "_law_share" (defArgs s_law_share) (defBody s_law_share) (defScope s_law_share) .none kV_law_share dc_law_share pm_law_share an_law_share cd_law_share ct_law_share), sl_law_share⟩)
    (c_law_share : PySem.W.codeIn K cd_law_share "_law_share" = true)
    (k_law_share : PySem.W.keepIn K (.ref f_law_share) = true)
    (n_law_word : PySem.W.nsIn K mainGlobals "_law_word" = some (some (.ref f_law_word)))
    (l_law_word : K.lookup f_law_word = some ⟨oc_law_word, od_law_word, .func (PySem.W.fnOf "_law_word" "_law_word" (defArgs s_law_word) (defBody s_law_word) (defScope s_law_word) .none kV_law_word dc_law_word pm_law_word an_law_word cd_law_word ct_law_word), sl_law_word⟩)
    (c_law_word : PySem.W.codeIn K cd_law_word "_law_word" = true)
    (k_law_word : PySem.W.keepIn K (.ref f_law_word) = true)
    (n_law_place : PySem.W.nsIn K mainGlobals "_law_place" = some (some (.ref f_law_place)))
    (l_law_place : K.lookup f_law_place = some ⟨oc_law_place, od_law_place, .func (PySem.W.fnOf "_law_place" "_law_place" (defArgs s_law_place) (defBody s_law_place) (defScope s_law_place) .none kV_law_place dc_law_place pm_law_place an_law_place cd_law_place ct_law_place), sl_law_place⟩)
    (c_law_place : PySem.W.codeIn K cd_law_place "_law_place" = true)
    (k_law_place : PySem.W.keepIn K (.ref f_law_place) = true)
    (n_law_number : PySem.W.nsIn K mainGlobals "_law_number" = some (some (.ref f_law_number)))
    (l_law_number : K.lookup f_law_number = some ⟨oc_law_number, od_law_number, .func (PySem.W.fnOf "_law_number" "_law_number" (defArgs s_law_number) (defBody s_law_number) (defScope s_law_number) .none kV_law_number dc_law_number pm_law_number an_law_number cd_law_number ct_law_number), sl_law_number⟩)
    (c_law_number : PySem.W.codeIn K cd_law_number "_law_number" = true)
    (k_law_number : PySem.W.keepIn K (.ref f_law_number) = true)
    (n_law_read : PySem.W.nsIn K mainGlobals "_law_read" = some (some (.ref f_law_read)))
    (l_law_read : K.lookup f_law_read = some ⟨oc_law_read, od_law_read, .func (PySem.W.fnOf "_law_read" "_law_read" (defArgs s_law_read) (defBody s_law_read) (defScope s_law_read) .none kV_law_read dc_law_read pm_law_read an_law_read cd_law_read ct_law_read), sl_law_read⟩)
    (c_law_read : PySem.W.codeIn K cd_law_read "_law_read" = true)
    (k_law_read : PySem.W.keepIn K (.ref f_law_read) = true)
    (n_law_due : PySem.W.nsIn K mainGlobals "_law_due" = some (some (.ref f_law_due)))
    (l_law_due : K.lookup f_law_due = some ⟨oc_law_due, od_law_due, .func (PySem.W.fnOf "_law_due" "_law_due" (defArgs s_law_due) (defBody s_law_due) (defScope s_law_due) .none kV_law_due dc_law_due pm_law_due an_law_due cd_law_due ct_law_due), sl_law_due⟩)
    (c_law_due : PySem.W.codeIn K cd_law_due "_law_due" = true)
    (k_law_due : PySem.W.keepIn K (.ref f_law_due) = true)
    (n_law_other : PySem.W.nsIn K mainGlobals "_law_other" = some (some (.ref f_law_other)))
    (l_law_other : K.lookup f_law_other = some ⟨oc_law_other, od_law_other, .func (PySem.W.fnOf "_law_other" "_law_other" (defArgs s_law_other) (defBody s_law_other) (defScope s_law_other) .none kV_law_other dc_law_other pm_law_other an_law_other cd_law_other ct_law_other), sl_law_other⟩)
    (c_law_other : PySem.W.codeIn K cd_law_other "_law_other" = true)
    (k_law_other : PySem.W.keepIn K (.ref f_law_other) = true)
    (n_law_is : PySem.W.nsIn K mainGlobals "_law_is" = some (some (.ref f_law_is)))
    (l_law_is : K.lookup f_law_is = some ⟨oc_law_is, od_law_is, .func (PySem.W.fnOf "_law_is" "_law_is" (defArgs s_law_is) (defBody s_law_is) (defScope s_law_is) .none kV_law_is dc_law_is pm_law_is an_law_is cd_law_is ct_law_is), sl_law_is⟩)
    (c_law_is : PySem.W.codeIn K cd_law_is "_law_is" = true)
    (k_law_is : PySem.W.keepIn K (.ref f_law_is) = true)
    (n_law_only : PySem.W.nsIn K mainGlobals "_law_only" = some (some (.ref f_law_only)))
    (l_law_only : K.lookup f_law_only = some ⟨oc_law_only, od_law_only, .func (PySem.W.fnOf "_law_only" "_law_only" (defArgs s_law_only) (defBody s_law_only) (defScope s_law_only) .none kV_law_only dc_law_only pm_law_only an_law_only cd_law_only ct_law_only), sl_law_only⟩)
    (c_law_only : PySem.W.codeIn K cd_law_only "_law_only" = true)
    (k_law_only : PySem.W.keepIn K (.ref f_law_only) = true)
    (n_law_right : PySem.W.nsIn K mainGlobals "_law_right" = some (some (.ref f_law_right)))
    (l_law_right : K.lookup f_law_right = some ⟨oc_law_right, od_law_right, .func (PySem.W.fnOf "_law_right" "_law_right" (defArgs s_law_right) (defBody s_law_right) (defScope s_law_right) .none kV_law_right dc_law_right pm_law_right an_law_right cd_law_right ct_law_right), sl_law_right⟩)
    (c_law_right : PySem.W.codeIn K cd_law_right "_law_right" = true)
    (k_law_right : PySem.W.keepIn K (.ref f_law_right) = true)
    (n_law : PySem.W.nsIn K mainGlobals "law" = some (some (.ref f_law)))
    (l_law : K.lookup f_law = some ⟨oc_law, od_law, .func (PySem.W.fnOf "law" "law" (defArgs s_law) (defBody s_law) (defScope s_law) .none kV_law dc_law pm_law an_law cd_law ct_law), sl_law⟩)
    (c_law : PySem.W.codeIn K cd_law "law" = true)
    (k_law : PySem.W.keepIn K (.ref f_law) = true)
    (n_CrystalError : PySem.W.nsIn K mainGlobals "CrystalError" = some (some (.ref C_CrystalError)))
    (n_NoPlace : PySem.W.nsIn K mainGlobals "NoPlace" = some (some (.ref C_NoPlace)))
    (n_NoDeed : PySem.W.nsIn K mainGlobals "NoDeed" = some (some (.ref C_NoDeed)))
    (n_NoNumber : PySem.W.nsIn K mainGlobals "NoNumber" = some (some (.ref C_NoNumber)))
    (n_NoText : PySem.W.nsIn K mainGlobals "NoText" = some (some (.ref C_NoText)))
    (n_TooMany : PySem.W.nsIn K mainGlobals "TooMany" = some (some (.ref C_TooMany)))
    (n_FIGURES : PySem.W.nsIn K mainGlobals "FIGURES" = some (some (.str "0123456789" tk_FIGURES)))
    (n_MOST_FIGURES : PySem.W.nsIn K mainGlobals "MOST_FIGURES" = some (some (.int 100 tk_MOST_FIGURES)))
    (y_range : PySem.W.nsIn K mainGlobals "range" = some none)
    (y_len : PySem.W.nsIn K mainGlobals "len" = some none)
    (y_isinstance : PySem.W.nsIn K mainGlobals "isinstance" = some none)
    (y_tuple : PySem.W.nsIn K mainGlobals "tuple" = some none)
    (y_max : PySem.W.nsIn K mainGlobals "max" = some none)
    (y_str : PySem.W.nsIn K mainGlobals "str" = some none)
    (y_ValueError : PySem.W.nsIn K mainGlobals "ValueError" = some none)
    (y_int : PySem.W.nsIn K mainGlobals "int" = some none)
    (y_bool : PySem.W.nsIn K mainGlobals "bool" = some none)
    (y_abs : PySem.W.nsIn K mainGlobals "abs" = some none)
    (y_reversed : PySem.W.nsIn K mainGlobals "reversed" = some none)
    (q_k_int : PySem.W.kitOne K (.type "int") (.type "int") = some true)
    (q_k_ib : PySem.W.kitOne K (.type "int") (.type "bool") = some false)
    (q_k_tt : PySem.W.kitOne K (.type "tuple") (.type "tuple") = some true)
    (q_k_ss : PySem.W.kitOne K (.type "str") (.type "str") = some true)
    (q_xm : PySem.W.exmOne K (.ref C_NoText) (.ref C_CrystalError) = some true)
    (q_e_ga : PySem.W.findIn K (.ref C_NoText) "__getattribute__" = some (some (.builtin "BaseException.__getattribute__")))
    (q_e_gt : PySem.W.findIn K (.ref C_NoText) "__getattr__" = some none)
    (q_e_ca : PySem.W.findIn K (.ref C_NoText) "__class__" = some (some (.builtin "object.__class__")))
    (q_e_cg : PySem.W.specialIn K (.builtin "object.__class__") "__get__" = some (some (.builtin "getset_descriptor.__get__")))
    (q_e_tk : PySem.W.takesIn K (.builtin "object.__class__") = some true)
    (q_e_ob : PySem.W.mroIn K C_NoText (.type "object") = some true)
    (q_e_bx : PySem.W.mroIn K C_NoText (.type "BaseException") = some true)
    (q_i_VE : PySem.W.kitOne K (.ref C_NoText) (.type "ValueError") = some true)
    (q_i_NoPlace : PySem.W.kitOne K (.ref C_NoText) (.ref C_NoPlace) = some false)
    (q_i_NoDeed : PySem.W.kitOne K (.ref C_NoText) (.ref C_NoDeed) = some false)
    (q_i_NoNumber : PySem.W.kitOne K (.ref C_NoText) (.ref C_NoNumber) = some false)
    (q_i_TooMany : PySem.W.kitOne K (.ref C_NoText) (.ref C_TooMany) = some false)
    (q_i_NoText : PySem.W.kitOne K (.ref C_NoText) (.ref C_NoText) = some true)
    (q_x_NoText : PySem.W.excIn K C_NoText [.type "ValueError", .type "Exception", .type "BaseException", .type "object"] "ValueError.__new__" = true)
    (q_x_NoPlace : PySem.W.excIn K C_NoPlace [.type "ValueError", .type "Exception", .type "BaseException", .type "object"] "ValueError.__new__" = true)
    : ∃ t, Txt K mg t := by
  have F_divisor := fun_mk (st := s_divisor) l_divisor c_divisor k_divisor
  have b_divisor := F_divisor.binds (ps := ["one", "other"]) fun _ _ _ _ _ _ us hl => match us, hl with | [_, _], _ => rfl
  have F_figures := fun_mk (st := s_figures) l_figures c_figures k_figures
  have b_figures := F_figures.binds (ps := ["number"]) fun _ _ _ _ _ _ us hl => match us, hl with | [_], _ => rfl
  have F_halved := fun_mk (st := s_halved) l_halved c_halved k_halved
  have b_halved := F_halved.binds (ps := ["pieces", "power"]) fun _ _ _ _ _ _ us hl => match us, hl with | [_, _], _ => rfl
  have F_place := fun_mk (st := s_place) l_place c_place k_place
  have b_place := F_place.binds (ps := ["tops", "under"]) fun _ _ _ _ _ _ us hl => match us, hl with | [_, _], _ => rfl
  have F_fraction_text := fun_mk (st := s_fraction_text) l_fraction_text c_fraction_text k_fraction_text
  have b_fraction_text := F_fraction_text.binds (ps := ["top", "under"]) fun _ _ _ _ _ _ us hl => match us, hl with | [_, _], _ => rfl
  have F_number_text := fun_mk (st := s_number_text) l_number_text c_number_text k_number_text
  have b_number_text := F_number_text.binds (ps := ["top", "under"]) fun _ _ _ _ _ _ us hl => match us, hl with | [_, _], _ => rfl
  have F_show_place := fun_mk (st := s_show_place) l_show_place c_show_place k_show_place
  have b_show_place := F_show_place.binds (ps := ["one"]) fun _ _ _ _ _ _ us hl => match us, hl with | [_], _ => rfl
  have F_read_whole := fun_mk (st := s_read_whole) l_read_whole c_read_whole k_read_whole
  have b_read_whole := F_read_whole.binds (ps := ["text"]) fun _ _ _ _ _ _ us hl => match us, hl with | [_], _ => rfl
  have F_read_fraction := fun_mk (st := s_read_fraction) l_read_fraction c_read_fraction k_read_fraction
  have b_read_fraction := F_read_fraction.binds (ps := ["text"]) fun _ _ _ _ _ _ us hl => match us, hl with | [_], _ => rfl
  have F_read_signed := fun_mk (st := s_read_signed) l_read_signed c_read_signed k_read_signed
  have b_read_signed := F_read_signed.binds (ps := ["text"]) fun _ _ _ _ _ _ us hl => match us, hl with | [_], _ => rfl
  have F_parts_of := fun_mk (st := s_parts_of) l_parts_of c_parts_of k_parts_of
  have b_parts_of := F_parts_of.binds (ps := ["text"]) fun _ _ _ _ _ _ us hl => match us, hl with | [_], _ => rfl
  have F_common_under := fun_mk (st := s_common_under) l_common_under c_common_under k_common_under
  have b_common_under := F_common_under.binds (ps := ["pairs"]) fun _ _ _ _ _ _ us hl => match us, hl with | [_], _ => rfl
  have F_read_number := fun_mk (st := s_read_number) l_read_number c_read_number k_read_number
  have b_read_number := F_read_number.binds (ps := ["text"]) fun _ _ _ _ _ _ us hl => match us, hl with | [_], _ => rfl
  have F_read_place := fun_mk (st := s_read_place) l_read_place c_read_place k_read_place
  have b_read_place := F_read_place.binds (ps := ["text"]) fun _ _ _ _ _ _ us hl => match us, hl with | [_], _ => rfl
  have F_law_cell_at := fun_mk (st := s_law_cell_at) l_law_cell_at c_law_cell_at k_law_cell_at
  have b_law_cell_at := F_law_cell_at.binds (ps := ["_law_script", "_law_k"]) fun _ _ _ _ _ _ us hl => match us, hl with | [_, _], _ => rfl
  have F_law_whole := fun_mk (st := s_law_whole) l_law_whole c_law_whole k_law_whole
  have b_law_whole := F_law_whole.binds (ps := ["_law_found"]) fun _ _ _ _ _ _ us hl => match us, hl with | [_], _ => rfl
  have F_law_common := fun_mk (st := s_law_common) l_law_common c_law_common k_law_common
  have b_law_common := F_law_common.binds (ps := ["_law_one", "_law_other_here"]) fun _ _ _ _ _ _ us hl => match us, hl with | [_, _], _ => rfl
  have F_law_great := fun_mk (st := s_law_great) l_law_great c_law_great k_law_great
  have b_law_great := F_law_great.binds (ps := ["_law_cell"]) fun _ _ _ _ _ _ us hl => match us, hl with | [_], _ => rfl
  have F_law_share := fun_mk (st := s_law_share) l_law_share c_law_share k_law_share
  have b_law_share := F_law_share.binds (ps := ["_law_cell", "_law_other_here"]) fun _ _ _ _ _ _ us hl => match us, hl with | [_, _], _ => rfl
  have F_law_word := fun_mk (st := s_law_word) l_law_word c_law_word k_law_word
  have b_law_word := F_law_word.binds (ps := ["_law_share_here"]) fun _ _ _ _ _ _ us hl => match us, hl with | [_], _ => rfl
  have F_law_place := fun_mk (st := s_law_place) l_law_place c_law_place k_law_place
  have b_law_place := F_law_place.binds (ps := ["_law_worths"]) fun _ _ _ _ _ _ us hl => match us, hl with | [_], _ => rfl
  have F_law_number := fun_mk (st := s_law_number) l_law_number c_law_number k_law_number
  have b_law_number := F_law_number.binds (ps := ["_law_word_here"]) fun _ _ _ _ _ _ us hl => match us, hl with | [_], _ => rfl
  have F_law_read := fun_mk (st := s_law_read) l_law_read c_law_read k_law_read
  have b_law_read := F_law_read.binds (ps := ["_law_word_here"]) fun _ _ _ _ _ _ us hl => match us, hl with | [_], _ => rfl
  have F_law_due := fun_mk (st := s_law_due) l_law_due c_law_due k_law_due
  have b_law_due := F_law_due.binds (ps := ["_law_text"]) fun _ _ _ _ _ _ us hl => match us, hl with | [_], _ => rfl
  have F_law_other := fun_mk (st := s_law_other) l_law_other c_law_other k_law_other
  have b_law_other := F_law_other.binds (ps := ["_law_text", "_law_cell", "_law_sign"]) fun _ _ _ _ _ _ us hl => match us, hl with | [_, _, _], _ => rfl
  have F_law_is := fun_mk (st := s_law_is) l_law_is c_law_is k_law_is
  have b_law_is := F_law_is.binds (ps := ["_law_found", "_law_due_here"]) fun _ _ _ _ _ _ us hl => match us, hl with | [_, _], _ => rfl
  have F_law_only := fun_mk (st := s_law_only) l_law_only c_law_only k_law_only
  have b_law_only := F_law_only.binds (ps := ["_law_e"]) fun _ _ _ _ _ _ us hl => match us, hl with | [_], _ => rfl
  have F_law_right := fun_mk (st := s_law_right) l_law_right c_law_right k_law_right
  have b_law_right := F_law_right.binds (ps := ["_law_text"]) fun _ _ _ _ _ _ us hl => match us, hl with | [_], _ => rfl
  have F_law := fun_mk (st := s_law) l_law c_law k_law
  have b_law := F_law.binds (ps := ["_law_script"]) fun _ _ _ _ _ _ us hl => match us, hl with | [_], _ => rfl
  exact ⟨⟨f_divisor, _, f_figures, _, f_halved, _, f_place, _, f_fraction_text, _, f_number_text, _, f_show_place, _, f_read_whole, _, f_read_fraction, _, f_read_signed, _, f_parts_of, _, f_common_under, _, f_read_number, _, f_read_place, _, f_law_cell_at, _, f_law_whole, _, f_law_common, _, f_law_great, _, f_law_share, _, f_law_word, _, f_law_place, _, f_law_number, _, f_law_read, _, f_law_due, _, f_law_other, _, f_law_is, _, f_law_only, _, f_law_right, _, f_law, _, C_CrystalError, C_NoPlace, C_NoDeed, C_NoNumber, C_NoText, C_TooMany⟩, ⟨F_divisor, PySem.W.mg_of X G n_divisor, b_divisor, F_figures, PySem.W.mg_of X G n_figures, b_figures, F_halved, PySem.W.mg_of X G n_halved, b_halved, F_place, PySem.W.mg_of X G n_place, b_place, F_fraction_text, PySem.W.mg_of X G n_fraction_text, b_fraction_text, F_number_text, PySem.W.mg_of X G n_number_text, b_number_text, F_show_place, PySem.W.mg_of X G n_show_place, b_show_place, F_read_whole, PySem.W.mg_of X G n_read_whole, b_read_whole, F_read_fraction, PySem.W.mg_of X G n_read_fraction, b_read_fraction, F_read_signed, PySem.W.mg_of X G n_read_signed, b_read_signed, F_parts_of, PySem.W.mg_of X G n_parts_of, b_parts_of, F_common_under, PySem.W.mg_of X G n_common_under, b_common_under, F_read_number, PySem.W.mg_of X G n_read_number, b_read_number, F_read_place, PySem.W.mg_of X G n_read_place, b_read_place, F_law_cell_at, PySem.W.mg_of X G n_law_cell_at, b_law_cell_at, F_law_whole, PySem.W.mg_of X G n_law_whole, b_law_whole, F_law_common, PySem.W.mg_of X G n_law_common, b_law_common, F_law_great, PySem.W.mg_of X G n_law_great, b_law_great, F_law_share, PySem.W.mg_of X G n_law_share, b_law_share, F_law_word, PySem.W.mg_of X G n_law_word, b_law_word, F_law_place, PySem.W.mg_of X G n_law_place, b_law_place, F_law_number, PySem.W.mg_of X G n_law_number, b_law_number, F_law_read, PySem.W.mg_of X G n_law_read, b_law_read, F_law_due, PySem.W.mg_of X G n_law_due, b_law_due, F_law_other, PySem.W.mg_of X G n_law_other, b_law_other, F_law_is, PySem.W.mg_of X G n_law_is, b_law_is, F_law_only, PySem.W.mg_of X G n_law_only, b_law_only, F_law_right, PySem.W.mg_of X G n_law_right, b_law_right, F_law, PySem.W.mg_of X G n_law, b_law, PySem.W.mg_none_of X G y_range, PySem.W.mg_none_of X G y_len, PySem.W.mg_none_of X G y_isinstance, PySem.W.mg_none_of X G y_tuple, PySem.W.mg_none_of X G y_max, PySem.W.mg_none_of X G y_str, PySem.W.mg_none_of X G y_ValueError, PySem.W.mg_none_of X G y_int, PySem.W.mg_none_of X G y_bool, PySem.W.mg_none_of X G y_abs, PySem.W.mg_none_of X G y_reversed, PySem.W.mg_of X G n_CrystalError, PySem.W.mg_of X G n_NoPlace, PySem.W.mg_of X G n_NoDeed, PySem.W.mg_of X G n_NoNumber, PySem.W.mg_of X G n_NoText, PySem.W.mg_of X G n_TooMany, ⟨_, PySem.W.mg_of X G n_FIGURES, _, rfl⟩, ⟨_, PySem.W.mg_of X G n_MOST_FIGURES, _, rfl⟩, q_k_int, q_k_ib, q_k_tt, q_k_ss, q_xm, q_e_ga, q_e_gt, q_e_ca, q_e_cg, q_e_tk, q_e_ob, q_e_bx, q_i_VE, q_i_NoPlace, q_i_NoDeed, q_i_NoNumber, q_i_TooMany, q_i_NoText, q_x_NoText, q_x_NoPlace, fun s v => .of_eq rfl⟩⟩
end Cw
open PySem PySem.W PyProof.Rows
set_option maxRecDepth 100000 in
set_option maxHeartbeats 0 in
theorem PySem.Challenge.cw_crystalwords_k19_places_written_holds : PySem.Challenge.rw_crystalwords_k19_places_written.Holds := by
  w_on; o_law; k_head; (case hw => w_witness2)
  k_fill
  refine L2.walkB (l := PySem.Challenge.rw_crystalwords_k19_places_written) (k := 8) (x := "_law_script") rfl rfl ⟨rfl, by decide, by decide⟩ (fun w h Y => PySem.W.kIn_of Y) ?F
  case F =>
    intro w mg fa h KX G hmg
    have T : ∃ t, Cw.Txt (L2.KOf KX) mg t := by
      dsimp only [L2.KOf]
      refine' Cw.txt_mk KX G ?n_divisor ?l_divisor ?c_divisor ?k_divisor ?n_figures ?l_figures ?c_figures ?k_figures ?n_halved ?l_halved ?c_halved ?k_halved ?n_place ?l_place ?c_place ?k_place ?n_fraction_text ?l_fraction_text ?c_fraction_text ?k_fraction_text ?n_number_text ?l_number_text ?c_number_text ?k_number_text ?n_show_place ?l_show_place ?c_show_place ?k_show_place ?n_read_whole ?l_read_whole ?c_read_whole ?k_read_whole ?n_read_fraction ?l_read_fraction ?c_read_fraction ?k_read_fraction ?n_read_signed ?l_read_signed ?c_read_signed ?k_read_signed ?n_parts_of ?l_parts_of ?c_parts_of ?k_parts_of ?n_common_under ?l_common_under ?c_common_under ?k_common_under ?n_read_number ?l_read_number ?c_read_number ?k_read_number ?n_read_place ?l_read_place ?c_read_place ?k_read_place ?n_law_cell_at ?l_law_cell_at ?c_law_cell_at ?k_law_cell_at ?n_law_whole ?l_law_whole ?c_law_whole ?k_law_whole ?n_law_common ?l_law_common ?c_law_common ?k_law_common ?n_law_great ?l_law_great ?c_law_great ?k_law_great ?n_law_share ?l_law_share ?c_law_share ?k_law_share ?n_law_word ?l_law_word ?c_law_word ?k_law_word ?n_law_place ?l_law_place ?c_law_place ?k_law_place ?n_law_number ?l_law_number ?c_law_number ?k_law_number ?n_law_read ?l_law_read ?c_law_read ?k_law_read ?n_law_due ?l_law_due ?c_law_due ?k_law_due ?n_law_other ?l_law_other ?c_law_other ?k_law_other ?n_law_is ?l_law_is ?c_law_is ?k_law_is ?n_law_only ?l_law_only ?c_law_only ?k_law_only ?n_law_right ?l_law_right ?c_law_right ?k_law_right ?n_law ?l_law ?c_law ?k_law ?n_CrystalError ?n_NoPlace ?n_NoDeed ?n_NoNumber ?n_NoText ?n_TooMany ?n_FIGURES ?n_MOST_FIGURES ?y_range ?y_len ?y_isinstance ?y_tuple ?y_max ?y_str ?y_ValueError ?y_int ?y_bool ?y_abs ?y_reversed ?q_k_int ?q_k_ib ?q_k_tt ?q_k_ss ?q_xm ?q_e_ga ?q_e_gt ?q_e_ca ?q_e_cg ?q_e_tk ?q_e_ob ?q_e_bx ?q_i_VE ?q_i_NoPlace ?q_i_NoDeed ?q_i_NoNumber ?q_i_TooMany ?q_i_NoText ?q_x_NoText ?q_x_NoPlace
      (case n_divisor => k_is)
      (case l_divisor => k_is)
      (case c_divisor => k_is)
      (case k_divisor => k_is)
      (case n_figures => k_is)
      (case l_figures => k_is)
      (case c_figures => k_is)
      (case k_figures => k_is)
      (case n_halved => k_is)
      (case l_halved => k_is)
      (case c_halved => k_is)
      (case k_halved => k_is)
      (case n_place => k_is)
      (case l_place => k_is)
      (case c_place => k_is)
      (case k_place => k_is)
      (case n_fraction_text => k_is)
      (case l_fraction_text => k_is)
      (case c_fraction_text => k_is)
      (case k_fraction_text => k_is)
      (case n_number_text => k_is)
      (case l_number_text => k_is)
      (case c_number_text => k_is)
      (case k_number_text => k_is)
      (case n_show_place => k_is)
      (case l_show_place => k_is)
      (case c_show_place => k_is)
      (case k_show_place => k_is)
      (case n_read_whole => k_is)
      (case l_read_whole => k_is)
      (case c_read_whole => k_is)
      (case k_read_whole => k_is)
      (case n_read_fraction => k_is)
      (case l_read_fraction => k_is)
      (case c_read_fraction => k_is)
      (case k_read_fraction => k_is)
      (case n_read_signed => k_is)
      (case l_read_signed => k_is)
      (case c_read_signed => k_is)
      (case k_read_signed => k_is)
      (case n_parts_of => k_is)
      (case l_parts_of => k_is)
      (case c_parts_of => k_is)
      (case k_parts_of => k_is)
      (case n_common_under => k_is)
      (case l_common_under => k_is)
      (case c_common_under => k_is)
      (case k_common_under => k_is)
      (case n_read_number => k_is)
      (case l_read_number => k_is)
      (case c_read_number => k_is)
      (case k_read_number => k_is)
      (case n_read_place => k_is)
      (case l_read_place => k_is)
      (case c_read_place => k_is)
      (case k_read_place => k_is)
      (case n_law_cell_at => k_is)
      (case l_law_cell_at => k_is)
      (case c_law_cell_at => k_is)
      (case k_law_cell_at => k_is)
      (case n_law_whole => k_is)
      (case l_law_whole => k_is)
      (case c_law_whole => k_is)
      (case k_law_whole => k_is)
      (case n_law_common => k_is)
      (case l_law_common => k_is)
      (case c_law_common => k_is)
      (case k_law_common => k_is)
      (case n_law_great => k_is)
      (case l_law_great => k_is)
      (case c_law_great => k_is)
      (case k_law_great => k_is)
      (case n_law_share => k_is)
      (case l_law_share => k_is)
      (case c_law_share => k_is)
      (case k_law_share => k_is)
      (case n_law_word => k_is)
      (case l_law_word => k_is)
      (case c_law_word => k_is)
      (case k_law_word => k_is)
      (case n_law_place => k_is)
      (case l_law_place => k_is)
      (case c_law_place => k_is)
      (case k_law_place => k_is)
      (case n_law_number => k_is)
      (case l_law_number => k_is)
      (case c_law_number => k_is)
      (case k_law_number => k_is)
      (case n_law_read => k_is)
      (case l_law_read => k_is)
      (case c_law_read => k_is)
      (case k_law_read => k_is)
      (case n_law_due => k_is)
      (case l_law_due => k_is)
      (case c_law_due => k_is)
      (case k_law_due => k_is)
      (case n_law_other => k_is)
      (case l_law_other => k_is)
      (case c_law_other => k_is)
      (case k_law_other => k_is)
      (case n_law_is => k_is)
      (case l_law_is => k_is)
      (case c_law_is => k_is)
      (case k_law_is => k_is)
      (case n_law_only => k_is)
      (case l_law_only => k_is)
      (case c_law_only => k_is)
      (case k_law_only => k_is)
      (case n_law_right => k_is)
      (case l_law_right => k_is)
      (case c_law_right => k_is)
      (case k_law_right => k_is)
      (case n_law => k_is)
      (case l_law => k_is)
      (case c_law => k_is)
      (case k_law => k_is)
      (case n_CrystalError => k_is)
      (case n_NoPlace => k_is)
      (case n_NoDeed => k_is)
      (case n_NoNumber => k_is)
      (case n_NoText => k_is)
      (case n_TooMany => k_is)
      (case n_FIGURES => k_is)
      (case n_MOST_FIGURES => k_is)
      (case y_range => k_is)
      (case y_len => k_is)
      (case y_isinstance => k_is)
      (case y_tuple => k_is)
      (case y_max => k_is)
      (case y_str => k_is)
      (case y_ValueError => k_is)
      (case y_int => k_is)
      (case y_bool => k_is)
      (case y_abs => k_is)
      (case y_reversed => k_is)
      (case q_k_int => kit_is)
      (case q_k_ib => kit_is)
      (case q_k_tt => kit_is)
      (case q_k_ss => kit_is)
      (case q_xm => kts_exm)
      (case q_e_ga => k_is)
      (case q_e_gt => k_is)
      (case q_e_ca => k_is)
      (case q_e_cg => k_is)
      (case q_e_tk => k_is)
      (case q_e_ob => k_is)
      (case q_e_bx => k_is)
      (case q_i_VE => kit_is)
      (case q_i_NoPlace => kit_is)
      (case q_i_NoDeed => kit_is)
      (case q_i_NoNumber => kit_is)
      (case q_i_TooMany => kit_is)
      (case q_i_NoText => kit_is)
      (case q_x_NoText => k_exc)
      (case q_x_NoPlace => k_exc)
    obtain ⟨t, T⟩ := T
    have e0 := hmg.symm.trans T.m_law
    cases e0
    exact ⟨t.d_law, T.bl, fun base kb nb => Cw.ok_law T⟩
#print axioms PySem.Challenge.cw_crystalwords_k19_places_written_holds
