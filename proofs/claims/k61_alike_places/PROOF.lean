import PyProof.Rows.All
import Wide.All
import OpenK.AllK
import Wide.FinOn
import Lean
import PyProof.EqAt
import PyProof.EqKinds
import PyProof.TupleCall
import PySem.Challenge.RW_crystalwords_k61_alike_places
set_option Elab.async false
set_option linter.all false
set_option maxRecDepth 100000
set_option bootstrap.genMatcherCode false
local macro_rules | `(⋯)=>`(by omega)
local macro_rules | `(∅)=>`(by decide)
local macro_rules | `(nofun)=>`(by decide +kernel)
local macro_rules | `(tactic| ext)=>`(tactic| walk_at "r")
noncomputable section
theorem dLe {d k:Nat} (h:d=2\/d=3) (g:3≤k):d≤k:=by
 rcases h with h|h<;>rw [h]
 ·exact Nat.le_trans (by decide) g
 ·exact g
theorem eLe {x d k:Nat} (e:x=d) (h:d=2\/d=3) (g:3≤k):x≤k:=by rw [e];exact dLe h g
theorem eLt {x y k:Nat} (e:x=y) (g:k < y):k < x:=by rw [e];exact g
theorem iNn {x:Int} (h:0 < x):¬x < 0:=Int.not_lt.mpr (Int.le_of_lt h)
local macro_rules | `(tactic| omega)=>`(tactic| first | (with_reducible first | assumption | exact Int.ne_of_gt (by assumption) | exact iNn (by assumption) | exact Int.le_of_lt (by assumption) | exact eLt (by assumption) (by assumption) | exact dLe (by assumption) (by decide) | exact eLe (by assumption) (by assumption) (by decide) | exact Nat.le_trans (by assumption) (by decide) | exact Nat.lt_of_lt_of_le (by assumption) (by decide) | exact Nat.lt_of_le_of_lt (by assumption) (by decide) | exact Nat.le_trans (Nat.le_of_lt (by assumption)) (by decide) | exact Nat.le_of_lt (by assumption)) | decide | lia | omega +splitDisjunctions)
abbrev SP':=List Int × Int
abbrev LI':=List Int
abbrev PN:=List (PySem.Addr × PySem.Obj)
abbrev VP:=PySem.Value->PySem.Shared->Prop
abbrev LW:=List PySem.Value
abbrev LA:=List PySem.Addr
abbrev MT:=PySem.Str->Option PySem.Value
def zA:=@PySem.wpAny_bind
def zB:=@List.getElem?_map
def zC:=@PySem.wpAny_pure
def zD:=@PySem.Heap.get?_push_of_some
def zE:=@List.mem_map
def zF:=@Nat.le_refl
def zG:=@List.map_cons
def zH:=@PyProof.Rows.wpS_bind
def zI:=@Nat.lt_of_lt_of_le
def zJ:=@PyProof.Rows.wpS_pure
def zK:=@List.mem_cons_of_mem
def zL:=@List.mem_cons
def zM:=@decide_eq_true
def zN:=@Array.length_toList
def zO:=@Bool.and_eq_true
def zP:=@PySem.Heap.lt_size
def zQ:=@decide_eq_false
def zR:=@List.getElem?_eq_some_iff
def zS:=@List.mem_cons_self
def zT:=@Option.some.inj
def zU:=@PySem.Heap.get?_push_size
def zV:=@Int.toNat_natCast
def zW:=@List.size_toArray
def zX:=@List.length_cons
def zY:=@beq_iff_eq
def zZ:=@List.getElem?_append_right
def yA:=@Nat.ne_of_lt
def yB:=@List.length_append
def yC:=@Nat.le_trans
def yD:=@List.mem_of_getElem?
def yE:=@List.cons.injEq
def yF:=@List.mem_singleton
def yG:=@Bool.false_ne_true
def yH:=@List.getElem?_zipWith
def yI:=@List.length_zipWith
def yJ:=@Array.toList_append
def yK:=@List.getElem?_append_left
def yL:=@List.length_map
def yM:=@List.mem_append_right
def yN:=@Int.natAbs_mul
def yO:=@of_decide_eq_true
def yP:=@List.append_assoc
def yQ:=@LawfulBEq.eq_of_beq
def yR:=@PySem.PassesOwn.never
def yS:=@Int.mul_pos
def yT:=@Nat.pow_le_pow_right
def yU:=@PyProof.Rows.mulOk_of_bits
def yV:=@List.all_cons
def yW:=@Array.getElem?_toList
def yX:=@PySem.W.mg_none_of
def yY:=@Nat.zero_le
def yZ:=@List.zipWith_cons_cons
def xA:=@List.length_take
def xB:=@List.mem_append
def xC:=@Nat.lt_irrefl
def xD:=@List.map_append
def xE:=@List.map_map
def xF:=@List.pairwise_append
def xG:=@PySem.wpAny_mono
def xH:=@List.lookup_cons
def xI:=@Int.fmod_eq_emod_of_nonneg
def xJ:=@PySem.wpAny_newObj_type
def xK:=@PyProof.Rows.wpS_forRange
def xL:=@PySem.W.kia_one
def xM:=@List.nodup_cons
def xN:=@PySem.wpAny_call_entry
def xO:=@List.getElem?_eq_getElem
def xP:=@List.getElem?_range
def xQ:=@Int.eq_ofNat_of_zero_le
def xR:=@Nat.mul_le_mul_right
def xS:=@List.getElem?_of_mem
def xT:=@PySem.wpAny_holding
def xU:=@Nat.le_of_lt
def xV:=@List.getElem_of_mem
def xW:=@decide_eq_true_eq
def xX:=@List.take_append_drop
def xY:=@PySem.Heap.size_push
def xZ:=@congrArg
def wA:=@PySem.wpAny_field
def wB:=@PySem.wpAny_callSpecial?_slot
def wC:=@PySem.F.plainAttrs_list
def wD:=@List.pairwise_map
def wE:=@PySem.F.excBase_ValueError
def wF:=@beq_eq_false_iff_ne
def wG:=@List.map_congr_left
def wH:=@List.mem_reverse
def wI:=@List.all_eq_true
def wJ:=@PySem.intBits_le_64
def wK:=@PySem.wpAny_seqItems
def wL:=@Nat.mul_le_mul
def wM:=@PySem.wpAny_rule
def wN:=@List.foldl_cons
def wO:=@Nat.zero_add
def wP:=@List.take_of_length_le
def wQ:=@PyProof.Rows.callWith_type1
def wR:=@Nat.pow_add
def wS:=@List.sum_cons
def wT:=@PyProof.Rows.wpS_mono
def wU:=@PyProof.Rows.wpS_modify
def wV:=@PySem.F.slot_dict_keyiterator_next
def wW:=@List.getElem?_eq_none
def wX:=@List.cons_lt_cons_iff
def wY:=@List.pairwise_iff_getElem
def wZ:=@Nat.two_pow_pos
def vA:=@Int.le_of_lt
def vB:=@PySem.IntMulOk.of_right
def vC:=@List.mem_append_left
def vD:=@PySem.F.type_list_append
def vE:=@PySem.F.slot_list_append
def vF:=@PySem.mem_of_lookup
def vG:=@List.replicate_succ
def vH:=@PySem.Heap.SameBut.update
def vI:=@PySem.wpAny_isInstance
def vJ:=@List.getElem_mem
def vK:=@List.ext_getElem
def vL:=@PySem.IntMulOk.of_left
def vM:=@PySem.wpAny_typeNameOfWhole_keyiter
def vN:=@Nat.min_self
def vO:=@Int.mul_comm
def vP:=@Int.dvd_refl
def vQ:=@PySem.wpAny_setField_rec
def vR:=@Nat.lt_of_le_of_lt
def vS:=@PySem.wpAny_passesOwn
def vU:=@List.mem_filter
def vV:=@List.append_nil
def vW:=@PySem.wpAny_attempt
def vX:=@List.perm_append_comm
def vY:=@PySem.Heap.get?_update_self
def vZ:=@PySem.F.slot_tuple_iterator_next
def uA:=@Nat.mul_lt_mul''
def uB:=@List.zipIdx_cons
def uC:=@List.take_length
def uD:=@PySem.wpAny_typeNameOf_keyiter
def uE:=@PySem.wpAny_loadPart'
def uF:=@List.forIn_cons
def uG:=@PySem.wpAny_tupleItemsOf
def uH:=@PySem.wpAny_pyIter_tuple
def uI:=@List.eraseIdx_append_of_length_le
def uJ:=@Nat.lt_or_ge
def uK:=@PySem.wpAny_truthy_bool
def uL:=@List.foldl_append
def uM:=@Array.toList_push
def uN:=@List.getElem?_set_self
def uO:=@Int.fmod_nonneg_of_pos
def uP:=@PySem.Heap.get?_update_other
def uQ:=@List.Pairwise.sublist
def uR:=@decide_eq_decide
def uS:=@List.length_drop
def uT:=@PyProof.Rows.wpS_get
def uU:=@PySem.wpAny_standAt
def uV:=@List.any_cons
def uW:=@Int.one_mul
def uX:=@PySem.W.looks_findIn
def uY:=@Array.toList_reverse
def uZ:=@PySem.Around.under_plainId
def tD:=@PySem.codeAny_builtin
def tE:=@List.filterMap_cons
def tF:=@PySem.wpAny_typeOf
def tG:=@Nat.succ_mul
def tH:=@Nat.sub_self
def tI:=@Nat.mul_comm
def tJ:=@Int.zero_mul
def tK:=@List.take_zero
def tL:=@List.nodup_nil
def tM:=@Int.mul_le_mul
def tN:=@PySem.wpAny_Call_Name_kw
def tO:=@of_decide_eq_false
def tP:=@PySem.Obj.data_mapFields
def tQ:=@List.zip_cons_cons
def tR:=@List.pairwise_cons
def tS:=@List.getElem?_drop
def tU:=@Int.fmod_lt_of_pos
def tV:=@List.getD_eq_getElem?_getD
def tW:=@List.eraseIdx_of_length_le
def tX:=@List.mem_or_eq_of_mem_set
def tY:=@List.drop_eq_getElem_cons
def tZ:=@Int.mul_one
def sD:=@PySem.wpAny_pyIter_list
def sE:=@List.take_add_one
def sF:=@List.nodup_append
def sG:=@List.flatten_cons
def sH:=@List.drop_sublist
def sI:=@Nat.add_assoc
def sJ:=@PySem.SeqAt.Reads.unique
def sK:=@List.mem_of_mem_eraseIdx
def sL:=@Nat.lt_succ_self
def sQ:=@List.reverse_nil
def sT:=@List.mem_flatMap
def sU:=@List.any_eq_true
def sV:=@PySem.codeAny_mono
def sW:=@Nat.ne_of_gt
def sZ:=@Nat.le_of_eq
def rA:=@PyProof.Rows.subscriptTail_builtinR
def rB:=@List.drop_eq_nil_of_le
def rC:=@PySem.wpAny_execs_nil
def rD:=@List.of_mem_zip
def rE:=@PySem.F.slot_zip_next
def rF:=@PySem.isSubtype_tuple_tuple
def rG:=@List.length_replicate
def rH:=@List.getElem?_reverse
def rJ:=@List.Perm.append_left
def rK:=@PyProof.Rows.wpS_lift
def rL:=@PySem.Paired.snoc
def rM:=@Nat.log2_lt
def rN:=@List.not_lt
def rO:=@PySem.wpAny_setField
def rP:=@List.mem_range
def rQ:=@PySem.wpAny_updateSeq_pair
def rR:=@List.mem_of_mem_take
def rS:=@List.length_eraseIdx
def rT:=@List.getElem?_zipIdx
def rV:=@List.getElem?_set_ne
def rW:=@PySem.W.plainGet_of
def rX:=@PySem.F.args_dict_keyiterator_next_1
def rY:=@PySem.wpAny_onRaise
def rZ:=@PySem.plainId_quiet
def qB:=@List.take_add
def qC:=@PySem.F.entry_dict_keyiterator_next
def qD:=@PyProof.Rows.assignInOrder_cons
def qE:=@List.mem_filterMap
def qF:=@Array.size_extract
def qG:=@Int.fmod_def
def qH:=@Int.fdiv_one
def qI:=@PySem.wpAny_dictEntries
def qJ:=@Nat.lt_succ_of_lt
def qK:=@Nat.le_of_succ_le
def qL:=@List.reverse_perm
def qM:=@Int.natAbs_add_le
def qN:=@PyProof.Rows.slot_tuple_getitem
def qO:=@PySem.wpAny_pyHash_int
def qP:=@PySem.wpAny_forIn_list
def qQ:=@Nat.le_add_right
def qR:=@Int.dvd_neg
def qT:=@List.eq_nil_of_length_eq_zero
def qU:=@PySem.wpAny_dictEpoch
def qV:=@PySem.pushCells_keeps
def qW:=@Nat.not_lt_zero
def qX:=@Int.mul_dvd_mul
def qZ:=@Int.dvd_of_mul_dvd_mul_right
def pC:=@PySem.F.args_tuple_iterator_next_1
def pE:=@PySem.wpAny_richCompare_same_room
def pF:=@PySem.F.entry_tuple_iterator_next
def pG:=@PySem.call_meets
def pH:=@PySem.isSubtype_stop
def pI:=@List.drop_drop
def pJ:=@PySem.SeqAt.eqBoolOverData
def pK:=@PySem.Calls.Name_function_global
def pM:=@Array.toList_setIfInBounds
def pN:=@Array.perm_iff_toList_perm
def pO:=@List.getElem?_eq_none_iff
def pQ:=@Int.mul_neg_of_neg_of_pos
def pR:=@PySem.wpAny_comprehension_free
def pS:=@List.getElem?_take_of_lt
def pU:=@Array.size_setIfInBounds
def pV:=@PySem.F.type_list_clear
def pW:=@PySem.F.slot_list_clear
def pY:=@PySem.F.plain_list_iadd
def pZ:=@Nat.le_mul_of_pos_right
def oA:=@List.getElem?_replicate
def oB:=@List.filter_cons_of_pos
def oC:=@List.filter_cons_of_neg
def oE:=@Int.mul_fdiv_mul_of_pos
def oF:=@Int.emod_eq_zero_of_dvd
def oG:=@PySem.seqIndex_neg
def oH:=@Nat.pow_succ
def oI:=@Int.le_trans
def oJ:=@Int.gcd_comm
def oK:=@PySem.wpAny_pyNext_list_item
def oM:=@PySem.W.cellsFrom_some
def oN:=@PySem.F.slot_dict_iter
def oO:=@List.length_pos_of_mem
def oP:=@PySem.Calls.callWith_builtin
namespace L2
open PySem PySem.Spec PyProof.Rows
open PySem.W (Frag)
abbrev Key:=Sum Int Str
noncomputable def Fv:Key->Value->Bool
 | .inl k,v=>Value.isInt k v
 | .inr x,v=>Value.isStrOf x v
noncomputable def keyH (w:World):Key->Int
 | .inl k=>hashInt k
 | .inr x=>hashStr w x
theorem iK:∀ {k:Key} {v:Value},Fv k v=true->(∃ i t,k=Sum.inl i/\v=Value.int i t)\/(∃ x t,k=Sum.inr x/\v=Value.str x t)
 | .inl i,v,h=>by
  obtain ⟨t,e⟩:=Value.isInt_shape (k:=i) (v:=v) h;exact .inl ⟨i,t,rfl,e⟩
 | .inr x,v,h=>by
  obtain ⟨t,e⟩:=Value.isStrOf_shape (x:=x) (v:=v) h;exact .inr ⟨x,t,rfl,e⟩
theorem Nz (a b:Int):decide ((Sum.inl a:Key)=Sum.inl b)=(a == b):=by
 by_cases e:a=b
 ·subst e; simp
 ·have h:¬ (Sum.inl a:Key)=Sum.inl b:=λ q=>e (Sum.inl.inj q);rw [zQ h];exact (wF.mpr e).symm
theorem Ny (a b:Str):decide ((Sum.inr a:Key)=Sum.inr b)=decide (a=b):=by
 by_cases e:a=b
 ·subst e; simp
 ·have h:¬ (Sum.inr a:Key)=Sum.inr b:=λ q=>e (Sum.inr.inj q);rw [zQ h,zQ e]
theorem Nx (a:Int) (b:Str):decide ((Sum.inl a:Key)=Sum.inr b)=false:=zQ (λ q=>nomatch q)
theorem Nw (a:Str) (b:Int):decide ((Sum.inr a:Key)=Sum.inl b)=false:=zQ (λ q=>nomatch q)
noncomputable def Fu (prog:Program) (w:World):PySem.KeyKind prog w Key where
 is:=Fv
 hash:=keyH w
 inj:=λ v a b ha hb=>by
  rcases iK ha with ⟨i,t,rfl,rfl⟩ | ⟨x,t,rfl,rfl⟩
  ·rcases iK hb with ⟨j,u,rfl,e⟩ | ⟨y,u,rfl,e⟩
   ·injection e with e1 _; rw [e1]
   ·exact nomatch e
  ·rcases iK hb with ⟨j,u,rfl,e⟩ | ⟨y,u,rfl,e⟩
   ·exact nomatch e
   ·injection e with e1 _; rw [e1]
 byValue:=λ k v h=>by
  rcases iK h with ⟨i,t,rfl,rfl⟩ | ⟨x,t,rfl,rfl⟩ <;> rfl
 pyHash:=λ hv h=>by
  rcases iK hv with ⟨i,t,rfl,rfl⟩ | ⟨x,t,rfl,rfl⟩
  ·exact qO h
  ·exact wpAny_pyHash_str h
 eqBool:=λ hu hv h=>by
  rcases iK hu with ⟨i,t,rfl,rfl⟩ | ⟨x,t,rfl,rfl⟩
  ·rcases iK hv with ⟨j,u,rfl,rfl⟩ | ⟨y,u,rfl,rfl⟩
   ·rw [Nz] at h; exact wpAny_eqBool_int h
   ·rw [Nx] at h; exact SeqAt.EqAt.int_str i t y u _ _ _ _ h
  ·rcases iK hv with ⟨j,u,rfl,rfl⟩ | ⟨y,u,rfl,rfl⟩
   ·rw [Nw] at h; exact SeqAt.EqAt.str_int x t j u _ _ _ _ h
   ·rw [Ny] at h; exact wpAny_eqBool_str h
 «strs»:=λ k x t v h=>by
  rcases iK h with ⟨i,u,rfl,e⟩ | ⟨y,u,rfl,e⟩
  ·exact nomatch e
  ·injection e with e1 _;subst e1;cases v <;> rfl
inductive V where
 | non | bl (b:Bool) | int (i:Int) | str (x:Str) | byt (b:Array UInt8) | flt (b:UInt64) | ref (a:Addr) | ty (n:String)
 deriving DecidableEq
def RelV:V->Value->Prop
 | .non,u=>u=Value.none
 | .bl b,u=>u=Value.bool b
 | .int i,u=>∃ t,u=Value.int i t
 | .str x,u=>∃ t,u=Value.str x t
 | .byt b,u=>∃ t,u=Value.bytes b t
 | .flt b,u=>∃ t,u=Value.float b t
 | .ref a,u=>u=Value.ref a
 | .ty n,u=>u=Value.type n
abbrev Vals:List V->LW->Prop:=Paired RelV
theorem Vals.length {xs:List V} {us:LW} (r:Vals xs us):xs.length=us.length:=Paired.length r
theorem Vals.get:∀ {xs:List V} {us:LW} {i:Nat} {x:V},Vals xs us->xs[i]?=some x->∃ u,us[i]?=some u/\RelV x u
 | _,_,_,_,.nil,e=>by simp at e
 | _,_,0,_,.cons r _,e=>by simp at e; subst e; exact ⟨_,rfl,r⟩
 | _,_,i+1,x,.cons _ t,e=>by
  obtain ⟨u,h1,h2⟩:=Vals.get (i:=i) (x:=x) t (by simpa using e);exact ⟨u,by simpa using h1,h2⟩
theorem Vals.set {x:V} {u:Value} (r:RelV x u):∀ {xs:List V} {us:LW} (i:Nat),Vals xs us->Vals (xs.set i x) (us.set i u)
 | _,_,_,.nil=>.nil
 | _,_,0,.cons _ t=>.cons r t
 | _,_,i+1,.cons q t=>.cons q (Vals.set r i t)
theorem Vals.append:∀ {xs ys:List V} {us ws:LW},Vals xs us->Vals ys ws->Vals (xs++ys) (us++ws)
 | _,_,_,_,.nil,s=>s
 | _,_,_,_,.cons r t,s=>.cons r (Vals.append t s)
theorem Vals.take:∀ {xs:List V} {us:LW} (n:Nat),Vals xs us->Vals (xs.take n) (us.take n)
 | _,_,0,_=>.nil
 | _,_,_+1,.nil=>.nil
 | _,_,n+1,.cons r t=>.cons r (Vals.take n t)
theorem Vals.drop:∀ {xs:List V} {us:LW} (n:Nat),Vals xs us->Vals (xs.drop n) (us.drop n)
 | _,_,0,r=>r
 | _,_,_+1,.nil=>.nil
 | _,_,n+1,.cons _ t=>Vals.drop n t
theorem Vals.none_of:∀ {xs:List V} {us:LW} {i:Nat},Vals xs us->xs[i]?=none->us[i]?=none:=λ {xs us i} r e=>by
 have h1:=r.length;have h2:xs.length<=i:=pO.mp e;exact pO.mpr ⋯
def RelO:Option V->Option Value->Prop
 | some v,some u=>RelV v u
 | none,none=>True
 | _,_=>False
def KV {κ:Type}:List (κ × V)->List (κ × Value)->Prop:=Paired λ (p:κ × V) (q:κ × Value)=>p.1=q.1/\RelV p.2 q.2
noncomputable def kV:Key->V
 | .inl i=>.int i
 | .inr x=>.str x
inductive HO where
  | lst (xs:List V)
  | tup (xs:List V)
  | dK (kvs:List (Key × V)) | dT (kvs:List (List Key × V))
  | set (S:Int->Bool) (n:Nat)
  | ins (C dx:Addr) (fs:List (Str × V))
  | own (x:Addr)
  | xd (fs:List (Str × V))
  | met (f x:Addr)
  | rng (lo hi:Int)
  | frz (o:Obj) (u:HO)
  | tbl (ps:Array Value)
  | ext (φ:Heap->Prop)
abbrev Hp:=Addr->Option HO
noncomputable def upd (H:Hp) (a:Addr) (o:HO):Hp:=λ b=>if b=a then some o else H b
theorem oZ {H:Hp} {a:Addr} {o:HO}:upd H a o a=some o:=by unfold upd; rw [if_pos rfl]
theorem nD {H:Hp} {a b:Addr} {o:HO} (h:b≠a):upd H a o b=H b:=by unfold upd; rw [if_neg h]
theorem mX {H:Hp} {a b:Addr} {o:HO} (h:H a=some o) (h':H b=none):a≠b:=by
 intro e; subst e; rw [h] at h'; cases h'
section
variable (P:Program) (w:World)
def mQ (H:Hp) (h:Heap) (a:Addr):HO->Prop
 | .lst xs=>xs.length<=sizeLine/\∃ (its:LW) (n:Nat),Vals xs its/\h.get? a=some { cls:=.type "list",data:=.seq its.toArray n }
 | .tup xs=>xs.length<=sizeLine/\∃ its:LW,Vals xs its/\IsTup h a its.toArray
 | .dK kvs=>kvs.length<=sizeLine/\(a == sysModules)=false/\∃ vs,KV kvs vs/\h.DictOf (Fu P w) a vs
 | .dT kvs=>kvs.length<=sizeLine/\(a == sysModules)=false/\∃ xs:List (List Key × Addr × Value),
   Paired (λ (p:List Key × V) (q:List Key × Addr × Value)=>p.1=q.1/\H q.2.1=some (.tup (p.1.map kV))/\RelV p.2 q.2.2) kvs xs /\
   ∃ o es ep,h.get? a=some o/\o.ExactDict/\o.data=.dict es ep/\es.toList=xs.map (entryOfKey (tupleKind (Fu P w)))/\(xs.map (·.1)).Nodup
 | .set S n=>h.SetOf (intKind P w) a S n
 | .ins C dx fs=>H dx=some (.own a)/\fs.length<=1000/\dx≠a/\h.get? a=some (PySem.W.instObj C dx) /\
   ∃ mA,h.Ns1 dx mA/\(∀ f,RelO (fs.lookup f) (mA f))/\PySem.Within mA (fs.map (·.1))
 | .own _=>∃ o,h.get? a=some o
 | .xd fs=>∃ mA,h.Ns1 a mA/\∀ f,RelO (fs.lookup f) (mA f)
 | .rng lo hi=>∃ t u v,h.get? a=some { cls:=.type "range",data:=.fields #[.int lo t,.int hi u,.int 1 v] }
 | .frz o u=>h.get? a=some o/\mQ H h a u
 | .tbl ps=>h.get? a=some { cls:=.none,data:=.fields ps }
 | .met f x=>h.get? a=some (PySem.W.methodObj (.ref f) (.ref x))
 | .ext φ=>φ h/\(∃ o,h.get? a=some o)/\∀ h1 h2:Heap,φ h1->(∀ o,h1.get? a=some o->h2.get? a=some o)->φ h2
def HOk (H:Hp) (h:Heap):Prop:=∀ a o,H a=some o->mQ P w H h a o
end
section
variable {P:Program} {w:World} {H H':Hp} {h h':Heap} {a:Addr} {o:HO}
theorem mQ.lt (x:mQ P w H h a o):a < h.objs.size:=by
 cases o with
 | lst xs=>obtain ⟨_,_,_,_,e⟩:=x; exact zP e
 | tup xs=>obtain ⟨_,_,_,p⟩:=x; exact p.lt
 | dK kvs=>obtain ⟨_,_,_,_,o,_,_,e,_⟩:=x; exact zP e
 | dT kvs=>obtain ⟨_,_,_,_,o,_,_,e,_⟩:=x; exact zP e
 | set S n=>obtain ⟨o,_,_,_,e,_⟩:=x; exact zP e
 | ins C dx fs=>obtain ⟨_,_,_,e,_⟩:=x; exact zP e
 | own y=>obtain ⟨_,e⟩:=x; exact zP e
 | xd fs=>obtain ⟨_,⟨_,_,_,e,_⟩,_⟩:=x; exact zP e
 | rng lo hi=>obtain ⟨_,_,_,e⟩:=x; exact zP e
 | frz ob u=>obtain ⟨e,_⟩:=x; exact zP e
 | tbl ps=>exact zP (show h.get? a=some _ from x)
 | met f y=>exact zP (show h.get? a=some _ from x)
 | ext φ=>obtain ⟨_,⟨_,e⟩,_⟩:=x; exact zP e
theorem Paired.mapP {α β:Type} {F G:α->β->Prop}:∀ {l₁:List α} {l₂:List β},Paired F l₁ l₂->(∀ a b,F a b->G a b)->Paired G l₁ l₂
 | _,_,.nil,_=>.nil
 | _,_,.cons r t,f=>.cons (f _ _ r) (Paired.mapP t f)
theorem mQ.stay (x:mQ P w H h a o) (k:∀ b u,(b=a\/H b=some (.own a))->h.get? b=some u->h'.get? b=some u)
  (ho:∀ b,H b=some (.own a)->H' b=some (.own a)) (ht:∀ b xs,H b=some (.tup xs)->H' b=some (.tup xs)):mQ P w H' h' a o:=by
 induction o with
 | lst xs=>obtain ⟨z,its,n,r,e⟩:=x; exact ⟨z,its,n,r,k _ _ (.inl rfl) e⟩
 | tup xs=>obtain ⟨z,its,r,ob,e,c⟩:=x; exact ⟨z,its,r,ob,k _ _ (.inl rfl) e,c⟩
 | dK kvs=>obtain ⟨z,y,vs,r,ob,es,ep,e,c⟩:=x; exact ⟨z,y,vs,r,ob,es,ep,k _ _ (.inl rfl) e,c⟩
 | dT kvs =>
  obtain ⟨z,y,xs,r,ob,es,ep,e,c⟩:=x;exact ⟨z,y,xs,Paired.mapP r λ p q z=>⟨z.1,ht _ _ z.2.1,z.2.2⟩,ob,es,ep,k _ _ (.inl rfl) e,c⟩
 | set S n=>obtain ⟨ob,es,ep,t,e,c⟩:=x; exact ⟨ob,es,ep,t,k _ _ (.inl rfl) e,c⟩
 | ins C dx fs =>
  obtain ⟨d,z,ne,e,mA,⟨od,es,ep,e2,c⟩,r⟩:=x;exact ⟨ho _ d,z,ne,k _ _ (.inl rfl) e,mA,⟨od,es,ep,k _ _ (.inr d) e2,c⟩,r⟩
 | own y=>obtain ⟨ob,e⟩:=x; exact ⟨ob,k _ _ (.inl rfl) e⟩
 | xd fs=>obtain ⟨mA,⟨od,es,ep,e,c⟩,r⟩:=x; exact ⟨mA,⟨od,es,ep,k _ _ (.inl rfl) e,c⟩,r⟩
 | rng lo hi=>obtain ⟨t,u,v,e⟩:=x; exact ⟨t,u,v,k _ _ (.inl rfl) e⟩
 | frz ob u ih=>obtain ⟨e,q⟩:=x; exact ⟨k _ _ (.inl rfl) e,ih q⟩
 | tbl ps =>
  have e:h.get? a=some { cls:=.none,data:=.fields ps }:=x;show h'.get? a=some { cls:=.none,data:=.fields ps };exact k a _ (.inl rfl) e
 | met f y =>
  have e:h.get? a=some (PySem.W.methodObj (.ref f) (.ref y)):=x;show h'.get? a=some (PySem.W.methodObj (.ref f) (.ref y));exact k a _ (.inl rfl) e
 | ext φ=>obtain ⟨p,⟨o,e⟩,st⟩:=x; exact ⟨st _ _ p λ o q=>k _ _ (.inl rfl) q,⟨o,k _ _ (.inl rfl) e⟩,st⟩
theorem HOk.lt (x:HOk P w H h) (e:H a=some o):a < h.objs.size:=(x a o e).lt
theorem HOk.fresh (x:HOk P w H h) (e:h.objs.size<=a):H a=none:=by
 cases q:H a with
 | none=>rfl
 | some u=>exact absurd (zI (x.lt q) e) (xC _)
theorem HOk.kept (x:HOk P w H h) (k:∀ b u,h.get? b=some u->h'.get? b=some u):HOk P w H h':=λ a o e =>
 (x a o e).stay (λ b u _ q=>k b u q) (λ _ q=>q) λ _ _ q=>q
theorem HOk.laid (x:HOk P w H h) (k:∀ b u,h.get? b=some u->h'.get? b=some u) (hp:h.objs.size<=a) (new:mQ P w (upd H a o) h' a o):HOk P w (upd H a o) h':=λ b u e=>by
 have hn:=x.fresh hp
 by_cases hb:b=a
 ·subst hb; rw [oZ] at e; cases e; exact new
 ·rw [nD hb] at e;exact (x b u e).stay (λ c v _ q=>k c v q) (λ c q=>by rw [nD (mX q hn)]; exact q) λ c xs q=>by rw [nD (mX q hn)]; exact q
end
def Rd (H:Hp) (a:Addr) (u:HO):Prop:=H a=some u\/∃ o,H a=some (.frz o u)
theorem Rd.ok {P:Program} {w:World} {H:Hp} {h:Heap} {a:Addr} {u:HO} (r:Rd H a u) (x:HOk P w H h):mQ P w H h a u:=by
 rcases r with r | ⟨o,r⟩
 ·exact x a u r
 ·obtain ⟨_,q⟩:=x a _ r;exact q
def Mut:Option HO->Prop
 | some (.lst _)=>True
 | some (.dK _)=>True
 | some (.dT _)=>True
 | some (.set _ _)=>True
 | some (.ins _ _ _)=>True
 | some (.ext _)=>True
 | _=>False
section
variable {P:Program} {w:World} {H:Hp} {h h':Heap} {x e:Addr} {o':HO}
theorem HOk.write (ok:HOk P w H h) (mu:Mut (H x)) (he:e=x\/H e=some (.own x)) (k:∀ b u,b≠e->h.get? b=some u->h'.get? b=some u) (heo:∃ u,h'.get? e=some u)
  (new:mQ P w (upd H x o') h' x o'):HOk P w (upd H x o') h':=λ b u q=>by
 have nown:∀ c y,H c=some (.own y)->c≠x:=λ c y r z=>by subst z; rw [r] at mu; exact mu
 have ntup:∀ c xs,H c=some (.tup xs)->c≠x:=λ c xs r z=>by subst z; rw [r] at mu; exact mu
 by_cases hb:b=x
 ·subst hb; rw [oZ] at q; cases q; exact new
 ·rw [nD hb] at q
  by_cases hbe:b=e
  ·have q':H b=some (.own x):=by
    rcases he with z | z
    ·exact absurd (hbe.trans z) hb
    ·rw [hbe]; exact z
   rw [q] at q'; cases q';obtain ⟨v,hv⟩:=heo;exact ⟨v,by rw [hbe]; exact hv⟩
  ·refine (ok b u q).stay (λ c v hc r=>k c v ?_ r) (λ c r=>by rw [nD (nown c b r)]; exact r) λ c xs r=>by rw [nD (ntup c xs r)]; exact r
   rcases hc with rfl | hc
   ·exact hbe
   ·rintro rfl;rcases he with z | z
    ·exact nown c b hc z
    ·rw [hc] at z; cases z; exact hb rfl
end
structure Un (fs ex:LA) (H H':Hp) (h h':Heap):Prop where
 keep:∀ b o,h.get? b=some o->H b=none->b ∉ fs->b ∉ ex->h'.get? b=some o
 slot:∀ b o,h.get? b=some o->H b=none->b∈fs->b ∉ ex->∃ sl,h'.get? b=some { o with slots:=sl }
 free:∀ b o,h.get? b=some o->H b=none->b ∉ ex->H' b=none
 there:∀ b o,h.get? b=some o->b ∉ ex->∃ o',h'.get? b=some o'
 tups:∀ b xs,H b=some (.tup xs)->H' b=some (.tup xs)
 frzs:∀ b o u,H b=some (.frz o u)->H' b=some (.frz o u)
 tbls:∀ b ps,H b=some (.tbl ps)->∃ more,H' b=some (.tbl (ps++more))
section
variable {fs fs' ex ex':LA} {H H1 H2:Hp} {h h1 h2 h':Heap} {a x e:Addr} {o:HO}
theorem Un.any (u:Un fs ex H H1 h h1) {b:Addr} {ob:Obj} (q:h.get? b=some ob) (n:H b=none) (hx:b ∉ ex):∃ sl,h1.get? b=some { ob with slots:=sl }:=by
 by_cases hb:b∈fs
 ·exact u.slot b ob q n hb hx
 ·exact ⟨ob.slots,u.keep b ob q n hb hx⟩
theorem Un.trans (a:Un fs ex H H1 h h1) (b:Un fs ex H1 H2 h1 h2):Un fs ex H H2 h h2 where
 keep:=λ c ob q n hc hx=>b.keep c ob (a.keep c ob q n hc hx) (a.free c ob q n hx) hc hx
 slot:=λ c ob q n hc hx=>by
  obtain ⟨sl,e1⟩:=a.slot c ob q n hc hx;obtain ⟨sl',e2⟩:=b.slot c _ e1 (a.free c ob q n hx) hc hx;exact ⟨sl',e2⟩
 free:=λ c ob q n hx=>by
  obtain ⟨o',e1⟩:=a.there c ob q hx;exact b.free c o' e1 (a.free c ob q n hx) hx
 there:=λ c ob q hx=>by
  obtain ⟨o',e1⟩:=a.there c ob q hx;exact b.there c o' e1 hx
 tups:=λ c xs q=>b.tups c xs (a.tups c xs q)
 frzs:=λ c ob xs q=>b.frzs c ob xs (a.frzs c ob xs q)
 tbls:=λ c ps q=>by
  obtain ⟨m1,e1⟩:=a.tbls c ps q;obtain ⟨m2,e2⟩:=b.tbls c _ e1;exact ⟨m1++m2,by rw [e2,Array.append_assoc]⟩
theorem Un.kept (k:∀ b u,h.get? b=some u->h'.get? b=some u):Un fs ex H H h h' :=
 ⟨λ b ob q _ _ _=>k b ob q,λ b ob q _ _ _=>⟨ob.slots,k b ob q⟩,λ _ _ _ n _=>n,λ b ob q _=>⟨ob,k b ob q⟩,λ _ _ q=>q,λ _ _ _ q=>q,λ _ ps q=>⟨#[],by rw [q]; simp⟩⟩
theorem Un.refl:Un fs ex H H h h:=Un.kept λ _ _ q=>q
theorem Un.laid (k:∀ b u,h.get? b=some u->h'.get? b=some u) (hp:h.objs.size<=a) (hn:H a=none):Un fs ex H (upd H a o) h h' where
 keep:=λ b u q _ _ _=>k b u q
 slot:=λ b u q _ _ _=>⟨u.slots,k b u q⟩
 free:=λ b u q n _=>by rw [nD (yA (zI (zP q) hp))]; exact n
 there:=λ b u q _=>⟨u,k b u q⟩
 tups:=λ b xs q=>by rw [nD (mX q hn)]; exact q
 frzs:=λ b u xs q=>by rw [nD (mX q hn)]; exact q
 tbls:=λ b ps q=>⟨#[],by rw [nD (mX q hn),q]; simp⟩
theorem Un.write (mu:Mut (H x)) (he:e=x\/H e=some (.own x)) (k:∀ b u,b≠e->h.get? b=some u->h'.get? b=some u) (heo:∃ u,h'.get? e=some u):Un fs ex H (upd H x o) h h':=by
 have hx:∀ b,H b=none->b≠x:=λ b n z=>by subst z; rw [n] at mu; exact mu
 have hb:∀ b,H b=none->b≠e:=λ b n z=>by
  subst z;rcases he with r | r
  ·exact hx b n r
  ·rw [n] at r; cases r
 have hm:∀ b u,H b=some u->¬ Mut (some u)->b≠x:=λ b u q nm z=>by subst z; rw [q] at mu; exact nm mu
 refine ⟨λ b u q n _ _=>k b u (hb b n) q,λ b u q n _ _=>⟨u.slots,k b u (hb b n) q⟩,λ b u q n _=>by rw [nD (hx b n)]; exact n,λ b u q _=>?_,
  λ b xs q=>by rw [nD (hm b _ q λ z=>z)]; exact q,λ b u xs q=>by rw [nD (hm b _ q λ z=>z)]; exact q,λ b ps q=>⟨#[],by rw [nD (hm b _ q λ z=>z),q]; simp⟩⟩
 by_cases hbe:b=e
 ·subst hbe; exact heo
 ·exact ⟨u,k b u hbe q⟩
end
noncomputable def trk (h:Heap) (H:Hp):LA:=(List.range h.objs.size).filter λ a=>(H a).isSome
noncomputable def hidT (h:Heap) (H:Hp):Heap:=PySem.W.hideAll h (trk h H)
theorem Nv (h:Heap) (H:Hp):(hidT h H).objs.size=h.objs.size:=PySem.W.hideAll_size _ _
theorem Nu {h:Heap} {H:Hp} {b:Addr} {o:Obj} (e:h.get? b=some o) (n:H b=none):(hidT h H).get? b=some o :=
 PySem.W.hideAll_get _ e λ hm=>by
  have q:(H b).isSome=true:=(vU.mp hm).2;rw [n] at q; simp at q
theorem Nt {h:Heap} {H:Hp} {b:Addr} {o:Obj} (e:(hidT h H).get? b=some o):h.get? b=some o/\H b=none:=by
 have e':h.get? b=some o:=PySem.W.of_hideAll (trk h H) e;refine ⟨e',?_⟩;cases q:H b with
 | none=>rfl
 | some x =>
  have hm:b∈trk h H:=vU.mpr ⟨rP.mpr (zP e'),by simp [q]⟩;have z:(hidT h H).get? b=none:=PySem.W.hideAll_none (trk h H) hm;rw [z] at e; cases e
noncomputable def Nr (g h:Heap) (L:Addr):PN:=(List.range h.objs.size).filterMap λ a=>if a=L\/(g.get? a).isSome=true then none else (h.get? a).map λ o=>(a,o)
noncomputable def rest (g h:Heap) (L d:Addr):PN:=(Nr g h L).filter λ p=>decide (p.1≠d)
structure Mod (K:Frag) (mg:MT) (base:Heap):Prop where
 kin:K.In base
 glob:base.Ns mainGlobals mg
 blt:∃ mb,base.Ns builtinsNs mb/\∀ x:Str,x ≠ "__name__" -> mb x=bootBuiltins x
 nolimit:base.NoLimit
structure Cx where
 prog:Program
 w:World
 K:Frag
 mg:MT
 base:Heap
 A:Around
 N:List Str
 s₀:Shared
 H₀:Hp
 env:Env
 outer:List Env
 stack:List Env
 ex:LA
 fn:Str->Bool
 calm:Bool
 pn:PN
 xe:VP
noncomputable def frs (l:List Env):LA:=l.filterMap (·.frame)
noncomputable abbrev Cx.fs (X:Cx):LA:=frs X.outer
def Vis (sc:Scope) (x:Str):Prop:=sc.names.lookup x=some .local\/sc.names.lookup x=some .cell\/sc.names.lookup x=some .free
def Loc (sc:Scope) (x:Str):Prop:=sc.names.lookup x=some .local\/sc.names.lookup x=some .cell
def Look (env:Env) (h:Heap) (m:MT) (x:Str) (u:Value):Prop :=
 (env.kindOf x=some .local/\m x=some u)\/((env.kindOf x=some .cell\/env.kindOf x=some .free)/\∃ c,env.cells.lookup x=some c/\h.IsCell c (some u))
structure Cx.Ok (X:Cx):Prop where
 mod:Mod X.K X.mg X.base
 kind:X.env.scope.kind=.function
 glob:X.env.globals=mainGlobals
 blt:X.env.builtins=builtinsNs
 above:X.s₀.heap.objs.size<=X.env.locals
 inj:∀ x y c,X.env.cells.lookup x=some c->X.env.cells.lookup y=some c->x=y
 has:∀ x,(X.env.kindOf x=some .cell\/X.env.kindOf x=some .free)->∃ c,X.env.cells.lookup x=some c
 cab:∀ x c,X.fn x=true->X.env.cells.lookup x=some c->X.s₀.heap.objs.size<=c
 hd:X.calm=true->X.A.handled=none
 frames:X.A.frames=some X.stack
 stk:X.stack=X.outer\/(X.stack=X.env :: X.outer/\X.env.frame=some X.env.locals)
 exf:∀ b∈X.ex,b≠X.env.locals/\∀ x c,X.env.cells.lookup x=some c->c≠b
 bs:∀ b o,X.base.get? b=some o->X.s₀.heap.get? b=some o/\X.H₀ b=none
 bsz:X.base.objs.size<=X.s₀.heap.objs.size
 noex:∀ b o,X.base.get? b=some o->b ∉ X.ex
 exfs:∀ b∈X.ex,b ∉ X.fs
 funs:X.s₀.heap.FunFrames X.base X.outer
 frf:∀ b∈X.fs,X.H₀ b=none
structure Inv (X:Cx) (pins:PN) (σ:List (Option V)) (H:Hp) (s:Shared):Prop where
 ok:X.Ok
 os:s.os=X.s₀.os
 bare:AllBare s.gens
 base:Un X.fs X.ex X.H₀ H X.s₀.heap s.heap
 loc:∃ m,s.heap.Ns X.env.locals m/\∀ (i:Nat) (x:Str) (v:V),X.N[i]?=some x->σ[i]?=some (some v)->Vis X.env.scope x->∃ u,RelV v u/\Look X.env s.heap m x u
 cell:∀ x c,X.env.cells.lookup x=some c->∃ v,s.heap.IsCell c v
 free:H X.env.locals=none
 freeC:∀ x c,X.env.cells.lookup x=some c->H c=none
 pin:∀ p∈X.pn++pins,s.heap.get? p.1=some p.2/\H p.1=none/\p.1≠X.env.locals/\p.1 ∉ X.fs/\∀ v,p.2.data≠.cell v
 hok:HOk X.prog X.w H s.heap
 len:σ.length=X.N.length
section
variable {X:Cx} {pins:PN} {σ:List (Option V)} {H H':Hp} {s:Shared} {h':Heap}
theorem Cx.Ok.nofr (ok:X.Ok) {b:Addr} {o:Obj} (e:X.base.get? b=some o):b ∉ X.fs:=λ hb=>by
 have:=(ok.funs.mem hb).1;rw [e] at this; cases this
theorem Inv.bs (I:Inv X pins σ H s):∀ b o,X.base.get? b=some o->s.heap.get? b=some o/\H b=none:=λ b o e =>
 ⟨I.base.keep b o (I.ok.bs b o e).1 (I.ok.bs b o e).2 (I.ok.nofr e) (I.ok.noex b o e),I.base.free b o (I.ok.bs b o e).1 (I.ok.bs b o e).2 (I.ok.noex b o e)⟩
theorem Inv.bk (I:Inv X pins σ H s):∀ b o,X.base.get? b=some o->s.heap.get? b=some o:=λ b o e=>(I.bs b o e).1
theorem Inv.mod (I:Inv X pins σ H s):Mod X.K X.mg X.base:=I.ok.mod
theorem Inv.kIn (I:Inv X pins σ H s):X.K.In s.heap:=I.ok.mod.kin.keeps I.bk
theorem Inv.lt (I:Inv X pins σ H s):X.env.locals < s.heap.objs.size:=let ⟨_,hn,_⟩:=I.loc; hn.lt
theorem Inv.sz (I:Inv X pins σ H s):X.s₀.heap.objs.size<=s.heap.objs.size:=yC I.ok.above (xU I.lt)
theorem Inv.nofs (I:Inv X pins σ H s) {a:Addr} (h:s.heap.objs.size<=a):a ∉ X.fs:=λ hb=>by
 obtain ⟨_,o,ho,_⟩:=I.ok.funs.mem hb;exact absurd (zI (zP ho) (yC I.sz h)) (xC _)
theorem Inv.cne (I:Inv X pins σ H s):∀ x c,X.env.cells.lookup x=some c->c≠X.env.locals:=λ x c e z=>by
 obtain ⟨v,o,ho,hd⟩:=I.cell x c e;obtain ⟨m,⟨o',es,ep,ho',hd',_⟩,_⟩:=I.loc;rw [z,ho'] at ho; cases ho; rw [hd'] at hd; cases hd
theorem Inv.funs (I:Inv X pins σ H s):s.heap.FunFrames X.base X.outer:=by
 have all:∀ (l:List Env),(∀ b∈frs l,b∈X.fs)->X.s₀.heap.FunFrames X.base l->s.heap.FunFrames X.base l:=by
  intro l
  induction l with
  | nil=>intro _ _; trivial
  | cons env r ih =>
   intro hs hl;obtain ⟨hk,⟨L,o,hf,hn,ho,hd⟩,hr⟩:=hl;have hL:L∈X.fs:=hs L (by unfold frs; rw [tE,hf]; exact zS);obtain ⟨sl,e⟩:=I.base.slot L o ho (I.ok.frf L hL) hL λ z=>I.ok.exfs L z hL;exact ⟨hk,⟨L,_,hf,hn,e,hd⟩,ih (λ b hb=>hs b (by unfold frs; rw [tE,hf]; exact zK _ hb)) hr⟩
 exact all X.outer (λ _ hb=>hb) I.ok.funs
theorem Inv.stack (I:Inv X pins σ H s):s.heap.FunFrames X.base X.stack:=by
 rcases I.ok.stk with e | ⟨e,hf⟩
 ·rw [e]; exact I.funs
 ·rw [e];obtain ⟨m,hn,_⟩:=I.loc;refine .cons (by rw [I.ok.kind]; decide) hf hn ?_ I.funs;exact Heap.get?_none_of_le (yC I.ok.bsz I.ok.above)
theorem Inv.stkSub (I:Inv X pins σ H s):∀ b∈frs X.stack,b∈X.env.locals :: X.fs:=λ b hb=>by
 rcases I.ok.stk with e | ⟨e,hf⟩
 ·rw [e] at hb; exact zK _ hb
 ·rw [e] at hb;unfold frs at hb;rw [tE,hf] at hb;exact hb
theorem Inv.stkFree (I:Inv X pins σ H s):∀ b∈frs X.stack,H b=none:=λ b hb=>by
 rcases zL.mp (I.stkSub b hb) with e | hb
 ·rw [e]; exact I.free
 ·obtain ⟨_,o,ho,_⟩:=I.ok.funs.mem hb;exact I.base.free b o ho (I.ok.frf b hb) λ z=>I.ok.exfs b z hb
theorem Inv.step {g':Array GenState} {t':Nat} {d':Drawn} {ch:LA} (I:Inv X pins σ H s)
  (hch:∀ b∈ch,(b∈X.ex\/X.s₀.heap.objs.size<=b)/\b≠X.env.locals/\(∀ x c,X.env.cells.lookup x=some c->c≠b)/\∀ p∈X.pn++pins,p.1≠b)
  (keep:∀ b o,b≠X.env.locals->b ∉ X.fs->b ∉ ch->s.heap.get? b=some o->H b=none->h'.get? b=some o)
  (slot:∀ b o,b≠X.env.locals->b∈X.fs->b ∉ ch->s.heap.get? b=some o->H b=none->∃ sl,h'.get? b=some { o with slots:=sl }) (free:∀ b o,b ∉ ch->s.heap.get? b=some o->H b=none->H' b=none)
  (there:∀ b o,b ∉ ch->s.heap.get? b=some o->∃ o',h'.get? b=some o')
  (tups:∀ b xs,H b=some (.tup xs)->H' b=some (.tup xs)) (frzs:∀ b o u,H b=some (.frz o u)->H' b=some (.frz o u)) (tbls:∀ b ps,H b=some (.tbl ps)->∃ more,H' b=some (.tbl (ps++more)))
  (ns:∀ m,s.heap.Ns X.env.locals m->h'.Ns X.env.locals m) (hok:HOk X.prog X.w H' h') (hg:AllBare g') :
  Inv X pins σ H' { s with heap:=h',gens:=g',drawn:=d',toks:=t' }:=by
 have neL:∀ b o,X.s₀.heap.get? b=some o->b≠X.env.locals:=λ b o e=>yA (zI (zP e) I.ok.above);have neC:∀ b o,X.s₀.heap.get? b=some o->b ∉ X.ex->b ∉ ch:=λ b o e hx hb=>by
  rcases (hch b hb).1 with z | z
  ·exact hx z
  ·exact absurd (zI (zP e) z) (xC _)
 have cellK:∀ x c,X.env.cells.lookup x=some c->∀ v,s.heap.IsCell c v->h'.IsCell c v:=λ x c e v ⟨o,ho,hd⟩=>by
  have nch:c ∉ ch:=λ z=>(hch c z).2.2.1 x c e rfl
  by_cases hc:c∈X.fs
  ·obtain ⟨sl,q⟩:=slot c o (I.cne x c e) hc nch ho (I.freeC x c e);exact ⟨_,q,hd⟩
  ·exact ⟨o,keep c o (I.cne x c e) hc nch ho (I.freeC x c e),hd⟩
 refine ⟨I.ok,I.os,hg,⟨λ b o e n hb hx=>?_,λ b o e n hb hx=>?_,λ b o e n hx=>?_,λ b o e hx=>?_,λ b xs e=>tups b xs (I.base.tups b xs e),λ b o xs e=>frzs b o xs (I.base.frzs b o xs e),λ b ps e=>?_⟩,?_,λ x c e=>?_,?_,λ x c e=>?_,λ p hp=>?_,hok,I.len⟩
 ·exact keep b o (neL b o e) hb (neC b o e hx) (I.base.keep b o e n hb hx) (I.base.free b o e n hx)
 ·obtain ⟨sl,e1⟩:=I.base.slot b o e n hb hx;obtain ⟨sl',e2⟩:=slot b _ (neL b o e) hb (neC b o e hx) e1 (I.base.free b o e n hx);exact ⟨sl',e2⟩
 ·obtain ⟨o',e1⟩:=I.base.there b o e hx;exact free b o' (neC b o e hx) e1 (I.base.free b o e n hx)
 ·obtain ⟨o',e1⟩:=I.base.there b o e hx;exact there b o' (neC b o e hx) e1
 ·obtain ⟨m1,e1⟩:=I.base.tbls b ps e;obtain ⟨m2,e2⟩:=tbls b _ e1;exact ⟨m1++m2,by rw [e2,Array.append_assoc]⟩
 ·obtain ⟨m,hn,hl⟩:=I.loc;refine ⟨m,ns m hn,λ i x v e1 e2 e3=>?_⟩;obtain ⟨u,r,l⟩:=hl i x v e1 e2 e3;refine ⟨u,r,?_⟩;rcases l with l | ⟨k,c,e,z⟩
  ·exact .inl l
  ·exact .inr ⟨k,c,e,cellK x c e _ z⟩
 ·obtain ⟨v,z⟩:=I.cell x c e;exact ⟨v,cellK x c e v z⟩
 ·obtain ⟨m,⟨o,_,_,ho,_⟩,_⟩:=I.loc;exact free _ o (λ z=>(hch _ z).2.1 rfl) ho I.free
 ·obtain ⟨v,o,ho,hd⟩:=I.cell x c e;exact free c o (λ z=>(hch c z).2.2.1 x c e rfl) ho (I.freeC x c e)
 ·obtain ⟨e,n,ne,nf,d⟩:=I.pin p hp;have nch:p.1 ∉ ch:=λ z=>(hch p.1 z).2.2.2 p hp rfl;exact ⟨keep p.1 p.2 ne nf nch e n,free p.1 p.2 nch e n,ne,nf,d⟩
theorem Inv.un {t':Nat} (I:Inv X pins σ H s) (u:Un X.fs [] H H' s.heap h') (hok:HOk X.prog X.w H' h'):Inv X pins σ H' { s with heap:=h',toks:=t' }:=by
 obtain ⟨m,⟨o,es,ep,ho,r⟩,_⟩:=id I.loc;obtain ⟨sl,hL⟩:=u.any ho I.free (by simp);exact I.step (g':=s.gens) (d':=s.drawn) (ch:=[]) (λ _ z=>nomatch z) (λ b o _ hb _ e n=>u.keep b o e n hb (by simp)) (λ b o _ hb _ e n=>u.slot b o e n hb (by simp)) (λ b o _ e n=>u.free b o e n (by simp)) (λ b o _ e=>u.there b o e (by simp)) u.tups u.frzs u.tbls (λ m' hm=>by
  obtain ⟨o',es',ep',ho',r'⟩:=hm;rw [ho] at ho'; cases ho';exact ⟨_,es',ep',hL,r'⟩) hok I.bare
theorem Inv.call {g':Array GenState} {t':Nat} {d':Drawn} {ch:LA} (I:Inv X pins σ H s) (u:Un (frs X.stack) ch H H' s.heap h') (hok:HOk X.prog X.w H' h') (hg:AllBare g')
  (hch:∀ b∈ch,(b∈X.ex\/X.s₀.heap.objs.size<=b)/\b≠X.env.locals/\(∀ x c,X.env.cells.lookup x=some c->c≠b)/\∀ p∈X.pn++pins,p.1≠b) :
  Inv X pins σ H' { s with heap:=h',gens:=g',drawn:=d',toks:=t' }:=by
 obtain ⟨m,⟨o,es,ep,ho,r⟩,_⟩:=id I.loc;obtain ⟨sl,hL⟩:=u.any ho I.free λ z=>(hch _ z).2.1 rfl;exact I.step (ch:=ch) hch (λ b o hL hb hc e n=>u.keep b o e n (λ z=>(zL.mp (I.stkSub b z)).elim hL hb) hc) (λ b o _ _ hc e n=>u.any e n hc) (λ b o hc e n=>u.free b o e n hc) (λ b o hc e=>u.there b o e hc) u.tups u.frzs u.tbls (λ m' hm=>by
  obtain ⟨o',es',ep',ho',r'⟩:=hm;rw [ho] at ho'; cases ho';exact ⟨_,es',ep',hL,r'⟩) hok hg
theorem Inv.turned {t':Nat} {it:Addr} (I:Inv X pins σ H s) (k:∀ b o,b≠it->s.heap.get? b=some o->h'.get? b=some o) (hn:H it=none) (hL:it≠X.env.locals)
  (h1:it∈X.ex\/X.s₀.heap.objs.size<=it) (h2:∀ x c,X.env.cells.lookup x=some c->c≠it) (h3:∀ p∈X.pn++pins,p.1≠it):Inv X pins σ H { s with heap:=h',toks:=t' }:=by
 have nit:∀ b u,H b=some u->b≠it:=λ b u e z=>by rw [z,hn] at e; cases e
 refine I.step (g':=s.gens) (d':=s.drawn) (ch:=[it]) (λ b hb=>?_) (λ b o _ _ hc e _=>k b o (λ z=>hc (by simp [z])) e) (λ b o _ _ hc e _=>⟨o.slots,k b o (λ z=>hc (by simp [z])) e⟩) (λ _ _ _ _ n=>n)
  (λ b o hc e=>⟨o,k b o (λ z=>hc (by simp [z])) e⟩) (λ _ _ e=>e) (λ _ _ _ e=>e) (λ b ps e=>⟨#[],by rw [e]; simp⟩) (λ m hm=>?_) (λ b u e=>?_) I.bare
 ·have e:b=it:=by simpa using hb
  subst e;exact ⟨h1,hL,h2,h3⟩
 ·obtain ⟨o,es,ep,ho,r⟩:=hm;exact ⟨o,es,ep,k _ o (Ne.symm hL) ho,r⟩
 ·refine (I.hok b u e).stay (λ c v hc q=>k c v ?_ q) (λ _ q=>q) λ _ _ q=>q;rcases hc with z | z
  ·rw [z]; exact nit b u e
  ·exact nit c _ z
theorem Inv.tok (I:Inv X pins σ H s) (t:Nat):Inv X pins σ H { s with toks:=t }:=I.un (h':=s.heap) (t':=t) Un.refl I.hok
theorem Inv.kept {t':Nat} (I:Inv X pins σ H s) (k:∀ b u,s.heap.get? b=some u->h'.get? b=some u):Inv X pins σ H { s with heap:=h',toks:=t' }:=I.un (Un.kept k) (I.hok.kept k)
theorem Inv.laid {a:Addr} {o:HO} {t':Nat} (I:Inv X pins σ H s) (k:∀ b u,s.heap.get? b=some u->h'.get? b=some u) (hp:s.heap.objs.size<=a) (new:mQ X.prog X.w (upd H a o) h' a o) :
  Inv X pins σ (upd H a o) { s with heap:=h',toks:=t' }:=I.un (Un.laid k hp (I.hok.fresh hp)) (I.hok.laid k hp new)
theorem Inv.write {x e:Addr} {o:HO} {t':Nat} (I:Inv X pins σ H s) (mu:Mut (H x)) (he:e=x\/H e=some (.own x)) (k:∀ b u,b≠e->s.heap.get? b=some u->h'.get? b=some u) (heo:∃ u,h'.get? e=some u)
  (new:mQ X.prog X.w (upd H x o) h' x o):Inv X pins σ (upd H x o) { s with heap:=h',toks:=t' }:=I.un (Un.write mu he k heo) (I.hok.write mu he k heo new)
theorem Inv.pins_of {pins':PN} (I:Inv X pins σ H s) (h:∀ p∈pins',s.heap.get? p.1=some p.2/\H p.1=none/\p.1≠X.env.locals/\p.1 ∉ X.fs/\∀ v,p.2.data≠.cell v):Inv X pins' σ H s :=
 ⟨I.ok,I.os,I.bare,I.base,I.loc,I.cell,I.free,I.freeC,λ p hp=>(xB.mp hp).elim (λ z=>I.pin p (vC _ z)) (h p),I.hok,I.len⟩
theorem Ft {N:List Str} (hN:N.Nodup) {i j:Nat} {x:Str} (a:N[i]?=some x) (b:N[j]?=some x):i=j:=by
 obtain ⟨h1,e1⟩:=zR.mp a;obtain ⟨h2,e2⟩:=zR.mp b;exact (List.getElem_inj hN).mp (e1.trans e2.symm)
theorem Fs {M:Model} {A:Around} {E:VP} {i:Nat} {x:Str} {v:V} {u:Value} {Q:Unit->Shared->Prop} (I:Inv X pins σ H s) (hN:X.N.Nodup) (hi:X.N[i]?=some x) (hx:Loc X.env.scope x) (r:RelV v u)
  (h:∀ s',Inv X pins (σ.set i (some v)) H s'->(∃ a,Heap.SameBut a s.heap s'.heap/\(a=X.env.locals\/X.env.cells.lookup x=some a))->Q () s') (hf:X.fn x=true\/X.env.scope.names.lookup x=some .local:=by first | exact .inl rfl | exact .inr rfl | assumption):wpAny M A (storeName X.env x u) Q E s:=by
 obtain ⟨m,hn,hl⟩:=id I.loc;have hcls:(X.env.scope.kind == .class || (X.env.scope.kind == .module && X.env.locals != X.env.globals))=false:=by rw [I.ok.kind]; rfl
 have hiσ:i < σ.length:=by rw [I.len]; exact (zR.mp hi).1
 have cne:=I.cne;have tracked:∀ {a:Addr} {h':Heap},(∃ o,s.heap.get? a=some o/\H a=none)->Heap.SameBut a s.heap h'->HOk X.prog X.w H h':=λ {a h'} ha hs b ob e=>by
  obtain ⟨_,_,hfree⟩:=ha;refine (I.hok b ob e).stay (λ c w' hc q=>(hs.2 c ?_).trans q) (λ _ q=>q) λ _ _ q=>q;rintro rfl;rcases hc with rfl | hc
  ·rw [hfree] at e; cases e
  ·rw [hfree] at hc; cases hc
 rcases hx with hk | hk
 ·refine wpAny_storeName_local hk hn (λ h' hn' hs=>?_) hcls;obtain ⟨oL,_,_,hoL,_⟩:=id hn;refine h _ ⟨I.ok,I.os,I.bare,⟨λ b o e n hb hx=>?_,λ b o e n hb hx=>?_,I.base.free,λ b o e hx=>?_,I.base.tups,I.base.frzs,I.base.tbls⟩,⟨_,hn',λ j y v' e1 e2 e3=>?_⟩,λ y c e=>?_,I.free,I.freeC,λ p hp=>?_,tracked ⟨oL,hoL,I.free⟩ hs,by simpa using I.len⟩ ⟨_,hs,.inl rfl⟩
  ·exact (hs.2 b (yA (zI (zP e) I.ok.above))).trans (I.base.keep b o e n hb hx)
  ·obtain ⟨sl,e1⟩:=I.base.slot b o e n hb hx;exact ⟨sl,(hs.2 b (yA (zI (zP e) I.ok.above))).trans e1⟩
  ·obtain ⟨o',e1⟩:=I.base.there b o e hx;exact ⟨o',(hs.2 b (yA (zI (zP e) I.ok.above))).trans e1⟩
  ·by_cases hj:j=i
   ·subst hj;rw [hi] at e1; cases e1;rw [uN hiσ] at e2;cases e2;exact ⟨u,r,.inl ⟨hk,by simp⟩⟩
   ·rw [rV (Ne.symm hj)] at e2;obtain ⟨u',r',q⟩:=hl j y v' e1 e2 e3;refine ⟨u',r',?_⟩;rcases q with ⟨k,e⟩ | ⟨k,c,e,z⟩
    ·refine .inl ⟨k,?_⟩;have:y≠x:=λ e=>hj (Ft hN e1 (e ▸ hi));simp [this,e]
    ·exact .inr ⟨k,c,e,z.sameBut hs (cne y c e)⟩
  ·obtain ⟨w',z⟩:=I.cell y c e;exact ⟨w',z.sameBut hs (cne y c e)⟩
  ·obtain ⟨e,n,ne,nf,d⟩:=I.pin p hp;exact ⟨(hs.2 p.1 ne).trans e,n,ne,nf,d⟩
 ·have hfn:X.fn x=true:=by
   rcases hf with z | z
   ·exact z
   ·rw [z] at hk; cases hk
  obtain ⟨c,hc⟩:=I.ok.has x (.inl hk);obtain ⟨w',z⟩:=I.cell x c hc;refine wpAny_storeName_cell I.ok.kind hk hc z (λ h' hc' hs=>?_);obtain ⟨oc,hoc,hocd⟩:=id z;refine h { s with heap:=h' } ⟨I.ok,I.os,I.bare,⟨λ b o e n hb hx=>?_,λ b o e n hb hx=>?_,I.base.free,λ b o e hx=>?_,I.base.tups,I.base.frzs,I.base.tbls⟩,⟨m,hn.sameBut hs (Ne.symm (cne x c hc)),λ j y v' e1 e2 e3=>?_⟩,λ y c' e=>?_,I.free,I.freeC,λ p hp=>?_,tracked ⟨oc,hoc,I.freeC x c hc⟩ hs,by simpa using I.len⟩ ⟨c,hs,.inr hc⟩
  ·exact (hs.2 b (yA (zI (zP e) (I.ok.cab x c hfn hc)))).trans (I.base.keep b o e n hb hx)
  ·obtain ⟨sl,e1⟩:=I.base.slot b o e n hb hx;exact ⟨sl,(hs.2 b (yA (zI (zP e) (I.ok.cab x c hfn hc)))).trans e1⟩
  ·obtain ⟨o',e1⟩:=I.base.there b o e hx;exact ⟨o',(hs.2 b (yA (zI (zP e) (I.ok.cab x c hfn hc)))).trans e1⟩
  ·by_cases hj:j=i
   ·subst hj;rw [hi] at e1; cases e1;rw [uN hiσ] at e2;cases e2;exact ⟨u,r,.inr ⟨.inl hk,c,hc,hc'⟩⟩
   ·rw [rV (Ne.symm hj)] at e2;obtain ⟨u',r',q⟩:=hl j y v' e1 e2 e3;refine ⟨u',r',?_⟩;rcases q with q | ⟨k,c',e,z'⟩
    ·exact .inl q
    ·refine .inr ⟨k,c',e,z'.sameBut hs ?_⟩;rintro rfl;exact hj (Ft hN e1 (I.ok.inj _ _ _ e hc ▸ hi))
  ·by_cases hcc:c'=c
   ·subst hcc; exact ⟨_,hc'⟩
   ·obtain ⟨w2,z2⟩:=I.cell y c' e;exact ⟨w2,z2.sameBut hs hcc⟩
  ·obtain ⟨e,n,ne,nf,d⟩:=I.pin p hp;refine ⟨(hs.2 p.1 ?_).trans e,n,ne,nf,d⟩;intro q;rw [q,hoc] at e;have q':oc=p.2:=zT e;exact d w' (by rw [← q']; exact hocd)
theorem eN {M:Model} {A:Around} {E:VP} {i:Nat} {x:Str} {v:V} {u:Value} {Q:Unit->Shared->Prop} (I:Inv X pins σ H s) (hN:X.N.Nodup) (hi:X.N[i]?=some x) (hx:Loc X.env.scope x) (r:RelV v u)
  (h:∀ s',Inv X pins (σ.set i (some v)) H s'->Q () s') (hf:X.fn x=true\/X.env.scope.names.lookup x=some .local:=by first | exact .inl rfl | exact .inr rfl | assumption):wpAny M A (storeName X.env x u) Q E s :=
 Fs I hN hi hx r (λ s' I' _=>h s' I') hf
theorem Inv.call' {s':Shared} {ch:LA} (I:Inv X pins σ H s) (ho:s'.os=s.os) (u:Un (frs X.stack) ch H H' s.heap s'.heap) (hok:HOk X.prog X.w H' s'.heap) (hg:AllBare s'.gens)
  (hch:∀ b∈ch,(b∈X.ex\/X.s₀.heap.objs.size<=b)/\b≠X.env.locals/\(∀ x c,X.env.cells.lookup x=some c->c≠b)/\∀ p∈X.pn++pins,p.1≠b):Inv X pins σ H' s':=by
 obtain ⟨h',g',d',t',o'⟩:=s';have e:o'=s.os:=ho;subst e;exact I.call (g':=g') (t':=t') (d':=d') u hok hg hch
end
abbrev XK:=Value->Option Addr->Hp->Prop
abbrev St:=List (Option V)
abbrev VK:=V->Hp->Prop
abbrev TE:=St->Hp->VK->Prop
abbrev TT:=St->Hp->(Bool->Hp->Prop)->Prop
abbrev TA:=St->Hp->(List V->Hp->Prop)->Prop
structure Ends where
 nx:St->Hp->Prop
 rt:VK
 bk:St->Hp->Prop:=λ _ _=>False
 ct:St->Hp->Prop:=λ _ _=>False
abbrev TS:=Ends->St->Hp->Prop
def EP (X:Cx) (pins:PN) (σ:St) (Q:VK) (u:Value) (s':Shared):Prop:=∃ v H',Inv X pins σ H' s'/\RelV v u/\Q v H'
def TP (X:Cx) (pins:PN) (σ:St) (Q:Bool->Hp->Prop) (b:Bool) (s':Shared):Prop:=∃ H',Inv X pins σ H' s'/\Q b H'
def AP (X:Cx) (pins:PN) (σ:St) (Q:List V->Hp->Prop) (us:LW) (s':Shared):Prop:=∃ vs H',Inv X pins σ H' s'/\Vals vs us/\Q vs H'
def SP (X:Cx) (pins:PN) (D:Ends) (f:Flow) (s':Shared):Prop :=
 match f with
 | .next=>∃ σ' H',Inv X pins σ' H' s'/\D.nx σ' H'
 | .brk=>∃ σ' H',Inv X pins σ' H' s'/\D.bk σ' H'
 | .cont=>∃ σ' H',Inv X pins σ' H' s'/\D.ct σ' H'
 | .ret u=>∃ v σ' H',Inv X pins σ' H' s'/\RelV v u/\D.rt v H'
def PE (X:Cx) (e:Expr) (t:TE):Prop :=
 ∀ (pins:PN) (s:Shared) (σ:St) (H:Hp) (Q:VK),Inv X pins σ H s->t σ H Q->wpAny (model X.prog X.w) X.A (eval e X.env) (EP X pins σ Q) X.xe s
def PT (X:Cx) (e:Expr) (t:TT):Prop :=
 ∀ (pins:PN) (s:Shared) (σ:St) (H:Hp) (Q:Bool->Hp->Prop),Inv X pins σ H s->t σ H Q->wpAny (model X.prog X.w) X.A (isTrue e X.env (eval e X.env)) (TP X pins σ Q) X.xe s
def PW (X:Cx) (e:Expr) (t:TT):Prop :=
 ∀ (whole:Sem Value) (pins:PN) (s:Shared) (σ:St) (H:Hp) (Q:Bool->Hp->Prop),Inv X pins σ H s->t σ H Q->wpAny (model X.prog X.w) X.A (isTrue e X.env whole) (TP X pins σ Q) X.xe s
theorem PW.pt {X:Cx} {e:Expr} {t:TT} (h:PW X e t):PT X e t:=h _
def PA (X:Cx) (es:List Expr) (t:TA):Prop :=
 ∀ (pos:Pos) (pins:PN) (s:Shared) (σ:St) (H:Hp) (Q:List V->Hp->Prop),Inv X pins σ H s->t σ H Q->wpAny (model X.prog X.w) X.A (spliced (backTo pos (starEach es X.env))) (AP X pins σ Q) X.xe s
def PS (X:Cx) (st:Stmt) (t:TS):Prop :=
 ∀ (pins:PN) (s:Shared) (σ:St) (H:Hp) (D:Ends),Inv X pins σ H s->t D σ H->wpAny (model X.prog X.w) X.A (exec st X.env) (SP X pins D) X.xe s
def PSs (X:Cx) (st:List Stmt) (t:TS):Prop :=
 ∀ (pins:PN) (s:Shared) (σ:St) (H:Hp) (D:Ends),Inv X pins σ H s->t D σ H->wpAny (model X.prog X.w) X.A (execs st X.env) (SP X pins D) X.xe s
theorem thn {α:Type} {t:Sem α} {Q Q':α->Shared->Prop} {M:Model} {A:Around} {E:VP} {s:Shared} (h:wpAny M A t Q E s) (hQ:∀ a s,Q a s->Q' a s):wpAny M A t Q' E s:=xG h hQ λ _ _ x=>x
section
variable {X:Cx}
def tVar (i:Nat):TE:=λ σ H Q=>∃ v,σ[i]?=some (some v)/\Q v H
def tC (v:V):TE:=λ _ H Q=>Q v H
theorem Fr {i:Nat} {x:Str} {pos:Pos} (hN:X.N[i]?=some x) (hv:Vis X.env.scope x) (hd:(x == ("__debug__" : Str))=false:=by decide) (hcd:(x == ("__classdict__" : Str))=false:=by decide):PE X (.Name x pos) (tVar i):=by
 intro pins s σ H Q I h;obtain ⟨v,e,h⟩:=h;obtain ⟨m,hn,hl⟩:=I.loc;obtain ⟨u,r,l⟩:=hl i x v hN e hv;have fin:EP X pins σ Q u s:=⟨v,H,I,r,h⟩;rcases l with ⟨hk,hm⟩ | ⟨hk,c,hc,hcell⟩
 ·exact wpAny_Name (wpAny_loadName_local I.ok.kind hk hn hm fin) hd
 ·rcases hk with hk | hk
  ·exact wpAny_Name (wpAny_loadName_cell I.ok.kind hk hc hcell fin) hd
  ·exact wpAny_Name (wpAny_loadName_free I.ok.kind hk hc hcell fin hcd) hd
theorem oS {i j pos}:PE X (.Constant (.int i) j pos) (tC (.int i)):=λ _ _ _ H _ I h=>wpAny_Constant_int ⟨.int i,H,I.tok _,⟨_,rfl⟩,h⟩
theorem kW {b j pos}:PE X (.Constant (.bool b) j pos) (tC (.bl b)):=λ _ _ _ H _ I h=>Constant_bool ⟨.bl b,H,I,rfl,h⟩
theorem Fq {j pos}:PE X (.Constant .none j pos) (tC .non):=λ _ _ _ H _ I h=>Constant_none ⟨.non,H,I,rfl,h⟩
theorem fC {x j pos}:PE X (.Constant (.str x) j pos) (tC (.str x)):=λ _ _ _ H _ I h=>Calls.Constant_str ⟨.str x,H,I.tok _,⟨_,rfl⟩,h⟩
def Gl (X:Cx) (x:Str):Prop:=X.env.kindOf x=some .globalImplicit
theorem cR {E:VP} {pins:PN} {s:Shared} {σ:St} {H:Hp} {x:Str} {u:Value} {pos:Pos} {Q:VP} (I:Inv X pins σ H s) (hg:Gl X x) (hm:X.mg x=some u) (h:Q u s)
  (hd:(x == ("__debug__" : Str))=false:=by decide):wpAny (model X.prog X.w) X.A (eval (.Name x pos) X.env) Q E s :=
 pK I.ok.kind hg (Calls.loadGlobal_global (by rw [I.ok.glob]; exact I.mod.glob.keeps I.bk) hm h) hd
theorem gM {E:VP} {pins:PN} {s:Shared} {σ:St} {H:Hp} {x:Str} {u:Value} {pos:Pos} {Q:VP} (I:Inv X pins σ H s) (hg:Gl X x) (hm:X.mg x=none) (hv:bootBuiltins x=some u) (h:Q u s)
  (hn:x ≠ "__name__" := by decide) (hd:(x == ("__debug__" : Str))=false:=by decide):wpAny (model X.prog X.w) X.A (eval (.Name x pos) X.env) Q E s:=by
 obtain ⟨mb,h1,h2⟩:=I.mod.blt;exact pK I.ok.kind hg (Calls.loadGlobal_builtin (by rw [I.ok.glob]; exact I.mod.glob.keeps I.bk) hm (by rw [I.ok.blt]; exact h1.keeps I.bk) ((h2 x hn).trans hv) h) hd
theorem Nq {x:Str} {v:V} {u:Value} {pos:Pos} (hg:Gl X x) (hm:X.mg x=some u) (r:RelV v u) (hd:(x == ("__debug__" : Str))=false:=by decide):PE X (.Name x pos) (tC v) :=
 λ _ _ _ H _ I h=>cR I hg hm ⟨v,H,I,r,h⟩ hd
theorem iW {x:Str} {v:V} {u:Value} {pos:Pos} (hg:Gl X x) (hm:X.mg x=none) (hv:bootBuiltins x=some u) (r:RelV v u) (hn:x ≠ "__name__" := by decide) (hd:(x == ("__debug__" : Str))=false:=by decide):PE X (.Name x pos) (tC v) :=
 λ _ _ _ H _ I h=>gM I hg hm hv ⟨v,H,I,r,h⟩ hn hd
variable {a b:Expr} {ta tb:TE} {pos:Pos}
def tB (t:TE):TT:=λ σ H Q=>t σ H λ x H1=>∃ c,x=.bl c/\Q c H1
theorem kD {e:Expr} {t:TE} (h:PE X e t) (he:∀ whole,isTrue e X.env whole=(do let v ← whole; standAt e.pos; holding [v] (truthy v)):=by intro _; rfl):PT X e (tB t):=by
 intro pins s σ H Q I hw;refine isTrue_plain (thn (h pins s σ H _ I hw) λ v s1 ⟨x,H1,I1,r1,q1⟩=>?_) (he _);obtain ⟨d,rfl,q⟩:=q1;cases r1;exact uK ⟨H1,I1,q⟩
variable {tA tB':TT} {rest:List Expr}
def tAnd (t u:TT):TT:=λ σ H Q=>t σ H λ c H1=>if c=true then u σ H1 Q else Q false H1
def tOr (t u:TT):TT:=λ σ H Q=>t σ H λ c H1=>if c=true then Q true H1 else u σ H1 Q
def tNot (t:TT):TT:=λ σ H Q=>t σ H λ c H1=>Q (!c) H1
theorem Np (ha:PT X a tA):PW X (.BoolOp .And [a] pos) tA:=by
 intro wh pins s σ H Q I h;refine isTrue_and (thn (ha pins s σ H Q I h) λ c s1 e=>?_);cases c with
 | true=>exact isTrue_and_nil e
 | false=>exact e
theorem iL (ha:PT X a tA):PW X (.BoolOp .Or [a] pos) tA:=by
 intro wh pins s σ H Q I h;refine isTrue_or (thn (ha pins s σ H Q I h) λ c s1 e=>?_);cases c with
 | false=>exact isTrue_or_nil e
 | true=>exact e
theorem No (ha:PT X a tA) (hb:PW X (.BoolOp .And (b :: rest) pos) tB'):PW X (.BoolOp .And (a :: b :: rest) pos) (tAnd tA tB'):=by
 intro wh pins s σ H Q I h;refine isTrue_and (thn (ha pins s σ H _ I h) λ c s1 ⟨H1,I1,q1⟩=>?_);cases c with
 | true=>exact hb wh pins s1 σ H1 Q I1 q1
 | false=>exact ⟨H1,I1,q1⟩
theorem kL (ha:PT X a tA) (hb:PW X (.BoolOp .Or (b :: rest) pos) tB'):PW X (.BoolOp .Or (a :: b :: rest) pos) (tOr tA tB'):=by
 intro wh pins s σ H Q I h;refine isTrue_or (thn (ha pins s σ H _ I h) λ c s1 ⟨H1,I1,q1⟩=>?_);cases c with
 | true=>exact ⟨H1,I1,q1⟩
 | false=>exact hb wh pins s1 σ H1 Q I1 q1
theorem kM (ha:PT X a tA):PT X (.UnaryOp .Not a pos) (tNot tA):=by
 intro pins s σ H Q I h;exact isTrue_not (ha pins s σ H (λ c H1=>Q (!c) H1) I h)
def Nn (ta tb:TE):TE:=λ σ H Q=>ta σ H λ x H1=>∃ c,x=.bl c/\if c=true then tb σ H1 Q else Q (.bl false) H1
def tOrV (ta tb:TE):TE:=λ σ H Q=>ta σ H λ x H1=>∃ c,x=.bl c/\if c=true then Q (.bl true) H1 else tb σ H1 Q
def Nm (ta:TE):TE:=λ σ H Q=>ta σ H λ x H1=>∃ c,x=.bl c/\Q (.bl (!c)) H1
theorem Af {op} {t:TE} (h:PE X a t):PE X (.BoolOp op [a] pos) t:=λ pins s σ H Q I hw=>BoolOp_one (h pins s σ H Q I hw)
theorem cS (ha:PE X a ta) (hb:PE X (.BoolOp .And (b :: rest) pos) tb):PE X (.BoolOp .And (a :: b :: rest) pos) (Nn ta tb):=by
 intro pins s σ H Q I h;refine BoolOp_and (thn (ha pins s σ H _ I h) λ v s1 ⟨x,H1,I1,r1,q1⟩=>?_);obtain ⟨c,rfl,q1⟩:=q1;cases r1;refine uK ?_;cases c with
 | true=>exact hb pins s1 σ H1 Q I1 q1
 | false=>exact ⟨.bl false,H1,I1,rfl,q1⟩
theorem Nl (ha:PE X a ta):PE X (.UnaryOp .Not a pos) (Nm ta):=by
 intro pins s σ H Q I h;refine UnaryOp_ (thn (ha pins s σ H _ I h) λ v s1 ⟨x,H1,I1,r1,q1⟩=>?_);obtain ⟨c,rfl,q1⟩:=q1;cases r1;exact not_of (uK ⟨.bl (!c),H1,I1,rfl,q1⟩)
def tIf (t:TT) (ta tb:TE):TE:=λ σ H Q=>t σ H λ c H1=>if c=true then ta σ H1 Q else tb σ H1 Q
theorem Nk {c:Expr} (hc:PT X c tA) (ha:PE X a ta) (hb:PE X b tb):PE X (.IfExp c a b pos) (tIf tA ta tb):=by
 intro pins s σ H Q I h;refine wpAny_IfExp (thn (hc pins s σ H _ I h) λ d s1 ⟨H1,I1,q1⟩=>?_);cases d with
 | true=>exact ha pins s1 σ H1 Q I1 q1
 | false=>exact hb pins s1 σ H1 Q I1 q1
end
def SqL (K:Frag) (H:Hp) (a:Addr) (xs:List V):Prop :=
 Rd H a (.lst xs) \/
  ∃ (o:Obj) (its:Array Value) (n:Nat),K.lookup a=some o/\o.cls=.type "list" /\ o.dict=none/\o.data=.seq its n/\its.size<=sizeLine/\Vals xs its.toList
def SqT (K:Frag) (H:Hp) (a:Addr) (xs:List V):Prop :=
 Rd H a (.tup xs) \/
  ∃ (o:Obj) (its:Array Value) (n:Nat),K.lookup a=some o/\o.cls=.type "tuple" /\ o.data=.seq its n/\its.size<=sizeLine/\Vals xs its.toList
noncomputable def absV:Value->Option V
 | .none=>some .non
 | .bool b=>some (.bl b)
 | .int i _=>some (.int i)
 | .str x _=>some (.str x)
 | .bytes b _=>some (.byt b)
 | .float b _=>some (.flt b)
 | .ref a=>some (.ref a)
 | .type n=>some (.ty n)
 | _=>none
theorem RelV.abs {x:V} {u:Value} (r:RelV x u):absV u=some x:=by
 cases x with
 | non=>cases r; rfl
 | bl _=>cases r; rfl
 | int _=>obtain ⟨t,rfl⟩:=r; rfl
 | str _=>obtain ⟨t,rfl⟩:=r; rfl
 | byt _=>obtain ⟨t,rfl⟩:=r; rfl
 | flt _=>obtain ⟨t,rfl⟩:=r; rfl
 | ref _=>cases r; rfl
 | ty _=>cases r; rfl
theorem RelV.inj {x y:V} {u:Value} (r:RelV x u) (q:RelV y u):x=y:=zT (r.abs.symm.trans q.abs)
theorem Vals.inj:∀ {xs ys:List V} {us:LW},Vals xs us->Vals ys us->xs=ys
 | _,_,_,.nil,.nil=>rfl
 | _,_,_,.cons r t,.cons r' t'=>by rw [r.inj r',Vals.inj t t']
section
variable {X:Cx} {pins:PN} {σ:St} {H:Hp} {s:Shared} {a:Addr} {xs ys:List V}
theorem SqL.of {K:Frag} (h:H a=some (.lst xs)):SqL K H a xs:=.inl (.inl h)
theorem SqT.of {K:Frag} (h:H a=some (.tup xs)):SqT K H a xs:=.inl (.inl h)
theorem Inv.list (I:Inv X pins σ H s) (h:SqL X.K H a xs):∃ its:LW,Vals xs its/\PlainL s.heap a its.toArray/\xs.length<=sizeLine:=by
 rcases h with h | ⟨o,its,n,hk,hc,hd,hs,hz,r⟩
 ·obtain ⟨z,its,n,r,e⟩:=h.ok I.hok;exact ⟨its,r,⟨_,n,e,rfl,rfl,rfl⟩,z⟩
 ·refine ⟨its.toList,r,⟨o,n,I.kIn a o hk,hc,hd,by simpa using hs⟩,?_⟩;have e:=r.length;simp only [Array.length_toList] at e;omega
theorem Inv.tuple (I:Inv X pins σ H s) (h:SqT X.K H a xs):∃ its:LW,Vals xs its/\IsTup s.heap a its.toArray/\xs.length<=sizeLine:=by
 rcases h with h | ⟨o,its,n,hk,hc,hs,hz,r⟩
 ·obtain ⟨z,its,r,p⟩:=h.ok I.hok;exact ⟨its,r,p,z⟩
 ·refine ⟨its.toList,r,⟨o,I.kIn a o hk,hc,n,by simpa using hs⟩,?_⟩;have e:=r.length;simp only [Array.length_toList] at e;omega
theorem Inv.list_inj (I:Inv X pins σ H s) (h:SqL X.K H a xs) (h':SqL X.K H a ys):xs=ys:=by
 obtain ⟨its,r,⟨o,n,e,_,_,d⟩,_⟩:=I.list h;obtain ⟨its',r',⟨o',n',e',_,_,d'⟩,_⟩:=I.list h';rw [e] at e'; cases e';rw [d] at d';injection d' with d1 _;have:its=its':=by simpa using xZ Array.toList d1
 subst this;exact r.inj r'
theorem Inv.tuple_inj (I:Inv X pins σ H s) (h:SqT X.K H a xs) (h':SqT X.K H a ys):xs=ys:=by
 obtain ⟨its,r,⟨o,e,_,n,d⟩,_⟩:=I.tuple h;obtain ⟨its',r',⟨o',e',_,n',d'⟩,_⟩:=I.tuple h';rw [e] at e'; cases e';rw [d] at d';injection d' with d1 _;have:its=its':=by simpa using xZ Array.toList d1
 subst this;exact r.inj r'
end
noncomputable abbrev Cx.wish (X:Cx) (E:VP):Cx:={ X with xe:=E }
noncomputable abbrev Cx.nox (X:Cx):Cx:=X.wish λ _ _=>False
theorem Cx.Ok.wish {X:Cx} (ok:X.Ok) (E:VP):(X.wish E).Ok :=
 ⟨ok.mod,ok.kind,ok.glob,ok.blt,ok.above,ok.inj,ok.has,ok.cab,ok.hd,ok.frames,ok.stk,ok.exf,ok.bs,ok.bsz,ok.noex,ok.exfs,ok.funs,ok.frf⟩
theorem Cx.Ok.unwish {X:Cx} {E:VP} (ok:(X.wish E).Ok):X.Ok :=
 ⟨ok.mod,ok.kind,ok.glob,ok.blt,ok.above,ok.inj,ok.has,ok.cab,ok.hd,ok.frames,ok.stk,ok.exf,ok.bs,ok.bsz,ok.noex,ok.exfs,ok.funs,ok.frf⟩
section
variable {X:Cx} {pins:PN} {σ:St} {H:Hp} {s:Shared} {E:VP}
theorem Inv.wish (I:Inv X pins σ H s) (E:VP):Inv (X.wish E) pins σ H s:=⟨I.ok.wish E,I.os,I.bare,I.base,I.loc,I.cell,I.free,I.freeC,I.pin,I.hok,I.len⟩
theorem Inv.unwish (I:Inv (X.wish E) pins σ H s):Inv X pins σ H s:=⟨I.ok.unwish,I.os,I.bare,I.base,I.loc,I.cell,I.free,I.freeC,I.pin,I.hok,I.len⟩
theorem SP.unwish {D:Ends} {f:Flow} {s':Shared} (h:SP (X.wish E) pins D f s'):SP X pins D f s':=by
 cases f with
 | next=>obtain ⟨σ',H',I,q⟩:=h; exact ⟨σ',H',I.unwish,q⟩
 | brk=>obtain ⟨σ',H',I,q⟩:=h; exact ⟨σ',H',I.unwish,q⟩
 | cont=>obtain ⟨σ',H',I,q⟩:=h; exact ⟨σ',H',I.unwish,q⟩
 | ret u=>obtain ⟨v,σ',H',I,r,q⟩:=h; exact ⟨v,σ',H',I.unwish,r,q⟩
theorem PSs.nox {st:List Stmt} {t:TS} (h:PSs X.nox st t):PSs X st t:=λ pins s σ H D I hw =>
 xG (h pins s σ H D (I.wish _) hw) (λ _ _ q=>q.unwish) λ _ _ z=>False.elim z
end
section
variable {X:Cx} {st:Stmt} {rest:List Stmt} {t u:TS} {e:Expr} {te:TE} {pos:Pos}
def Fp:TS:=λ D σ H=>D.nx σ H
def tSeq (t u:TS):TS:=λ D σ H=>t { D with nx:=u D } σ H
theorem mG:PSs X [] Fp:=λ _ _ σ H _ I h=>rC ⟨σ,H,I,h⟩
theorem oU (h1:PS X st t) (h2:PSs X rest u):PSs X (st :: rest) (tSeq t u):=by
 intro pins s σ H D I h;refine wpAny_execs_cons (thn (h1 pins s σ H { D with nx:=u D } I h) λ f s1 q=>?_);cases f with
 | next =>
  obtain ⟨σ',H',I',q⟩:=q;exact h2 pins s1 σ' H' D I' q
 | ret v=>exact q
 | brk=>exact q
 | cont=>exact q
theorem oX (h1:PS X st t):PSs X [st] t:=by
 intro pins s σ H D I h;refine wpAny_execs_cons (thn (h1 pins s σ H D I h) λ f s1 q=>?_);cases f with
 | next=>exact rC q
 | ret v=>exact q
 | brk=>exact q
 | cont=>exact q
theorem Inv.quiet {pins:PN} {σ:St} {H:Hp} {s:Shared} (I:Inv X pins σ H s):interactive X.env=false:=by simp [interactive,I.ok.kind]
def Nj (te:TE):TS:=λ D σ H=>te σ H λ _ H1=>D.nx σ H1
theorem iM (he:PE X e te) (hs:swapsWith e none pos.line X.env=pure false:=by rfl):PS X (.Expr e pos) (Nj te):=by
 intro pins s σ H D I h;exact wpAny_Expr_any (thn (he pins s σ H _ I h) λ v s1 ⟨x,H1,I1,r1,q1⟩=>⟨σ,H1,I1,q1⟩) I.quiet hs
def tRet (te:TE):TS:=λ D σ H=>te σ H D.rt
theorem nH (he:PE X e te):PS X (.Return (some e) pos) (tRet te):=by
 intro pins s σ H D I h;exact wpAny_Return_some (thn (he pins s σ H _ I h) λ v s1 ⟨x,H1,I1,r1,q1⟩=>⟨x,σ,H1,I1,r1,q1⟩)
def u_d:TS:=λ D _ H=>D.rt .non H
def tIfS (c:TT) (t u:TS):TS:=λ D σ H=>c σ H λ b H1=>if b=true then t D σ H1 else u D σ H1
theorem mH {c:Expr} {a b:List Stmt} {tc:TT} (hc:PT X c tc) (ha:PSs X a t) (hb:PSs X b u):PS X (.If c a b pos) (tIfS tc t u):=by
 intro pins s σ H D I h;refine wpAny_If (thn (hc pins s σ H _ I h) λ d s1 ⟨H1,I1,q1⟩=>?_);cases d with
 | true=>exact ha pins s1 σ H1 D I1 q1
 | false=>exact hb pins s1 σ H1 D I1 q1
def Ni:TS:=λ _ _ _=>False
theorem cT:PS X st Ni:=λ _ _ _ _ _ _ h=>h.elim
end
abbrev TG:=V->St->Hp->(St->Hp->Prop)->Prop
abbrev TGs:=List V->St->Hp->(St->Hp->Prop)->Prop
def PG (X:Cx) (target:Expr) (t:TG):Prop :=
 ∀ (pins:PN) (s:Shared) (σ:St) (H:Hp) (v:V) (u:Value) (Q:St->Hp->Prop),Inv X pins σ H s->RelV v u->t v σ H Q ->
  wpAny (model X.prog X.w) X.A (assign target X.env u) (λ _ s'=>∃ σ' H',Inv X pins σ' H' s'/\Q σ' H') X.xe s
def PGs (X:Cx) (ts:List Expr) (t:TGs):Prop :=
 ∀ (pins:PN) (s:Shared) (σ:St) (H:Hp) (vs:List V) (us:LW) (Q:St->Hp->Prop),Inv X pins σ H s->Vals vs us->t vs σ H Q ->
  wpAny (model X.prog X.w) X.A (assignInOrder ((assignEach ts X.env).map (·.2)) us) (λ _ s'=>∃ σ' H',Inv X pins σ' H' s'/\Q σ' H') X.xe s
abbrev TSet:=V->V->V->Hp->(Hp->Prop)->Prop
def PSet (X:Cx) (t:TSet):Prop :=
 ∀ (pins:PN) (s:Shared) (σ:St) (H:Hp) (o i v:V) (ov iv u:Value) (Q:Hp->Prop),Inv X pins σ H s->RelV o ov->RelV i iv->RelV v u->t o i v H Q ->
  wpAny (model X.prog X.w) X.A (setItem ov iv u) (λ _ s'=>∃ H',Inv X pins σ H' s'/\Q H') X.xe s
abbrev TIp:=V->V->Hp->VK->Prop
def PIp (X:Cx) (op:Operator) (t:TIp):Prop :=
 ∀ (pins:PN) (s:Shared) (σ:St) (H:Hp) (x y:V) (v u:Value) (Q:VK),Inv X pins σ H s->RelV x v->RelV y u->t x y H Q ->
  wpAny (model X.prog X.w) X.A (inplaceOp op v u) (EP X pins σ Q) X.xe s
section
variable {X:Cx} {pos:Pos}
def oW (i:Nat):TG:=λ v σ H Q=>Q (σ.set i (some v)) H
theorem mD {i:Nat} {x:Str} (hN:X.N.Nodup) (hi:X.N[i]?=some x) (hx:Loc X.env.scope x) (hf:X.fn x=true\/X.env.scope.names.lookup x=some .local:=by first | exact .inl rfl | exact .inr rfl | assumption):PG X (.Name x pos) (oW i):=by
 intro pins s σ H v u Q I r h;exact wpAny_assign_Name (eN I hN hi hx r (λ s' I'=>⟨_,H,I',h⟩) hf)
def gNil:TGs:=λ vs σ H Q=>vs=[]/\Q σ H
def mL (t:TG) (u:TGs):TGs:=λ vs σ H Q=>∃ v r,vs=v :: r/\t v σ H λ σ' H'=>u r σ' H' Q
theorem kE:PGs X [] gNil:=by
 intro pins s σ H vs us Q I r h;obtain ⟨e,h⟩:=h;subst e;cases r;exact assignInOrder_nil ⟨σ,H,I,h⟩
theorem mI {e:Expr} {es:List Expr} {t:TG} {u:TGs} (h1:PG X e t) (h2:PGs X es u)
  (hs:(assignEach (e :: es) X.env).map (·.2)=assign e X.env :: (assignEach es X.env).map (·.2):=by rfl):PGs X (e :: es) (mL t u):=by
 intro pins s σ H vs us Q I r h;obtain ⟨v,vr,e1,h⟩:=h;subst e1;cases r with
 | cons r rr =>
  rw [hs];refine qD (thn (h1 pins s σ H _ _ _ I r h) λ _ s1 ⟨σ1,H1,I1,q1⟩=>?_);exact h2 pins s1 σ1 H1 _ _ Q I1 rr q1
def gTup (K:Frag) (n:Nat) (t:TGs):TG:=λ v σ H Q=>∃ a xs,v=.ref a/\SqT K H a xs/\xs.length=n/\t xs σ H Q
theorem kF {es:List Expr} {k:Nat} {t:TGs} {n:Nat} (hc:X.calm=true) (h:PGs X es t)
  (hn:(assignEach es X.env).length=n:=by rfl) (hst:(assignEach es X.env).findIdx? (·.1)=none:=by rfl):PG X (.Tuple es k pos) (gTup X.K n t):=by
 intro pins s σ H v u Q I r hw;obtain ⟨a,xs,e1,hq,hl,hw⟩:=hw;subst e1;cases r;obtain ⟨its,rv,ht,hz⟩:=I.tuple hq;refine assign_Tuple_tuple (I.ok.hd hc) ht (by simp [hn,← hl,rv.length]) hst λ h' hx=>?_;have I1:Inv X pins σ H { s with heap:=h' }:=I.kept (t':=s.toks) λ b o e=>hx b o (yA (zP e)) e;exact h pins _ σ H xs _ Q I1 (by simpa using rv) hw
def gSub (to ti:TE) (t:TSet):TG:=λ v σ H Q=>to σ H λ o H1=>ti σ H1 λ i H2=>t o i v H2 λ H3=>Q σ H3
theorem cU {o i:Expr} {to ti:TE} {t:TSet} (ho:PE X o to) (hi:PE X i ti) (hs:PSet X t)
  (ha:∀ v,assign (.Subscript o i pos) X.env v=(do
   let ov ← holding [v] (eval o X.env)
   let iv ← holding [v,ov] (eval i X.env)
   standAt pos
   holding [v,ov,iv] (setItem ov iv v)
   release [v,ov,iv] []):=by intro _; rfl):PG X (.Subscript o i pos) (gSub to ti t):=by
 intro pins s σ H v u Q I r h;rw [ha];refine zA (xT (thn (ho pins s σ H _ I h) λ ov s1 ⟨x,H1,I1,r1,q1⟩=>?_));refine zA (xT (thn (hi pins s1 σ H1 _ I1 q1) λ iv s2 ⟨y,H2,I2,r2,q2⟩=>?_));refine zA (uU (zA (xT (thn (hs pins s2 σ H2 x y v ov iv u _ I2 r1 r2 r q2) λ _ s3 ⟨H3,I3,q3⟩=>?_))));exact wpAny_release ⟨σ,H3,I3,q3⟩
def tAsg (te:TE) (g:TG):TS:=λ D σ H=>te σ H λ x H1=>g x σ H1 D.nx
theorem iN {tg e:Expr} {te:TE} {g:TG} (he:PE X e te) (hg:PG X tg g) (hs:swapsWithSole [tg] e pos.line X.env=pure false:=by rfl) (hw:swappedStores [tg] e X.env=pure none:=by rfl)
  (h1:(assignEach [tg] X.env).map (·.2)=[assign tg X.env]:=by rfl):PS X (.Assign [tg] e pos) (tAsg te g):=by
 intro pins s σ H D I h;refine wpAny_Assign_stores (thn (he pins s σ H _ I h) λ v s1 ⟨x,H1,I1,r1,q1⟩=>?_) hs hw;rw [h1];exact thn (hg pins s1 σ H1 x v _ I1 r1 q1) λ _ s2 q=>q
theorem nJ {i:Nat} {x:Str} {e:Expr} {te:TE} {pos':Pos} (hN:X.N.Nodup) (hi:X.N[i]?=some x) (hx:Loc X.env.scope x) (he:PE X e te) (hs:swapsWith e (some (.Name x pos')) pos.line X.env=pure false:=by rfl) (hf:X.fn x=true\/X.env.scope.names.lookup x=some .local:=by first | exact .inl rfl | exact .inr rfl | assumption) :
  PS X (.Assign [.Name x pos'] e pos) (tAsg te (oW i)):=by
 intro pins s σ H D I h;refine wpAny_Assign_Name (thn (he pins s σ H _ I h) λ v s1 ⟨y,H1,I1,r1,q1⟩=>?_) hs;exact eN I1 hN hi hx r1 (λ s2 I2=>⟨_,H1,I2,q1⟩) hf
def tPar (i j:Nat) (ta:TA):TS:=λ D σ H=>ta σ H λ vs H1=>∃ v w,vs=[v,w]/\D.nx ((σ.set i (some v)).set j (some w)) H1
theorem Nh {i j:Nat} {x y:Str} {a b:Expr} {ta:TA} {px py pt:Pos} {kt k2 pt2} (hc:X.calm=true) (hN:X.N.Nodup) (hi:X.N[i]?=some x) (hj:X.N[j]?=some y) (hij:i≠j)
  (hx:X.env.scope.names.lookup x=some .local) (hy:X.env.scope.names.lookup y=some .local) (ha:PA X [a,b] ta)
  (hw:swappedStores [.Tuple [.Name x px,.Name y py] kt pt] (.Tuple [a,b] k2 pt2) X.env=pure (some [x,y]))
  (hs:swapsWithSole [.Tuple [.Name x px,.Name y py] kt pt] (.Tuple [a,b] k2 pt2) pos.line X.env=pure false:=by rfl) :
  PS X (.Assign [.Tuple [.Name x px,.Name y py] kt pt] (.Tuple [a,b] k2 pt2) pos) (tPar i j ta):=by
 intro pins s σ H D I h;rw [exec_Assign_arm];refine zA (uU ?_);rw [hs];refine zA (zC ?_);rw [if_neg ∅];refine zA (Tuple_ (thn (ha _ pins s σ H _ I h) λ us s1 ⟨vs,H1,I1,r1,q1⟩=>?_));obtain ⟨v,w,e1,q1⟩:=q1;subst e1;obtain ⟨u1,u2,rfl,rv,rw'⟩:∃ u1 u2,us=[u1,u2]/\RelV v u1/\RelV w u2:=by
  cases r1 with
  | cons p q =>
   cases q with
   | cons p' q' =>
    cases q';exact ⟨_,_,rfl,p,p'⟩
 refine xJ ?_ (by show 2<=sizeLine; decide);have I2:Inv X pins σ H1 { s1 with heap:=s1.heap.push { cls:=.type "tuple",data:=.seq [u1,u2].toArray } }:=I1.kept (t':=s1.toks) λ b o e=>zD _ e;rw [hw];refine zA (zC ?_);show wpAny (model X.prog X.w) X.A (do rule "assign.swapped-stores"; let items ← unpackItems (.ref s1.heap.objs.size) 2 none; assignInOrder [λ v=>bindName X.env y v,λ v=>bindName X.env x v] items.reverse; pure Flow.next) _ _ _;refine zA (wM (zA (unpackItems_tuple (items:=#[u1,u2]) (I.ok.hd hc) (IsTup.new s1.heap _) λ h' hx'=>?_)));have I3:=I2.kept (h':=h') (t':=s1.toks) λ b o e=>hx' b o (yA (zP e)) e;show wpAny _ _ (assignInOrder [λ v=>bindName X.env y v,λ v=>bindName X.env x v] [u2,u1] >>= λ _=>pure Flow.next) _ _ _;refine zA (qD (wpAny_bindName (eN I3 hN hj (.inl hy) rw' (λ s2 I4=>?_) (.inr hy))));refine qD (wpAny_bindName (eN I4 hN hi (.inl hx) rv (λ s3 I5=>assignInOrder_nil (zC ?_)) (.inr hx)));rw [List.set_comm _ _ (Ne.symm hij)] at I5;exact ⟨_,H1,I5,q1⟩
def tAug (i:Nat) (te:TE) (ti:TIp):TS:=λ D σ H=>∃ x,σ[i]?=some (some x)/\te σ H λ y H1=>ti x y H1 λ z H2=>D.nx (σ.set i (some z)) H2
theorem Fo {i:Nat} {x:Str} {e:Expr} {te:TE} {op:Operator} {ti:TIp} {pos':Pos} (hN:X.N.Nodup) (hi:X.N[i]?=some x) (hx:Loc X.env.scope x) (he:PE X e te) (ho:PIp X op ti) (hf:X.fn x=true\/X.env.scope.names.lookup x=some .local:=by first | exact .inl rfl | exact .inr rfl | assumption) :
  PS X (.AugAssign (.Name x pos') op e pos) (tAug i te ti):=by
 intro pins s σ H D I h;obtain ⟨v,e1,h⟩:=h;obtain ⟨m,hn,hl⟩:=I.loc;have vis:Vis X.env.scope x:=by rcases hx with k | k; exact .inl k; exact .inr (.inl k)
 obtain ⟨u,r,l⟩:=hl i x v hi e1 vis;refine wpAny_AugAssign_Name ?_;have go:wpAny (model X.prog X.w) X.A (eval e X.env) (λ w s₂=>wpAny (model X.prog X.w) X.A (inplaceOp op u w) (λ r s₃=>wpAny (model X.prog X.w) X.A (storeName X.env x r) (λ _=>SP X pins D .next) X.xe s₃) X.xe s₂) X.xe s:=by
  refine thn (he pins s σ H _ I h) λ w s1 ⟨y,H1,I1,r1,q1⟩=>?_;refine thn (ho pins s1 σ H1 v y u w _ I1 r r1 q1) λ z s2 ⟨zv,H2,I2,r2,q2⟩=>?_;exact eN I2 hN hi hx r2 (λ s3 I3=>⟨_,H2,I3,q2⟩) hf
 rcases l with ⟨hk,hm⟩ | ⟨hk,c,hc,hcell⟩
 ·exact wpAny_loadName_local I.ok.kind hk hn hm go
 ·rcases hk with hk | hk
  ·exact wpAny_loadName_cell I.ok.kind hk hc hcell go
  ·rcases hx with k | k
   ·have:X.env.scope.names.lookup x=some .free:=hk;rw [k] at this; cases this
   ·have:X.env.scope.names.lookup x=some .free:=hk;rw [k] at this; cases this
def ipI (f:Int->Int->Int):TIp:=λ x y H Q=>∃ i j,x=.int i/\y=.int j/\Q (.int (f i j)) H
theorem Fn:PIp X .Add (ipI λ i j=>i+j):=by
 intro pins s σ H x y v u Q I r1 r2 h;obtain ⟨i,j,e1,e2,q⟩:=h;subst e1; subst e2;obtain ⟨t,rfl⟩:=r1;obtain ⟨t',rfl⟩:=r2;exact iadd_int ⟨.int _,H,I.tok _,⟨_,rfl⟩,q⟩
def Fm (c:TT) (tb:TS):TS:=λ D σ H=>∃ W:Nat->St->Hp->Prop,(∃ m,W m σ H)/\∀ m σ H,W m σ H ->
 c σ H λ b H1=>if b=true then ∃ N:St->Hp->Prop,(∀ σ' H',N σ' H'->∃ m',m' < m/\W m' σ' H')/\tb { D with nx:=N,ct:=N,bk:=D.nx } σ H1 else D.nx σ H1
theorem Ae {c:Expr} {body:List Stmt} {tc:TT} {tb:TS} (hp:PassesOwn (model X.prog X.w) X.A X.env X.xe) (hc:PT X c tc) (hb:PSs X body tb):PS X (.While c body [] pos) (Fm tc tb):=by
 intro pins s σ H D I h;obtain ⟨W,⟨m0,w0⟩,turn⟩:=h;refine wpAny_While (codeAny_whileLoop (λ n s'=>∃ σ' H',Inv X pins σ' H' s'/\W n σ' H') ?_ m0 ⟨σ,H,I,w0⟩);rintro n s1 ⟨σ1,H1,I1,w1⟩;refine vS hp (thn (hc pins s1 σ1 H1 _ I1 (turn n σ1 H1 w1)) λ b s2 ⟨H2,I2,q2⟩=>?_);cases b with
 | true =>
  obtain ⟨N,hN,q2⟩:=q2;rw [if_pos rfl];refine vS hp (thn (hb pins s2 σ1 H2 _ I2 q2) λ f s3 q3=>?_);cases f with
  | next =>
   obtain ⟨σ3,H3,I3,n3⟩:=q3;obtain ⟨m',hm,w3⟩:=hN σ3 H3 n3;exact ⟨m',hm,σ3,H3,I3,w3⟩
  | cont =>
   obtain ⟨σ3,H3,I3,n3⟩:=q3;obtain ⟨m',hm,w3⟩:=hN σ3 H3 n3;exact ⟨m',hm,σ3,H3,I3,w3⟩
  | brk=>exact q3
  | ret v=>exact q3
 | false =>
  rw [if_neg yG];exact rC ⟨σ1,H2,I2,q2⟩
end
structure It where
 go:Nat->Hp->Prop
 yld:Nat->Hp->V->Hp->Prop
 stop:Nat->Hp->Prop
def FpOk (X:Cx) (pins:PN) (H:Hp) (b:Addr):Prop :=
 H b=none/\b≠X.env.locals/\b ∉ X.fs/\(b∈X.ex\/X.s₀.heap.objs.size<=b)/\(∀ x c,X.env.cells.lookup x=some c->c≠b)/\∀ p∈X.pn++pins,p.1≠b
theorem Inv.fpOk {X:Cx} {pins:PN} {σ:St} {H H':Hp} {s:Shared} {b:Addr} (I:Inv X pins σ H s) (hb:s.heap.objs.size<=b) (hn:H' b=none):FpOk X pins H' b:=by
 refine ⟨hn,sW (zI I.lt hb),I.nofs hb,.inr (yC I.sz hb),λ x c e z=>?_,λ p hp z=>?_⟩
 ·obtain ⟨v,q⟩:=I.cell x c e;exact absurd (zI q.lt (by rw [z]; exact hb)) (xC _)
 ·exact absurd (zI (zP (I.pin p hp).1) (by rw [z]; exact hb)) (xC _)
structure Turn (P:Program) (w:World) (K:Frag) (tg:Expr) (J:It) (fp:LA) (it:Addr) (tn:Nat->Heap->Prop):Prop where
 mem:it∈fp
 obj:∀ i h,tn i h->∀ b∈fp,∃ o,h.get? b=some o/\∀ v,o.data≠.cell v
 keep:∀ i h h',tn i h->(∀ b∈fp,∀ o,h.get? b=some o->h'.get? b=some o)->tn i h'
 item:∀ (X:Cx),X.prog=P->X.w=w->X.K=K->X.calm=true->∀ (i:Nat) (pins:PN) (s:Shared) (σ:St) (H:Hp) (E:VP),Inv X pins σ H s->(∀ b∈fp,FpOk X pins H b)->tn i s.heap->J.go i H ->
  wpAny (model P w) X.A (pyNext (.ref it)) (λ r s1=>∃ u,r=some u /\
   wpAny (model P w) X.A (letOwnedTupleGo tg (.ref it) u) (λ _ s2=>∃ x H',Inv X pins σ H' s2/\RelV x u/\J.yld i H x H'/\tn (i+1) s2.heap/\∀ b∈fp,H' b=none) E s1) E s
 done:∀ (X:Cx),X.prog=P->X.w=w->X.K=K->X.calm=true->∀ (i:Nat) (pins:PN) (s:Shared) (σ:St) (H:Hp) (E:VP),Inv X pins σ H s->(∀ b∈fp,FpOk X pins H b)->tn i s.heap->J.stop i H ->
  wpAny (model P w) X.A (pyNext (.ref it)) (λ r s1=>r=none/\Inv X pins σ H s1) E s
 self:∀ (A:Around) (i:Nat) (s:Shared) (Q:VP) (E:VP),tn i s.heap->Q (.ref it) s->wpAny (model P w) A (pyIter (.ref it)) Q E s
abbrev TI:=St->Hp->(It->Hp->Prop)->Prop
def PIE (X:Cx) (pins:PN) (σ:St) (tg:Expr) (R:It->Hp->Prop) (itv:Value) (s2:Shared):Prop :=
 ∃ (it:Addr) (fp:LA) (tn:Nat->Heap->Prop) (J:It) (H':Hp),itv=.ref it/\Inv X pins σ H' s2/\Turn X.prog X.w X.K tg J fp it tn/\tn 0 s2.heap/\(∀ b∈fp,FpOk X pins H' b)/\R J H'
def PI (X:Cx) (tg iter:Expr) (wi:TI):Prop :=
 ∀ (pins:PN) (s:Shared) (σ:St) (H:Hp) (R:It->Hp->Prop),Inv X pins σ H s->wi σ H R ->
  wpAny (model X.prog X.w) X.A (eval iter X.env) (λ v s1=>wpAny (model X.prog X.w) X.A (pyIter v) (PIE X pins σ tg R) X.xe s1) X.xe s
theorem Ad {M:Model} {A:Around} {E:VP} {s:Shared} {tg:Expr} {it:Addr} {u:Value} {o:Obj} {n:String} {vs:Array Value} {Q:Unit->Shared->Prop} (ho:s.heap.get? it=some o) (hc:o.cls=.type n) (hd:o.data=.fields vs)
    (hn:["enumerate","zip","dict_itemiterator","dict_reverseitemiterator","odict_iterator","itertools.zip_longest","itertools.pairwise"].contains n=false) (hQ:Q () s):wpAny M A (letOwnedTupleGo tg (.ref it) u) Q E s:=by
  unfold letOwnedTupleGo;cases tg <;> first
    | exact zC hQ
    | (cases u <;> first
        | exact zC hQ
        | (refine zA (wpAny_load ho ?_)
           rw [hc,hd];show wpAny M A (if (["enumerate","zip","dict_itemiterator","dict_reverseitemiterator","odict_iterator","itertools.zip_longest","itertools.pairwise"].contains n && vs[0]? == some (rawInt _))=true then _ else _) Q E s;rw [if_neg (by intro h; rw [hn,Bool.false_and] at h; cases h)];exact zC hQ))
noncomputable def Itl (K:Frag) (a:Addr):It :=
 ⟨λ i H=>∃ xs x,SqL K H a xs/\xs[i]?=some x,λ i H x H'=>H'=H/\∀ xs,SqL K H a xs->xs[i]?=some x,λ i H=>∃ xs,SqL K H a xs/\xs.length<=i⟩
noncomputable def Itt (K:Frag) (a:Addr):It :=
 ⟨λ i H=>∃ xs x,SqT K H a xs/\xs[i]?=some x,λ i H x H'=>H'=H/\∀ xs,SqT K H a xs->xs[i]?=some x,λ i H=>∃ xs,SqT K H a xs/\xs.length<=i⟩
noncomputable def Itr (lo:Int) (n:Nat):It:=⟨λ i _=>i < n,λ i H x H'=>H'=H/\x=.int (lo+i),λ i _=>n<=i⟩
theorem Ng {P:Program} {w:World} {K:Frag} {tg:Expr} (a it:Addr):Turn P w K tg (Itl K a) [it] it (λ i h=>h.IsListIter it a i) where
 mem:=by simp
 obj:=λ i h st b hb=>by
  have e:b=it:=by simpa using hb
  subst e;obtain ⟨o,e,c,d⟩:=st;exact ⟨o,e,λ v z=>by rw [d] at z; cases z⟩
 keep:=λ i h h' st k=>st.at λ o e=>k it (by simp) o e
 item:=by
  intro X hP hw hK hc i pins s σ H E I hf st hg;subst hP hw hK;obtain ⟨xs,x,hq,hx⟩:=hg;obtain ⟨its,rv,p,hz⟩:=I.list hq;obtain ⟨u,hu,ru⟩:=rv.get hx;obtain ⟨f0,f1,f2,f3,f4,f5⟩:=hf it (by simp);refine oK st p.isList (x:=u) (by simpa using hu) λ h' st' sb=>?_;have I1:Inv X pins σ H { s with heap:=h' }:=I.turned (t':=s.toks) (λ b o hb e=>(sb.2 b hb).trans e) f0 f1 f3 f4 f5;obtain ⟨o,e,c,d⟩:=id st';exact ⟨u,rfl,Ad (s:={ s with heap:=h' }) e c d ∅ ⟨x,H,I1,ru,⟨rfl,λ ys hy=>by rw [I.list_inj hy hq]; exact hx⟩,st',λ b hb=>(hf b hb).1⟩⟩
 done:=by
  intro X hP hw hK hc i pins s σ H E I hf st hg;subst hP hw hK;obtain ⟨xs,hq,hx⟩:=hg;obtain ⟨its,rv,p,hz⟩:=I.list hq;obtain ⟨f0,f1,f2,f3,f4,f5⟩:=hf it (by simp);have hl:=rv.length;exact wpAny_pyNext_list_end (I.ok.hd hc) st p.isList (by simp; omega) λ h' eb=>⟨rfl,I.turned (t':=s.toks) (λ b o hb e=>eb b o hb e) f0 f1 f3 f4 f5⟩
 self:=λ _ _ _ _ _ st h=>wpAny_pyIter_listiter st h
theorem Nf {P:Program} {w:World} {K:Frag} {tg:Expr} (a it:Addr):Turn P w K tg (Itt K a) [it] it (λ i h=>h.IsTupleIter it a i) where
 mem:=by simp
 obj:=λ i h st b hb=>by
  have e:b=it:=by simpa using hb
  subst e;obtain ⟨o,e,c,d⟩:=st;exact ⟨o,e,λ v z=>by rw [d] at z; cases z⟩
 keep:=λ i h h' st k=>st.at λ o e=>k it (by simp) o e
 item:=by
  intro X hP hw hK hc i pins s σ H E I hf st hg;subst hP hw hK;obtain ⟨xs,x,hq,hx⟩:=hg;obtain ⟨its,rv,p,hz⟩:=I.tuple hq;obtain ⟨u,hu,ru⟩:=rv.get hx;obtain ⟨f0,f1,f2,f3,f4,f5⟩:=hf it (by simp);refine wpAny_pyNext_tuple_item st (show s.heap.IsTuple a its.toArray from p) (x:=u) (by simpa using hu) λ h' st' sb=>?_;have I1:Inv X pins σ H { s with heap:=h' }:=I.turned (t':=s.toks) (λ b o hb e=>(sb.2 b hb).trans e) f0 f1 f3 f4 f5;obtain ⟨o,e,c,d⟩:=id st';exact ⟨u,rfl,Ad (s:={ s with heap:=h' }) e c d ∅ ⟨x,H,I1,ru,⟨rfl,λ ys hy=>by rw [I.tuple_inj hy hq]; exact hx⟩,st',λ b hb=>(hf b hb).1⟩⟩
 done:=by
  intro X hP hw hK hc i pins s σ H E I hf st hg;subst hP hw hK;obtain ⟨xs,hq,hx⟩:=hg;obtain ⟨its,rv,p,hz⟩:=I.tuple hq;obtain ⟨f0,f1,f2,f3,f4,f5⟩:=hf it (by simp);have hl:=rv.length;exact wpAny_pyNext_tuple_end (I.ok.hd hc) st (show s.heap.IsTuple a its.toArray from p) (by simp; omega) λ h' eb=>⟨rfl,I.turned (t':=s.toks) (λ b o hb e=>eb b o hb e) f0 f1 f3 f4 f5⟩
 self:=λ _ _ _ _ _ st h=>wpAny_pyIter_tupleiter st h
theorem Nd {P:Program} {w:World} {K:Frag} {tg:Expr} (it:Addr) (lo:Int) (n:Nat):Turn P w K tg (Itr lo n) [it] it (λ i h=>IsRangeIter h it (lo+(i:Nat)*1) ((n:Int) - (i:Nat)) 1) where
 mem:=by simp
 obj:=λ i h st b hb=>by
  have e:b=it:=by simpa using hb
  subst e;exact ⟨_,st,λ v z=>by
   have z':Data.fields _=Data.cell v:=z;cases z'⟩
 keep:=λ i h h' st k=>k it (by simp) _ st
 item:=by
  intro X hP hw hK hc i pins s σ H E I hf st hg;subst hP hw hK;obtain ⟨f0,f1,f2,f3,f4,f5⟩:=hf it (by simp);have W:=Walks.range (prog:=X.prog) (w:=X.w) (I.ok.hd hc) it lo 1 n;refine W.item i s _ _ hg st λ v h' tk hv st' kk=>?_;obtain ⟨t,rfl⟩:=hv;have I1:Inv X pins σ H { s with heap:=h',toks:=tk }:=I.turned (λ b o hb e=>kk b o (by simpa using hb) e) f0 f1 f3 f4 f5;refine ⟨_,rfl,Ad (s:={ s with heap:=h',toks:=tk }) (n := "range_iterator") st' rfl rfl ∅ ⟨.int (lo+i),H,I1,⟨t,?_⟩,⟨rfl,rfl⟩,st',λ b hb=>(hf b hb).1⟩⟩;rw [tZ]
 done:=by
  intro X hP hw hK hc i pins s σ H E I hf st hg;subst hP hw hK;obtain ⟨f0,f1,f2,f3,f4,f5⟩:=hf it (by simp);exact wpAny_pyNext_range_end (I.ok.hd hc) st (by have:n<=i:=hg; omega) λ h' eb=>⟨rfl,I.turned (t':=s.toks) (λ b o hb e=>eb b o hb e) f0 f1 f3 f4 f5⟩
 self:=λ _ _ _ _ _ st h=>wpAny_pyIter_rangeiter st h
section
variable {X:Cx} {tg:Expr}
theorem Fl {pins:PN} {σ:St} {H:Hp} {s:Shared} {R:It->Hp->Prop} {E:VP} {lo hi:Int} {t u v:Tok} {tk:Nat} (I:Inv X pins σ H s) (h1:-(2 ^ 62)<=lo) (h2:lo < 2 ^ 62) (h3:-(2 ^ 62)<=hi) (h4:hi < 2 ^ 62)
  (q:R (Itr lo (hi - lo).toNat) H):wpAny (model X.prog X.w) X.A (pyIter (.ref s.heap.objs.size)) (PIE X pins σ tg R) E { s with heap:=s.heap.push { cls:=.type "range",data:=.fields #[.int lo t,.int hi u,.int 1 v] },toks:=tk }:=by
 refine wpAny_pyIter_range (IsRange.new ..) (small_one h1 h2 h3 h4) ?_;have I1:Inv X pins σ H { s with heap:=s.heap.push { cls:=.type "range",data:=.fields #[.int lo t,.int hi u,.int 1 v] },toks:=tk }:=I.kept λ b o e=>zD _ e;refine ⟨(s.heap.push { cls:=.type "range",data:=.fields #[.int lo t,.int hi u,.int 1 v] }).objs.size,[(s.heap.push { cls:=.type "range",data:=.fields #[.int lo t,.int hi u,.int 1 v] }).objs.size],_,_,H,rfl,
  I1.kept (t':=tk) λ b o e=>zD _ e,Nd _ lo (hi - lo).toNat,?_,λ b hb=>?_,q⟩
 ·have e1:lo+((0:Nat):Int)*1=lo:=by simp
  have e2:(((hi - lo).toNat:Nat):Int) - ((0:Nat):Int)=Builtin.Range.rangeSize lo hi 1:=by rw [rangeSize_one]; split <;> omega
  show IsRangeIter _ _ (lo+((0:Nat):Int)*1) ((((hi - lo).toNat:Nat):Int) - ((0:Nat):Int)) 1;rw [e1,e2];exact zU _ rfl
 ·have e:b=(s.heap.push { cls:=.type "range",data:=.fields #[.int lo t,.int hi u,.int 1 v] }).objs.size:=by simpa using hb
  subst e;exact I1.fpOk (zF _) (I1.hok.fresh (zF _))
def mU (ta:TA):TI:=λ σ H R=>ta σ H λ vs H1=>∃ j:Int,vs=[.int j]/\-(2 ^ 62)<=j/\j < 2 ^ 62/\R (Itr 0 j.toNat) H1
def Fk (ta:TA):TI:=λ σ H R=>ta σ H λ vs H1=>∃ i j:Int,vs=[.int i,.int j]/\(-(2 ^ 62)<=i/\i < 2 ^ 62/\-(2 ^ 62)<=j/\j < 2 ^ 62)/\R (Itr i (j - i).toNat) H1
theorem lM {a:Expr} {ta:TA} {p pos:Pos} (hg:Gl X "range") (hm:X.mg "range" = none) (ha:PA X [a] ta) (hs:starEach [a] X.env=[(false,eval a X.env)]:=by rfl):PI X tg (.Call (.Name "range" p) [a] [] pos) (mU ta):=by
 intro pins s σ H R I h;refine Call_ (gM I hg hm boot_range (wQ (thn (ha pos pins s σ H _ I h) λ us s1 ⟨vs,H1,I1,r1,q1⟩=>?_) hs rfl));obtain ⟨j,e,q1,q2,q⟩:=q1;subst e;cases r1 with
 | cons r rr =>
  cases rr;obtain ⟨t,rfl⟩:=r;exact call_range_1 (Fl I1 ⋯ ⋯ q1 q2 (by simpa using q))
theorem Nc {a b:Expr} {ta:TA} {p pos:Pos} (hg:Gl X "range") (hm:X.mg "range" = none) (ha:PA X [a,b] ta) (hs:starEach [a,b] X.env=[(false,eval a X.env),(false,eval b X.env)]:=by rfl) (hs2:starEach [b] X.env=[(false,eval b X.env)]:=by rfl) :
  PI X tg (.Call (.Name "range" p) [a,b] [] pos) (Fk ta):=by
 intro pins s σ H R I h;refine Call_ (gM I hg hm boot_range (wQ (thn (ha pos pins s σ H _ I h) λ us s1 ⟨vs,H1,I1,r1,q1⟩=>?_) (by rw [hs,hs2]) (by rw [hs2]; rfl)));obtain ⟨i,j,e,⟨q1,q2,q3,q4⟩,q⟩:=q1;subst e;cases r1 with
 | cons r rr =>
  cases rr with
  | cons r' rr =>
   cases rr;obtain ⟨t,rfl⟩:=r;obtain ⟨t',rfl⟩:=r';exact call_range_2 (Fl I1 q1 q2 q3 q4 q)
def tFor (wi:TI) (g:TG) (tb:TS):TS:=λ D σ H=>wi σ H λ J H1=>∃ W:Nat->Nat->St->Hp->Prop,(∃ m,W 0 m σ H1)/\∀ i m σ H,W i m σ H ->
 (J.stop i H/\D.nx σ H)\/(J.go i H/\∃ N:St->Hp->Prop,(∀ σ' H',N σ' H'->∃ m',m' < m/\W (i+1) m' σ' H')/\∀ x H',J.yld i H x H'->g x σ H' λ σ2 H2=>tb { D with nx:=N,ct:=N,bk:=D.nx } σ2 H2)
noncomputable def eO (fp:LA) (h:Heap):PN:=fp.filterMap λ b=>(h.get? b).map λ o=>(b,o)
theorem cV {fp:LA} {h:Heap} {b:Addr} {o:Obj} (hb:b∈fp) (e:h.get? b=some o):(b,o)∈eO fp h:=qE.mpr ⟨b,hb,by rw [e]; rfl⟩
theorem Nb {fp:LA} {h:Heap} {p:Addr × Obj} (hp:p∈eO fp h):p.1∈fp/\h.get? p.1=some p.2:=by
 obtain ⟨b,hb,e⟩:=qE.mp hp;cases q:h.get? b with
 | none=>rw [q] at e; cases e
 | some o =>
  rw [q] at e;have e':(b,o)=p:=zT e;subst e';exact ⟨hb,q⟩
theorem Inv.pinned {pins:PN} {σ:St} {H:Hp} {s:Shared} {fp:LA} (I:Inv X pins σ H s) (hf:∀ b∈fp,FpOk X pins H b) (ho:∀ b∈fp,∃ o,s.heap.get? b=some o/\∀ v,o.data≠.cell v):Inv X (pins++eO fp s.heap) σ H s :=
 I.pins_of λ p hp=>(xB.mp hp).elim (λ z=>I.pin p (yM _ z)) λ z=>by
  obtain ⟨hb,e⟩:=Nb z;obtain ⟨f0,f1,f2,_⟩:=hf p.1 hb;obtain ⟨o,e',d⟩:=ho p.1 hb;rw [e] at e'; cases e';exact ⟨e,f0,f1,f2,d⟩
theorem Inv.unpinned {pins pl:PN} {σ:St} {H:Hp} {s:Shared} (I:Inv X (pins++pl) σ H s):Inv X pins σ H s:=I.pins_of λ p hp=>I.pin p (yM _ (vC _ hp))
theorem kG {iter:Expr} {body:List Stmt} {wi:TI} {g:TG} {tb:TS} {pos:Pos} (hp:PassesOwn (model X.prog X.w) X.A X.env X.xe) (hc:X.calm=true) (hi:PI X tg iter wi) (hg:PG X tg g) (hb:PSs X body tb)
  (hs:∀ x,foldedSetIterable iter X.env x=pure x:=by intro _; rfl):PS X (.For tg iter body [] pos) (tFor wi g tb):=by
 intro pins s σ H D I h;refine wpAny_For (thn (hi pins s σ H _ I h) λ v s1 h1=>thn h1 λ itv s2 h2=>?_) hs;obtain ⟨it,fp,tn,J,H2,e,I2,T,st2,f2,W,⟨m0,w0⟩,turn⟩:=h2;subst e
 -- what stays true of the iterator's objects through the loop
 have stat:∀ {H':Hp},(∀ b∈fp,H' b=none)->∀ b∈fp,FpOk X pins H' b:=λ hn b hb=>⟨hn b hb,(f2 b hb).2⟩;refine codeAny_forLoop_any (λ n s'=>∃ i σ' H',Inv X pins σ' H' s'/\tn i s'.heap/\(∀ b∈fp,H' b=none)/\W i n σ' H') ?_ m0 ⟨0,σ,H2,I2,st2,λ b hb=>(f2 b hb).1,w0⟩;rintro n s3 ⟨i,σ3,H3,I3,st3,fr3,w3⟩;rcases turn i n σ3 H3 w3 with ⟨stop,qn⟩ | ⟨go,N,hN,step⟩
 ·refine vS hp (thn (T.done X rfl rfl rfl hc i pins s3 σ3 H3 X.xe I3 (stat fr3) st3 stop) λ r s4 ⟨hr,I4⟩=>?_);subst hr;exact rC ⟨σ3,H3,I4,qn⟩
 ·refine vS hp (thn (T.item X rfl rfl rfl hc i pins s3 σ3 H3 X.xe I3 (stat fr3) st3 go) λ r s4 ⟨u,hr,h4⟩=>?_);subst hr;refine vS hp (thn h4 λ _ s5 ⟨x,H5,I5,r5,y5,st5,fr5⟩=>?_);have I5':=I5.pinned (stat fr5) (T.obj _ _ st5);refine vS hp (thn (hg _ s5 σ3 H5 x u _ I5' r5 (step x H5 y5)) λ _ s6 ⟨σ6,H6,I6,q6⟩=>?_);refine vS hp (thn (hb _ s6 σ6 H6 _ I6 q6) λ f s7 q7=>?_);have again:∀ {σ7:St} {H7:Hp},Inv X (pins++eO fp s5.heap) σ7 H7 s7->N σ7 H7->∃ m,m < n/\∃ i σ' H',Inv X pins σ' H' s7/\tn i s7.heap/\(∀ b∈fp,H' b=none)/\W i m σ' H':=λ {σ7 H7} I7 n7=>by
   obtain ⟨m',hm,w7⟩:=hN σ7 H7 n7;refine ⟨m',hm,i+1,σ7,H7,I7.unpinned,T.keep _ _ _ st5 λ b hb o e=>(I7.pin (b,o) (yM _ (yM _ (cV hb e)))).1,λ b hb=>?_,w7⟩;obtain ⟨o,e,d⟩:=T.obj _ _ st5 b hb;exact (I7.pin (b,o) (yM _ (yM _ (cV hb e)))).2.1
  cases f with
  | next=>obtain ⟨σ7,H7,I7,n7⟩:=q7; exact again I7 n7
  | cont=>obtain ⟨σ7,H7,I7,n7⟩:=q7; exact again I7 n7
  | brk=>obtain ⟨σ7,H7,I7,q7⟩:=q7; exact ⟨σ7,H7,I7.unpinned,q7⟩
  | ret v=>obtain ⟨x7,σ7,H7,I7,r7,q7⟩:=q7; exact ⟨x7,σ7,H7,I7.unpinned,r7,q7⟩
end
theorem Na {K:Frag} {a:Addr} {xs:List V} {g:TG} {tb:TS} {D:Ends} {σ:St} {H:Hp} (Pv:Nat->St->Hp->Prop) (h0:Pv 0 σ H) (hl:∀ i σ H,i<=xs.length->Pv i σ H->SqL K H a xs)
  (hs:∀ i x σ H,xs[i]?=some x->Pv i σ H->g x σ H λ σ2 H2=>tb { D with nx:=Pv (i+1),ct:=Pv (i+1),bk:=D.nx } σ2 H2) (hd:∀ σ H,Pv xs.length σ H->D.nx σ H) :
  ∃ W:Nat->Nat->St->Hp->Prop,(∃ m,W 0 m σ H)/\∀ i m σ H,W i m σ H ->
   ((Itl K a).stop i H/\D.nx σ H)\/((Itl K a).go i H/\∃ N:St->Hp->Prop,(∀ σ' H',N σ' H'->∃ m',m' < m/\W (i+1) m' σ' H')/\∀ x H',(Itl K a).yld i H x H'->g x σ H' λ σ2 H2=>tb { D with nx:=N,ct:=N,bk:=D.nx } σ2 H2):=by
 refine ⟨λ i m σ H=>m=xs.length - i/\i<=xs.length/\Pv i σ H,⟨xs.length,by simp,yY _,h0⟩,?_⟩;rintro i m σ H ⟨rfl,hi,p⟩;have q:=hl i σ H hi p
 by_cases hlt:i < xs.length
 ·refine .inr ⟨⟨xs,xs[i],q,by simp [hlt]⟩,Pv (i+1),λ σ' H' p'=>⟨xs.length - (i+1),⋯,rfl,hlt,p'⟩,λ x H' y=>?_⟩;obtain ⟨e,y⟩:=y;subst e;exact hs i x σ _ (y xs q) p
 ·have e:i=xs.length:=⋯
  subst e;exact .inl ⟨⟨xs,q,zF _⟩,hd σ H p⟩
theorem Oz {K:Frag} {a:Addr} {xs:List V} {g:TG} {tb:TS} {D:Ends} {σ:St} {H:Hp} (Pv:Nat->St->Hp->Prop) (h0:Pv 0 σ H) (hl:∀ i σ H,i<=xs.length->Pv i σ H->SqT K H a xs)
  (hs:∀ i x σ H,xs[i]?=some x->Pv i σ H->g x σ H λ σ2 H2=>tb { D with nx:=Pv (i+1),ct:=Pv (i+1),bk:=D.nx } σ2 H2) (hd:∀ σ H,Pv xs.length σ H->D.nx σ H) :
  ∃ W:Nat->Nat->St->Hp->Prop,(∃ m,W 0 m σ H)/\∀ i m σ H,W i m σ H ->
   ((Itt K a).stop i H/\D.nx σ H)\/((Itt K a).go i H/\∃ N:St->Hp->Prop,(∀ σ' H',N σ' H'->∃ m',m' < m/\W (i+1) m' σ' H')/\∀ x H',(Itt K a).yld i H x H'->g x σ H' λ σ2 H2=>tb { D with nx:=N,ct:=N,bk:=D.nx } σ2 H2):=by
 refine ⟨λ i m σ H=>m=xs.length - i/\i<=xs.length/\Pv i σ H,⟨xs.length,by simp,yY _,h0⟩,?_⟩;rintro i m σ H ⟨rfl,hi,p⟩;have q:=hl i σ H hi p
 by_cases hlt:i < xs.length
 ·refine .inr ⟨⟨xs,xs[i],q,by simp [hlt]⟩,Pv (i+1),λ σ' H' p'=>⟨xs.length - (i+1),⋯,rfl,hlt,p'⟩,λ x H' y=>?_⟩;obtain ⟨e,y⟩:=y;subst e;exact hs i x σ _ (y xs q) p
 ·have e:i=xs.length:=⋯
  subst e;exact .inl ⟨⟨xs,q,zF _⟩,hd σ H p⟩
theorem Oy {lo:Int} {n:Nat} {g:TG} {tb:TS} {D:Ends} {σ:St} {H:Hp} (Pv:Nat->St->Hp->Prop) (h0:Pv 0 σ H)
  (hs:∀ i σ H,i < n->Pv i σ H->g (.int (lo+i)) σ H λ σ2 H2=>tb { D with nx:=Pv (i+1),ct:=Pv (i+1),bk:=D.nx } σ2 H2) (hd:∀ σ H,Pv n σ H->D.nx σ H) :
  ∃ W:Nat->Nat->St->Hp->Prop,(∃ m,W 0 m σ H)/\∀ i m σ H,W i m σ H ->
   ((Itr lo n).stop i H/\D.nx σ H)\/((Itr lo n).go i H/\∃ N:St->Hp->Prop,(∀ σ' H',N σ' H'->∃ m',m' < m/\W (i+1) m' σ' H')/\∀ x H',(Itr lo n).yld i H x H'->g x σ H' λ σ2 H2=>tb { D with nx:=N,ct:=N,bk:=D.nx } σ2 H2):=by
 refine ⟨λ i m σ H=>m=n - i/\i<=n/\Pv i σ H,⟨n,by simp,yY _,h0⟩,?_⟩;rintro i m σ H ⟨rfl,hi,p⟩
 by_cases hlt:i < n
 ·refine .inr ⟨hlt,Pv (i+1),λ σ' H' p'=>⟨n - (i+1),⋯,rfl,hlt,p'⟩,λ x H' y=>?_⟩;obtain ⟨e,y⟩:=y;subst e y;exact hs i σ _ hlt p
 ·have e:i=n:=⋯
  subst e;exact .inl ⟨zF _,hd σ H p⟩
abbrev R2:=V->V->Hp->VK->Prop
def OpR (X:Cx) (f:Value->Value->Sem Value) (r:R2):Prop :=
 ∀ (pins:PN) (s:Shared) (σ:St) (H:Hp) (x y:V) (v u:Value) (Q:VK),Inv X pins σ H s->RelV x v->RelV y u->r x y H Q ->
  wpAny (model X.prog X.w) X.A (f v u) (EP X pins σ Q) X.xe s
def UnR (X:Cx) (f:Value->Sem Value) (r:V->Hp->VK->Prop):Prop :=
 ∀ (pins:PN) (s:Shared) (σ:St) (H:Hp) (x:V) (v:Value) (Q:VK),Inv X pins σ H s->RelV x v->r x H Q ->
  wpAny (model X.prog X.w) X.A (f v) (EP X pins σ Q) X.xe s
def kA (X:Cx) (f:Value) (r:List V->Hp->VK->Prop):Prop :=
 ∀ (pins:PN) (s:Shared) (σ:St) (H:Hp) (xs:List V) (us:LW) (Q:VK),Inv X pins σ H s->Vals xs us->r xs H Q ->
  wpAny (model X.prog X.w) X.A (call f us) (EP X pins σ Q) X.xe s
def tOp (r:R2) (ta tb:TE):TE:=λ σ H Q=>ta σ H λ x H1=>tb σ H1 λ y H2=>r x y H2 Q
def tUn (r:V->Hp->VK->Prop) (ta:TE):TE:=λ σ H Q=>ta σ H λ x H1=>r x H1 Q
def rI (C:Int->Int->Prop) (g:Int->Int->V):R2:=λ x y H Q=>∃ i j,x=.int i/\y=.int j/\C i j/\Q (g i j) H
def rI0 (g:Int->Int->V):R2:=λ x y H Q=>∃ i j,x=.int i/\y=.int j/\Q (g i j) H
def rU (g:Int->V):V->Hp->VK->Prop:=λ x H Q=>∃ i,x=.int i/\Q (g i) H
section
variable {X:Cx} {a b c:Expr} {ta tb tc:TE} {pos:Pos}
theorem binT (ha:PE X a ta) (hb:PE X b tb) {pins:PN} {s:Shared} {σ:St} {H:Hp} {R:V->V->Hp->Prop} (I:Inv X pins σ H s)
  (h:ta σ H λ x H1=>tb σ H1 λ y H2=>R x y H2) {Q:VP} {f:Value->Value->Sem Value}
  (hf:∀ v u s2 x y H2,Inv X pins σ H2 s2->RelV x v->RelV y u->R x y H2->wpAny (model X.prog X.w) X.A (f v u) Q X.xe s2) :
  wpAny (model X.prog X.w) X.A (eval a X.env) (λ v s₁=>wpAny (model X.prog X.w) X.A (eval b X.env) (λ u s₂=>wpAny (model X.prog X.w) X.A (f v u) Q X.xe s₂) X.xe s₁) X.xe s:=by
 refine thn (ha pins s σ H _ I h) λ v s1 ⟨x,H1,I1,r1,q1⟩=>?_;refine thn (hb pins s1 σ H1 _ I1 q1) λ u s2 ⟨y,H2,I2,r2,q2⟩=>?_;exact hf v u s2 x y H2 I2 r1 r2 q2
theorem oY {op:Operator} {r:R2} (ho:OpR X (binaryOp op) r) (ha:PE X a ta) (hb:PE X b tb):PE X (.BinOp a op b pos) (tOp r ta tb):=by
 intro pins s σ H Q I h;exact wpAny_BinOp (binT ha hb I h λ v u s2 x y H2 I2 rx ry q=>ho pins s2 σ H2 x y v u Q I2 rx ry q)
theorem eP {op:UnaryOp} {r:V->Hp->VK->Prop} (ho:UnR X (unaryOp op) r) (ha:PE X a ta):PE X (.UnaryOp op a pos) (tUn r ta):=by
 intro pins s σ H Q I h;exact UnaryOp_ (thn (ha pins s σ H _ I h) λ v s1 ⟨x,H1,I1,r1,q1⟩=>ho pins s1 σ H1 x v Q I1 r1 q1)
theorem opI {f:Value->Value->Sem Value} {C:Int->Int->Prop} {g:Int->Int->Int}
  (rule:∀ (i j:Int) (t u:Tok) (s:Shared) (Q:VP) (E:VP),C i j->Q (.int (g i j) s.toks) { s with toks:=s.toks+1 }->wpAny (model X.prog X.w) X.A (f (.int i t) (.int j u)) Q E s) :
  OpR X f (rI C λ i j=>.int (g i j)):=by
 intro pins s σ H x y v u Q I rx ry h;obtain ⟨i,j,rfl,rfl,hc,q⟩:=h;obtain ⟨t,rfl⟩:=rx;obtain ⟨t',rfl⟩:=ry;exact rule i j t t' s _ _ hc ⟨.int (g i j),H,I.tok _,⟨_,rfl⟩,q⟩
theorem opI0 {f:Value->Value->Sem Value} {g:Int->Int->Int}
  (rule:∀ (i j:Int) (t u:Tok) (s:Shared) (Q:VP) (E:VP),Q (.int (g i j) s.toks) { s with toks:=s.toks+1 }->wpAny (model X.prog X.w) X.A (f (.int i t) (.int j u)) Q E s) :
  OpR X f (rI0 λ i j=>.int (g i j)):=by
 intro pins s σ H x y v u Q I rx ry h;obtain ⟨i,j,rfl,rfl,q⟩:=h;obtain ⟨t,rfl⟩:=rx;obtain ⟨t',rfl⟩:=ry;exact rule i j t t' s _ _ ⟨.int (g i j),H,I.tok _,⟨_,rfl⟩,q⟩
theorem opB0 {f:Value->Value->Sem Value} {g:Int->Int->Bool}
  (rule:∀ (i j:Int) (t u:Tok) (s:Shared) (Q:VP) (E:VP),Q (.bool (g i j)) s->wpAny (model X.prog X.w) X.A (f (.int i t) (.int j u)) Q E s) :
  OpR X f (rI0 λ i j=>.bl (g i j)):=by
 intro pins s σ H x y v u Q I rx ry h;obtain ⟨i,j,rfl,rfl,q⟩:=h;obtain ⟨t,rfl⟩:=rx;obtain ⟨t',rfl⟩:=ry;exact rule i j t t' s _ _ ⟨.bl (g i j),H,I,rfl,q⟩
def CMul (i j:Int):Prop:=(-(2 ^ 64) < i/\i < 2 ^ 64)\/(-(2 ^ 64) < j/\j < 2 ^ 64)
theorem lF:OpR X (binaryOp .Add) (rI0 λ i j=>.int (i+j)):=opI0 λ _ _ _ _ _ _ _ q=>add_int q
theorem jT:OpR X (binaryOp .Sub) (rI0 λ i j=>.int (i - j)):=opI0 λ _ _ _ _ _ _ _ q=>sub_int q
theorem lB:OpR X (binaryOp .Mod) (rI (λ _ j=>j≠0) λ i j=>.int (i.fmod j)):=opI λ _ _ _ _ _ _ _ hc q=>mod_int' hc q
theorem unI {f:Value->Sem Value} {g:Int->Int}
  (rule:∀ (i:Int) (t:Tok) (s:Shared) (Q:VP) (E:VP),Q (.int (g i) s.toks) { s with toks:=s.toks+1 }->wpAny (model X.prog X.w) X.A (f (.int i t)) Q E s) :
  UnR X f (rU λ i=>.int (g i)):=by
 intro pins s σ H x v Q I rx h;obtain ⟨i,rfl,q⟩:=h;obtain ⟨t,rfl⟩:=rx;exact rule i t s _ _ ⟨.int (g i),H,I.tok _,⟨_,rfl⟩,q⟩
theorem eQ:UnR X (unaryOp .USub) (rU λ i=>.int (-i)):=unI λ _ _ _ _ _ q=>neg_int q
theorem Ox {pins:PN} {σ:St} {H:Hp} {s:Shared} {Q:VK} {k k':Bool} (I:Inv X pins σ H s) (q:Q (.bl k) H) (e:k=k'):EP X pins σ Q (.bool k') s:=by
 subst e;exact ⟨.bl k,H,I,rfl,q⟩
theorem eV:OpR X (compareOp .Lt) (rI0 λ i j=>.bl (decide (i < j))):=opB0 λ _ _ _ _ _ _ _ q=>lt_int q
theorem cW:OpR X (compareOp .Gt) (rI0 λ i j=>.bl (decide (j < i))):=opB0 λ _ _ _ _ _ _ _ q=>gt_int q
theorem Ow:OpR X (compareOp .GtE) (rI0 λ i j=>.bl (decide (j<=i))):=opB0 λ _ _ _ _ _ _ _ q=>ge_int q
theorem Ov:OpR X (compareOp .IsNot) (λ x y H Q=>y=.non/\Q (.bl (!decide (x=.non))) H):=by
 intro pins s σ H x y v u Q I rx ry h;obtain ⟨rfl,q⟩:=h;cases ry;refine isnot_none_gen (Ox I q ?_);cases x <;> first
  | (cases rx; rfl)
  | (obtain ⟨t,rfl⟩:=rx; rfl)
theorem nS (b:Expr) {op:CmpOp} (h:op≠.In:=by decide) (h2:op≠.NotIn:=by decide):behindInMarks op b=false:=by
 have e1:(op == CmpOp.In)=false:=by cases op <;> first | rfl | exact absurd rfl h
 have e2:(op == CmpOp.NotIn)=false:=by cases op <;> first | rfl | exact absurd rfl h2
 cases b <;> simp [behindInMarks,e1,e2]
theorem jU {op:CmpOp} {r:R2} (ho:OpR X (compareOp op) r) (ha:PE X a ta) (hb:PE X b tb) (hm:behindInMarks op b=false):PE X (.Compare a [op] [b] pos) (tOp r ta tb):=by
 intro pins s σ H Q I h;exact wpAny_Compare1 (binT ha hb I h λ v u s2 x y H2 I2 rx ry q=>ho pins s2 σ H2 x y v u Q I2 rx ry q) hm
def gN (t:TE):TT:=λ σ H Q=>t σ H λ x H'=>∃ k,x=.bl k/\Q k H'
theorem nW {op:CmpOp} {r:R2} (ho:OpR X (compareOp op) r) (ha:PE X a ta) (hb:PE X b tb) (hm:behindInMarks op b=false):PT X (.Compare a [op] [b] pos) (gN (tOp r ta tb)):=by
 intro pins s σ H Q I h;refine wpAny_isTrue_Compare1 (thn (ha pins s σ H _ I h) λ v s1 ⟨x,H1,I1,r1,q1⟩=>thn (hb pins s1 σ H1 _ I1 q1) λ u s2 ⟨y,H2,I2,r2,q2⟩ =>
  thn (ho pins s2 σ H2 x y v u _ I2 r1 r2 q2) λ c s3 ⟨z,H3,I3,r3,k,e,q3⟩=>?_) hm
 subst e;cases r3;exact uK ⟨H3,I3,q3⟩
theorem cX:(sizeLine:Nat) < 2 ^ 63:=by rw [sizeLine_eq]; decide
theorem jL {x:V} {us:LW} (r:Vals [x] us):∃ u,us=[u]/\RelV x u:=by
 cases r with
 | cons r1 r2=>cases r2; exact ⟨_,rfl,r1⟩
theorem cY:kA X (.builtin "abs") (λ xs H Q=>∃ i,xs=[.int i]/\Q (.int (if i < 0 then -i else i)) H):=by
 intro pins s σ H xs us Q I r h;obtain ⟨i,rfl,q⟩:=h;obtain ⟨u,rfl,t,rfl⟩:=jL r;exact call_abs_int λ u tk=>⟨.int (if i < 0 then -i else i),H,I.tok _,⟨_,rfl⟩,q⟩
theorem Fj:kA X (.type "int") (λ xs H Q=>(∃ i,xs=[.int i]/\Q (.int i) H)\/∃ k,xs=[.bl k]/\Q (.int (if k then 1 else 0)) H):=by
 intro pins s σ H xs us Q I r h;rcases h with ⟨i,rfl,q⟩ | ⟨k,rfl,q⟩
 ·obtain ⟨u,rfl,t,rfl⟩:=jL r;exact call_int_int ⟨.int i,H,I,⟨_,rfl⟩,q⟩
 ·obtain ⟨u,rfl,r1⟩:=jL r;cases r1;exact call_int_bool ⟨.int (if k then 1 else 0),H,I.tok _,⟨_,rfl⟩,q⟩
end
structure ObjM (h:Heap) (x dx C:Addr) (mA:MT):Prop where
 obj:h.get? x=some (PySem.W.instObj C dx)
 ns:h.Ns1 dx mA
 ne:dx≠x
theorem Ou {h:Heap} {dx:Addr} {mA:MT} (n:h.Ns1 dx mA):∃ od,h.get? dx=some od/\∀ name,PySem.W.lookIn name od=some (mA name):=by
 obtain ⟨o,es,ep,ho,hd,hk,_,hm⟩:=n;refine ⟨o,ho,λ name=>?_⟩;have e:=hm name;unfold nsFind findBy at e;rw [← Array.find?_toList] at e;unfold PySem.W.lookIn;rw [hd];dsimp only;split
 ·rename_i y q;rw [q] at e;exact xZ some e
 ·rename_i q;rw [q] at e;have a:es.toList.any (·.refKey)=false:=by
   rw [List.any_eq_false];intro y hy;obtain ⟨z,t,hkey⟩:=hk y (Array.mem_toList_iff.mp hy);simp [DictEntry.refKey,hkey]
  have a':¬ es.toList.any (·.refKey)=true:=by rw [a]; exact yG
  rw [if_neg a'];exact xZ some e
theorem ObjM.look {h:Heap} {x dx C:Addr} {mA:MT} (I:ObjM h x dx C mA):∃ od,PySem.W.InstAt h x (PySem.W.instObj C dx) C (some od)/\∀ name,PySem.W.lookIn name od=some (mA name) :=
 let ⟨od,ho,hl⟩:=Ou I.ns
 ⟨od,⟨I.obj,rfl,rfl,ho⟩,hl⟩
section
variable {prog:Program} {w:World} {A:Around} {E:VP} {s:Shared} {K:Frag} {x dx C f:Addr} {mA:MT} {name:Str} {v:Value}
theorem Ot {expr:Bool} {Q:VP} (X:K.In s.heap) (I:ObjM s.heap x dx C mA) (hg:PySem.W.plainGet K C name=true) (hh:PySem.W.hasDictIn K C=true)
  (ha:PySem.W.findIn K (.ref C) name=some none) (hv:mA name=some v) (hv':PySem.W.handedIn v=true) (h:Q v { s with toks:=s.toks+1 }) :
  wpAny (model prog w) A (getAttr (.ref x) name expr) Q E s:=by
 obtain ⟨od,J,hl⟩:=I.look;exact PySem.W.get_value X J (rW hg).1 (PySem.W.findObj_own hh ha rfl (by rw [hl,hv])) hv' h
theorem Os {pl:Sem Bool} {Q:Value × LW->Shared->Prop} (X:K.In s.heap) (I:ObjM s.heap x dx C mA) (hg:PySem.W.plainGet K C name=true)
  (hf:PySem.W.findIn K (.ref C) name=some (some (.ref f))) (ht:PySem.W.isFn K (.ref f)=true) (hv:mA name=none) (h:Q (.ref f,[.ref x]) s) :
  wpAny (model prog w) A (getMethod (.ref x) name pl) Q E s:=by
 obtain ⟨od,J,hl⟩:=I.look;exact PySem.W.method_fn X J (rW hg).1 (rW hg).2 hf (zY.mp ht) (by show (PySem.W.lookIn name od).map (·.isSome)=some false; rw [hl,hv]; rfl) h
theorem Oq {ns:List Str} {Q:Unit->Shared->Prop} (X:K.In s.heap) (I:ObjM s.heap x dx C mA)
  (hs:PySem.W.findIn K (.ref C) "__setattr__" = some (some (.builtin "object.__setattr__"))) (hp:PySem.W.plainOver K C=true) (ht:PySem.W.takerIn K C name=some none) (hh:PySem.W.hasDictIn K C=true)
  (hw:PySem.Within mA ns) (hsz:ns.length<=sizeLine)
  (h:∀ h',ObjM h' x dx C (λ y=>if y=name then some v else mA y)->Heap.SameBut dx s.heap h'->Q () { s with heap:=h',toks:=s.toks+2 }) :
  wpAny (model prog w) A (setAttr (.ref x) name v) Q E s:=by
 obtain ⟨od,J,hl⟩:=I.look;refine PySem.W.set_plain X J hs (PySem.W.osa_open (s:={ s with toks:=s.toks+1 }) (r:=none) X J hp ht λ b=>?_);obtain ⟨cd,hc,hd'⟩:=PySem.W.any_some hh;have hx:s.heap.get? x=some ⟨.ref C,some dx,.plain,#[]⟩:=I.obj;refine zA (zC (zA (zA (wpAny_loadPart hx (zA (PySem.W.Looks.here (s:={ s with toks:=s.toks+1 }) (PySem.W.looks_clsIn X hc) ?_))))));rw [hd'];refine zC (a:=some dx) (zA (zC (zA ?_)));refine wpAny_nsSet1 (s:={ s with toks:=s.toks+1 }) I.ns λ h' hn2 hs2=>?_;obtain ⟨oD,esD,epD,hoD,hdD,hcD⟩:=hn2.count (PySem.Within.cons name v hw);refine zA (wpAny_lookBehind hoD (by rw [hdD]; exact pastItsLine_dict (yC hcD (by rw [zX]; omega))) ?_);exact zC (h _ ⟨(hs2.2 _ (Ne.symm I.ne)).trans I.obj,hn2,I.ne⟩ hs2)
theorem Op {R:Result->Shared->Prop} {vs:LW} {kw:List (Str × Value)} (X:K.In s.heap) (hm:PySem.W.makesIn K C=true)
  (hi:PySem.W.findIn K (.ref C) "__init__" = some (some (.ref f))) (hf:PySem.W.typeIn K (.ref f)=some (.type "function"))
  (h:codeAny (model prog w) (A.under (.builtin "type.__call__" ⟨.ref C :: vs,kw⟩)) (.call (.ref f) ⟨.ref (s.heap.objs.size+1) :: vs,kw⟩) (PySem.W.InitBack (s.heap.objs.size+1) R)
   { s with heap:=(s.heap.push PySem.W.emptyDict).push (PySem.W.instObj C s.heap.objs.size) }) :
  codeAny (model prog w) A (.call (.ref C) ⟨vs,kw⟩) R s:=by
 obtain ⟨hh,g,d,t,os⟩:=s;exact PySem.W.make_core (PySem.W.makes_of X hm) (uX X hi) (λ self=>PySem.W.bind_fn X self hf) (.inl rfl) h
end
noncomputable def putF (f:Str) (v:V):List (Str × V)->List (Str × V)
 | []=>[(f,v)]
 | (g,x) :: r=>if g=f then (g,v) :: r else (g,x) :: putF f v r
theorem Fi (f g:Str) (v:V):∀ fs:List (Str × V),(putF f v fs).lookup g=if g=f then some v else fs.lookup g
 | []=>by
  show List.lookup g [(f,v)]=_
  by_cases h:g=f
  ·have hb:(g == f)=true:=zY.mpr h;simp only [List.lookup,hb,if_pos h]
  ·have hb:(g == f)=false:=wF.mpr h;simp only [List.lookup,hb,if_neg h]
 | (k,x) :: r=>by
  have ih:=Fi f g v r;rw [show putF f v ((k,x) :: r)=(if k=f then (k,v) :: r else (k,x) :: putF f v r) from rfl]
  by_cases hk:k=f
  ·rw [if_pos hk]
   by_cases h:g=k
   ·have hb:(g == k)=true:=zY.mpr h;simp only [List.lookup,hb,if_pos (h.trans hk)]
   ·have hb:(g == k)=false:=wF.mpr h;simp only [List.lookup,hb,if_neg (λ e:g=f=>h (e.trans hk.symm))]
  ·rw [if_neg hk]
   by_cases h:g=k
   ·have hb:(g == k)=true:=zY.mpr h;simp only [List.lookup,hb,if_neg (λ e:g=f=>hk (h.symm.trans e))]
   ·have hb:(g == k)=false:=wF.mpr h;simp only [List.lookup,hb];exact ih
theorem Ac (f:Str) (v:V):∀ fs:List (Str × V),f∈(putF f v fs).map (·.1)/\∀ g,g∈fs.map (·.1)->g∈(putF f v fs).map (·.1)
 | []=>⟨by simp [putF],λ g h=>by simp at h⟩
 | (k,x) :: r=>by
  obtain ⟨i1,i2⟩:=Ac f v r;rw [show putF f v ((k,x) :: r)=(if k=f then (k,v) :: r else (k,x) :: putF f v r) from rfl]
  by_cases hk:k=f
  ·rw [if_pos hk];subst hk;exact ⟨by simp,λ g h=>by simpa using h⟩
  ·rw [if_neg hk];refine ⟨?_,λ g h=>?_⟩
   ·rw [zG];exact zK _ i1
   ·rw [zG] at h ⊢;rcases zL.mp h with e | e
    ·exact zL.mpr (.inl e)
    ·exact zK _ (i2 g e)
theorem Fh (f:Str) (v:V):∀ fs:List (Str × V),(putF f v fs).length<=fs.length+1
 | []=>by simp [putF]
 | (k,x) :: r=>by
  have ih:=Fh f v r;rw [show putF f v ((k,x) :: r)=(if k=f then (k,v) :: r else (k,x) :: putF f v r) from rfl]
  by_cases hk:k=f
  ·rw [if_pos hk,zX,zX]; omega
  ·rw [if_neg hk,zX,zX]; omega
theorem RelO.some_of {v:V} {o:Option Value} (r:RelO (some v) o):∃ u,o=some u/\RelV v u:=by
 cases o with
 | none=>exact (show False from r).elim
 | some u=>exact ⟨u,rfl,r⟩
theorem RelO.none_of {o:Option Value} (r:RelO none o):o=none:=by
 cases o with
 | none=>rfl
 | some u=>exact (show False from r).elim
theorem Oo {v:V} {u:Value} (r:RelV v u):PySem.W.handedIn u=true:=by
 cases v with
 | non=>cases (show u=Value.none from r); rfl
 | bl b=>cases (show u=Value.bool b from r); rfl
 | int i=>obtain ⟨t,e⟩:=(show ∃ t,u=Value.int i t from r); cases e; rfl
 | str x=>obtain ⟨t,e⟩:=(show ∃ t,u=Value.str x t from r); cases e; rfl
 | byt b=>obtain ⟨t,e⟩:=(show ∃ t,u=Value.bytes b t from r); cases e; rfl
 | flt b=>obtain ⟨t,e⟩:=(show ∃ t,u=Value.float b t from r); cases e; rfl
 | ref a=>cases (show u=Value.ref a from r); rfl
 | ty n=>cases (show u=Value.type n from r); rfl
section
variable {P:Program} {w:World} {H H':Hp} {h h':Heap} {a C dx:Addr} {fs fs':List (Str × V)}
theorem cZ (hok:HOk P w H h) (e:H a=some (.ins C dx fs)):∃ mA,ObjM h a dx C mA/\(∀ f,RelO (fs.lookup f) (mA f))/\PySem.Within mA (fs.map (·.1))/\fs.length<=1000/\H dx=some (.own a):=by
 obtain ⟨d,z,ne,ob,mA,n,r,q⟩:=(show mQ P w H h a (.ins C dx fs) from hok a _ e);exact ⟨mA,⟨ob,n,ne⟩,r,q,z,d⟩
end
structure Cls (K:Frag) (C:Addr):Prop where
 pg:PySem.W.plainGet K C Str.empty=true
 hd:PySem.W.hasDictIn K C=true
 po:PySem.W.plainOver K C=true
 sa:PySem.W.findIn K (.ref C) "__setattr__" = some (some (.builtin "object.__setattr__"))
theorem Cls.get {K:Frag} {C:Addr} (c:Cls K C) (f:Str):PySem.W.plainGet K C f=true:=c.pg
def gO (K:Frag) (C:Addr) (f:Str):Prop:=PySem.W.findIn K (.ref C) f=some none
theorem gO.taker {K:Frag} {C:Addr} {f:Str} (n:gO K C f):PySem.W.takerIn K C f=some none:=by
 unfold PySem.W.takerIn;rw [show PySem.W.findIn K (.ref C) f=some none from n];rfl
structure Meth (K:Frag) (C:Addr) (m:Str) (f:Addr):Prop where
 at_:PySem.W.findIn K (.ref C) m=some (some (.ref f))
 fn:PySem.W.isFn K (.ref f)=true
 kp:PySem.W.keepIn K (.ref f)=true
section
variable {X:Cx} {pins:PN} {σ:St} {H:Hp} {s:Shared} {a C dx:Addr} {fs:List (Str × V)} {f:Str} {v:V} {A:Around} {E:VP}
theorem On {b:Bool} {Q:VP} (I:Inv X pins σ H s) (e:H a=some (.ins C dx fs)) (c:Cls X.K C) (n:gO X.K C f) (l:fs.lookup f=some v)
  (h:∀ u s',Inv X pins σ H s'->RelV v u->Q u s'):wpAny (model X.prog X.w) A (getAttr (.ref a) f b) Q E s:=by
 obtain ⟨mA,O,r,_,_,_⟩:=cZ I.hok e;obtain ⟨u,hu,ru⟩:=RelO.some_of (v:=v) (o:=mA f) (by rw [← l]; exact r f);exact Ot I.kIn O (c.get f) c.hd n hu (Oo ru) (h u _ (I.tok _) ru)
theorem Om {m:Str} {g:Addr} {pl:Sem Bool} {Q:Value × LW->Shared->Prop} (I:Inv X pins σ H s) (e:H a=some (.ins C dx fs)) (c:Cls X.K C) (k:Meth X.K C m g) (l:fs.lookup m=none)
  (h:Q (.ref g,[.ref a]) s):wpAny (model X.prog X.w) A (getMethod (.ref a) m pl) Q E s:=by
 obtain ⟨mA,O,r,_,_,_⟩:=cZ I.hok e;have hn:mA m=none:=RelO.none_of (by rw [← l]; exact r m);exact Os I.kIn O (c.get m) k.at_ k.fn hn h
theorem Ol {y:V} {u:Value} {Q:Unit->Shared->Prop} (I:Inv X pins σ H s) (e:H a=some (.ins C dx fs)) (c:Cls X.K C) (n:gO X.K C f) (hl:fs.length < 1000) (ry:RelV y u)
  (h:∀ s',Inv X pins σ (upd H a (.ins C dx (putF f y fs))) s'->Q () s'):wpAny (model X.prog X.w) A (setAttr (.ref a) f u) Q E s:=by
 obtain ⟨mA,O,r,wi,_,ho⟩:=cZ I.hok e;have hz:(fs.map (·.1)).length<=sizeLine:=by rw [yL,sizeLine_eq]; omega
 refine Oq I.kIn O c.sa c.po n.taker c.hd wi hz λ h' O' sb=>h _ ?_;have hd:∃ o,h'.get? dx=some o:=let ⟨o,_,_,e',_⟩:=O'.ns; ⟨o,e'⟩
 refine I.write (x:=a) (e:=dx) (by rw [e]; exact True.intro) (.inr ho) (λ b q hb z=>(sb.2 b hb).trans z) hd ?_;refine ⟨by rw [nD O.ne]; exact ho,?_,O.ne,O'.obj,_,O'.ns,λ g=>?_,λ g hg=>?_⟩
 ·have:=Fh f y fs; omega
 ·show RelO ((putF f y fs).lookup g) (if g=f then some u else mA g);rw [Fi]
  by_cases q:g=f
  ·rw [if_pos q,if_pos q]; exact ry
  ·rw [if_neg q,if_neg q]; exact r g
 ·by_cases q:g=f
  ·rw [q]; exact (Ac f y fs).1
  ·refine (Ac f y fs).2 g (wi g λ z=>hg ?_);show (if g=f then some u else mA g)=none;rw [if_neg q]; exact z
theorem Inv.made (I:Inv X pins σ H s):Inv X pins σ (upd (upd H s.heap.objs.size (.own (s.heap.objs.size+1))) (s.heap.objs.size+1) (.ins C s.heap.objs.size []))
  { s with heap:=(s.heap.push PySem.W.emptyDict).push (PySem.W.instObj C s.heap.objs.size) }:=by
 have e1:(s.heap.push PySem.W.emptyDict).get? s.heap.objs.size=some PySem.W.emptyDict:=zU s.heap rfl;have e2:((s.heap.push PySem.W.emptyDict).push (PySem.W.instObj C s.heap.objs.size)).get? (s.heap.objs.size+1)=some (PySem.W.instObj C s.heap.objs.size):=by
  have:=zU (s.heap.push PySem.W.emptyDict) (o:=PySem.W.instObj C s.heap.objs.size) rfl
  rwa [xY] at this
 have e3:(s.heap.push PySem.W.emptyDict).Ns s.heap.objs.size (λ _=>none):=⟨PySem.W.emptyDict,#[],_,e1,rfl,(λ e he=>absurd he (by simp)),λ _=>rfl⟩;have I1:=I.laid (a:=s.heap.objs.size) (o:=.own (s.heap.objs.size+1)) (h':=s.heap.push PySem.W.emptyDict) (t':=s.toks) (λ b u q=>zD _ q) (zF _) ⟨_,e1⟩;refine I1.laid (a:=s.heap.objs.size+1) (o:=.ins C s.heap.objs.size []) (t':=s.toks) (λ b u q=>zD _ q) (sZ (xY _ _)) ?_;have ne:s.heap.objs.size≠s.heap.objs.size+1:=yA (sL _);refine ⟨by rw [nD ne,oZ],yY _,ne,e2,λ _=>none,(Heap.Ns1.of_empty e3).at λ o q=>zD _ q,λ _=>True.intro,λ y hy=>absurd rfl hy⟩
theorem Oj {prog:Program} {w:World} {env:Env} {e:Expr} {f:Str} {pos:Pos} {s:Shared} {Q:VP} (hb:attributeBase e f env (eval e env)=eval e env)
  (h:wpAny (model prog w) A (eval e env) (λ o s₁=>wpAny (model prog w) A (getAttr o f true) Q E s₁) E s):wpAny (model prog w) A (eval (.Attribute e f pos) env) Q E s :=
 Attribute_any_ h (by rw [arm_eval_Attribute,hb])
end
def tFld (K:Frag) (ta:TE) (f:Str):TE:=λ σ H Q=>ta σ H λ x H1=>∃ a C dx fs v,x=.ref a/\H1 a=some (.ins C dx fs)/\Cls K C/\gO K C f/\fs.lookup f=some v/\Q v H1
def sFld (K:Frag) (ta tv:TE) (f:Str):TS:=λ D σ H=>tv σ H λ y H1=>ta σ H1 λ x H2=>∃ a C dx fs,x=.ref a/\H2 a=some (.ins C dx fs)/\Cls K C/\gO K C f/\fs.length < 1000 /\
 D.nx σ (upd H2 a (.ins C dx (putF f y fs)))
section
variable {X:Cx} {o e value:Expr} {f:Str} {pos pos' tpos:Pos} {ta tv:TE}
theorem Ab (he:PE X e ta) (hb:attributeBase e f X.env (eval e X.env)=eval e X.env):PE X (.Attribute e f pos) (tFld X.K ta f):=by
 intro pins s σ H Q I h;refine Oj hb (thn (he pins s σ H _ I h) λ u s1 ⟨x,H1,I1,rx,a,C,dx,fs,v,ex,ea,c,n,l,q⟩=>?_);subst ex;obtain rfl:u=Value.ref a:=rx;exact On I1 ea c n l λ u' s2 I2 ru=>⟨v,H1,I2,ru,q⟩
theorem eW (ha:PE X o ta) (hv:PE X value tv) (hs:swapsWith value (some (.Attribute o f pos')) pos.line X.env=pure false):PS X (.Assign [.Attribute o f pos'] value pos) (sFld X.K ta tv f):=by
 intro pins s σ H D I h;refine plainObj_wpAny_Assign_Attribute (thn (hv pins s σ H _ I h) λ u s1 ⟨y,H1,I1,ry,q⟩=>thn (ha pins s1 σ H1 _ I1 q) λ ov s2 ⟨x,H2,I2,rx,a,C,dx,fs,ex,ea,c,n,l,q2⟩=>?_) hs;subst ex;obtain rfl:ov=Value.ref a:=rx;exact Ol I2 ea c n l ry λ s3 I3=>⟨σ,_,I3,q2⟩
end
section
variable {X:Cx} {pins:PN} {σ:St} {H:Hp} {s:Shared} {A:Around} {E:VP} {Q:VP} {c:Value} {b:Bool}
inductive TyOf (K:Frag) (H:Hp):V->Value->Prop where
 | non:TyOf K H .non (.type "NoneType")
 | bl (x:Bool):TyOf K H (.bl x) (.type "bool")
 | int (i:Int):TyOf K H (.int i) (.type "int")
 | str (x:Str):TyOf K H (.str x) (.type "str")
 | flt (x:UInt64):TyOf K H (.flt x) (.type "float")
 | lst {a:Addr} {xs:List V} (e:H a=some (.lst xs)):TyOf K H (.ref a) (.type "list")
 | frz {a:Addr} {o:Obj} {xs:List V} (e:H a=some (.frz o (.lst xs))):TyOf K H (.ref a) (.type "list")
 | tup {a:Addr} {xs:List V} (e:H a=some (.tup xs)):TyOf K H (.ref a) (.type "tuple")
 | dK {a:Addr} {kvs:List (Key × V)} (e:H a=some (.dK kvs)):TyOf K H (.ref a) (.type "dict")
 | dT {a:Addr} {kvs:List (List Key × V)} (e:H a=some (.dT kvs)):TyOf K H (.ref a) (.type "dict")
 | ins {a C dx:Addr} {fs:List (Str × V)} (e:H a=some (.ins C dx fs)) (cl:Cls K C) (ha:PySem.W.findIn K (.ref C) "__class__" = some (some (.builtin "object.__class__")))
   (hn:PySem.W.specialIn K (.builtin "object.__class__") "__get__" = some (some (.builtin "getset_descriptor.__get__"))) (htk:PySem.W.takesIn K (.builtin "object.__class__")=some true)
   (hm:PySem.W.mroIn K C (.type "object")=some true):TyOf K H (.ref a) (.ref C)
theorem Oi {x:V} {u t:Value} (I:Inv X pins σ H s) (rx:RelV x u) (ty:TyOf X.K H x t) (e:PySem.W.kitOne X.K t c=some b) (h:∀ tk,Q (.bool b) { s with toks:=tk }) :
  wpAny (model X.prog X.w) A (call (.builtin "isinstance") [u,c]) Q E s:=by
 cases ty with
 | non=>cases (show u=Value.none from rx); exact xL PySem.W.kitx_none I.kIn True.intro e (λ z=>nomatch z) h
 | bl y=>cases (show u=Value.bool y from rx); exact xL PySem.W.kitx_bool I.kIn True.intro e (λ z=>nomatch z) h
 | int i=>obtain ⟨t,q⟩:=(show ∃ t,u=Value.int i t from rx); cases q; exact xL PySem.W.kitx_int I.kIn True.intro e (λ z=>nomatch z) h
 | str y=>obtain ⟨t,q⟩:=(show ∃ t,u=Value.str y t from rx); cases q; exact xL PySem.W.kitx_str I.kIn True.intro e (λ z=>nomatch z) h
 | flt y=>obtain ⟨t,q⟩:=(show ∃ t,u=Value.float y t from rx); cases q; exact xL PySem.W.kitx_float I.kIn True.intro e (λ z=>nomatch z) h
 | @lst a xs ea =>
  cases (show u=Value.ref a from rx);obtain ⟨_,_,n,_,h1⟩:=(show mQ X.prog X.w H s.heap a (.lst xs) from I.hok a _ ea);exact xL PySem.W.kitx_list I.kIn ⟨_,h1,rfl⟩ e (λ z=>nomatch z) h
 | @frz a ob xs ea =>
  cases (show u=Value.ref a from rx);obtain ⟨_,_,_,n,_,h1⟩:=(show mQ X.prog X.w H s.heap a (.frz ob (.lst xs)) from I.hok a _ ea);exact xL PySem.W.kitx_list I.kIn ⟨_,h1,rfl⟩ e (λ z=>nomatch z) h
 | @tup a xs ea =>
  cases (show u=Value.ref a from rx);obtain ⟨_,_,_,p⟩:=(show mQ X.prog X.w H s.heap a (.tup xs) from I.hok a _ ea);obtain ⟨o,h1,h2,_⟩:=p;exact xL PySem.W.kitx_tuple I.kIn ⟨o,h1,h2⟩ e (λ z=>nomatch z) h
 | @dK a kvs ea =>
  cases (show u=Value.ref a from rx);obtain ⟨_,_,vs,_,p⟩:=(show mQ X.prog X.w H s.heap a (.dK kvs) from I.hok a _ ea);obtain ⟨o,es,ep,h1,h2,_⟩:=p;exact xL PySem.W.kitx_dict I.kIn ⟨o,h1,h2.1⟩ e (λ z=>nomatch z) h
 | @dT a kvs ea =>
  cases (show u=Value.ref a from rx);obtain ⟨_,_,xs,_,o,es,ep,h1,h2,_⟩:=(show mQ X.prog X.w H s.heap a (.dT kvs) from I.hok a _ ea);exact xL PySem.W.kitx_dict I.kIn ⟨o,h1,h2.1⟩ e (λ z=>nomatch z) h
 | @ins a C dx fs ea cl ha hn htk hm =>
  cases (show u=Value.ref a from rx);obtain ⟨mA,O,_⟩:=cZ I.hok ea;obtain ⟨od,J,_⟩:=O.look;exact xL (PySem.W.kitx_own (cl.get _) cl.hd ha hn htk hm) I.kIn J e (λ z=>nomatch z) h
end
structure Room (k:Nat) (A:Around):Prop where
 hd:A.handled=none
 dp:A.depth+3*k+5 < recursionLimit
 un:A.units+16*k+200 < cLine
theorem Room.mono {j k:Nat} {A:Around} (r:Room k A) (h:j<=k):Room j A:=⟨r.hd,by have:=r.dp; omega,by have:=r.un; omega⟩
theorem Room.mo {j k:Nat} {A:Around} (r:Room k A) (h:j<=k:=by first | decide | omega):Room j A:=r.mono h
theorem Room.deeper {k:Nat} {A:Around} (r:Room (k+1) A) (env:Env):Room k (A.deeper env) :=
 ⟨r.hd,by have:=r.dp; show A.depth+1+3*k+5 < _; omega,by have:=r.un; show A.units+3+16*k+200 < _; omega⟩
theorem Oh {A:Around} {C:Addr} {us:LW} {kw:List (Str × Value)}:(A.under (.builtin "type.__call__" ⟨.ref C :: us,kw⟩)).depth=A.depth+1:=by
 first | rfl | simp [Around.under,Code.weight,Code.isCreation,Code.isGuard,Code.isCaller,Code.frames,Code.isFrame,guardIds]
theorem Og {A:Around} {C:Addr} {us:LW} {kw:List (Str × Value)}:(A.under (.builtin "type.__call__" ⟨.ref C :: us,kw⟩)).units=A.units+1:=by
 first | rfl | simp [Around.under,Code.cUnits,Code.frames,Code.isFrame]
theorem Room.make {k:Nat} {A:Around} (r:Room (k+1) A) (C:Addr) (us:LW) (kw:List (Str × Value)):Room k (A.under (.builtin "type.__call__" ⟨.ref C :: us,kw⟩)) :=
 ⟨r.hd,by have:=r.dp; rw [Oh]; omega,by have:=r.un; rw [Og]; omega⟩
theorem Room.depth {k:Nat} {A:Around} (r:Room k A):A.depth < recursionLimit:=by have:=r.dp; omega
theorem Room.units {k:Nat} {A:Around} (r:Room k A):A.units+64 < cLine:=by have:=r.un; omega
def tNil:TA:=λ _ H Q=>Q [] H
def nQ (ta:TE) (tr:TA):TA:=λ σ H Q=>ta σ H λ x H1=>tr σ H1 λ xs H2=>Q (x :: xs) H2
section
variable {X:Cx} {e:Expr} {es:List Expr} {te:TE} {t:TA} {pos:Pos}
theorem oR:PA X [] tNil:=λ _ _ _ _ H Q I h=>Calls.spliced_nil ⟨[],H,I,.nil,h⟩
theorem oQ (ha:PE X e te) (hr:PA X es t) (hs:starEach (e :: es) X.env=(false,eval e X.env) :: starEach es X.env:=by rfl):PA X (e :: es) (nQ te t):=by
 intro pos pins s σ H Q I h;rw [hs];show wpAny _ _ (spliced ((false,eval e X.env) :: backTo pos (starEach es X.env))) _ _ s;refine Calls.spliced_cons (thn (ha pins s σ H _ I h) λ u s1 ⟨x,H1,I1,r1,q1⟩=>?_);exact thn (hr pos pins s1 σ H1 _ I1 q1) λ us s2 ⟨xs,H2,I2,r2,q2⟩=>⟨x :: xs,H2,I2,.cons r1 r2,q2⟩
def tTup (t:TA):TE:=λ σ H Q=>t σ H λ xs H1=>xs.length<=sizeLine/\∀ p,H1 p=none->Q (.ref p) (upd H1 p (.tup xs))
def tLst (t:TA):TE:=λ σ H Q=>t σ H λ xs H1=>xs.length<=sizeLine/\∀ p,H1 p=none->Q (.ref p) (upd H1 p (.lst xs))
theorem mZ {x1} (h:PA X es t):PE X (.Tuple es x1 pos) (tTup t):=by
 intro pins s σ H Q I hq;refine wpAny_Tuple_spliced (thn (h pos pins s σ H _ I hq) λ us s1 ⟨xs,H1,I1,r,z,q⟩=>⟨by rw [← r.length]; exact z,?_⟩);have hf:H1 s1.heap.objs.size=none:=I1.hok.fresh (zF _);refine ⟨.ref s1.heap.objs.size,upd H1 s1.heap.objs.size (.tup xs),I1.laid (t':=s1.toks) (λ b u e=>zD _ e) (zF _) ?_,rfl,q _ hf⟩;exact ⟨z,us,r,⟨_,zU _ rfl,rfl,_,rfl⟩⟩
theorem kX (h:PA X es t):PE X (.List es pos) (tLst t):=by
 intro pins s σ H Q I hq;refine wpAny_List_spliced (thn (h pos pins s σ H _ I hq) λ us s1 ⟨xs,H1,I1,r,z,q⟩=>⟨by rw [← r.length]; exact z,?_⟩);have hf:H1 s1.heap.objs.size=none:=I1.hok.fresh (zF _);refine ⟨.ref s1.heap.objs.size,upd H1 s1.heap.objs.size (.lst xs),I1.laid (t':=s1.toks) (λ b u e=>zD _ e) (zF _) ?_,rfl,q _ hf⟩;exact ⟨z,us,0,r,zU _ rfl⟩
end
abbrev Sp:=List V->Hp->VK->XK->Prop
abbrev CXT:=List Env->Hp->Shared->XK->VP
structure Env0 (P:Program) (w:World) (K:Frag) (mg:MT) (base:Heap) (A:Around) (outer:List Env) (s:Shared) (H:Hp):Prop where
 frames:A.frames=some outer
 mod:Mod K mg base
 bs:∀ b o,base.get? b=some o->s.heap.get? b=some o/\H b=none
 bsz:base.objs.size<=s.heap.objs.size
 funs:s.heap.FunFrames base outer
 frf:∀ b∈frs outer,H b=none
 hok:HOk P w H s.heap
 bare:AllBare s.gens
def CE (outer:List Env) (P:Program) (w:World) (H:Hp) (s:Shared) (Q:VK) (u:Value) (s':Shared):Prop :=
 ∃ v H',s'.os=s.os/\AllBare s'.gens/\Un (frs outer) [] H H' s.heap s'.heap/\HOk P w H' s'.heap/\RelV v u/\Q v H'
def CR (CX:CXT) (outer:List Env) (P:Program) (w:World) (H:Hp) (s:Shared) (Q:VK) (E:XK) (r:Result) (s':Shared):Prop :=
 match r with
 | .ok (.ret u)=>CE outer P w H s Q u s'
 | .ok _=>False
 | .error e=>CX outer H s E e s'
structure FnOk (P:Program) (w:World) (K:Frag) (mg:MT) (base:Heap) (CX:CXT) (k:Nat) (f:Addr) (fd:FuncData) (ps:List Str) (sp:Sp):Prop where
 len:∀ vs H Q E,sp vs H Q E->vs.length=ps.length
 run:∀ (A:Around) (outer:List Env) (s:Shared) (H:Hp) (args:Args) (us:LW) (vs:List V) (Q:VK) (E:XK),Room k A->Env0 P w K mg base A outer s H->BindsTo s fd args (ps.zip us)->Vals vs us->sp vs H Q E ->
  codeAny (model P w) A (.call (.ref f) args) (CR CX outer P w H s Q E) s
theorem Env0.make {P:Program} {w:World} {K:Frag} {mg:MT} {base:Heap} {A:Around} {outer:List Env} {s:Shared} {H:Hp} (e:Env0 P w K mg base A outer s H) (C:Addr) (us:LW) (kw:List (Str × Value)) :
  Env0 P w K mg base (A.under (.builtin "type.__call__" ⟨.ref C :: us,kw⟩)) outer s H:=⟨by first | exact e.frames | (simpa [Around.under,Code.envs,Code.isFrame,pushEnvs] using e.frames),e.mod,e.bs,e.bsz,e.funs,e.frf,e.hok,e.bare⟩
section
variable {X:Cx} {pins:PN} {σ:St} {H:Hp} {s s':Shared}
theorem Inv.env0 (I:Inv X pins σ H s):Env0 X.prog X.w X.K X.mg X.base X.A X.stack s H :=
 ⟨I.ok.frames,I.ok.mod,I.bs,yC I.ok.bsz I.sz,I.stack,I.stkFree,I.hok,I.bare⟩
theorem Inv.after {Q:VK} {u:Value} (I:Inv X pins σ H s) (h:CE X.stack X.prog X.w H s Q u s'):EP X pins σ Q u s':=by
 obtain ⟨v,H',os,bare,un,hok,r,q⟩:=h;obtain ⟨hh,g,d,t,os'⟩:=s';obtain rfl:os'=s.os:=os;exact ⟨v,H',I.call (h':=hh) (g':=g) (d':=d) (t':=t) (ch:=[]) un hok bare (λ b z=>absurd z (by simp)),r,q⟩
end
def jF (sp:Sp) (dvs:List V) (E:XK) (t:TA):TE:=λ σ H Q=>t σ H λ vs H1=>sp (vs++dvs) H1 Q E
def bD (C:Addr) (m:Str) (sp:Sp) (dvs:List V) (E:XK) (ta:TE) (t:TA):TE:=λ σ H Q=>ta σ H λ x H1=>∃ a dx fs,x=.ref a/\H1 a=some (.ins C dx fs)/\fs.lookup m=none /\
 t σ H1 λ vs H2=>sp (x :: (vs++dvs)) H2 Q E
def Fg (C:Addr) (sp:Sp) (dvs:List V) (E:XK) (t:TA):TE:=λ σ H Q=>t σ H λ vs H1=>∀ x dx,H1 x=none->H1 dx=none->dx≠x ->
 sp (.ref x :: (vs++dvs)) (upd (upd H1 dx (.own x)) x (.ins C dx [])) (λ v H2=>v=.non/\Q (.ref x) H2) E
def nI (K:Frag) (fd:FuncData) (ps:List Str) (ds:LW):Prop :=
 ∀ (s:Shared) (us:LW),K.In s.heap->(us++ds).length=ps.length->BindsTo s fd ⟨us,[]⟩ (ps.zip (us++ds))
theorem nI.all {K:Frag} {fd:FuncData} {ps:List Str} (h:∀ us:LW,us.length=ps.length->bindArgs fd ⟨us,[]⟩=pure (ps.zip us)):nI K fd ps []:=λ s us _ hl=>by
 rw [vV] at hl ⊢;exact .of_eq (h us hl)
def gP (CX:CXT) (X:Cx) (E:XK):Prop:=∀ (pins:PN) (σ:St) (H:Hp) (s:Shared) (e:Value) (s':Shared),Inv X pins σ H s->CX X.stack H s E e s'->X.xe e s'
section
variable {X:Cx} {CX:CXT} {k:Nat} {f C:Addr} {fd:FuncData} {ps:List Str} {sp:Sp} {dvs:List V} {ds:LW} {E:XK} {x m:Str} {p pos apos:Pos} {e o:Expr} {es:List Expr} {ta:TE} {t:TA}
theorem Ff {pins:PN} {σ:St} {H:Hp} {s:Shared} {Q:VK} {us:LW} {vs:List V} (F:FnOk X.prog X.w X.K X.mg X.base CX k f fd ps sp) (hr:Room k X.A) (hb:nI X.K fd ps ds) (hd:Vals dvs ds) (hx:gP CX X E)
  (I:Inv X pins σ H s) (r:Vals vs us) (h:sp (vs++dvs) H Q E):wpAny (model X.prog X.w) X.A (call (.ref f) us) (EP X pins σ Q) X.xe s:=by
 have r2:Vals (vs++dvs) (us++ds):=r.append hd;have hl:(us++ds).length=ps.length:=by rw [← r2.length]; exact F.len _ _ _ _ h
 refine wpAny_call (sV (F.run X.A X.stack s H ⟨us,[]⟩ (us++ds) (vs++dvs) Q E hr I.env0 (hb s us I.kIn hl) r2 h) λ r s' hq=>?_);cases r with
 | error e=>exact hx pins σ H s e s' I hq
 | ok fl =>
  cases fl with
  | ret u=>exact I.after hq
  | next=>exact False.elim hq
  | brk=>exact False.elim hq
  | cont=>exact False.elim hq
theorem nB (F:FnOk X.prog X.w X.K X.mg X.base CX k f fd ps sp) (hr:Room k X.A) (hg:Gl X x) (hm:X.mg x=some (.ref f)) (hk:PySem.W.keepIn X.K (.ref f)=true) (hb:nI X.K fd ps ds) (hd:Vals dvs ds) (hx:gP CX X E)
  (ha:PA X (e :: es) t) (hdb:(x == ("__debug__" : Str))=false:=by decide) (he:starEach (e :: es) X.env=(false,eval e X.env) :: starEach es X.env:=by rfl) (hpl:(backTo pos (starEach es X.env)).any (·.1)=false:=by rfl) :
  PE X (.Call (.Name x p) (e :: es) [] pos) (jF sp dvs E t):=by
 intro pins s σ H Q I h;refine tN (cR I hg hm ?_ hdb);refine PySem.W.callWith_K (h₀:=X.base) I.ok.mod.kin hk (thn (ha pos pins s σ H _ I h) λ us s1 ⟨vs,H1,I1,r,q⟩=>⟨I1.kIn,?_⟩) he hpl;exact Ff F hr hb hd hx I1 r q
theorem Aa {pl:Sem Bool} (he:PE X o ta) (c:Cls X.K C) (hm:Meth X.K C m f) (F:FnOk X.prog X.w X.K X.mg X.base CX k f fd ps sp) (hr:Room k X.A) (hb:nI X.K fd ps ds) (hd:Vals dvs ds) (hx:gP CX X E)
  (ht:eval (.Call (.Attribute o m apos) [] [] pos) X.env=(do
   let ov ← eval o X.env
   standAt apos.atName
   let (f,first) ← holding [ov] (getMethod ov m pl)
   callWith pos f first (backTo pos (starEach [] X.env)) (backToKw pos (keywordEach [] X.env))):=by rfl) :
  PE X (.Call (.Attribute o m apos) [] [] pos) (bD C m sp dvs E ta tNil):=by
 intro pins s σ H Q I h;refine PySem.W.methodCall_KW (pl:=pl) (thn (he pins s σ H _ I h) λ u s1 ⟨x,H1,I1,rx,a,dx,fs,ex,ea,l,q⟩=>?_) ht;subst ex;obtain rfl:u=Value.ref a:=rx;refine Om I1 ea c hm l ?_;exact PySem.W.callWith_K0 (first:=[.ref a]) I1.kIn hm.kp (Ff (us:=[.ref a]) (vs:=[.ref a]) F hr hb hd hx I1 (.cons rfl .nil) q)
structure Mk (K:Frag) (C f:Addr):Prop where
 makes:PySem.W.makesIn K C=true
 init:PySem.W.findIn K (.ref C) "__init__" = some (some (.ref f))
 fn:PySem.W.isFn K (.ref f)=true
 kp:PySem.W.keepIn K (.ref C)=true
theorem Of {pins:PN} {σ:St} {H:Hp} {s:Shared} {Q:VK} {us:LW} {vs:List V} (M:Mk X.K C f) (F:FnOk X.prog X.w X.K X.mg X.base CX k f fd ps sp) (hr:Room (k+1) X.A) (hb:nI X.K fd ps ds) (hd:Vals dvs ds)
  (hx:gP CX X E) (I:Inv X pins σ H s) (r:Vals vs us)
  (h:∀ x dx,H x=none->H dx=none->dx≠x->sp (.ref x :: (vs++dvs)) (upd (upd H dx (.own x)) x (.ins C dx [])) (λ v H2=>v=.non/\Q (.ref x) H2) E) :
  wpAny (model X.prog X.w) X.A (call (.ref C) us) (EP X pins σ Q) X.xe s:=by
 have hq:=h (s.heap.objs.size+1) s.heap.objs.size (I.hok.fresh (Nat.le_succ _)) (I.hok.fresh (zF _)) (yA (sL _));have I2:=Inv.made (C:=C) I;have r2:Vals (V.ref (s.heap.objs.size+1) :: (vs++dvs)) (Value.ref (s.heap.objs.size+1) :: (us++ds)):=.cons rfl (r.append hd);have hl:(Value.ref (s.heap.objs.size+1) :: us++ds).length=ps.length:=by
  have e:=r2.length;rw [F.len _ _ _ _ hq] at e;exact e.symm
 refine wpAny_call (Op (f:=f) I.kIn M.makes M.init (zY.mp M.fn) (sV (F.run _ X.stack _ _ ⟨Value.ref (s.heap.objs.size+1) :: us,[]⟩ (Value.ref (s.heap.objs.size+1) :: (us++ds)) _ _ E (hr.make C us [])
  (I2.env0.make C us []) (hb _ (Value.ref (s.heap.objs.size+1) :: us) I2.kIn hl) r2 hq) λ r s' hq'=>?_))
 cases r with
 | error e=>exact hx pins σ _ _ e s' I2 hq'
 | ok fl =>
  cases fl with
  | ret u =>
   obtain ⟨v,H',I3,rv,ev,q3⟩:=I2.after hq';subst ev;exact ⟨rv,⟨V.ref (s.heap.objs.size+1),H',I3,rfl,q3⟩⟩
  | next=>exact False.elim hq'
  | brk=>exact False.elim hq'
  | cont=>exact False.elim hq'
theorem Oe (M:Mk X.K C f) (F:FnOk X.prog X.w X.K X.mg X.base CX k f fd ps sp) (hr:Room (k+1) X.A) (hg:Gl X x) (hm:X.mg x=some (.ref C)) (hb:nI X.K fd ps ds) (hd:Vals dvs ds) (hx:gP CX X E)
  (ha:PA X (e :: es) t) (hdb:(x == ("__debug__" : Str))=false:=by decide) (he:starEach (e :: es) X.env=(false,eval e X.env) :: starEach es X.env:=by rfl) (hpl:(backTo pos (starEach es X.env)).any (·.1)=false:=by rfl) :
  PE X (.Call (.Name x p) (e :: es) [] pos) (Fg C sp dvs E t):=by
 intro pins s σ H Q I h;refine tN (cR I hg hm ?_ hdb);refine PySem.W.callWith_K (h₀:=X.base) I.ok.mod.kin M.kp (thn (ha pos pins s σ H _ I h) λ us s1 ⟨vs,H1,I1,r,q⟩=>⟨I1.kIn,?_⟩) he hpl;exact Of M F hr hb hd hx I1 r q
end
section
variable {X:Cx} {CX:CXT} {k:Nat} {f C:Addr} {fd:FuncData} {ps ks:List Str} {sp:Sp} {E:XK} {x m:Str} {p pos apos kpos:Pos} {e o:Expr} {es:List Expr} {kws:List Keyword} {te ta:TE} {t tk:TA} {nm:Option Str}
variable {g:LW->LW->LW} {gV:List V->List V->List V}
end
structure nL (N P:List Str) (sc:Scope):Prop where
 kind:sc.kind=.function
 co:sc.isCoroutine=false
 gen:sc.isGenerator=false
 nd:N.Nodup
 pre:N.take P.length=P
 par:∀ x∈P,sc.names.lookup x=some .local\/sc.names.lookup x=some .cell
 nofree:∀ y∈sc.names,y.2≠.free
theorem Fe {kindOf:Str->Option NameKind} {x:Str}:∀ {binds:List (Str × Value)} {m:MT},(∀ v,(x,v) ∉ binds)->bindL kindOf binds m x=m x
 | [],_,_=>rfl
 | (n,v) :: r,m,h=>by
  unfold bindL;rw [Fe λ w hw=>h w (zK _ hw)];split
  ·have:x≠n:=by rintro rfl; exact h v zS
   simp [this]
  ·rfl
theorem Fd {kindOf:Str->Option NameKind} {x:Str}:∀ {binds:List (Str × Value)} {m:MT},(∀ v,(x,v) ∉ binds)->bindC kindOf binds m x=m x
 | [],_,_=>rfl
 | (n,v) :: r,m,h=>by
  unfold bindC;rw [Fd λ w hw=>h w (zK _ hw)];split
  ·rfl
  ·have:x≠n:=by rintro rfl; exact h v zS
   simp [this]
theorem Fc {kindOf:Str->Option NameKind} {x:Str} {v:Value}:∀ {P:List Str} {vs:LW} {i:Nat} {m:MT},P.Nodup->P[i]?=some x->vs[i]?=some v->kindOf x=some .local ->
  bindL kindOf (P.zip vs) m x=some v
 | [],_,_,_,_,h,_,_=>by simp at h
 | _ :: _,[],_,_,_,_,h,_=>by simp at h
 | p :: P,w :: vs,0,m,nd,h1,h2,hk=>by
  simp at h1 h2; subst h1; subst h2;show bindL kindOf ((p,w) :: P.zip vs) m p=_;unfold bindL;rw [Fe λ v hv=>(xM.mp nd).1 (rD hv).1,if_pos hk];simp
 | p :: P,w :: vs,i+1,m,nd,h1,h2,hk=>by
  show bindL kindOf ((p,w) :: P.zip vs) m x=_;unfold bindL;exact Fc (i:=i) (xM.mp nd).2 (by simpa using h1) (by simpa using h2) hk
theorem Fb {kindOf:Str->Option NameKind} {x:Str} {v:Value}:∀ {P:List Str} {vs:LW} {i:Nat} {m:MT},P.Nodup->P[i]?=some x->vs[i]?=some v->kindOf x≠some .local ->
  bindC kindOf (P.zip vs) m x=some v
 | [],_,_,_,_,h,_,_=>by simp at h
 | _ :: _,[],_,_,_,_,h,_=>by simp at h
 | p :: P,w :: vs,0,m,nd,h1,h2,hk=>by
  simp at h1 h2; subst h1; subst h2;show bindC kindOf ((p,w) :: P.zip vs) m p=_;unfold bindC;rw [Fd λ v hv=>(xM.mp nd).1 (rD hv).1,if_neg hk];simp
 | p :: P,w :: vs,i+1,m,nd,h1,h2,hk=>by
  show bindC kindOf ((p,w) :: P.zip vs) m x=_;unfold bindC;exact Fb (i:=i) (xM.mp nd).2 (by simpa using h1) (by simpa using h2) hk
noncomputable def jV (N:List Str) (vs:List V):St:=vs.map some++List.replicate (N.length - vs.length) none
noncomputable def cxOf (CX:CXT) (P:Program) (w:World) (K:Frag) (mg:MT) (base:Heap) (N:List Str) (qual:Str) (scope:Scope) (f:Addr) (cd:Value) (A:Around) (outer:List Env) (s:Shared) (H:Hp) (E:XK):Cx where
 prog:=P
 w:=w
 K:=K
 mg:=mg
 base:=base
 A:=A.deeper (envOfC qual scope s.heap.objs.size f cd)
 N:=N
 s₀:=s
 H₀:=H
 env:=envOfC qual scope s.heap.objs.size f cd
 outer:=outer
 stack:=envOfC qual scope s.heap.objs.size f cd :: outer
 ex:=[]
 calm:=true
 fn:=λ _=>true
 pn:=[]
 xe:=λ e s'=>wpAny (model P w) (A.deeper (envOfC qual scope s.heap.objs.size f cd)) (leaving (envOfC qual scope s.heap.objs.size f cd) e) (λ _ s''=>CX outer H s E e s'') (λ e' s''=>CX outer H s E e' s'') s'
theorem Fa {sc:Scope} {n:Nat} {x:Str} (h:sc.names.lookup x=some .cell):∃ c,(cellsFrom n sc.names []).lookup x=some c:=by
 have q:=oM sc.names n [] (.inl h);exact Option.isSome_iff_exists.mp q
theorem Od {CX:CXT} {P:Program} {w:World} {K:Frag} {mg:MT} {base:Heap} {N ps:List Str} {qual:Str} {scope:Scope} {f:Addr} {cd:Value} {A:Around} {outer:List Env} {s s1:Shared} {H:Hp} {E:XK} {us:LW} {vs:List V}
  (S:nL N ps scope) (hd:A.handled=none) (e0:Env0 P w K mg base A outer s H) (hl:vs.length=ps.length) (r:Vals vs us)
  (x:InCallC s s.heap.objs.size (bindL (envOfC qual scope s.heap.objs.size f cd).kindOf (ps.zip us) λ _=>none) (cellsFrom (s.heap.objs.size+1) scope.names []) (bindC (envOfC qual scope s.heap.objs.size f cd).kindOf (ps.zip us) λ _=>none) s1) :
  Inv (cxOf CX P w K mg base N qual scope f cd A outer s H E) [] (jV N vs) H s1:=by
 have hpl:ps.length<=N.length:=by have:=xZ List.length S.pre; rw [xA] at this; omega
 obtain ⟨h1,tk,rfl,hk⟩:=x.done;have noA:∀ b:Addr,b ∉ (cxOf CX P w K mg base N qual scope f cd A outer s H E).ex:=λ b z=>absurd (show b∈([]:LA) from z) (by simp);refine ⟨⟨e0.mod,S.kind,rfl,rfl,zF _,λ y z c h1 h2=>?_,λ y hy=>?_,λ y c _ h=>?_,λ _=>hd,Around.frames_deeper e0.frames,.inr ⟨rfl,rfl⟩,λ b z=>absurd z (noA b),e0.bs,e0.bsz,λ b _ _=>noA b,λ b z=>absurd z (noA b),e0.funs,e0.frf⟩,
  rfl,e0.bare,Un.kept hk,⟨_,x.toInCall.ns,λ i y v h1 h2 h3=>?_⟩,λ y c h=>⟨_,x.cell y c h⟩,e0.hok.fresh (zF _),λ y c h=>?_,λ p hp=>absurd (show p∈([]:PN) from hp) (by simp),e0.hok.kept hk,?_⟩
 ·exact name_of_addr x.apart (vF h1) (vF h2)
 ·have hy:scope.names.lookup y=some .cell\/scope.names.lookup y=some .free:=hy;rcases hy with hy | hy
  ·exact Fa hy
  ·exact absurd rfl (S.nofree _ (vF hy))
 ·exact xU (x.above y c (vF h))
 ·have hi:i < vs.length:=by
   unfold jV at h2
   by_cases hi:i < vs.length
   ·exact hi
   ·rw [zZ (by simpa using hi)] at h2;rw [oA] at h2;split at h2 <;> cases h2
  have ha:vs[i]?=some v:=by
   unfold jV at h2;rw [yK (by simpa using hi),zB] at h2;cases e:vs[i]? with
   | none=>rw [e] at h2; cases h2
   | some a=>rw [e] at h2; cases h2; rfl
  obtain ⟨u,hu,rv⟩:=r.get ha;have hp:ps[i]?=some y:=by
   rw [← S.pre,pS ⋯]; exact h1
  have ndP:ps.Nodup:=by rw [← S.pre]; exact S.nd.sublist (List.take_sublist _ _)
  refine ⟨u,rv,?_⟩;rcases S.par y (yD hp) with k | k
  ·exact .inl ⟨k,Fc ndP hp hu k⟩
  ·obtain ⟨c,e⟩:=Fa (n:=s.heap.objs.size+1) k;refine .inr ⟨.inl k,c,e,?_⟩;have q:=x.cell y c e;rw [Fb ndP hp hu (by show scope.names.lookup y≠_; rw [k]; decide)] at q;exact q
 ·exact e0.hok.fresh (xU (x.above y c (vF h)))
 ·unfold jV;show _=N.length;rw [yB,yL,rG];omega
theorem Bz {CX:CXT} {P:Program} {w:World} {K:Frag} {mg:MT} {base:Heap} {k:Nat} {f:Addr} {name qual:Str} {params:Arguments} {body:List Stmt} {scope:Scope} {dV kV doc pm cdv ct oc:Value} {an od:Option Addr}
  {osl:Array (Option Value)} {N ps:List Str} {sp:Sp} (lk:K.lookup f=some ⟨oc,od,.func (PySem.W.fnOf name qual params body scope dV kV doc pm an cdv ct),osl⟩) (hcd:PySem.W.codeIn K cdv qual=true) (S:nL N ps scope)
  (len:∀ vs H Q E,sp vs H Q E->vs.length=ps.length)
  (hbody:∀ (A:Around) (outer:List Env) (s:Shared) (H:Hp) (vs:List V) (Q:VK) (E:XK),Room k (A.deeper (envOfC qual scope s.heap.objs.size f cdv))->sp vs H Q E ->
   ∃ t,PSs (cxOf CX P w K mg base N qual scope f cdv A outer s H E) body t/\t { nx:=λ _ H'=>Q .non H',rt:=Q } (jV N vs) H) :
  FnOk P w K mg base CX (k+1) f (PySem.W.fnOf name qual params body scope dV kV doc pm an cdv ct) ps sp:=by
 refine ⟨len,λ A outer s H args us vs Q E hr e0 hb r hsp=>?_⟩;have hl:=len _ _ _ _ hsp;have KX:K.In s.heap:=e0.mod.kin.keeps λ b o e=>(e0.bs b o e).1;have lim:s.heap.NoLimit:=e0.mod.nolimit.keeps λ b o e=>(e0.bs b o e).1;have hkind:∀ y∈ps.zip us,scope.names.lookup y.1=some .local\/(scope.names.lookup y.1=some .cell/\((cellsFrom (s.heap.objs.size+1) scope.names []).lookup y.1).isSome=true):=λ ⟨n,v⟩ hy=>by
  rcases S.par n (rD hy).1 with q | q
  ·exact .inl q
  ·exact .inr ⟨q,oM _ _ _ (.inl q)⟩
 refine codeAny_call_function hr.depth (KX _ _ lk) rfl S.co S.gen rfl (PySem.W.codeRec_of KX hcd) (hb _ _ _ _ ?_);refine wpAny_newFunctionEnv_cells S.kind hkind λ env he s1 x=>?_;subst he;refine ⟨lim.keeps x.toInCall.keep,codeAny_func ?_⟩;obtain ⟨t,ht,hq⟩:=hbody A outer s H vs Q E (hr.deeper _) hsp;have I:Inv (cxOf CX P w K mg base N qual scope f cdv A outer s H E) [] (jV N vs) H s1:=Od S hr.hd e0 hl r x;refine xG (ht [] s1 (jV N vs) H _ I hq) (λ fl s' hs=>?_) λ e s' hs=>hs;have fin:∀ {σ':St} {H':Hp} {v:V} {u:Value},Inv (cxOf CX P w K mg base N qual scope f cdv A outer s H E) [] σ' H' s'->RelV v u->Q v H'->CE outer P w H s Q u s' :=
  λ {σ' H' v u} J rv q=>⟨v,H',J.os,J.bare,J.base,J.hok,rv,q⟩
 cases fl with
 | ret u =>
  obtain ⟨v,σ',H',J,rv,q⟩:=hs;exact fin J rv q
 | next =>
  obtain ⟨σ',H',J,q⟩:=hs;exact fin (v:=V.non) (u:=Value.none) J rfl q
 | brk =>
  obtain ⟨_,_,_,q⟩:=hs;exact False.elim q
 | cont =>
  obtain ⟨_,_,_,q⟩:=hs;exact False.elim q
section
variable {X:Cx} {x:Str} {p pos:Pos} {e:Expr} {es:List Expr} {t:TA} {id T:String} {r:List V->Hp->VK->Prop}
def tCB (r:List V->Hp->VK->Prop) (t:TA):TE:=λ σ H Q=>t σ H λ vs H1=>r vs H1 Q
theorem nK (hc:kA X (.builtin id) r) (hg:Gl X x) (hm:X.mg x=none) (hv:bootBuiltins x=some (.builtin id)) (ha:PA X (e :: es) t) (hn:x ≠ "__name__" := by decide) (hdb:(x == ("__debug__" : Str))=false:=by decide)
  (he:starEach (e :: es) X.env=(false,eval e X.env) :: starEach es X.env:=by rfl) (hpl:(backTo pos (starEach es X.env)).any (·.1)=false:=by rfl):PE X (.Call (.Name x p) (e :: es) [] pos) (tCB r t):=by
 intro pins s σ H Q I h;refine tN (gM I hg hm hv ?_ hn hdb);exact PyProof.Rows.callWith_builtin1 (thn (ha pos pins s σ H _ I h) λ us s1 ⟨vs,H1,I1,r1,q1⟩=>hc pins s1 σ H1 vs us Q I1 r1 q1) he hpl
theorem lJ (hc:kA X (.type T) r) (hg:Gl X x) (hm:X.mg x=none) (hv:bootBuiltins x=some (.type T)) (ha:PA X (e :: es) t) (hn:x ≠ "__name__" := by decide) (hdb:(x == ("__debug__" : Str))=false:=by decide)
  (he:starEach (e :: es) X.env=(false,eval e X.env) :: starEach es X.env:=by rfl) (hpl:(backTo pos (starEach es X.env)).any (·.1)=false:=by rfl):PE X (.Call (.Name x p) (e :: es) [] pos) (tCB r t):=by
 intro pins s σ H Q I h;refine tN (gM I hg hm hv ?_ hn hdb);exact wQ (thn (ha pos pins s σ H _ I h) λ us s1 ⟨vs,H1,I1,r1,q1⟩=>hc pins s1 σ H1 vs us Q I1 r1 q1) he hpl
end
end L2
namespace HT
open PySem PyProof.Rows
section
open PySem.SeqAt
open PySem.AutoSeq1 (wpAny_loadPart')
open PySem.MeetsSeq PySem.MeetsSeq2 PySem.MeetsSeq3
end
section
variable {prog:Program} {w:World} {A:Around} {E:VP} {s:Shared}
noncomputable def sIx (n d:Nat):Option Int->Nat
 | none=>d
 | some v=>if v < 0 then (v+(n:Int)).toNat else min v.toNat n
theorem sIx_none (n d:Nat):sIx n d none=d:=rfl
theorem sIx_nat (n d k:Nat):sIx n d (some (k:Int))=min k n:=by
 show (if (k:Int) < 0 then ((k:Int)+(n:Int)).toNat else min (k:Int).toNat n)=min k n;rw [if_neg ⋯,zV]
theorem Oc (n d:Nat) (hd:d<=n) (o:Option Int):sIx n d o<=n:=by
 cases o with
 | none=>exact hd
 | some v =>
  show (if v < 0 then (v+(n:Int)).toNat else min v.toNat n)<=n
  by_cases hv:v < 0
  ·rw [if_pos hv]; omega
  ·rw [if_neg hv]; exact Nat.min_le_right _ _
theorem Gz (v:Int) (n d:Nat):(if v < 0 then max (v+(n:Int)) 0 else min v (n:Int))=((sIx n d (some v):Nat):Int):=by
 show (if v < 0 then max (v+(n:Int)) 0 else min v (n:Int))=(((if v < 0 then (v+(n:Int)).toNat else min v.toNat n):Nat):Int)
 by_cases hv:v < 0
 ·simp only [if_pos hv]; omega
 ·simp only [if_neg hv]; omega
theorem Ob (lo hi:Option Int) (n:Nat):Builtin.Slice.sliceAdjust lo hi 1 (n:Int)=(((sIx n 0 lo:Nat):Int),((sIx n n hi:Nat):Int)):=by
 have h1:¬ ((1:Int) < 0):=⋯
 unfold Builtin.Slice.sliceAdjust;simp only [h1,if_false];refine Prod.ext ?_ ?_
 ·cases lo with
  | none=>rfl
  | some v=>exact Gz v n 0
 ·cases hi with
  | none=>rfl
  | some v=>exact Gz v n n
theorem Oa (i j:Nat):Builtin.Slice.slicePlaces (i:Int) (j:Int) 1=j - i:=by
 unfold Builtin.Slice.slicePlaces;have h1:(1:Int) > 0:=⋯
 simp only [h1,if_true,Int.ediv_one];split <;> omega
theorem Gy {v:Value} {o:Option Int} {Q:Option Int->Shared->Prop} (p:IsPart v o) (h:Q o s):wpAny (model prog w) A (Builtin.Slice.slicePartIndex v) Q E s:=by
 cases p with
 | none=>exact slicePart_none h
 | int i t=>exact slicePart_int h
theorem Pz {sl:Addr} {vl vu:Value} {lo hi:Option Int} {n:Nat} {Q:Int × Int × Nat->Shared->Prop} (hs:s.heap.IsSliceOf sl vl vu .none) (pl:IsPart vl lo) (pu:IsPart vu hi)
  (h:Q (((sIx n 0 lo:Nat):Int),1,sIx n n hi - sIx n 0 lo) s):wpAny (model prog w) A (Builtin.Slice.sliceApplied (.ref sl) (pure (n:Int))) Q E s:=by
 obtain ⟨os,hos,hcs,hds⟩:=id hs;unfold Builtin.Slice.sliceApplied Builtin.Slice.sliceFields;refine zA (zA (wA hos hds (x:=vl) rfl (zA (wA hos hds (x:=vu) rfl (zA (wA hos hds (x:=.none) rfl (zC ?_)))))));refine zA (slicePart_none ?_);show wpAny _ _ (if ((1:Int) == 0)=true then _ else _) _ _ s;rw [if_neg ∅];refine zA (Gy pl (zA (Gy pu (zA (zC ?_)))));show wpAny _ _ (match Builtin.Slice.sliceAdjust lo hi 1 (n:Int) with | (lo,hi)=>pure (lo,(1:Int),Builtin.Slice.slicePlaces lo hi 1)) _ _ s;rw [Ob lo hi n];show wpAny _ _ (pure (((sIx n 0 lo:Nat):Int),(1:Int),Builtin.Slice.slicePlaces ((sIx n 0 lo:Nat):Int) ((sIx n n hi:Nat):Int) 1)) _ _ s;rw [Oa];exact zC h
theorem Py (xs:Array Value) (i k:Nat):((List.range k).filterMap λ (m:Nat)=>xs[((i:Int)+(m:Int)*1).toNat]?).toArray=((xs.toList.drop i).take k).toArray:=by
 have e:(λ (m:Nat)=>xs[((i:Int)+(m:Int)*1).toNat]?)=λ m=>xs[i+m]?:=by
  funext m
  have:((i:Int)+(m:Int)*1).toNat=i+m:=⋯
  rw [this]
 rw [e];have:=pick_run xs i k;rw [List.filterMap_map] at this;have e2:((λ x=>xs[x]?) ∘ λ x=>i+x)=λ m=>xs[i+m]?:=rfl;rw [e2] at this;rw [this]
theorem getItem_tuple_cut {t sl:Addr} {items:Array Value} {vl vu:Value} {lo hi:Option Int} {Q:VP} (ht:IsTup s.heap t items) (hs:s.heap.IsSliceOf sl vl vu .none) (pl:IsPart vl lo) (pu:IsPart vu hi)
  (hw:¬ (sIx items.size 0 lo=0/\sIx items.size items.size hi=items.size))
  (h:Q (.ref s.heap.objs.size) { s with heap:=s.heap.push { cls:=.type "tuple",data:=.seq ((items.toList.drop (sIx items.size 0 lo)).take (sIx items.size items.size hi - sIx items.size 0 lo)).toArray } })
  (hsz:items.size<=sizeLine):wpAny (model prog w) A (getItem (.ref t) (.ref sl)) Q E s:=by
 have htake:sizeOk (.seq ((items.toList.drop (sIx items.size 0 lo)).take (sIx items.size items.size hi - sIx items.size 0 lo)).toArray):=by
  show ((items.toList.drop (sIx items.size 0 lo)).take (sIx items.size items.size hi - sIx items.size 0 lo)).toArray.size<=sizeLine;rw [zW,xA,uS,zN];omega
 have hj:sIx items.size items.size hi<=items.size:=Oc _ _ (zF _) hi;obtain ⟨os,hos,hcs,hds⟩:=id hs;have hTs:s.TypeIs (.ref sl) "slice" := ⟨os,hos,hcs⟩;unfold getItem
 try with_reducible refine xT ?_
 first | refine zA (zC ?_) | skip
 refine zA (wpAny_sequenceKey ht.typeIs ∅ ?_);refine zA (wB (name:=Str.ofString "__getitem__") ht.typeIs qN
  (xN qN ht.typeIs entry_tuple_getitem ?_ (args_tuple_getitem _ _)))
 show wpAny _ _ (Builtin.Tuple.tupleItemsOf (.ref t) >>= _) _ _ s;refine zA (tupleItemsOf_ ht ?_);refine zA (tF hTs ?_);rw [if_pos ∅];refine zA (Pz hs pl pu ?_);have hno:¬ ((((sIx items.size 0 lo:Nat):Int) == 0 && (1:Int) == 1 && (sIx items.size items.size hi - sIx items.size 0 lo) == items.size)=true):=by
  intro q;rw [zO,zO] at q;have q1:((sIx items.size 0 lo:Nat):Int)=0:=yQ q.1.1;have q2:sIx items.size items.size hi - sIx items.size 0 lo=items.size:=yQ q.2;exact hw ⟨⋯,⋯⟩
 show wpAny _ _ (if (((sIx items.size 0 lo:Nat):Int) == 0 && (1:Int) == 1 && (sIx items.size items.size hi - sIx items.size 0 lo) == items.size)=true then _ else _) _ _ s;rw [if_neg hno,Py]
 first
  | exact zA (m:=Builtin.Tuple.tupleExact _) (xJ (zC ⟨_,rfl,zC h⟩) htake)
  | exact zA (m:=Builtin.Tuple.tupleExact _) (xJ (zA (zC (zC ⟨_,rfl,zC h⟩))) htake)
  | exact zA (zA (m:=Builtin.Tuple.tupleExact _) (xJ (zC (zC ⟨_,rfl,zC h⟩)) htake))
  | exact zA (zA (m:=Builtin.Tuple.tupleExact _) (xJ (zC ⟨_,rfl,zC h⟩) htake))
end
end HT
namespace L2
open PySem PySem.Spec PyProof.Rows
open PySem.W (Frag)
abbrev TO:=St->Hp->(Option Int->Hp->Prop)->Prop
def PO (X:Cx) (e:Option Expr) (t:TO):Prop :=
 ∀ (pins:PN) (s:Shared) (σ:St) (H:Hp) (Q:Option Int->Hp->Prop),Inv X pins σ H s->t σ H Q ->
  wpAny (model X.prog X.w) X.A (evalPart e X.env) (λ u s'=>∃ o H',Inv X pins σ H' s'/\IsPart u o/\Q o H') X.xe s
def By:TO:=λ _ H Q=>Q none H
def Bx (t:TE):TO:=λ σ H Q=>t σ H λ x H1=>∃ i,x=.int i/\Q (some i) H1
section
variable {X:Cx} {e:Expr} {te:TE} {lo hi:Option Expr} {tl th:TO} {pos p2:Pos}
theorem Gx:PO X none By:=by
 intro pins s σ H Q I h;rw [evalPart_none];exact zC ⟨none,H,I,.none,h⟩
theorem iX (h:PE X e te):PO X (some e) (Bx te):=by
 intro pins s σ H Q I hw;rw [evalPart_some];refine thn (h pins s σ H _ I hw) λ u s1 ⟨x,H1,I1,r1,q1⟩=>?_;obtain ⟨i,rfl,q⟩:=q1;obtain ⟨t,rfl⟩:=r1;exact ⟨some i,H1,I1,.int i t,q⟩
def SlR (X:Cx) (r:V->Option Int->Option Int->Hp->VK->Prop):Prop :=
 ∀ (pins:PN) (s:Shared) (σ:St) (H:Hp) (x:V) (v vl vu:Value) (lo hi:Option Int) (sl:Addr) (Q:VK),Inv X pins σ H s->RelV x v->s.heap.IsSliceOf sl vl vu .none->IsPart vl lo->IsPart vu hi->r x lo hi H Q ->
  ∃ T id,typeLookup (.type T) "__getitem__" = pure (some (.builtin id))/\s.TypeIs v T/\wpAny (model X.prog X.w) X.A (getItem v (.ref sl)) (EP X pins σ Q) X.xe s
def tSl (r:V->Option Int->Option Int->Hp->VK->Prop) (te:TE) (tl th:TO):TE:=λ σ H Q=>te σ H λ x H1=>tl σ H1 λ l H2=>th σ H2 λ u H3=>r x l u H3 Q
theorem eX {r:V->Option Int->Option Int->Hp->VK->Prop} (hr:SlR X r) (he:PE X e te) (hl:PO X lo tl) (hu:PO X hi th):PE X (.Subscript e (.Slice lo hi none p2) pos) (tSl r te tl th):=by
 intro pins s σ H Q I h;refine Subscript_ (thn (he pins s σ H _ I h) λ v s1 ⟨x,H1,I1,r1,q1⟩=>?_);refine wpAny_Slice (thn (hl pins s1 σ H1 _ I1 q1) λ vl s2 ⟨l,H2,I2,pl,q2⟩=>thn (hu pins s2 σ H2 _ I2 q2) λ vu s3 ⟨u,H3,I3,pu,q3⟩=>?_);rw [evalPart_none];refine zC ?_;have I4:Inv X pins σ H3 { s3 with heap:=s3.heap.push { cls:=.type "slice",data:=.fields #[vl,vu,.none] } }:=I3.kept (t':=s3.toks) λ b ob q=>zD _ q;obtain ⟨T,id,hT,ht,hg⟩:=hr pins { s3 with heap:=s3.heap.push { cls:=.type "slice",data:=.fields #[vl,vu,.none] } } σ H3 x v vl vu l u s3.heap.objs.size Q I4 r1 (Heap.IsSliceOf.new ..) pl pu q3;show wpAny (model X.prog X.w) X.A (subscriptTail e (.Slice lo hi none p2) v (.ref s3.heap.objs.size)) (EP X pins σ Q) X.xe { s3 with heap:=s3.heap.push { cls:=.type "slice",data:=.fields #[vl,vu,.none] } };exact tail_any (ops:=[.ref s3.heap.objs.size,v]) ht hT hg (by with_unfolding_all rfl)
noncomputable def cutV (xs:List V) (lo hi:Option Int):List V:=(xs.drop (HT.sIx xs.length 0 lo)).take (HT.sIx xs.length xs.length hi - HT.sIx xs.length 0 lo)
theorem Gw (xs:List V) (lo hi:Option Int):(cutV xs lo hi).length<=xs.length:=by
 unfold cutV;rw [xA,uS];omega
def rSlT (K:Frag):V->Option Int->Option Int->Hp->VK->Prop:=λ x lo hi H Q=>∃ a xs,x=.ref a/\SqT K H a xs /\
 ¬ (HT.sIx xs.length 0 lo=0/\HT.sIx xs.length xs.length hi=xs.length)/\∀ p,H p=none->Q (.ref p) (upd H p (.tup (cutV xs lo hi)))
theorem Px:SlR X (rSlT X.K):=by
 intro pins s σ H x v vl vu lo hi sl Q I rx hs pl pu h;obtain ⟨a,xs,rfl,hx,hw,q⟩:=h;cases rx;obtain ⟨its,r,ht,hz⟩:=I.tuple hx;have hlen:its.toArray.size=xs.length:=by rw [zW]; exact r.length.symm
 refine ⟨"tuple",_,PyProof.Rows.slot_tuple_getitem.lookup,ht.typeIs,?_⟩;refine HT.getItem_tuple_cut ht hs pl pu (by rw [hlen]; exact hw) ?_ (by rw [hlen]; exact hz);rw [hlen];refine ⟨.ref s.heap.objs.size,_,I.laid (t':=s.toks) (o:=.tup (cutV xs lo hi)) (λ b ob q=>zD _ q) (zF _) ?_,rfl,q _ (I.hok.fresh (zF _))⟩;exact ⟨yC (Gw xs lo hi) hz,_,(r.drop (HT.sIx xs.length 0 lo)).take (HT.sIx xs.length xs.length hi - HT.sIx xs.length 0 lo),IsTup.new _ _⟩
end
noncomputable def ixN (n:Nat) (i:Int):Option Nat:=if 0<=i then (if i < n then some i.toNat else none) else if -(n:Int)<=i then some (i+n).toNat else none
noncomputable def atI {α:Type} (xs:List α) (i:Int):Option α:=(ixN xs.length i).bind λ j=>xs[j]?
theorem Gv {n:Nat} {i:Int} {j:Nat} (h:ixN n i=some j):seqIndex? i n=some j/\j < n/\-(n:Int)<=i/\i < n:=by
 unfold ixN at h
 by_cases h0:0<=i
 ·rw [if_pos h0] at h
  by_cases h1:i < n
  ·rw [if_pos h1] at h;have e:i.toNat=j:=zT h;exact ⟨by rw [seqIndex_of h0 h1,e],⋯,⋯,h1⟩
  ·rw [if_neg h1] at h; cases h
 ·rw [if_neg h0] at h
  by_cases h1:-(n:Int)<=i
  ·rw [if_pos h1] at h;have e:(i+n).toNat=j:=zT h;exact ⟨by rw [oG ⋯ h1,e],⋯,h1,⋯⟩
  ·rw [if_neg h1] at h; cases h
theorem Gu {α:Type} {xs:List α} {i:Int} {v:α} (h:atI xs i=some v):∃ j,seqIndex? i xs.length=some j/\xs[j]?=some v/\j < xs.length/\-(xs.length:Int)<=i/\i < xs.length:=by
 unfold atI at h;cases e:ixN xs.length i with
 | none=>rw [e] at h; cases h
 | some j =>
  rw [e] at h;obtain ⟨h1,h2,h3,h4⟩:=Gv e;exact ⟨j,h1,h,h2,h3,h4⟩
theorem Pw {α:Type} {xs:List α} {j:Nat} {v:α} (h:xs[j]?=some v):atI xs (j:Int)=some v:=by
 have hj:j < xs.length:=(zR.mp h).1;have e:ixN xs.length (j:Int)=some j:=by
  unfold ixN;rw [if_pos ⋯,if_pos ⋯]; simp
 unfold atI; rw [e]; exact h
def Pu (b:Expr):Prop:=∀ o i,subscripted b false o i=operate [o,i] (getItem o i)
def IxR (X:Cx) (r:R2):Prop :=
 ∀ (value slice:Expr) (pins:PN) (s:Shared) (σ:St) (H:Hp) (x y:V) (v u:Value) (Q:VK),Inv X pins σ H s->RelV x v->RelV y u->r x y H Q ->
  subscripted slice false v u=operate [v,u] (getItem v u)->wpAny (model X.prog X.w) X.A (subscriptTail value slice v u) (EP X pins σ Q) X.xe s
def MtR (X:Cx) (id:String) (r:V->List V->Hp->VK->Prop):Prop :=
 ∀ (pins:PN) (s:Shared) (σ:St) (H:Hp) (x:V) (xs:List V) (v:Value) (us:LW) (Q:VK),Inv X pins σ H s->RelV x v->Vals xs us->r x xs H Q ->
  wpAny (model X.prog X.w) X.A (call (.builtin id) (v :: us)) (EP X pins σ Q) X.xe s
section
variable {X:Cx} {a b:Expr} {ta tb:TE} {pos:Pos}
theorem oT {r:R2} (hr:IxR X r) (ha:PE X a ta) (hb:PE X b tb) (hs:Pu b):PE X (.Subscript a b pos) (tOp r ta tb):=by
 intro pins s σ H Q I h;exact Subscript_ (binT ha hb I h λ v u s2 x y H2 I2 rx ry q=>hr a b pins s2 σ H2 x y v u Q I2 rx ry q (hs _ _))
def rIxL (K:Frag):R2:=λ x y H Q=>∃ p xs i v,x=.ref p/\y=.int i/\SqL K H p xs/\atI xs i=some v/\Q v H
def rIxT (K:Frag):R2:=λ x y H Q=>∃ p xs i v,x=.ref p/\y=.int i/\SqT K H p xs/\atI xs i=some v/\Q v H
theorem Pt:IxR X (rIxL X.K):=by
 intro value slice pins s σ H x y v u Q I rx ry h hs;obtain ⟨p,xs,i,z,rfl,rfl,hq,he,q⟩:=h;cases rx;obtain ⟨t,rfl⟩:=ry;obtain ⟨its,r,pl,hz⟩:=I.list hq;obtain ⟨j,h1,h2,h3,h4,h5⟩:=Gu he;obtain ⟨w,ew,rw'⟩:=r.get h2;have hl:=r.length;have hn:=cX;have fin:EP X pins σ Q w s:=⟨z,H,I,rw',q⟩
 by_cases h0:0<=i
 ·have hj:i.toNat=j:=by
   rw [seqIndex_of h0 h5] at h1;exact zT h1
  exact item_listR pl.isList h0 ⋯ (by rw [hj]; simpa using ew) fin hs
 ·have hj:(i+(its.toArray.size:Int)).toNat=j:=by
   rw [oG ⋯ h4] at h1;rw [zW,← hl];exact zT h1
  exact rA (x:=w) pl.isList.typeIs slot_list_getitem.lookup
   (wpAny_getItem_list_neg (Q:=λ r s'=>r=w/\EP X pins σ Q r s') pl.isList ⋯ (by rw [zW] <;> omega) ⋯ (by rw [hj]; simpa using ew) ⟨rfl,fin⟩) hs
theorem Ps:IxR X (rIxT X.K):=by
 intro value slice pins s σ H x y v u Q I rx ry h hs;obtain ⟨p,xs,i,z,rfl,rfl,hq,he,q⟩:=h;cases rx;obtain ⟨t,rfl⟩:=ry;obtain ⟨its,r,pl,hz⟩:=I.tuple hq;obtain ⟨j,h1,h2,h3,h4,h5⟩:=Gu he;obtain ⟨w,ew,rw'⟩:=r.get h2;have hl:=r.length;have hn:=cX;have fin:EP X pins σ Q w s:=⟨z,H,I,rw',q⟩;exact rA (x:=w) pl.typeIs slot_tuple_getitem.lookup
  (getItem_tuple (j:=j) (Q:=λ r s'=>r=w/\EP X pins σ Q r s') pl ⋯ ⋯ (by rw [zW,← hl]; exact h1) (by simpa using ew) ⟨rfl,fin⟩) hs
theorem Pr (its:LW) (n j:Nat) (u:Value):Obj.mapSeq (·.setIfInBounds j u) { cls:=.type "list",data:=.seq its.toArray n }={ cls:=.type "list",data:=.seq (its.set j u).toArray n }:=by
 simp [Obj.mapSeq]
theorem Inv.lst {pins:PN} {σ:St} {H:Hp} {s:Shared} {p:Addr} {xs:List V} (I:Inv X pins σ H s) (h:H p=some (.lst xs)) :
  ∃ (its:LW) (n:Nat),Vals xs its/\s.heap.get? p=some { cls:=.type "list",data:=.seq its.toArray n }/\xs.length<=sizeLine:=by
 obtain ⟨z,its,n,r,e⟩:=I.hok p _ h;exact ⟨its,n,r,e,z⟩
theorem Inv.lstUpd {pins:PN} {σ:St} {H:Hp} {s:Shared} {p:Addr} {xs ys:List V} {its its':LW} {n n':Nat} {f:Obj->Obj} (I:Inv X pins σ H s) (h:H p=some (.lst xs))
  (ho:s.heap.get? p=some { cls:=.type "list",data:=.seq its.toArray n }) (hf:f { cls:=.type "list",data:=.seq its.toArray n }={ cls:=.type "list",data:=.seq its'.toArray n' }) (r:Vals ys its') (hz:ys.length<=sizeLine) (t:Nat) :
  Inv X pins σ (upd H p (.lst ys)) { s with heap:=s.heap.update p f,toks:=t }:=by
 have e:(s.heap.update p f).get? p=some { cls:=.type "list",data:=.seq its'.toArray n' }:=by
  rw [vY f ho (by rw [hf] <;> rfl),hf]
 refine I.write (x:=p) (e:=p) (by rw [h]; trivial) (.inl rfl) (λ b u hb q=>(uP _ _ (Ne.symm hb)).trans q) ⟨_,e⟩ ?_;exact ⟨hz,its',n',r,e⟩
def Bw:V->V->V->Hp->(Hp->Prop)->Prop:=λ o i v H Q=>∃ p xs k j,o=.ref p/\i=.int k/\H p=some (.lst xs)/\ixN xs.length k=some j/\Q (upd H p (.lst (xs.set j v)))
theorem Gs:PSet X Bw:=by
 intro pins s σ H o i v ov iv u Q I ro ri rv h;obtain ⟨p,xs,k,j,rfl,rfl,hp,hj,q⟩:=h;cases ro;obtain ⟨t,rfl⟩:=ri;obtain ⟨its,n,r,ho,hz⟩:=I.lst hp;obtain ⟨h1,h2,h3,h4⟩:=Gv hj;have hl:=r.length;have hn:=cX;have I':Inv X pins σ (upd H p (.lst (xs.set j v))) { s with heap:=s.heap.update p (Obj.mapSeq (·.setIfInBounds j u)) } :=
  I.lstUpd hp ho (Pr its n j u) (r.set rv j) (by rw [List.length_set]; exact hz) s.toks
 by_cases h0:0<=k
 ·have hk:k.toNat=j:=by
   rw [seqIndex_of h0 h4] at h1;exact zT h1
  exact PySem.W.ki_setAt ho h0 ⋯ (by rw [zW,← hl]; exact h4) (by rw [hk]; exact ⟨_,I',q⟩)
 ·have hk:(k+(its.toArray.size:Int)).toNat=j:=by
   rw [oG ⋯ h3] at h1;rw [zW,← hl];exact zT h1
  exact PySem.W.ki_setBack ho ⋯ (by rw [zW,← hl]; exact h3) ⋯ (by rw [hk]; exact ⟨_,I',q⟩)
theorem Pq (lo hi:Option Int) (n:Nat):(sliceBounds lo hi none n).1=((HT.sIx n 0 lo:Nat):Int)/\(sliceBounds lo hi none n).2.1=((HT.sIx n n hi:Nat):Int)/\(sliceBounds lo hi none n).2.2=1:=by
 refine ⟨?_,?_,rfl⟩
 ·cases lo with
  | none=>simp [sliceBounds,HT.sIx]
  | some i =>
   simp only [sliceBounds,HT.sIx,Option.getD_none,show (1:Int) > 0 by decide,if_true]
   by_cases h:i < 0
   ·simp only [h,if_true] <;> omega
   ·simp only [h,if_false] <;> omega
 ·cases hi with
  | none=>simp [sliceBounds,HT.sIx]
  | some i =>
   simp only [sliceBounds,HT.sIx,Option.getD_none,show (1:Int) > 0 by decide,if_true]
   by_cases h:i < 0
   ·simp only [h,if_true] <;> omega
   ·simp only [h,if_false] <;> omega
theorem Pp (its:LW) (lo hi:Option Int):slicePick its.toArray lo hi none=((its.drop (HT.sIx its.length 0 lo)).take (HT.sIx its.length its.length hi - HT.sIx its.length 0 lo)).toArray:=by
 obtain ⟨h1,h2,h3⟩:=Pq lo hi its.toArray.size;unfold slicePick;rw [h1,h2,h3];simp only [sliceRange_one,pick_run,List.size_toArray] <;> rfl
def rSlL (K:Frag):V->Option Int->Option Int->Hp->VK->Prop:=λ x lo hi H Q=>∃ a xs,x=.ref a/\SqL K H a xs/\∀ p,H p=none->Q (.ref p) (upd H p (.lst (cutV xs lo hi)))
theorem Po:SlR X (rSlL X.K):=by
 intro pins s σ H x v vl vu lo hi sl Q I rx hs pl pu h;obtain ⟨a,xs,rfl,hx,q⟩:=h;cases rx;obtain ⟨its,r,ht,hz⟩:=I.list hx;have hlen:=r.length;refine ⟨"list",_,slot_list_getitem.lookup,ht.isList.typeIs,?_⟩;refine wpAny_getItem_list_slice ht.isList hs pl pu .none (by simp) ?_ (by rw [List.size_toArray] <;> omega);rw [Pp,← hlen];refine ⟨.ref s.heap.objs.size,_,I.laid (t':=s.toks) (o:=.lst (cutV xs lo hi)) (λ b ob q=>zD _ q) (zF _) ?_,rfl,q _ (I.hok.fresh (zF _))⟩;exact ⟨yC (Gw xs lo hi) hz,_,0,(r.drop (HT.sIx xs.length 0 lo)).take (HT.sIx xs.length xs.length hi - HT.sIx xs.length 0 lo),zU _ rfl⟩
noncomputable def iY:V->Bool
 | .non=>true
 | .bl _=>true
 | .int _=>true
 | .str _=>true
 | _=>false
noncomputable def eqV:V->V->Bool
 | .non,.non=>true
 | .bl a,.bl b=>a == b
 | .bl a,.int b=>(if a then 1 else 0) == b
 | .int a,.bl b=>a == (if b then 1 else 0)
 | .int a,.int b=>a == b
 | .str a,.str b=>a == b
 | _,_=>false
theorem Pn {A:Around} {s:Shared} {y x:V} {u v:Value} (ry:RelV y u) (rx:RelV x v) (fy:iY y=true) (fx:iY x=true):SeqAt.EqAt A s u v (eqV y x):=by
 cases y with
 | non =>
  cases ry;cases x with
  | non=>cases rx; exact SeqAt.EqAt.same _
  | bl b=>cases rx; exact SeqAt.EqAt.none_bool b
  | int b=>obtain ⟨t,rfl⟩:=rx; exact SeqAt.EqAt.none_int b t
  | str b=>obtain ⟨t,rfl⟩:=rx; exact SeqAt.EqAt.none_str b t
  | _=>exact absurd (show false=true from fx) yG
 | bl a =>
  cases ry;cases x with
  | non=>cases rx; exact SeqAt.EqAt.bool_none a
  | bl b=>cases rx; exact SeqAt.EqAt.bool_bool a b
  | int b=>obtain ⟨t,rfl⟩:=rx; exact SeqAt.EqAt.bool_int a b t
  | str b=>obtain ⟨t,rfl⟩:=rx; exact SeqAt.EqAt.bool_str a b t
  | _=>exact absurd (show false=true from fx) yG
 | int a =>
  obtain ⟨t',rfl⟩:=ry;cases x with
  | non=>cases rx; exact SeqAt.EqAt.int_none a t'
  | bl b=>cases rx; exact SeqAt.EqAt.int_bool a t' b
  | int b=>obtain ⟨t,rfl⟩:=rx; exact SeqAt.EqAt.int_int a t' b t
  | str b=>obtain ⟨t,rfl⟩:=rx; exact SeqAt.EqAt.int_str a t' b t
  | _=>exact absurd (show false=true from fx) yG
 | str a =>
  obtain ⟨t',rfl⟩:=ry;cases x with
  | non=>cases rx; exact SeqAt.EqAt.str_none a t'
  | bl b=>cases rx; exact SeqAt.EqAt.str_bool a t' b
  | int b=>obtain ⟨t,rfl⟩:=rx; exact SeqAt.EqAt.str_int a t' b t
  | str b=>obtain ⟨t,rfl⟩:=rx; exact SeqAt.EqAt.str_str a t' b t
  | _=>exact absurd (show false=true from fx) yG
 | _=>exact absurd (show false=true from fy) yG
noncomputable def eqU (x:V) (u:Value):Bool:=match u with
 | .none=>eqV .non x
 | .bool b=>eqV (.bl b) x
 | .int i _=>eqV (.int i) x
 | .str z _=>eqV (.str z) x
 | _=>false
theorem Gr {x y:V} {u:Value} (r:RelV y u) (f:iY y=true):eqU x u=eqV y x:=by
 cases y with
 | non=>cases r; rfl
 | bl b=>cases r; rfl
 | int i=>obtain ⟨t,rfl⟩:=r; rfl
 | str z=>obtain ⟨t,rfl⟩:=r; rfl
 | _=>exact absurd (show false=true from f) yG
theorem Bv {x:V}:∀ {xs:List V} {us:LW},Vals xs us->xs.all iY=true->us.any (eqU x)=xs.any λ y=>eqV y x
 | _,_,.nil,_=>rfl
 | y :: xs,u :: us,.cons r t,f=>by
  rw [yV,zO] at f;rw [uV,uV,Gr r f.1,Bv t f.2]
theorem Bu {A:Around} {s:Shared} {x:V} {v:Value} (rx:RelV x v) (fx:iY x=true):∀ {xs:List V} {us:LW},Vals xs us->xs.all iY=true->∀ u∈us,SeqAt.EqAt A s u v (eqU x u)
 | _,_,.nil,_=>λ u hu=>by cases hu
 | y :: xs,u :: us,.cons r t,f=>λ u' hu=>by
  rw [yV,zO] at f;rcases zL.mp hu with rfl | hu
  ·rw [Gr r f.1]; exact Pn r rx f.1 fx
  ·exact Bu rx fx t f.2 u' hu
noncomputable def inV (x:V) (xs:List V):Bool:=xs.any λ y=>eqV y x
def rIn (K:Frag) (neg:Bool):R2:=λ x y H Q=>∃ p xs,y=.ref p/\(SqL K H p xs\/SqT K H p xs)/\iY x=true/\xs.all iY=true/\Q (.bl (if neg then !inV x xs else inV x xs)) H
theorem Bt:OpR X (compareOp .NotIn) (rIn X.K true):=by
 intro pins s σ H x y v u Q I rx ry h;obtain ⟨p,xs,rfl,hq,fx,fs,q⟩:=h;cases ry;rcases hq with hq | hq
 ·obtain ⟨its,r,pl,hz⟩:=I.list hq;refine SeqAt.notIn_listAt (eqU x) pl.isList (λ w hw=>Bu rx fx r fs w (by simpa using hw)) ⟨.bl _,H,I,rfl,?_⟩;rw [show its.toArray.any (eqU x)=its.any (eqU x) by simp,Bv r fs];exact q
 ·obtain ⟨its,r,pl,hz⟩:=I.tuple hq;refine SeqAt.notIn_tupleAt (eqU x) pl (λ w hw=>Bu rx fx r fs w (by simpa using hw)) ⟨.bl _,H,I,rfl,?_⟩;rw [show its.toArray.any (eqU x)=its.any (eqU x) by simp,Bv r fs];exact q
theorem Pm:kA X (.builtin "len") (λ xs H Q=>∃ p ys,xs=[.ref p]/\(SqL X.K H p ys\/SqT X.K H p ys)/\Q (.int ys.length) H):=by
 intro pins s σ H xs us Q I r h;obtain ⟨p,ys,rfl,hq,q⟩:=h;obtain ⟨u,rfl,rx⟩:=jL r;cases rx;have hn:=cX;rcases hq with hq | hq
 ·obtain ⟨its,r',pl,hz⟩:=I.list hq;have hlen:=r'.length;exact Calls.call_len_list pl.isList (by simp only [List.size_toArray] <;> omega) ⟨.int ys.length,H,I.tok _,⟨s.toks+1,by rw [zW,hlen]⟩,q⟩
 ·obtain ⟨its,r',pl,hz⟩:=I.tuple hq;have hlen:=r'.length;exact len_tuple pl (by simp only [List.size_toArray] <;> omega) ⟨.int ys.length,H,I.tok _,⟨s.toks+1,by rw [zW,hlen]⟩,q⟩
theorem Pl:kA X (.type "list") (λ xs H Q=>∃ p ys,xs=[.ref p]/\(SqL X.K H p ys\/SqT X.K H p ys)/\∀ l,H l=none->Q (.ref l) (upd H l (.lst ys))):=by
 intro pins s σ H xs us Q I r h;obtain ⟨p,ys,rfl,hq,q⟩:=h;obtain ⟨u,rfl,rx⟩:=jL r;cases rx;have fin:∀ (its:LW),Vals ys its->ys.length<=sizeLine->∀ (h':Heap) (c':Nat),(∀ b o',s.heap.get? b=some o'->h'.get? b=some o') ->
   h'.get? s.heap.objs.size=some { cls:=.type "list",dict:=none,data:=.seq its.toArray c',slots:=#[] }->EP X pins σ Q (.ref s.heap.objs.size) { s with heap:=h' }:=λ its r' hz h' c' kp e =>
  ⟨.ref s.heap.objs.size,_,I.laid (t':=s.toks) kp (zF _) (show mQ X.prog X.w _ h' _ (.lst ys) from ⟨hz,its,c',r',e⟩),rfl,q _ (I.hok.fresh (zF _))⟩
 rcases hq with hq | hq
 ·obtain ⟨its,r',pl,hz⟩:=I.list hq;have hlen:=r'.length;obtain ⟨o,ho,hc,n,hd⟩:=pl.isList;exact call_list_seq p (.inl rfl) ho hc hd (λ h' c' kp e=>fin its r' hz h' c' kp e) (by simp only [List.size_toArray] <;> omega)
 ·obtain ⟨its,r',pl,hz⟩:=I.tuple hq;have hlen:=r'.length;obtain ⟨o,ho,hc,n,hd⟩:=pl;exact call_list_seq p (.inr rfl) ho hc hd (λ h' c' kp e=>fin its r' hz h' c' kp e) (by simp only [List.size_toArray] <;> omega)
theorem Pk:kA X (.type "tuple") (λ xs H Q=>∃ p ys,xs=[.ref p]/\((SqL X.K H p ys/\∀ l,H l=none->Q (.ref l) (upd H l (.tup ys)))\/(SqT X.K H p ys/\Q (.ref p) H))):=by
 intro pins s σ H xs us Q I r h;obtain ⟨p,ys,rfl,h⟩:=h;obtain ⟨u,rfl,rx⟩:=jL r;cases rx;rcases h with ⟨hq,q⟩ | ⟨hq,q⟩
 ·obtain ⟨its,r',pl,hz⟩:=I.list hq;have hlen:=r'.length;refine call_tuple_list pl.isList (λ h' kp=>?_) (by simp only [List.size_toArray] <;> omega);have I1:Inv X pins σ H { s with heap:=h' }:=I.kept (t':=s.toks) kp;have I2:Inv X pins σ (upd H h'.objs.size (.tup ys)) { s with heap:=h'.push { cls:=.type "tuple",data:=.seq its.toArray } } :=
   I1.laid (t':=s.toks) (λ b o e=>zD _ e) (zF _) (show mQ X.prog X.w _ _ _ (.tup ys) from ⟨hz,its,r',IsTup.new _ _⟩)
  exact ⟨.ref h'.objs.size,_,I2,rfl,q _ (I1.hok.fresh (zF _))⟩
 ·obtain ⟨its,r',pl,hz⟩:=I.tuple hq;exact call_tuple_same pl ⟨.ref p,H,I,rfl,q⟩
def tyV (K:Frag) (T:String) (x:V) (H:Hp):Prop:=match x with
 | .str _=>T = "str"
 | .int _=>T = "int"
 | .ref p=>(T = "list" /\ ∃ xs,SqL K H p xs)\/(T = "tuple" /\ ∃ o,K.lookup p=some o/\o.cls=.type "tuple" /\ o.dict=none) \/
   (T = "dict" /\ ((∃ kvs,H p=some (.dK kvs))\/∃ kvs,H p=some (.dT kvs)))\/(T = "set" /\ ∃ S n,H p=some (.set S n))
 | _=>False
theorem Gq {pins:PN} {σ:St} {H:Hp} {s:Shared} {T:String} {x:V} {v:Value} (I:Inv X pins σ H s) (r:RelV x v) (ty:tyV X.K T x H) :
  s.TypeIs v T/\∀ a,v=.ref a->∃ ob,s.heap.get? a=some ob/\ob.dict=none:=by
 cases x with
 | str z =>
  obtain ⟨t,rfl⟩:=r;cases (show T = "str" from ty);exact ⟨typeIs_str s z t,λ _ e=>nomatch e⟩
 | int i =>
  obtain ⟨t,rfl⟩:=r;cases (show T = "int" from ty);exact ⟨typeIs_int s i t,λ _ e=>nomatch e⟩
 | ref p =>
  cases r;rcases ty with ⟨rfl,xs,hq⟩ | ⟨rfl,o,hk,hc,hd⟩ | ⟨rfl,hk⟩ | ⟨rfl,S,n,hk⟩
  ·obtain ⟨its,_,pl,_⟩:=I.list hq;refine ⟨pl.isList.typeIs,λ a e=>?_⟩;cases e;obtain ⟨o,n,e,c,hd,_⟩:=pl;exact ⟨o,e,hd⟩
  ·refine ⟨⟨o,I.kIn p o hk,hc⟩,λ a e=>?_⟩;cases e;exact ⟨o,I.kIn _ o hk,hd⟩
  ·have z:∃ o,s.heap.get? p=some o/\o.ExactDict:=by
    rcases hk with ⟨kvs,hk⟩ | ⟨kvs,hk⟩
    ·obtain ⟨_,_,_,_,o,_,_,e,ex,_⟩:=I.hok p _ hk;exact ⟨o,e,ex⟩
    ·obtain ⟨_,_,_,_,o,_,_,e,ex,_⟩:=I.hok p _ hk;exact ⟨o,e,ex⟩
   obtain ⟨o,e,ex⟩:=z;refine ⟨⟨o,e,ex.1⟩,λ a e2=>?_⟩;cases e2;exact ⟨o,e,ex.2.1⟩
  ·obtain ⟨o,_,_,_,e,ex,_⟩:=I.hok p _ hk;refine ⟨⟨o,e,ex.1⟩,λ a e2=>?_⟩;cases e2;exact ⟨o,e,ex.2.1⟩
 | _=>exact False.elim ty
def tBM0 (K:Frag) (T:String) (r:V->List V->Hp->VK->Prop) (to:TE):TE:=λ σ H Q=>to σ H λ x H1=>tyV K T x H1/\r x [] H1 Q
def tBM (K:Frag) (T:String) (r:V->List V->Hp->VK->Prop) (to:TE) (t:TA):TE:=λ σ H Q=>to σ H λ x H1=>tyV K T x H1/\t σ H1 λ xs H2=>r x xs H2 Q
variable {o e:Expr} {es:List Expr} {to:TE} {t:TA} {name:Str} {apos cpos:Pos} {T id:String} {r:V->List V->Hp->VK->Prop}
theorem Gp (pa:PlainAttrs T) (slot:Slot T name id) (hty:typeOf (.builtin id)=pure (.type "method_descriptor")) (hm:MtR X id r) (ho:PE X o to)
  (hbase:attributeBase o name X.env (eval o X.env)=eval o X.env:=by rfl) (hline:(apos.endLine == cpos.line)=true:=by rfl):PE X (.Call (.Attribute o name apos) [] [] cpos) (tBM0 X.K T r to):=by
 intro pins s σ H Q I h;refine wpAny_Call_method0_late hbase hline (thn (ho pins s σ H _ I h) λ v s1 ⟨x,H1,I1,r1,ty,q1⟩=>?_);obtain ⟨h1,h2⟩:=Gq I1 r1 ty;exact ⟨T,id,pa,slot,hty,h1,h2,oP rfl (PySem.evalArgs_none (hm pins s1 σ H1 x [] v [] Q I1 r1 .nil q1))⟩
theorem eY (pa:PlainAttrs T) (slot:Slot T name id) (hty:typeOf (.builtin id)=pure (.type "method_descriptor")) (hm:MtR X id r) (ho:PE X o to) (ha:PA X (e :: es) t)
  (hbase:attributeBase o name X.env (eval o X.env)=eval o X.env:=by rfl)
  (hfew:((backTo cpos (starEach (e :: es) X.env)).all (λ x=>!x.1) && (backToKw cpos (keywordEach [] X.env)).all (λ x=>x.1.isSome)
   && decide ((e :: es).length+([]:List Keyword).length+(if ([]:List Keyword).isEmpty then 0 else 1) < 30))=true:=by rfl)
  (hline:(apos.endLine == cpos.line)=true:=by rfl) (hs:starEach (e :: es) X.env=(false,eval e X.env) :: starEach es X.env:=by rfl) (hplain:(backTo cpos (starEach es X.env)).any (·.1)=false:=by rfl) :
  PE X (.Call (.Attribute o name apos) (e :: es) [] cpos) (tBM X.K T r to t):=by
 intro pins s σ H Q I h;refine wpAny_Call_method_late hbase hfew hline rfl (thn (ho pins s σ H _ I h) λ v s1 ⟨x,H1,I1,r1,ty,q1⟩=>?_);obtain ⟨h1,h2⟩:=Gq I1 r1 ty;refine ⟨T,id,pa,slot,hty,h1,h2,?_⟩;have hA:=ha cpos pins s1 σ H1 _ I1 q1;rw [hs] at hA ⊢;refine oP (by show (false || (backTo cpos (starEach es X.env)).any (·.1))=false; rw [hplain] <;> rfl) (Calls.evalArgs_plain ?_);exact thn hA λ us s2 ⟨vs,H2,I2,r2,q2⟩=>hm pins s2 σ H2 x vs v us Q I2 r1 r2 q2
end
def MtM (X:Cx) (id:String) (r:V->List V->Hp->VK->Prop):Prop :=
 ∀ (pins:PN) (s:Shared) (σ:St) (H:Hp) (x:V) (xs:List V) (v:Value) (us:LW) (Q:VK),Inv X pins σ H s->RelV x v->Vals xs us->r x xs H Q ->
  wpAny (model X.prog X.w) X.A (call (.builtin id) (v :: us)) (EP X pins σ Q) X.xe s
theorem Vals.one:∀ {x:V} {us:LW},Vals [x] us->∃ u,us=[u]/\RelV x u
 | _,_,.cons r .nil=>⟨_,rfl,r⟩
theorem Vals.two:∀ {x y:V} {us:LW},Vals [x,y] us->∃ u v,us=[u,v]/\RelV x u/\RelV y v
 | _,_,_,.cons r (.cons q .nil)=>⟨_,_,rfl,r,q⟩
theorem Vals.zero:∀ {us:LW},Vals [] us->us=[]
 | _,.nil=>rfl
theorem Vals.rep {xs:List V} {us:LW} (h:Vals xs us):∀ k:Nat,Vals (List.replicate k xs).flatten (List.replicate k us).flatten
 | 0=>.nil
 | k+1=>by
  rw [vG,vG,sG,sG];exact Vals.append h (Vals.rep h k)
theorem Go (its:LW):∀ (k:Nat) (acc:LW),
  List.foldl (λ x1 x2=>x1++x2) acc.toArray (List.replicate k its.toArray)=(acc++(List.replicate k its).flatten).toArray
 | 0,acc=>by simp
 | k+1,acc=>by
  have e:acc.toArray++its.toArray=(acc++its).toArray:=by simp
  have e2:(acc++its)++(List.replicate k its).flatten=acc++(List.replicate (k+1) its).flatten:=by
   rw [vG,sG,yP]
  rw [← e2,← Go its k (acc++its),← e,vG,wN]
section
variable {X:Cx} {pins:PN} {σ:St} {H:Hp} {s:Shared} {l b:Addr} {xs ys zs:List V}
theorem Inv.lset {its its':LW} {n:Nat} {f:Array Value->Array Value} {t':Nat} (I:Inv X pins σ H s) (hH:H l=some (.lst xs))
  (e:s.heap.get? l=some { cls:=.type "list",data:=.seq its.toArray n }) (hf:f its.toArray=its'.toArray) (hv:Vals ys its') (hz:ys.length<=sizeLine) :
  Inv X pins σ (upd H l (.lst ys)) { s with heap:=s.heap.update l (Obj.mapSeq f),toks:=t' }:=by
 have q:=PySem.IsL.update e f;rw [hf] at q;refine I.write (x:=l) (e:=l) (by rw [hH]; exact trivial) (.inl rfl) (λ b' u hb hu=>(uP s.heap (Obj.mapSeq f) (Ne.symm hb)).trans hu) ⟨_,q⟩ ?_;exact ⟨hz,its',_,hv,q⟩
theorem Inv.lnew {its:LW} {t':Nat} (I:Inv X pins σ H s) (hv:Vals ys its) (hz:ys.length<=sizeLine) :
  Inv X pins σ (upd H s.heap.objs.size (.lst ys)) { s with heap:=s.heap.push { cls:=.type "list",data:=.seq its.toArray },toks:=t' } :=
 I.laid (λ _ _ q=>zD _ q) (zF _) ⟨hz,its,0,hv,zU _ rfl⟩
theorem Inv.fresh (I:Inv X pins σ H s):H s.heap.objs.size=none:=I.hok.fresh (zF _)
theorem Inv.lstM (I:Inv X pins σ H s) (hH:H l=some (.lst xs)):xs.length<=sizeLine/\∃ (its:LW) (n:Nat),Vals xs its/\xs.length=its.length/\s.heap.get? l=some { cls:=.type "list",data:=.seq its.toArray n }:=by
 obtain ⟨z,its,n,r,e⟩:=I.hok l _ hH;exact ⟨z,its,n,r,r.length,e⟩
theorem Pj {n:Nat} (h:n<=sizeLine):Builtin.List.listTooLong n=false:=by
 unfold Builtin.List.listTooLong;exact zQ ⋯
end
section
variable {X:Cx}
def Pi:V->List V->Hp->VK->Prop:=λ x vs H Q=>∃ l xs y,x=.ref l/\vs=[y]/\H l=some (.lst xs)/\xs.length < sizeLine/\Q .non (upd H l (.lst (xs++[y])))
theorem fD:MtM X "list.append" Pi:=by
 intro pins s σ H x vs v us Q I rx rv h;obtain ⟨l,xs,y,rfl,rfl,hH,hz,q⟩:=h;cases rx;obtain ⟨u,rfl,ru⟩:=rv.one;obtain ⟨z,its,n,r,hl,e⟩:=I.lstM hH;refine pG F.slot_list_append ⟨_,e,rfl⟩ F.entry_list_append (F.args_list_append_2 _ _) (PySem.list_append l its.toArray n u (by rw [zW]; omega)) ⟨e,?_⟩;refine ⟨.non,_,I.lset (its':=its++[u]) hH e (by simp) (r.append (.cons ru .nil)) ?_,rfl,q⟩;rw [yB,List.length_singleton];omega
def Ph:V->List V->Hp->VK->Prop:=λ x vs H Q=>∃ l xs,x=.ref l/\vs=[]/\H l=some (.lst xs)/\Q .non (upd H l (.lst []))
theorem Gn:MtM X "list.clear" Ph:=by
 intro pins s σ H x vs v us Q I rx rv h;obtain ⟨l,xs,rfl,rfl,hH,q⟩:=h;cases rx;have hus:=rv.zero;subst hus;obtain ⟨z,its,n,r,hl,e⟩:=I.lstM hH;refine pG F.slot_list_clear ⟨_,e,rfl⟩ F.entry_list_clear (F.args_list_clear_1 _) (AutoSeq1.list_clear_list_0 l its.toArray n (by rw [zW]; omega)) ⟨e,?_⟩;exact ⟨.non,_,I.lset (its':=[]) (ys:=[]) hH e rfl .nil (yY _),rfl,q⟩
def rCat:R2:=λ x y H Q=>∃ l b xs zs,x=.ref l/\y=.ref b/\H l=some (.lst xs)/\H b=some (.lst zs)/\xs.length+zs.length<=sizeLine/\∀ p,H p=none->Q (.ref p) (upd H p (.lst (xs++zs)))
theorem Gm:OpR X (binaryOp .Add) rCat:=by
 intro pins s σ H x y v u Q I rx ry h;obtain ⟨l,b,xs,zs,rfl,rfl,hH,hB,hz,q⟩:=h;cases rx;cases ry;obtain ⟨z,its,n,r,hl,e⟩:=I.lstM hH;obtain ⟨z2,its2,n2,r2,hl2,e2⟩:=I.lstM hB;refine PySem.P.add_list e e2 ?_ (by rw [zW,zW]; omega);have ea:its.toArray++its2.toArray=(its++its2).toArray:=by simp
 rw [ea];exact ⟨.ref _,_,I.lnew (t':=s.toks) (r.append r2) (by rw [yB]; omega),rfl,q _ I.fresh⟩
def rRep:R2:=λ x y H Q=>∃ l k xs,x=.ref l/\y=.int k/\H l=some (.lst xs)/\-(2 ^ 63)<=k/\k < 2 ^ 63/\xs.length*k.toNat<=sizeLine /\
 ∀ p,H p=none->Q (.ref p) (upd H p (.lst (List.replicate k.toNat xs).flatten))
theorem Pg {α:Type} (xs:List α) (k:Nat):(List.replicate k xs).flatten.length=k*xs.length:=by
 induction k with
 | zero=>simp
 | succ k ih=>rw [vG,sG,yB,ih,tG,Nat.add_comm]
theorem Pf:OpR X (binaryOp .Mult) rRep:=by
 intro pins s σ H x y v u Q I rx ry h;obtain ⟨l,k,xs,rfl,rfl,hH,h1,h2,hz,q⟩:=h;cases rx;obtain ⟨t,rfl⟩:=ry;obtain ⟨z,its,n,r,hl,e⟩:=I.lstM hH;have hlen:its.toArray.size*k.toNat<=sizeLine:=by rw [zW,← hl]; exact hz
 have hcap:¬ its.toArray.size*k.toNat > (2 ^ 63 - 1) / 8:=by
  have:(sizeLine:Nat)<=(2 ^ 63 - 1) / 8:=∅
  omega
 have hfit:¬ (!Builtin.List.listFitsIndex k)=true:=by
  rw [fitsIndex_both h1 h2];exact yG
 have hlong:¬ Builtin.List.listTooLong (its.toArray.size*k.toNat)=true:=by
  rw [Pj hlen];exact yG
 have hnew:List.foldl (λ x1 x2=>x1++x2) #[] (List.replicate (if its.toArray.isEmpty=true then 0 else k.toNat) its.toArray)=(List.replicate k.toNat its).flatten.toArray:=by
  have f0:∀ m:Nat,List.foldl (λ x1 x2=>x1++x2) #[] (List.replicate m its.toArray)=(List.replicate m its).flatten.toArray:=λ m=>by
   have:=Go its m [];rw [List.nil_append] at this;exact this
  rw [f0];cases its with
  | nil=>simp
  | cons a r'=>rw [if_neg (by simp)]
 refine wpAny_binaryOp_repeat_ref (T := "list") (U := "int") ∅ ⟨_,e,rfl⟩ (λ s'=>typeIs_int s' k t) noFill_list_mul F.fills_int_mul F.slot_int_rmul repeat_list F.slot_int_index.lookup
  (pG F.slot_int_rmul (typeIs_int s k t) F.entry_int_rmul (F.args_int_rmul_2 _ _) (int___rmul___int_list k t l its.toArray n)
   ⟨e,rfl,⟨_,e,rfl⟩,pG F.slot_list_mul ⟨_,e,rfl⟩ F.entry_list_mul (F.args_list_mul_2 _ _) (AutoListH.list___mul___list_int_3 l its.toArray n k t hfit hcap hlong) ⟨e,?_⟩⟩)
 rw [hnew];exact ⟨.ref _,_,I.lnew (t':=s.toks) (r.rep k.toNat) (by rw [Pg,tI]; exact hz),rfl,q _ I.fresh⟩
end
section
variable {prog:Program} {w:World} {A:Around} {E:VP} {s:Shared}
set_option maxRecDepth 100000 in
end
end L2
namespace Att
open PySem PySem.W PySem.Calls PyProof.Rows
theorem Pe {P:Params} {h:Heap}:∀ (ns:LI') (vs:LW),WellAll P h vs (ns.map WData.int)->IntsAre vs ns:=by
 intro ns
 induction ns with
 | nil =>
  intro vs w;rw [List.map_nil] at w;cases w;exact .nil
 | cons n ns ih =>
  intro vs w;rw [zG] at w;cases w with
  | cons a b =>
   cases a;exact .cons _ _ (ih _ b)
theorem Pd {l:OpenLaw} {n:Nat} (hn:l.most=some n) {P:Params} {h:Heap} {args:List WData} {vals:LW}
  (hpre:l.row.toRowW.claim.pre args=true) (hwl:WellAll P h vals args) :
  ∃ a vs ns,vals=[Value.ref a]/\args=[WData.list (ns.map WData.int)]/\h.get? a=some { cls:=.type "list",data:=.seq vs.toArray }/\IntsAre vs ns/\ns.length<=n:=by
 have hsh:WShape.hasAll [] args [.list .int]=true:=(pre_splitW hpre).1;have hc:l.pre.holds [] { args:=args }=true:=(pre_splitW hpre).2;obtain ⟨d,r,rfl,h1,h2⟩:=hasAllW_cons hsh;obtain rfl:=hasAllW_nil h2;obtain ⟨xs,rfl,h3⟩:=hasW_list h1;obtain ⟨ns,rfl⟩:=items_int h3;have hlen:ns.length<=n:=by
  unfold OpenLaw.pre at hc;have h4:(WTm.not (.lt (.lit (.int (n:Int))) (.len (.arg 0)))).holds [] { args:=[.list (ns.map .int)] }=true:=by
   have h4:=(holds_andW hc).1;rw [hn] at h4;exact h4
  have h5:=condW_of h4 (w_not (w_lt w_lit (w_len_list (w_arg rfl))));rw [yL] at h5;refine Nat.le_of_not_lt λ q=>?_;have q':(n:Int) < ((ns.length:Nat):Int):=⋯
  first
   | (rw [zM q'] at h5; exact absurd h5 ∅)
   | (simp at h5; omega)
 cases hwl with
 | cons w1 w2 =>
  cases w2;cases w1 with
  | list ho hall=>exact ⟨_,_,ns,rfl,rfl,ho,Pe ns _ hall,hlen⟩
theorem Pc (l:OpenLaw) (args:List WData):l.row.toRowW.claim.post args (.bool true) args=true :=
 postW_of (r:=l.row.toRowW) (X:=(true == true))
  (show WShape.has [] (.bool true) .bool=true by first | rfl | decide | simp [WShape.has,WShape.arms,WShape.armsAll])
  (show (WTm.eq .res (.lit (.bool true))).value [] { args:=args,res:=some (.bool true),after:=args }=some (.bool (true == true)) from w_eq_bool (w_res rfl) w_lit) rfl
section
variable {prog:Program} {w:World} {A:Around} {E:VP} {s:Shared} {K:Frag}
noncomputable def u_t (h:Heap) (L d:Addr):PN:=(List.range h.objs.size).filterMap λ a=>if a=L\/a=d then none else (h.get? a).map λ o=>(a,o)
end
end Att
namespace L2
open PySem PySem.Spec PyProof.Rows
open PySem.W (Frag)
theorem Gk:∀ {vs:LW} {ns:LI'},IntsAre vs ns->Vals (ns.map V.int) vs
 | _,_,.nil=>.nil
 | _,_,.cons n t h=>.cons ⟨t,rfl⟩ (Gk h)
def Only (H:Hp):Prop:=∀ b,H b=none\/∃ o xs,H b=some (.frz o (.lst xs))
theorem Pb {P:Program} {w:World} {K:Frag} {mg mb:MT} {CX:CXT} {k:Nat} {fa a:Addr} {fd:FuncData} {x:Str} {sp:Sp} {s₁:Shared} {vs:LW} {ns:LI'}
  (KX:K.In s₁.heap) (hns:s₁.heap.Ns mainGlobals mg) (hb:s₁.heap.Ns builtinsNs mb) (hbb:∀ x:Str,x ≠ "__name__" -> mb x=bootBuiltins x) (hlim:s₁.heap.NoLimit) (hg:s₁.gens=#[])
  (ha:s₁.heap.get? a=some { cls:=.type "list",data:=.seq vs.toArray }) (hi:IntsAre vs ns) (hl:ns.length<=sizeLine) (hr:Room k callerA)
  (F:∀ base:Heap,K.In base->base.Ns mainGlobals mg->FnOk P w K mg base CX k fa fd [x] sp) (hbind:∀ (s:Shared) (u:Value),BindsTo s fd ⟨[u],[]⟩ [(x,u)])
  (hsp:∀ H:Hp,Only H->SqL K H a (ns.map V.int)->sp [.ref a] H (λ v _=>v=.bl true) λ _ _ _=>False)
  (hCX:∀ H e s',CX [] H s₁ (λ _ _ _=>False) e s'->False) :
  codeAny (model P w) callerA (.call (.ref fa) ⟨[.ref a],[]⟩) (λ r s'=>r=.ok (.ret (.bool true))/\OldK s₁.heap s'.heap/\s'.os=s₁.os/\AllBare s'.gens) s₁:=by
 have rv:=Gk hi;have lenV:=hi.length
 -- from an abstract heap in which nothing but the script may be tracked
 have core:∀ H:Hp,Only H->SqL K H a (ns.map V.int)->HOk P w H s₁.heap->(∀ b,H b≠none->b=a)->(H a≠none->K.lookup a=none) ->
   codeAny (model P w) callerA (.call (.ref fa) ⟨[.ref a],[]⟩) (λ r s'=>r=.ok (.ret (.bool true))/\OldK s₁.heap s'.heap/\s'.os=s₁.os/\AllBare s'.gens) s₁:=by
  intro H hO hS hok hA hK;have base_of:∀ {b:Addr} {o:Obj},s₁.heap.get? b=some o->H b=none->(hidT s₁.heap H).get? b=some o:=λ e n=>Nu e n;have noA:∀ {b:Addr} {o:Obj} {es:Array DictEntry} {ep:Nat},s₁.heap.get? b=some o->o.data=.dict es ep->H b=none:=λ {b o es ep} e d=>by
   cases q:H b with
   | none=>rfl
   | some u =>
    have e':b=a:=hA b (by rw [q]; simp);subst e';rw [ha] at e; cases e;have d':Data.seq vs.toArray _=Data.dict es ep:=d;cases d'
  have nsK:∀ {b:Addr} {m:MT},s₁.heap.Ns b m->(hidT s₁.heap H).Ns b m:=λ {b m} ⟨o,es,ep,e,d,r⟩=>⟨o,es,ep,base_of e (noA e d),d,r⟩;have hKb:K.In (hidT s₁.heap H):=λ b o e=>base_of (KX b o e) (by
   cases q:H b with
   | none=>rfl
   | some u =>
    have e':b=a:=hA b (by rw [q]; simp);subst e';rw [hK (by rw [q]; simp)] at e; cases e)
  have hM:Mod K mg (hidT s₁.heap H):=⟨hKb,nsK hns,⟨mb,nsK hb,hbb⟩,let ⟨mc,h1,h2⟩:=hlim; ⟨mc,nsK h1,h2⟩⟩;have e0:Env0 P w K mg (hidT s₁.heap H) callerA [] s₁ H:=⟨rfl,hM,λ b o e=>Nt e,sZ (Nv _ _),trivial,λ b hb=>absurd (show b∈([]:LA) from hb) (by simp),hok,.of_eq hg⟩;refine sV ((F _ hKb (nsK hns)).run callerA [] s₁ H ⟨[.ref a],[]⟩ [.ref a] [.ref a] _ _ hr e0 (hbind s₁ (.ref a)) (.cons rfl .nil) (hsp H hO hS)) λ r s' h=>?_;cases r with
  | error e=>exact (hCX H e s' h).elim
  | ok fl =>
   cases fl with
   | next=>exact False.elim h
   | brk=>exact False.elim h
   | cont=>exact False.elim h
   | ret u =>
    obtain ⟨v,H',os,bare,un,hok',r',q⟩:=h;have q':v=.bl true:=q;subst q';obtain rfl:u=Value.bool true:=r';refine ⟨rfl,OldK.of_keep λ b o e=>?_,os,bare⟩;cases q:H b with
    | none=>exact un.keep b o e q (by intro z; exact absurd (show b∈([]:LA) from z) (by simp)) (by simp)
    | some u =>
     rcases hO b with z | ⟨ob,xs,z⟩
     ·rw [q] at z; cases z
     ·have z2:=un.frzs b ob _ z;obtain ⟨e1,_⟩:=hok b _ z;obtain ⟨e2,_⟩:=hok' b _ z2;rw [e] at e1; cases e1;exact e2
 cases hk:K.lookup a with
 | some o =>
  -- the script is one of the module's own objects
  have e:=KX a o hk;rw [ha] at e;cases e;refine core (λ _=>none) (λ _=>.inl rfl) (.inr ⟨_,vs.toArray,_,hk,rfl,rfl,rfl,by rw [zW,lenV]; exact hl,by simpa using rv⟩) (λ b u z=>by have z':(none:Option HO)=some u:=z; cases z') (λ b z=>absurd rfl z) λ z=>absurd rfl z
 | none =>
  refine core (λ b=>if b=a then some (.frz { cls:=.type "list",data:=.seq vs.toArray } (.lst (ns.map V.int))) else none) (λ b=>?_) (.inl (.inr ⟨{ cls:=.type "list",data:=.seq vs.toArray },if_pos rfl⟩)) (λ b u z=>?_) (λ b z=>?_) λ _=>hk
  ·by_cases hb:b=a
   ·exact .inr ⟨_,_,if_pos hb⟩
   ·exact .inl (if_neg hb)
  ·by_cases hb:b=a
   ·have z':=(if_pos hb).symm.trans z;cases z';subst hb;exact ⟨ha,by rw [yL]; exact hl,vs,_,rv,ha⟩
   ·have z':=(if_neg hb).symm.trans z;cases z'
  ·by_cases hb:b=a
   ·exact hb
   ·exact absurd (if_neg hb) z
noncomputable abbrev KOf {K:Frag} {h:Heap} (_:K.In h):Frag:=K
noncomputable def Gj (s:Stmt) (j:Nat):Stmt:=match s with
 | .ClassDef _ _ _ body _ _ _ _ _ _ _=>body.getD j (.Pass ⟨0,0,0,0⟩)
 | _=>.Pass ⟨0,0,0,0⟩
noncomputable def jW (s:Stmt):Arguments:=match s with
 | .FunctionDef _ a _ _ _ _ _ _ _ _=>a
 | _=>{ posonlyargs:=[],args:=[],vararg:=none,kwonlyargs:=[],kw_defaults:=[],kwarg:=none,defaults:=[] }
noncomputable def kH (s:Stmt):List Stmt:=match s with
 | .FunctionDef _ _ b _ _ _ _ _ _ _=>b
 | _=>[]
noncomputable def oV (s:Stmt):Scope:=match s with
 | .FunctionDef _ _ _ _ _ _ sc _ _ _=>sc
 | _=>{ kind:=.function,names:=[],isGenerator:=false,isCoroutine:=false }
abbrev CX0:CXT:=λ _ _ _ _ _ _=>False
abbrev E0:XK:=λ _ _ _=>False
theorem nC {X:Cx}:gP CX0 X E0:=λ _ _ _ _ _ _ _ h=>h.elim
structure Fun (K:Frag) (x qual:Str) (st:Stmt) (f:Addr) (fd:FuncData):Prop where
 ex:∃ (oc:Value) (od:Option Addr) (kV doc pm:Value) (an:Option Addr) (cdv ct:Value) (osl:Array (Option Value)),
  fd=PySem.W.fnOf x qual (jW st) (kH st) (oV st) .none kV doc pm an cdv ct/\K.lookup f=some ⟨oc,od,.func fd,osl⟩/\PySem.W.codeIn K cdv qual=true
 kp:PySem.W.keepIn K (.ref f)=true
section
variable {P:Program} {w:World} {K:Frag} {mg:MT} {base:Heap}
theorem Fun.ok {x qual:Str} {st:Stmt} {f:Addr} {fd:FuncData} {N ps:List Str} {k:Nat} {sp:Sp} (F:Fun K x qual st f fd) (S:nL N ps (oV st)) (len:∀ vs H Q E,sp vs H Q E->vs.length=ps.length)
  (hbody:∀ (cdv:Value) (A:Around) (outer:List Env) (s:Shared) (H:Hp) (vs:List V) (Q:VK) (E:XK),Room k (A.deeper (envOfC qual (oV st) s.heap.objs.size f cdv))->sp vs H Q E ->
   ∃ t,PSs (cxOf CX0 P w K mg base N qual (oV st) f cdv A outer s H E).nox (kH st) t/\t { nx:=λ _ H'=>Q .non H',rt:=Q } (jV N vs) H):FnOk P w K mg base CX0 (k+1) f fd ps sp:=by
 obtain ⟨oc,od,kV,doc,pm,an,cdv,ct,osl,rfl,lk,hcd⟩:=F.ex;refine Bz lk hcd S len λ A outer s H vs Q E hr hsp=>?_;obtain ⟨t,h,q⟩:=hbody cdv A outer s H vs Q E hr hsp;exact ⟨t,h.nox,q⟩
theorem Fun.binds {x qual:Str} {st:Stmt} {f:Addr} {fd:FuncData} {ps:List Str} (F:Fun K x qual st f fd)
  (h:∀ (kV doc pm:Value) (an:Option Addr) (cdv ct:Value) (us:LW),us.length=ps.length->bindArgs (PySem.W.fnOf x qual (jW st) (kH st) (oV st) .none kV doc pm an cdv ct) ⟨us,[]⟩=pure (ps.zip us)):nI K fd ps []:=by
 obtain ⟨oc,od,kV,doc,pm,an,cdv,ct,osl,rfl,lk,hcd⟩:=F.ex;exact .all (h kV doc pm an cdv ct)
theorem fun_mk {x qual:Str} {st:Stmt} {f:Addr} {oc:Value} {od an:Option Addr} {osl:Array (Option Value)} {kV doc pm cdv ct:Value} (l:K.lookup f=some ⟨oc,od,.func (PySem.W.fnOf x qual (jW st) (kH st) (oV st) .none kV doc pm an cdv ct),osl⟩)
  (c:PySem.W.codeIn K cdv qual=true) (k:PySem.W.keepIn K (.ref f)=true):Fun K x qual st f (PySem.W.fnOf x qual (jW st) (kH st) (oV st) .none kV doc pm an cdv ct):=⟨⟨oc,od,kV,doc,pm,an,cdv,ct,osl,rfl,l,c⟩,k⟩
end
theorem eZ {n:Nat} (h:n<=1000):n < sizeLine:=vR h ∅
section
variable {X:Cx}
theorem pv (i:Nat) {x:Str} {pos:Pos} (hN:X.N[i]?=some x:=by rfl) (hv:Vis X.env.scope x:=by first | exact Or.inl rfl | exact Or.inr (Or.inl rfl) | exact Or.inr (Or.inr rfl)) (hd:(x == ("__debug__" : Str))=false:=by decide)
  (hcd:(x == ("__classdict__" : Str))=false:=by decide):PE X (.Name x pos) (tVar i):=Fr hN hv hd hcd
end
theorem iteF {A B:Prop} (h:B):if false=true then A else B:=by
 rw [if_neg yG];exact h
theorem iteT {A B:Prop} (h:A):if true=true then A else B:=by
 rw [if_pos rfl];exact h
theorem ite2 {c A B:Prop} [Decidable c] (h1:c->A) (h2:¬ c->B):if c then A else B:=by
 by_cases h:c
 ·rw [if_pos h];exact h1 h
 ·rw [if_neg h];exact h2 h
def Same (H H':Hp):Prop:=∀ b o,H b=some o->H' b=some o
theorem Same.refl (H:Hp):Same H H:=λ _ _ h=>h
theorem Same.trans {H H1 H2:Hp} (a:Same H H1) (b:Same H1 H2):Same H H2:=λ c o h=>b c o (a c o h)
theorem Same.seq {K:Frag} {H H':Hp} {a:Addr} {xs:List V} (e:Same H H') (h:SqL K H a xs):SqL K H' a xs:=by
 rcases h with (h | ⟨o,h⟩) | h
 ·exact .inl (.inl (e _ _ h))
 ·exact .inl (.inr ⟨o,e _ _ h⟩)
 ·exact .inr h
end L2
set_option maxHeartbeats 4000000
namespace L2
open PySem PySem.Spec PyProof.Rows
open PySem.W (Frag)
inductive E1 {T0:Type} (P:T0->Prop):Prop
 | mk (x0:T0):P x0->E1 P
inductive E2 {T0 T1:Type} (P:T0->T1->Prop):Prop
 | mk (x0:T0) (x1:T1):P x0 x1->E2 P
inductive E3 {T0 T1 T2:Type} (P:T0->T1->T2->Prop):Prop
 | mk (x0:T0) (x1:T1) (x2:T2):P x0 x1 x2->E3 P
inductive E4 {T0 T1 T2 T3:Type} (P:T0->T1->T2->T3->Prop):Prop
 | mk (x0:T0) (x1:T1) (x2:T2) (x3:T3):P x0 x1 x2 x3->E4 P
inductive E5 {T0 T1 T2 T3 T4:Type} (P:T0->T1->T2->T3->T4->Prop):Prop
 | mk (x0:T0) (x1:T1) (x2:T2) (x3:T3) (x4:T4):P x0 x1 x2 x3 x4->E5 P
inductive E6 {T0 T1 T2 T3 T4 T5:Type} (P:T0->T1->T2->T3->T4->T5->Prop):Prop
 | mk (x0:T0) (x1:T1) (x2:T2) (x3:T3) (x4:T4) (x5:T5):P x0 x1 x2 x3 x4 x5->E6 P
inductive E7 {T0 T1 T2 T3 T4 T5 T6:Type} (P:T0->T1->T2->T3->T4->T5->T6->Prop):Prop
 | mk (x0:T0) (x1:T1) (x2:T2) (x3:T3) (x4:T4) (x5:T5) (x6:T6):P x0 x1 x2 x3 x4 x5 x6->E7 P
inductive E8 {T0 T1 T2 T3 T4 T5 T6 T7:Type} (P:T0->T1->T2->T3->T4->T5->T6->T7->Prop):Prop
 | mk (x0:T0) (x1:T1) (x2:T2) (x3:T3) (x4:T4) (x5:T5) (x6:T6) (x7:T7):P x0 x1 x2 x3 x4 x5 x6 x7->E8 P
inductive E9 {T0 T1 T2 T3 T4 T5 T6 T7 T8:Type} (P:T0->T1->T2->T3->T4->T5->T6->T7->T8->Prop):Prop
 | mk (x0:T0) (x1:T1) (x2:T2) (x3:T3) (x4:T4) (x5:T5) (x6:T6) (x7:T7) (x8:T8):P x0 x1 x2 x3 x4 x5 x6 x7 x8->E9 P
inductive E12 {T0 T1 T2 T3 T4 T5 T6 T7 T8 T9 T10 T11:Type} (P:T0->T1->T2->T3->T4->T5->T6->T7->T8->T9->T10->T11->Prop):Prop
 | mk (x0:T0) (x1:T1) (x2:T2) (x3:T3) (x4:T4) (x5:T5) (x6:T6) (x7:T7) (x8:T8) (x9:T9) (x10:T10) (x11:T11):P x0 x1 x2 x3 x4 x5 x6 x7 x8 x9 x10 x11->E12 P
structure A3 (p0 p1 p2:Prop):Prop where
 mk ::
 h0:p0
 h1:p1
 h2:p2
structure A4 (p0 p1 p2 p3:Prop):Prop where
 mk ::
 h0:p0
 h1:p1
 h2:p2
 h3:p3
structure A5 (p0 p1 p2 p3 p4:Prop):Prop where
 mk ::
 h0:p0
 h1:p1
 h2:p2
 h3:p3
 h4:p4
structure A6 (p0 p1 p2 p3 p4 p5:Prop):Prop where
 mk ::
 h0:p0
 h1:p1
 h2:p2
 h3:p3
 h4:p4
 h5:p5
structure A7 (p0 p1 p2 p3 p4 p5 p6:Prop):Prop where
 mk ::
 h0:p0
 h1:p1
 h2:p2
 h3:p3
 h4:p4
 h5:p5
 h6:p6
structure A8 (p0 p1 p2 p3 p4 p5 p6 p7:Prop):Prop where
 mk ::
 h0:p0
 h1:p1
 h2:p2
 h3:p3
 h4:p4
 h5:p5
 h6:p6
 h7:p7
structure A9 (p0 p1 p2 p3 p4 p5 p6 p7 p8:Prop):Prop where
 mk ::
 h0:p0
 h1:p1
 h2:p2
 h3:p3
 h4:p4
 h5:p5
 h6:p6
 h7:p7
 h8:p8
structure A10 (p0 p1 p2 p3 p4 p5 p6 p7 p8 p9:Prop):Prop where
 mk ::
 h0:p0
 h1:p1
 h2:p2
 h3:p3
 h4:p4
 h5:p5
 h6:p6
 h7:p7
 h8:p8
 h9:p9
structure A11 (p0 p1 p2 p3 p4 p5 p6 p7 p8 p9 p10:Prop):Prop where
 mk ::
 h0:p0
 h1:p1
 h2:p2
 h3:p3
 h4:p4
 h5:p5
 h6:p6
 h7:p7
 h8:p8
 h9:p9
 h10:p10
structure A13 (p0 p1 p2 p3 p4 p5 p6 p7 p8 p9 p10 p11 p12:Prop):Prop where
 mk ::
 h0:p0
 h1:p1
 h2:p2
 h3:p3
 h4:p4
 h5:p5
 h6:p6
 h7:p7
 h8:p8
 h9:p9
 h10:p10
 h11:p11
 h12:p12
structure A14 (p0 p1 p2 p3 p4 p5 p6 p7 p8 p9 p10 p11 p12 p13:Prop):Prop where
 mk ::
 h0:p0
 h1:p1
 h2:p2
 h3:p3
 h4:p4
 h5:p5
 h6:p6
 h7:p7
 h8:p8
 h9:p9
 h10:p10
 h11:p11
 h12:p12
 h13:p13
structure A15 (p0 p1 p2 p3 p4 p5 p6 p7 p8 p9 p10 p11 p12 p13 p14:Prop):Prop where
 mk ::
 h0:p0
 h1:p1
 h2:p2
 h3:p3
 h4:p4
 h5:p5
 h6:p6
 h7:p7
 h8:p8
 h9:p9
 h10:p10
 h11:p11
 h12:p12
 h13:p13
 h14:p14
structure A16 (p0 p1 p2 p3 p4 p5 p6 p7 p8 p9 p10 p11 p12 p13 p14 p15:Prop):Prop where
 mk ::
 h0:p0
 h1:p1
 h2:p2
 h3:p3
 h4:p4
 h5:p5
 h6:p6
 h7:p7
 h8:p8
 h9:p9
 h10:p10
 h11:p11
 h12:p12
 h13:p13
 h14:p14
 h15:p15
structure A20 (p0 p1 p2 p3 p4 p5 p6 p7 p8 p9 p10 p11 p12 p13 p14 p15 p16 p17 p18 p19:Prop):Prop where
 mk ::
 h0:p0
 h1:p1
 h2:p2
 h3:p3
 h4:p4
 h5:p5
 h6:p6
 h7:p7
 h8:p8
 h9:p9
 h10:p10
 h11:p11
 h12:p12
 h13:p13
 h14:p14
 h15:p15
 h16:p16
 h17:p17
 h18:p18
 h19:p19
noncomputable def clOf (env:Env):List (Str × NameKind)->List (Str × Addr)->List (Str × Addr)
 | [],cs=>cs
 | (n,k) :: r,cs=>clOf env r (if k == .free then (n,(env.cells.lookup n).getD 0) :: cs else cs)
theorem Gi {env:Env} {n:Str} {c:Addr}:∀ {l:List (Str × NameKind)} {cs:List (Str × Addr)},(∀ y∈l,y.2=.free->∃ c,env.cells.lookup y.1=some c) ->
  (clOf env l cs).lookup n=some c->cs.lookup n=some c\/env.cells.lookup n=some c
 | [],_,_,h=>.inl h
 | (m,k) :: r,cs,hl,h=>by
  have hr:∀ y∈r,y.2=.free->∃ c,env.cells.lookup y.1=some c:=λ y hy=>hl y (zK _ hy);rcases Gi hr h with q | q
  ·by_cases hk:(k == NameKind.free)=true
   ·rw [if_pos hk] at q;obtain ⟨c',e⟩:=hl (m,k) zS (by simpa using hk);rw [xH] at q;cases hm:n == m with
    | true =>
     rw [hm] at q;have q':(env.cells.lookup m).getD 0=c:=zT q;have em:n=m:=by simpa using hm
     rw [e] at q';have q2:c'=c:=q';rw [em,e,q2];exact .inr rfl
    | false =>
     rw [hm] at q;exact .inl q
   ·rw [if_neg hk] at q;exact .inl q
  ·exact .inr q
theorem Bs {env:Env} {n:Str}:∀ {l:List (Str × NameKind)} {cs:List (Str × Addr)},((n,NameKind.free)∈l\/∃ c,cs.lookup n=some c)->∃ c,(clOf env l cs).lookup n=some c
 | [],_,h=>by
  rcases h with h | h
  ·simp at h
  ·exact h
 | (m,k) :: r,cs,h=>by
  refine Bs (l:=r) ?_
  by_cases hn:(n,NameKind.free)∈r
  ·exact .inl hn
  ·refine .inr ?_;rcases h with h | ⟨c,h⟩
   ·rcases zL.mp h with e | e
    ·cases e;rw [if_pos ∅];exact ⟨(env.cells.lookup n).getD 0,by rw [xH]; simp⟩
    ·exact absurd e hn
   ·by_cases hk:(k == NameKind.free)=true
    ·rw [if_pos hk,xH];cases hm:n == m with
     | true=>exact ⟨_,rfl⟩
     | false=>exact ⟨c,h⟩
    ·rw [if_neg hk];exact ⟨c,h⟩
theorem Gh {scope:Scope} {env:Env} (h:∀ y∈scope.names,y.2=.free->∃ c,env.cells.lookup y.1=some c):closureFor scope env=pure (clOf env scope.names []):=by
 have go:∀ (l:List (Str × NameKind)) (cs:List (Str × Addr)),(∀ y∈l,y.2=.free->∃ c,env.cells.lookup y.1=some c) ->
   (forIn l cs (λ (x:Str × NameKind) (r:List (Str × Addr))=>if x.2 == NameKind.free then (do let a ← cellOf env x.1; pure (ForInStep.yield ((x.1,a) :: r))) else (pure (ForInStep.yield r):Sem _)):Sem _)=pure (clOf env l cs):=by
  intro l
  induction l with
  | nil=>intro cs _; rfl
  | cons y r ih =>
   intro cs hl;obtain ⟨n,k⟩:=y;have hr:∀ y∈r,y.2=.free->∃ c,env.cells.lookup y.1=some c:=λ y hy=>hl y (zK _ hy);rw [uF]
   by_cases hk:(k == NameKind.free)=true
   ·obtain ⟨c,e⟩:=hl (n,k) zS (by simpa using hk);have e1:cellOf env n=pure c:=by unfold cellOf; rw [show env.cells.lookup n=some c from e]
    dsimp only;rw [if_pos hk,e1];simp only [pure_bind];rw [ih _ hr];show _=pure (clOf env r _);rw [if_pos hk,show env.cells.lookup n=some c from e]
    all_goals rfl
   ·dsimp only;rw [if_neg hk];simp only [pure_bind];rw [ih _ hr];show _=pure (clOf env r _);rw [if_neg hk]
 have e:closureFor scope env=(forIn scope.names ([]:List (Str × Addr)) (λ (x:Str × NameKind) (r:List (Str × Addr))=>if x.2 == NameKind.free then (do let a ← cellOf env x.1; pure (ForInStep.yield ((x.1,a) :: r))) else (pure (ForInStep.yield r):Sem _)):Sem _):=by
  unfold closureFor
  first
   | rfl
   | (simp only [bind_pure]; rfl)
   | (simp; done)
 rw [e];exact go _ _ h
theorem Gg {env:Env}:∀ {names:List (Str × NameKind)} {x:Str},names.lookup x=some .free ->
  (names.map λ (n,k)=>if (k == NameKind.free && env.scope.kind == .function && env.kindOf n == some .cell) then (n,NameKind.cell) else (n,k)).lookup x=some .cell \/
  (names.map λ (n,k)=>if (k == NameKind.free && env.scope.kind == .function && env.kindOf n == some .cell) then (n,NameKind.cell) else (n,k)).lookup x=some .free
 | [],_,h=>by simp at h
 | (n,k) :: r,x,h=>by
  have ih:=@Gg env r x;cases hx:x == n with
  | true =>
   simp only [List.lookup_cons,hx] at h;cases h
   by_cases hc:(NameKind.free == NameKind.free && env.scope.kind == .function && env.kindOf n == some .cell)=true
   ·refine .inl ?_;rw [zG];dsimp only;rw [if_pos hc,xH,hx]
   ·refine .inr ?_;rw [zG];dsimp only;rw [if_neg hc,xH,hx]
  | false =>
   simp only [List.lookup_cons,hx] at h;rw [zG];dsimp only
   by_cases hc:(k == NameKind.free && env.scope.kind == .function && env.kindOf n == some .cell)=true
   ·rw [if_pos hc,xH,hx]; exact ih h
   ·rw [if_neg hc,xH,hx]; exact ih h
structure u_u (X:Cx) (scope:Scope) (x:Str) (fr:List (Str × Nat)):Prop where
 kind:scope.kind=.function
 cell:∀ y∈scope.names,y.2≠.cell
 free:∀ y∈scope.names,y.2=.free->X.env.kindOf y.1=some .cell\/X.env.kindOf y.1=some .free
 loc:∀ y∈scope.names,y.2=.local->scope.names.lookup y.1=some .local
 name:scope.names.lookup x=some .local
 nd:(x :: fr.map (·.1)).Nodup
 fr:∀ p∈fr,X.N[p.2]?=some p.1/\scope.names.lookup p.1=some .free
noncomputable def lG (fr:List (Str × Nat)) (σ:St):St:=fr.map λ p=>σ.getD p.2 none
section
variable {X:Cx} {scope:Scope} {x:Str} {fr:List (Str × Nat)}
def Pa (i:Nat) (te:TE):TS:=λ D σ H=>te σ H λ v H1=>D.nx (σ.set i (some v)) H1
end
theorem mQ.there {P:Program} {w:World} {H:Hp} {h:Heap} {a:Addr} {o:HO} (x:mQ P w H h a o):∃ ob,h.get? a=some ob:=by
 cases o with
 | lst xs=>obtain ⟨_,_,_,_,e⟩:=x; exact ⟨_,e⟩
 | tup xs=>obtain ⟨_,_,_,ob,e,_⟩:=x; exact ⟨ob,e⟩
 | dK kvs=>obtain ⟨_,_,_,_,o,_,_,e,_⟩:=x; exact ⟨_,e⟩
 | dT kvs=>obtain ⟨_,_,_,_,o,_,_,e,_⟩:=x; exact ⟨_,e⟩
 | set S n=>obtain ⟨o,_,_,_,e,_⟩:=x; exact ⟨_,e⟩
 | ins C dx fs=>obtain ⟨_,_,_,e,_⟩:=x; exact ⟨_,e⟩
 | own y=>exact x
 | xd fs=>obtain ⟨_,⟨_,_,_,e,_⟩,_⟩:=x; exact ⟨_,e⟩
 | rng lo hi=>obtain ⟨_,_,_,e⟩:=x; exact ⟨_,e⟩
 | frz ob u=>exact ⟨_,x.1⟩
 | tbl ps=>exact ⟨_,x⟩
 | met f y=>exact ⟨_,x⟩
 | ext φ=>exact x.2.1
abbrev Cov (fs:LA) (h₀:Heap) (H:Hp) (h B:Heap):Prop:=∀ b o,h.get? b=some o->b ∉ fs->((∃ o',h₀.get? b=some o')\/∃ u,H b=some u)->B.get? b=some o
def CX1 (P:Program) (w:World):CXT:=λ outer H s E ev s'=>∃ e C H' B a0,ev=.ref e/\s'.os=s.os/\AllBare s'.gens/\Un (frs outer) [] H H' s.heap s'.heap/\HOk P w H' s'.heap /\
 Heap.FlyingW B outer e C a0 s'.heap/\Cov (frs outer) s.heap H' s'.heap B/\E C none H'
abbrev XE:=St->Value->Hp->Prop
def Gf (X:Cx) (EX:XE):Prop:=∀ (pins:PN) (σ:St) (H:Hp) (s:Shared) (h':Heap) (e:Addr) (C:Value) (vs:LW),Inv X pins σ H s->Heap.MadeExcOf s.heap h' e C vs->EX σ C H->X.xe (.ref e) { s with heap:=h' }
theorem Qz {X:Cx} {pins:PN} {σ:St} {H:Hp} {s:Shared} {h'' B:Heap} (I:Inv X pins σ H s) (hst:X.stack=X.env :: X.outer) (hfr:X.env.frame=some X.env.locals) (hex:X.ex=[])
  (stay:B.StaysIn h'') (sm:s.heap.UpToSlots h'') (cov:Cov (frs X.stack) X.s₀.heap H s.heap B) :
  Un X.fs [] X.H₀ H X.s₀.heap h''/\HOk X.prog X.w H h''/\Cov X.fs X.s₀.heap H h'' B:=by
 have u:=I.base;rw [hex] at u;have hfs:frs X.stack=X.env.locals :: X.fs:=by
  rw [hst];unfold frs;rw [tE,hfr];rfl
 have old:∀ b o,X.s₀.heap.get? b=some o->b ∉ X.fs->b ∉ frs X.stack:=λ b o e hb hm=>by
  rw [hfs] at hm;rcases zL.mp hm with z | z
  ·exact absurd (zI (zP e) I.ok.above) (by rw [z]; exact xC _)
  ·exact hb z
 have trk:∀ b v,H b=some v->b ∉ frs X.stack:=λ b v e hm=>by
  have:=I.stkFree b hm;rw [e] at this;cases this
 have keepO:∀ b o,s.heap.get? b=some o->b ∉ frs X.stack->((∃ o',X.s₀.heap.get? b=some o')\/∃ v,H b=some v)->h''.get? b=some o:=λ b o e hb hc=>stay b o (cov b o e hb hc);have frm:∀ b,b∈X.fs->∀ o,s.heap.get? b=some o->∃ sl,h''.get? b=some { o with slots:=sl }:=λ b hb o e=>by
  obtain ⟨_,o',e',nf⟩:=I.funs.mem hb;rw [e] at e';cases e';exact sm b o e nf
 refine ⟨⟨λ b o e n hb hx=>?_,λ b o e n hb hx=>?_,u.free,λ b o e hx=>?_,u.tups,u.frzs,u.tbls⟩,λ a o ha=>?_,λ b o e hb hc=>?_⟩
 ·exact keepO b o (u.keep b o e n hb hx) (old b o e hb) (.inl ⟨o,e⟩)
 ·obtain ⟨sl,e1⟩:=u.slot b o e n hb hx;obtain ⟨sl',e2⟩:=frm b hb _ e1;exact ⟨sl',e2⟩
 ·obtain ⟨o1,e1⟩:=u.there b o e hx
  by_cases hb:b∈X.fs
  ·obtain ⟨sl,e2⟩:=frm b hb _ e1;exact ⟨_,e2⟩
  ·exact ⟨o1,keepO b o1 e1 (old b o e hb) (.inl ⟨o,e⟩)⟩
 ·refine (I.hok a o ha).stay (λ b v hb q=>?_) (λ _ q=>q) λ _ _ q=>q;rcases hb with hb | hb
  ·subst hb;exact keepO b v q (trk b o ha) (.inr ⟨o,ha⟩)
  ·exact keepO b v q (trk b _ hb) (.inr ⟨_,hb⟩)
 ·rcases hc with ⟨o',e'⟩ | ⟨v,e'⟩
  ·obtain ⟨o1,e1⟩:=u.there b o' e' (by simp);have q:=keepO b o1 e1 (old b o' e' hb) (.inl ⟨o',e'⟩);rw [e] at q;cases q;exact cov b o e1 (old b o' e' hb) (.inl ⟨o',e'⟩)
  ·obtain ⟨o1,e1⟩:=(I.hok b v e').there;have q:=keepO b o1 e1 (trk b v e') (.inr ⟨v,e'⟩);rw [e] at q;cases q;exact cov b o e1 (trk b v e') (.inr ⟨v,e'⟩)
section
variable {P:Program} {w:World} {K:Frag} {mg:MT} {base:Heap} {N:List Str} {qual:Str} {scope:Scope} {f:Addr} {cd:Value} {A:Around} {outer:List Env} {s₀:Shared} {H₀:Hp} {E:XK}
theorem fE:Gf (cxOf (CX1 P w) P w K mg base N qual scope f cd A outer s₀ H₀ E) (λ _ C H=>E C none H):=by
 intro pins σ H s h' e C vs I M hE;have hfu:=I.stack;have hid:=PySem.W.funFrames_hide (as:=frs (cxOf (CX1 P w) P w K mg base N qual scope f cd A outer s₀ H₀ E).stack) hfu (λ env he a ha=>qE.mpr ⟨env,he,ha⟩);refine wpAny_leaves_madeW (s:={ s with heap:=h' }) (h:=s.heap) I.ok.frames rfl (λ b o q=>PySem.W.of_hideAll _ q) hid M λ h'' t fl'' _ _ sm=>?_;obtain ⟨un,ok,cv⟩:=Qz I rfl rfl rfl fl''.1 ((Heap.UpToSlots.of_keeps M.keeps).trans sm) λ b o q hb _=>PySem.W.hideAll_get _ q hb;exact ⟨e,C,H,_,_,rfl,I.os,I.bare,un,ok,fl'',cv,hE⟩
end
section
variable {X:Cx} {EX:XE} {k:Nat} {f:Addr} {fd:FuncData} {ps:List Str} {sp:Sp} {dvs:List V} {ds:LW} {x:Str} {p pos:Pos} {e:Expr} {es:List Expr} {t:TA}
def t_C (sp:Sp) (dvs:List V) (EX:XE) (t:TA):TE:=λ σ H Q=>t σ H λ vs H1=>sp (vs++dvs) H1 Q λ C _ H'=>EX σ C H'
theorem dA {P:Program} {w:World} {Y:Cx}:gP (CX1 P w) Y E0:=λ _ _ _ _ _ _ _ h=>by
 obtain ⟨_,_,_,_,_,_,_,_,_,_,_,_,q⟩:=h;exact q.elim
end
theorem Qy {K:Frag} {h:Heap} {C:Addr} {bmB:LW} {newId:String} (KX:K.In h) (hq:PySem.W.excIn K C bmB newId=true) :
  ∃ bm N nm qn bs hd sn sub ab col dd k0 k1 k2 k3 k5 mN,h.get? C=some (excClassObj nm qn C N bs bm hd sn sub ab col dd k0 k1 k2 k3 k5 newId)/\h.Ns N mN/\mN "__init__" = none/\OwnTail h bmB bm:=by
 revert hq
 unfold PySem.W.excIn;split
 ·next dd cd sl lk =>
  split
  ·next C1 bm k0 k1 k2 k3 nw k5 em es =>
   intro hq;simp only [Bool.and_eq_true,beq_iff_eq,Bool.not_eq_true'] at hq;obtain ⟨⟨⟨⟨⟨e1,e2⟩,e3⟩,e4⟩,e5⟩,e6⟩:=hq;subst e1 e2;cases cd with
   | mk nm bs mro ns qn hd sn sub ab col del =>
    have em':mro=Value.ref C1 :: bm:=em;have e3':del=false:=e3;subst em' e3';have esl:sl=#[k0,k1,k2,k3,some (Value.builtin nw),k5]:=by
     cases sl with
     | mk l=>exact xZ Array.mk es
    subst esl;exact ⟨bm,ns,nm,qn,bs,hd,sn,sub,ab,col,dd,k0,k1,k2,k3,k5,_,KX _ _ lk,Heap.Ns.of_isNs (PySem.W.isNs_of_in KX e5),PySem.W.nsMap_none_of_in KX e5 e6,PySem.W.tail_of_in KX e4⟩
  ·intro z; cases z
 ·intro z; cases z
section
variable {X:Cx} {EX:XE} {C:Addr} {x:Str} {np cpos pos:Pos} {e₀:Expr} {rest:List Expr} {t:TA} {bmB:LW} {B newId initId:String}
def iO (C:Addr) (EX:XE) (t:TA):TS:=λ _ σ H=>t σ H λ vs H1=>vs.length<=sizeLine/\EX σ (.ref C) H1
theorem fF (hc:X.calm=true) (hx:Gf X EX) (hg:Gl X x) (hm:X.mg x=some (.ref C)) (hC:PySem.W.excIn X.K C bmB newId=true) (FB:ExcBaseFacts B newId initId bmB) (ha:PA X (e₀ :: rest) t)
  (hdb:(x == ("__debug__" : Str))=false:=by decide) (he:starEach (e₀ :: rest) X.env=(false,eval e₀ X.env) :: starEach rest X.env:=by rfl) (hpl:(backTo cpos (starEach rest X.env)).any (·.1)=false:=by rfl) :
  PS X (.Raise (some (.Call (.Name x np) (e₀ :: rest) [] cpos)) none pos) (iO C EX t):=by
 intro pins s σ H D I h;obtain ⟨bm,N,nm,q,bs,hd,sn,sub,ab,col,dd,k0,k1,k2,k3,k5,mN,hcls,hns,hni,T⟩:=Qy I.mod.kin hC;have hpl':(backTo cpos (starEach (e₀ :: rest) X.env)).any (·.1)=false:=by
  rw [he];show (false || (backTo cpos (starEach rest X.env)).any (·.1))=false;rw [hpl];rfl
 refine wpAny_Raise_call_subT (C:=C) (nm:=nm) (q:=q) (N:=N) (bs:=bs) (bm:=bm) (hdct:=hd) (sn:=sn) (sub:=sub) (ab:=ab) (col:=col) (dd:=dd) (k0:=k0) (k1:=k1) (k2:=k2) (k3:=k3) (k5:=k5) FB (mN:=mN) (T.hasType FB.hasBase) (I.ok.hd hc) hpl' hni
  (cR I hg hm ⟨rfl,?_⟩ hdb)
 have hw:=ha cpos pins s σ H _ I h;rw [he] at hw ⊢;refine Calls.evalArgs_plain (thn hw λ us s2 ⟨vs,H2,I2,r,z,q2⟩=>⟨rfl,?_,I2.bk _ _ hcls,hns.keeps I2.bk,T.keeps I2.bk,λ h' e M=>hx pins σ H2 s2 h' e _ us I2 M q2⟩);show us.length<=sizeLine;rw [← r.length];exact z
end
section
variable {X:Cx} {pins:PN} {σ:St} {H:Hp} {s:Shared}
noncomputable def Ge (e:Addr) (C:Value):HO:=.ext λ h=>∃ o,h.get? e=some o/\o.cls=C
end
noncomputable abbrev Cx.body (X:Cx) (pn:PN) (E:VP):Cx:={ X with pn:=pn,xe:=E }
noncomputable abbrev Cx.suite (X:Cx) (e:Addr):Cx:={ X with A:=X.A.mark (some (.ref e)),calm:=false,xe:=λ _ _=>False }
section
variable {X:Cx}
theorem mP:OpR X (binaryOp .Mult) (rI (λ i j=>IntMulOk i j) λ i j=>.int (i*j)):=opI λ _ _ _ _ _ _ _ hc q=>mul_int q hc
def jM (_ j:Int):Prop:=j≠0/\j.natAbs.log2 < 9000
theorem kN:OpR X (binaryOp .FloorDiv) (rI jM λ i j=>.int (i.fdiv j)):=opI λ _ _ _ _ _ _ _ hc q=>floordiv_int hc.1 q (.inl (PyProof.noPylong_of_log2 hc.2))
end
mutual
inductive Dt (K:Frag) (H:Hp):V->PyData->Prop
 | non:Dt K H .non .none
 | bl (b):Dt K H (.bl b) (.bool b)
 | int (i):Dt K H (.int i) (.int i)
 | str (x):Dt K H (.str x) (.str x)
 | lst {a xs ds}:SqL K H a xs->Dts K H xs ds->Dt K H (.ref a) (.list ds)
 | tup {a xs ds}:SqT K H a xs->Dts K H xs ds->Dt K H (.ref a) (.tuple ds)
inductive Dts (K:Frag) (H:Hp):List V->List PyData->Prop
 | nil:Dts K H [] []
 | cons {x xs d ds}:Dt K H x d->Dts K H xs ds->Dts K H (x :: xs) (d :: ds)
end
theorem Dts.ints {K:Frag} {H:Hp}:∀ (ns:LI'),Dts K H (ns.map V.int) (ns.map PyData.int)
 | []=>.nil
 | n :: r=>.cons (.int n) (Dts.ints r)
section
variable {X:Cx} {pins:PN} {σ:St} {H:Hp} {s:Shared}
mutual
theorem Dt.reads (I:Inv X pins σ H s):∀ {x:V} {d:PyData} {u:Value},Dt X.K H x d->RelV x u->∃ as,Reads s.heap u d as
 | _,_,_,.non,r=>by cases (show _=Value.none from r); exact ⟨_,.none⟩
 | _,_,_,.bl b,r=>by cases (show _=Value.bool b from r); exact ⟨_,.bool b⟩
 | _,_,_,.int i,r=>by obtain ⟨t,e⟩:=(show ∃ t,_=Value.int i t from r); cases e; exact ⟨_,.int i t⟩
 | _,_,_,.str x,r=>by obtain ⟨t,e⟩:=(show ∃ t,_=Value.str x t from r); cases e; exact ⟨_,.str x t⟩
 | _,_,_,.lst (a:=a) h hd,r=>by
  cases (show _=Value.ref a from r);obtain ⟨its,rv,⟨o,n,e,c,_,dd⟩,_⟩:=I.list h;obtain ⟨as,q⟩:=Dts.reads I hd rv;exact ⟨_,.list e c dd (by simpa using q)⟩
 | _,_,_,.tup (a:=a) h hd,r=>by
  cases (show _=Value.ref a from r);obtain ⟨its,rv,⟨o,e,c,n,dd⟩,_⟩:=I.tuple h;obtain ⟨as,q⟩:=Dts.reads I hd rv;exact ⟨_,.tuple e c dd (by simpa using q)⟩
theorem Dts.reads (I:Inv X pins σ H s):∀ {xs:List V} {ds:List PyData} {us:LW},Dts X.K H xs ds->Vals xs us->∃ as,ReadsAll s.heap us ds as
 | _,_,_,.nil,r=>by cases r; exact ⟨_,.nil⟩
 | _,_,_,.cons h t,r=>by
  cases r with
  | cons r1 r2 =>
   obtain ⟨as,q1⟩:=Dt.reads I h r1;obtain ⟨bs,q2⟩:=Dts.reads I t r2;exact ⟨_,.cons q1 q2⟩
end
end
section
variable {X:Cx}
def rEqD (K:Frag):R2:=λ x y H Q=>∃ d d',Dt K H x d/\Dt K H y d'/\SeqAt.shaped d=true/\SeqAt.shaped d'=true/\SeqAt.noMix d d'=true/\Q (.bl (same d d')) H
def rNeD (K:Frag):R2:=λ x y H Q=>∃ d d',Dt K H x d/\Dt K H y d'/\SeqAt.shaped d=true/\SeqAt.shaped d'=true/\SeqAt.noMix d d'=true/\Q (.bl (!same d d')) H
theorem dB (hu:X.A.units+64 < cLine):OpR X (compareOp .Eq) (rEqD X.K):=by
 intro pins s σ H x y v u Q I rx ry h;obtain ⟨d,d',h1,h2,s1,s2,mx,q⟩:=h;obtain ⟨as,r1⟩:=h1.reads I rx;obtain ⟨bs,r2⟩:=h2.reads I ry;exact eq_dataH_same r1 r2 s1 s2 hu mx ⟨.bl (same d d'),H,I,rfl,q⟩
theorem bE (hu:X.A.units+64 < cLine):OpR X (compareOp .NotEq) (rNeD X.K):=by
 intro pins s σ H x y v u Q I rx ry h;obtain ⟨d,d',h1,h2,s1,s2,mx,q⟩:=h;obtain ⟨as,r1⟩:=h1.reads I rx;obtain ⟨bs,r2⟩:=h2.reads I ry;exact ne_dataH_same r1 r2 s1 s2 hu mx ⟨.bl (!same d d'),H,I,rfl,q⟩
end
structure Br (K:Frag) (C:Addr):Prop where
 ga:PySem.W.findIn K (.ref C) "__getattribute__" = some (some (.builtin "BaseException.__getattribute__"))
 gt:PySem.W.findIn K (.ref C) "__getattr__" = some none
 ca:PySem.W.findIn K (.ref C) "__class__" = some (some (.builtin "object.__class__"))
 cg:PySem.W.specialIn K (.builtin "object.__class__") "__get__" = some (some (.builtin "getset_descriptor.__get__"))
 tk:PySem.W.takesIn K (.builtin "object.__class__")=some true
 ob:PySem.W.mroIn K C (.type "object")=some true
 bx:PySem.W.mroIn K C (.type "BaseException")=some true
 cl:(PySem.W.clsIn K C).isSome=true
theorem Qx {prog:Program} {w:World} {A:Around} {E:VP} {s:Shared} {K:Frag} {x C:Addr} {Q:Option Value->Shared->Prop} (F:Br K C) (KX:K.In s.heap) (ho:∃ o,s.heap.get? x=some o/\o.cls=.ref C)
  (h:Q (some (.ref C)) { s with toks:=s.toks+1 }):wpAny (model prog w) A (getAttr? (.ref x) "__class__") Q E s:=by
 obtain ⟨hh,g,d,t,os⟩:=s;obtain ⟨o,ho,hc⟩:=ho;have L0:PySem.W.Looks (model prog w) hh (typeOf (.ref x)) (.ref C):=hc ▸ (PySem.W.Looks.ld ho).andThen .now;have L1:=uX (M:=model prog w) KX F.ga;have L2:=uX (M:=model prog w) KX F.gt;have L3:=uX (M:=model prog w) KX F.ca;have L4:=PySem.W.looks_specialIn (M:=model prog w) KX F.cg;have L5:=PySem.W.looks_takesIn (M:=model prog w) KX F.tk;have L6:=PySem.W.looks_mroIn (M:=model prog w) KX F.ob;have L7:=PySem.W.looks_mroIn (M:=model prog w) KX F.bx;unfold getAttr? getAttrBy? getAttrBy;refine zA (wpAny_mkText (zA (vW (xT (zA (L0.at (zA (L1.at ?_))))))));show wpAny _ _ (getAttrByItsOwn _ _ _ _ _ _) _ _ _;unfold getAttrByItsOwn;refine zA (show wpAny _ _ (hookBefore (.ref C)) _ _ _ from L2.at ?_);refine zA (vW (xT ?_));show wpAny _ _ (boundAndCalled _ _ _) _ _ _;unfold boundAndCalled;rw [PySem.F.attr_ValueError.ga.bind (.ref x)];refine zA (zC (wpAny_call ?_));refine codeAny_call_builtin PySem.F.attr_ValueError.ga.plain PySem.F.entry_bexc_ga ?_;have hk:builtinKind "BaseException.__getattribute__" = some .slot:=nofun
 have hsplit:splitId "BaseException.__getattribute__" = some ("BaseException","__getattribute__"):=nofun
 have hargs:=PySem.F.args_bexc_ga (.ref x) (.str "__class__" t);have LI:PySem.W.Looks (model prog w) hh (isInstance (.ref x) (.type "BaseException")) true:=L0.andThen L7;show wpAny _ _ (checkBuiltinCall "BaseException.__getattribute__" ⟨[.ref x,.str "__class__" t],[]⟩) _ _ _;simp only [checkBuiltinCall,hk,hsplit];refine zA (LI.at ?_)
 repeat wp_step
 rw [hc];refine L3.at ?_;refine zA (show wpAny _ _ (Builtin.ObjectAttr.getOf (some (.builtin "object.__class__"))) _ _ _ from L4.at ?_);have LD:PySem.W.Looks (model prog w) hh (Builtin.ObjectAttr.dataDescriptor? (some (.builtin "object.__class__")) (some (.builtin "getset_descriptor.__get__"))) (some (.builtin "getset_descriptor.__get__",.builtin "object.__class__")):=L5.andThen .now;refine zA (LD.at ?_)
 repeat wp_step
 have LO:PySem.W.Looks (model prog w) hh (isInstance (.ref x) (.type "object")) true:=L0.andThen L6;refine codeAny_call_builtin PySem.W.KF.slot_gs.plain PySem.W.KF.entry_gs (PySem.W.KF.slot_gs.check _ _ _ _ _ _ _ _ PySem.W.KF.type_class (PySem.W.KF.args_gs _ _ _) ?_)
 (unfold Builtin.«getset_descriptor.__get__» Builtin.Getset_descriptor.descrGet; rw [PySem.W.dga_obj]; refine zA (zC ?_))
 (unfold Builtin.Getset_descriptor.descrGetter Builtin.Getset_descriptor.descrCheckInstance Builtin.Getset_descriptor.descrNameAndClass; simp only [PySem.W.KF.owner_class])
 refine zA (zA (zC (zA (LO.at (zC ?_)))))
 repeat wp_step
 refine ⟨Code.quiet_builtin _ (nofun),tD PySem.W.KF.entry_class ?_⟩
 (unfold Builtin.«object.__class__» shownTypeOf; repeat wp_step)
 rw [hc];exact zC (zC h)
theorem Qw {K:Frag} {x C:Addr} (F:Br K C):PySem.W.KitX K (.ref x) (.ref C) (λ h=>∃ o,h.get? x=some o/\o.cls=.ref C) where
 ty:=λ M h _ ⟨o,ho,hc⟩=>hc ▸ (PySem.W.Looks.ld ho).andThen .now
 it:=λ M h KX _=>by
  have q:=F.cl;unfold PySem.W.clsIn at q;split at q
  ·next lk =>
   intro A' Q' E' s' k z
   (unfold isType loadHead; exact zA (wpAny_loadPart (k _ _ (KX _ _ lk)) (zC z)))
  ·cases q
 ne:=λ h tp dd its n sl KX htp=>by
  have q:=F.cl;refine Bool.eq_false_iff.mpr λ z=>?_;have e:C=tp:=Value.ref.inj (zY.mp z);subst e;unfold PySem.W.clsIn at q;split at q
  ·next lk=>exact absurd ((KX _ _ lk).symm.trans htp) (by intro z2; cases z2)
  ·cases q
 ca:=λ KX p k=>Qx F KX p k
inductive TyX (K:Frag) (H:Hp):V->Value->Prop where
 | ty {x:V} {t:Value} (h:TyOf K H x t):TyX K H x t
 | exc {e C:Addr} (h:H e=some (Ge e (.ref C))) (F:Br K C):TyX K H (.ref e) (.ref C)
 | tupS {a:Addr} {xs:List V} (h:SqT K H a xs):TyX K H (.ref a) (.type "tuple")
noncomputable def clsV:V->Value
 | .ty n=>.type n
 | .ref a=>.ref a
 | _=>.none
noncomputable def Qv:V->Bool
 | .ty _=>true
 | .ref _=>true
 | _=>false
def rIsi (K:Frag):List V->Hp->VK->Prop:=λ vs H Q=>∃ x c t b,vs=[x,c]/\TyX K H x t/\Qv c=true/\PySem.W.kitOne K t (clsV c)=some b/\Q (.bl b) H
theorem iZ {X:Cx}:kA X (.builtin "isinstance") (rIsi X.K):=by
 intro pins s σ H xs us Q I rv h;obtain ⟨x,c,t,b,rfl,ty,ic,e,q⟩:=h;obtain ⟨u,w,rfl,r1,r2⟩:=rv.two;have ew:w=clsV c:=by
  cases c <;> first | exact r2 | cases ic
 subst ew;have fin:∀ tk,EP X pins σ Q (.bool b) { s with toks:=tk }:=λ tk=>⟨.bl b,H,I.tok tk,rfl,q⟩;cases ty with
 | ty h=>exact Oi I r1 h e fin
 | exc h F =>
  obtain rfl:u=_:=r1;obtain ⟨φ,_,_⟩:=(show mQ X.prog X.w H s.heap _ (Ge _ _) from I.hok _ _ h);exact xL (Qw F) I.kIn φ e (λ z=>nomatch z) fin
 | tupS h =>
  obtain rfl:u=_:=r1;obtain ⟨its,_,⟨o,h1,h2,_⟩,_⟩:=I.tuple h;exact xL PySem.W.kitx_tuple I.kIn ⟨o,h1,h2⟩ e (λ z=>nomatch z) fin
structure Qu (k:Nat) (A:Around):Prop where
 dp:A.depth+3*k+5 < recursionLimit
 un:A.units+16*k+200 < cLine
structure u_v (P:Program) (w:World) (K:Frag) (mg:MT) (base:Heap) (k:Nat) (f:Addr) (fd:FuncData) (ps:List Str) (sp:Sp):Prop where
 len:∀ vs H Q E,sp vs H Q E->vs.length=ps.length
 run:∀ (A:Around) (outer:List Env) (s:Shared) (H:Hp) (args:Args) (us:LW) (vs:List V) (Q:VK) (E:XK),Qu k A->Env0 P w K mg base A outer s H->BindsTo s fd args (ps.zip us)->Vals vs us->sp vs H Q E ->
  codeAny (model P w) A (.call (.ref f) args) (CR CX0 outer P w H s Q E) s
section
variable {X:Cx}
theorem kY:OpR X (compareOp .Eq) (rI0 λ i j=>.bl (decide (i=j))):=opB0 λ i j _ _ _ _ _ q=>eq_int (by rw [Bool.beq_eq_decide_eq]; exact q)
theorem jN:OpR X (compareOp .NotEq) (rI0 λ i j=>.bl (!decide (i=j))):=opB0 λ i j _ _ _ _ _ q=>ne_int (by rw [bne,Bool.beq_eq_decide_eq]; exact q)
theorem PS.nox {st:Stmt} {t:TS} (h:PS X.nox st t):PS X st t:=λ pins s σ H D I hw =>
 xG (h pins s σ H D (I.wish _) hw) (λ _ _ q=>q.unwish) λ _ _ z=>z.elim
end
section
variable {P:Program} {w:World} {K:Frag} {mg:MT} {base:Heap}
theorem Fun.okX {x qual:Str} {st:Stmt} {f:Addr} {fd:FuncData} {N ps:List Str} {k:Nat} {sp:Sp} (F:Fun K x qual st f fd) (S:nL N ps (oV st)) (len:∀ vs H Q E,sp vs H Q E->vs.length=ps.length)
  (hbody:∀ (cdv:Value) (A:Around) (outer:List Env) (s:Shared) (H:Hp) (vs:List V) (Q:VK) (E:XK),Room k (A.deeper (envOfC qual (oV st) s.heap.objs.size f cdv))->sp vs H Q E ->
   ∃ t,PSs (cxOf (CX1 P w) P w K mg base N qual (oV st) f cdv A outer s H E) (kH st) t/\t { nx:=λ _ H'=>Q .non H',rt:=Q } (jV N vs) H):FnOk P w K mg base (CX1 P w) (k+1) f fd ps sp:=by
 obtain ⟨oc,od,kV,doc,pm,an,cdv,ct,osl,rfl,lk,hcd⟩:=F.ex;exact Bz lk hcd S len λ A outer s H vs Q E hr hsp=>hbody cdv A outer s H vs Q E hr hsp
end
end L2
namespace Att
open PySem PySem.W PySem.Calls PyProof.Rows
theorem Gc:∀ ns:LI',ofPys (ns.map PyData.int)=ns.map WData.int
 | []=>rfl
 | n :: r=>by
  show ofPy (.int n) :: ofPys (r.map PyData.int)=_;rw [Gc r];rfl
theorem Qt {ns:LI'} (h:(WData.list (ns.map WData.int)).layable=true):∀ n∈ns,Builtin.Int.intBits n<=1048576:=λ n hn=>by
 have e:ofPy (.list (ns.map PyData.int))=WData.list (ns.map WData.int):=by
  show WData.list (ofPys (ns.map PyData.int))=_;rw [Gc]
 have sh:PySem.Spec.Shape.has (.list .int) (.list (ns.map PyData.int))=true:=by
  simp [PySem.Spec.Shape.has]
 exact intBits_le_of_item hn (layable0_of_all (lay0_ofPy (s:=.list .int) rfl sh (by rw [e]; exact h)))
theorem attach_callB {l:OpenLaw} {n:Nat} {q:Program} {loose:List Str} {XP:(MT)->Heap->Prop} {YP:World->Heap->Prop} {d:DefRec} (hn:l.most=some n) (hdf:d.params.defaults=[])
  (call:∀ (w:World) (s₀ s₁:Shared) (mg mb:MT) (fa:Addr) (a:Addr) (vs:LW) (ns:LI'),Ground q loose [] XP w s₀ mg mb s₁.heap->YP w s₁.heap->mg d.name=some (.ref fa) ->
   s₁.heap.get? a=some { cls:=.type "list",data:=.seq vs.toArray }->IntsAre vs ns->ns.length<=n->(∀ m∈ns,Builtin.Int.intBits m<=1048576)->s₁.gens=#[] ->
   codeAny (model l.prog w) callerA (.call (.ref fa) ⟨[.ref a],[]⟩) (λ r s'=>r=.ok (.ret (.bool true))/\OldK s₁.heap s'.heap/\s'.os=s₁.os/\AllBare s'.gens) s₁) :
  WalkO q loose XP YP l.row.toRowW d [] (λ f vs=>PySem.call f vs):=by
 intro w s₀ s₁ mg mb G Y fa o pm cd doc dV kV ho hd hcd hD hmg hg args vals as hpre hlay hrd hwl hlo;obtain rfl:dV=.none:=Dflts.none hD hdf;obtain rfl:kV=.none:=Dflts.noKw hD;obtain ⟨a,vs,ns,rfl,rfl,hobj,hints,hlen⟩:=Pd hn hpre hwl;have hb:=Qt (layableW_arg hlay _ zS);refine enter_call (sV (call w s₀ s₁ mg mb fa a vs ns G Y hmg hobj hints hlen hb hg) λ r s' hq=>?_);obtain ⟨rfl,h2,h3,h4⟩:=hq;exact ⟨.inl ⟨.bool true,.bool true,[],rfl,λ _=>rfl,.bool true,Pc l _,λ _=>⟨List.Pairwise.nil,λ _ hm=>(nomatch hm)⟩⟩,h2,h3,h4⟩
end Att
namespace L2
open PySem PySem.Spec PyProof.Rows
open PySem.W (Frag)
def Gb (K:Frag):Sp:=λ vs H Q _=>∃ (a:Addr) (ns:LI'),vs=[.ref a]/\SqL K H a (ns.map V.int)/\ns.length<=63/\(∀ m∈ns,Builtin.Int.intBits m<=1048576)/\∀ H',Q (.bl true) H'
theorem walkB {l:PySem.W.OpenLaw} {k:Nat} {q:Program} {loose:List Str} {XP:(MT)->Heap->Prop} {YP:World->Heap->Prop} {d:DefRec} {K:Params->Frag} {x:Str}
  (hn:l.most=some 63) (hdf:d.params.defaults=[]) (hr:Room k callerA) (hY:∀ (w:World) (h:Heap),YP w h->(K w.params).In h)
  (F:∀ (w:World) (mg:MT) (fa:Addr) (h:Heap),(K w.params).In h->h.Ns mainGlobals mg->mg d.name=some (.ref fa) ->
   ∃ fd:FuncData,(∀ (s:Shared) (u:Value),BindsTo s fd ⟨[u],[]⟩ [(x,u)])/\∀ base:Heap,(K w.params).In base->base.Ns mainGlobals mg->FnOk l.prog w (K w.params) mg base CX0 k fa fd [x] (Gb (K w.params))) :
  PySem.W.WalkO q loose XP YP l.row.toRowW d [] (λ f vs=>PySem.call f vs):=by
 refine Att.attach_callB hn hdf λ w s₀ s₁ mg mb fa a vs ns G Y hmg hobj hints hlen hb hg=>?_;have KX:=hY w _ Y;obtain ⟨fd,hbn,hF⟩:=F w mg fa _ KX G.T.g hmg;exact Pb KX G.T.g G.T.b G.T.builtins G.T.nolimit hg hobj hints (yC hlen ∅) hr hF hbn (λ H _ hS=>⟨a,ns,rfl,hS,hlen,hb,λ _=>rfl⟩) λ H e s' z=>z
theorem kI {wi:TI} {g:TG} {tb:TS} {D:Ends} {σ:St} {H:Hp} (h:∀ B:TS,B=tb->wi σ H λ J H1=>∃ W:Nat->Nat->St->Hp->Prop,(∃ m,W 0 m σ H1)/\∀ i m σ H,W i m σ H ->
  (J.stop i H/\D.nx σ H)\/(J.go i H/\∃ N:St->Hp->Prop,(∀ σ' H',N σ' H'->∃ m',m' < m/\W (i+1) m' σ' H')/\∀ x H',J.yld i H x H'->g x σ H' λ σ2 H2=>B { D with nx:=N,ct:=N,bk:=D.nx } σ2 H2)):tFor wi g tb D σ H:=h _ rfl
theorem Ga {c:TT} {tb:TS} {D:Ends} {σ:St} {H:Hp} (h:∀ B:TS,B=tb->∃ W:Nat->St->Hp->Prop,(∃ m,W m σ H)/\∀ m σ H,W m σ H ->
  c σ H λ b H1=>if b=true then ∃ N:St->Hp->Prop,(∀ σ' H',N σ' H'->∃ m',m' < m/\W m' σ' H')/\B { D with nx:=N,ct:=N,bk:=D.nx } σ H1 else D.nx σ H1):Fm c tb D σ H:=h _ rfl
theorem st {t u:TS} {D:Ends} {σ:St} {H:Hp} (h:∀ NX:St->Hp->Prop,NX=u D->t { D with nx:=NX } σ H):tSeq t u D σ H:=h _ rfl
section
variable {g:Int->Int->V} {C:Int->Int->Prop} {f:Int->V} {i j:Int} {H:Hp} {Q:VK}
theorem t_E:rI0 g (.int i) (.int j) H Q=Q (g i j) H:=propext ⟨λ ⟨_,_,e1,e2,q⟩=>by cases e1; cases e2; exact q,λ q=>⟨_,_,rfl,rfl,q⟩⟩
theorem u_h:rI C g (.int i) (.int j) H Q=(C i j/\Q (g i j) H):=propext ⟨λ ⟨_,_,e1,e2,q⟩=>by cases e1; cases e2; exact q,λ q=>⟨_,_,rfl,rfl,q⟩⟩
theorem u_i:rU f (.int i) H Q=Q (f i) H:=propext ⟨λ ⟨_,e1,q⟩=>by cases e1; exact q,λ q=>⟨_,rfl,q⟩⟩
end
theorem Same.new {H:Hp} {a:Addr} {o:HO} (h:H a=none):Same H (upd H a o):=λ b u e=>by rw [nD (mX e h)]; exact e
theorem Same.over {H H1:Hp} {a:Addr} {o:HO} (h:H a=none) (s:Same H H1):Same H (upd H1 a o):=λ b u e=>by rw [nD (mX e h)]; exact s b u e
theorem Same.tup {K:Frag} {H H':Hp} {a:Addr} {xs:List V} (e:Same H H') (h:SqT K H a xs):SqT K H' a xs:=by
 rcases h with (h | ⟨o,h⟩) | h
 ·exact .inl (.inl (e _ _ h))
 ·exact .inl (.inr ⟨o,e _ _ h⟩)
 ·exact .inr h
section
variable {K:Frag} {a b:Addr} {xs:List V} {te:TE} {fr:List (Str × Nat)} {σ:St} {H:Hp} {Q:VK}
def u_w (H:Hp) (a:Addr) (R:Nat->V->Prop) (i:Nat) (H1:Hp):Prop:=Same H H1/\∃ ys:List V,H1 a=some (.lst ys)/\ys.length=i/\∀ j y,ys[j]?=some y->R j y
end
theorem mS {α β:Type} {ys:List β} {xs:List α} {f:α->β} (hl:ys.length=xs.length) (h:∀ (j:Nat) (y:β),ys[j]?=some y->∃ x,xs[j]?=some x/\y=f x):ys=xs.map f:=by
 refine vK (by simpa using hl) λ i h1 h2=>?_;obtain ⟨x,e1,e2⟩:=h i ys[i] (by simp [h1]);obtain ⟨hx,e3⟩:=zR.mp e1;rw [List.getElem_map,e2,e3]
noncomputable def hJ (sc scope:Scope):Scope:={ scope with names:=scope.names.map λ (n,k)=>if (k == .free && sc.kind == .function && sc.names.lookup n == some .cell) then (n,.cell) else (n,k) }
theorem Qs {scope sc:Scope} {env:Env} (h:env.scope=sc):relabel scope env=hJ sc scope:=by subst h; rfl
theorem dC:∀ (names:List (Str × NameKind)) (n:Nat) (acc:List (Str × Addr)),cellsFrom n names acc=cellsFrom n names []++acc
 | [],_,_=>rfl
 | (x,k) :: r,n,acc=>by
  unfold cellsFrom;split
  ·rw [dC r (n+1) ((x,n) :: acc),dC r (n+1) [(x,n)],yP];rfl
  ·exact dC r n acc
theorem own_mem {y:Str} {b:Addr}:∀ {names:List (Str × NameKind)} {n:Nat} {acc:List (Str × Addr)},(y,b)∈cellsFrom n names acc->(y,b)∈acc\/(y,NameKind.cell)∈names
 | [],_,_,h=>.inl h
 | (x,k) :: r,n,acc,h=>by
  unfold cellsFrom at h;split at h
  ·rename_i hk;rcases own_mem h with q | q
   ·rcases zL.mp q with e | e
    ·have ek:k=.cell:=by simpa using hk
     cases e;exact .inr (by rw [ek]; exact zS)
    ·exact .inl e
   ·exact .inr (zK _ q)
  ·rcases own_mem h with q | q
   ·exact .inl q
   ·exact .inr (zK _ q)
theorem dD {y:Str}:∀ {names:List (Str × NameKind)} {n:Nat} {acc:List (Str × Addr)},((y,NameKind.cell)∈names\/∃ b,acc.lookup y=some b)->∃ b,(cellsFrom n names acc).lookup y=some b
 | [],_,_,h=>by
  rcases h with h | h
  ·simp at h
  ·exact h
 | (x,k) :: r,n,acc,h=>by
  unfold cellsFrom;split
  ·rename_i hk;refine dD ?_;rcases h with h | ⟨b,h⟩
   ·rcases zL.mp h with e | e
    ·cases e;exact .inr ⟨n,by rw [xH]; simp⟩
    ·exact .inl e
   ·rw [xH];cases hx:y == x with
    | true=>exact .inr ⟨n,rfl⟩
    | false=>exact .inr ⟨b,h⟩
  ·rename_i hk;refine dD ?_;rcases h with h | h
   ·rcases zL.mp h with e | e
    ·cases e;simp at hk
    ·exact .inl e
   ·exact .inr h
theorem Bq {env:Env} {q:NameKind}:∀ {names:List (Str × NameKind)} {x:Str},
  (names.map λ (n,k)=>if (k == NameKind.free && env.scope.kind == .function && env.kindOf n == some .cell) then (n,NameKind.cell) else (n,k)).lookup x=some q ->
  (q=.cell\/q=.free)->(x,NameKind.free)∈names\/(x,NameKind.cell)∈names
 | [],_,h,_=>by simp at h
 | (n,k) :: r,x,h,hq=>by
  have ih:=@Bq env q r x;rw [zG] at h;dsimp only at h
  by_cases hc:(k == NameKind.free && env.scope.kind == .function && env.kindOf n == some .cell)=true
  ·rw [if_pos hc,xH] at h;cases hx:x == n with
   | true =>
    have ex:x=n:=by simpa using hx
    have ek:k=.free:=by
     have:=(zO _ _ ▸ ((zO _ _ ▸ hc).1)).1;simpa using this
    rw [ex,ek];exact .inl zS
   | false =>
    rw [hx] at h;exact (ih h hq).imp (zK _) (zK _)
  ·rw [if_neg hc,xH] at h;cases hx:x == n with
   | true =>
    rw [hx] at h;have ex:x=n:=by simpa using hx
    have ek:k=q:=zT h;rcases hq with e | e
    ·rw [ex,ek,e]; exact .inr zS
    ·rw [ex,ek,e]; exact .inl zS
   | false =>
    rw [hx] at h;exact (ih h hq).imp (zK _) (zK _)
theorem Hz {α:Type} {x:Str} {k k':α}:∀ {l:List (Str × α)},(l.map (·.1)).Nodup->(x,k)∈l->(x,k')∈l->k=k'
 | (n,q) :: r,nd,h,h'=>by
  obtain ⟨n1,n2⟩:=xM.mp nd;rcases zL.mp h with e | e <;> rcases zL.mp h' with e' | e'
  ·cases e; cases e'; rfl
  ·cases e; exact absurd (zE.mpr ⟨_,e',rfl⟩) n1
  ·cases e'; exact absurd (zE.mpr ⟨_,e,rfl⟩) n1
  ·exact Hz n2 e e'
theorem Qr {M:Model} {A:Around} {E:VP} {s:Shared} {scope:Scope} {globals:Addr} {cl:List (Str × Addr)} {qual:Str} {func:Option Addr} {code:Value} {env:Env} {bl:Addr} {Q:Env->Shared->Prop}
  (h:Q (newEnv scope s.heap.objs.size globals (cellsFrom (s.heap.objs.size+1) scope.names cl) qual func code (some env) bl) { s with heap:=pushCells (s.heap.push { cls:=.type "dict",data:=.dict #[] }) scope.names }) :
  wpAny M A (newFunctionEnv scope globals cl [] qual func code (some env) bl) Q E s:=by
 simp only [newFunctionEnv,Option.isSome_some,if_true];refine zA (wpAny_alloc ?_);refine zA (wpAny_layCells _ (λ name kind cells=>by cases hkc:kind == NameKind.cell <;> simp [hkc]) _ _ _ _ ?_);rw [show ({ s with heap:=s.heap.push { cls:=.type "dict",data:=.dict #[] } }:Shared).heap.objs.size=s.heap.objs.size+1 from xY ..];exact zC h
noncomputable def lK (X:Cx) (scope:Scope) (N:List Str) (s:Shared) (H:Hp) (fp:LA):Cx :=
 { X with N:=N,s₀:=s,H₀:=H,env:=compEnvC scope (cellsFrom (s.heap.objs.size+1) scope.names (clOf X.env scope.names [])) s.heap.objs.size X.env,outer:=X.stack,ex:=fp,fn:=λ y=>scope.names.lookup y == some .cell,pn:=[],xe:=λ _ _=>False }
structure jO (X:Cx) (sc scope:Scope) (xs:List Str) (fr:List (Str × Nat)):Prop where
 hsc:X.env.scope=sc
 kind:scope.kind=.function
 nn:(scope.names.map (·.1)).Nodup
 free:∀ y∈scope.names,y.2=.free->sc.names.lookup y.1=some .cell\/sc.names.lookup y.1=some .free
 loc:∀ y∈scope.names,y.2=.local->scope.names.lookup y.1=some .local
 fr:∀ p∈fr,X.N[p.2]?=some p.1/\scope.names.lookup p.1=some .free
section
variable {X:Cx} {sc scope:Scope} {xs:List Str} {fr:List (Str × Nat)}
theorem jO.free' (c:jO X sc scope xs fr):∀ y∈scope.names,y.2=.free->X.env.kindOf y.1=some .cell\/X.env.kindOf y.1=some .free:=λ y hy hf=>by
 unfold Env.kindOf;rw [c.hsc];exact c.free y hy hf
theorem jO.cells {pins:PN} {σ:St} {H:Hp} {s:Shared} (c:jO X sc scope xs fr) (I:Inv X pins σ H s):∀ y∈scope.names,y.2=.free->∃ c,X.env.cells.lookup y.1=some c :=
 λ y hy hf=>I.ok.has y.1 (c.free' y hy hf)
theorem jO.was {pins:PN} {σ:St} {H:Hp} {s:Shared} (c:jO X sc scope xs fr) (I:Inv X pins σ H s) {y:Str} {b:Addr} (h:(clOf X.env scope.names []).lookup y=some b):X.env.cells.lookup y=some b:=by
 rcases Gi (c.cells I) h with q | q
 ·simp at q
 ·exact q
theorem fG {names:List (Str × NameKind)} {n:Nat} {cl:List (Str × Addr)} {y:Str} {b:Addr} (h:(cellsFrom n names cl).lookup y=some b):(cellsFrom n names []).lookup y=some b\/((cellsFrom n names []).lookup y=none/\cl.lookup y=some b):=by
 rw [dC,List.lookup_append] at h;cases q:(cellsFrom n names []).lookup y with
 | none=>rw [q] at h; exact .inr ⟨rfl,h⟩
 | some c=>rw [q] at h; exact .inl h
theorem Qq {pins:PN} {σ:St} {H:Hp} {s:Shared} {fp:LA} (c:jO X sc scope xs fr) (I:Inv X pins σ H s)
  (hf:∀ b∈fp,FpOk X pins H b/\∃ o,s.heap.get? b=some o) :
  Inv (lK X scope (xs++fr.map (·.1)) s H fp) [] (xs.map (λ _=>none)++lG fr σ) H { s with heap:=pushCells (s.heap.push { cls:=.type "dict",data:=.dict #[] }) scope.names }:=by
 have k:∀ b o,s.heap.get? b=some o->(pushCells (s.heap.push { cls:=.type "dict",data:=.dict #[] }) scope.names).get? b=some o:=λ b o e=>qV _ _ b o (zD _ e);have hn:(pushCells (s.heap.push { cls:=.type "dict",data:=.dict #[] }) scope.names).Ns s.heap.objs.size (λ _=>none):=(Heap.Ns.new s.heap (.type "dict")).keeps (qV _ _);have ok:=cellsFrom_ok scope.names (s.heap.push { cls:=.type "dict",data:=.dict #[] }) (s.heap.objs.size+1) [] ⟨λ _ _ hm=>(nomatch hm),List.Pairwise.nil⟩ (by rw [xY]; exact zF _);rw [xY] at ok;have I4:Inv X pins σ H { s with heap:=pushCells (s.heap.push { cls:=.type "dict",data:=.dict #[] }) scope.names }:=I.kept (t':=s.toks) k;generalize hh:pushCells (s.heap.push { cls:=.type "dict",data:=.dict #[] }) scope.names=h₁ at k hn ok I4;have old:∀ {y:Str} {b:Nat},(clOf X.env scope.names []).lookup y=some b->b < s.heap.objs.size:=λ {y b} e=>by
  obtain ⟨v,z⟩:=I.cell y b (c.was I e);exact z.lt
 have own:∀ {y:Str} {b:Nat},(cellsFrom (s.heap.objs.size+1) scope.names []).lookup y=some b->h₁.IsCell b none/\s.heap.objs.size+1<=b:=λ {y b} e=>ok.empty y b (mem_of_lookup e);refine ⟨⟨I.ok.mod,c.kind,I.ok.glob,I.ok.blt,zF _,λ y z b h1 h2=>?_,λ y hy=>?_,λ y b h0 h1=>?_,I.ok.hd,I.ok.frames,.inl rfl,λ b hb=>?_,λ b o e=>?_,?_,λ b o e hb=>?_,λ b hb hs=>?_,?_,λ b hb=>?_⟩,
  rfl,I.bare,Un.kept k,⟨_,hn,λ i y v h1 h2 h3=>?_⟩,λ y b h=>?_,?_,λ y b h=>?_,λ p hp=>absurd (show p∈([]:PN) from hp) (by simp),I4.hok,?_⟩
 ·rcases fG h1 with e1 | ⟨_,e1⟩ <;> rcases fG h2 with e2 | ⟨_,e2⟩
  ·exact name_of_addr ok.apart (mem_of_lookup e1) (mem_of_lookup e2)
  ·exact absurd (zI (old e2) (qK (own e1).2)) (xC _)
  ·exact absurd (zI (old e1) (qK (own e2).2)) (xC _)
  ·exact I.ok.inj y z b (c.was I e1) (c.was I e2)
 ·show ∃ b,(cellsFrom (s.heap.objs.size+1) scope.names (clOf X.env scope.names [])).lookup y=some b;have hm:(y,NameKind.free)∈scope.names\/(y,NameKind.cell)∈scope.names:=by
   rcases hy with hy | hy
   ·exact Bq hy (.inl rfl)
   ·exact Bq hy (.inr rfl)
  rcases hm with hm | hm
  ·exact dD (.inr (Bs (.inl hm)))
  ·exact dD (.inl hm)
 ·have hy:scope.names.lookup y=some .cell:=by
   have h0':(scope.names.lookup y == some NameKind.cell)=true:=h0;simpa using h0'
  rcases fG h1 with e1 | ⟨e1,_⟩
  ·have:=(own e1).2;show s.heap.objs.size<=b;omega
  ·obtain ⟨b',e⟩:=dD (n:=s.heap.objs.size+1) (acc:=[]) (.inl (mem_of_lookup hy));rw [e1] at e;cases e
 ·obtain ⟨⟨_,_,_,_,f5,_⟩,o,e⟩:=hf b hb;refine ⟨yA (zP e),λ y b' h=>?_⟩;rcases fG h with e1 | ⟨_,e1⟩
  ·exact λ z=>absurd (zI (zP e) (qK (z ▸ (own e1).2))) (xC _)
  ·exact f5 y b' (c.was I e1)
 ·exact I.bs b o e
 ·exact yC I.ok.bsz I.sz
 ·obtain ⟨⟨_,_,_,f4,_,_⟩,_⟩:=hf b hb;rcases f4 with z | z
  ·exact I.ok.noex b o e z
  ·exact absurd (zI (zP e) (yC I.ok.bsz z)) (xC _)
 ·obtain ⟨⟨_,f2,f3,_,_,_⟩,_⟩:=hf b hb;rcases zL.mp (I.stkSub b hs) with z | z
  ·exact f2 z
  ·exact f3 z
 ·exact I.stack
 ·exact I.stkFree b hb
 ·have h1':(xs++fr.map (·.1))[i]?=some y:=h1
  by_cases hi:i < xs.length
  ·rw [yK (by simpa using hi),zB] at h2;cases q:xs[i]? with
   | none=>rw [q] at h2; cases h2
   | some z=>rw [q] at h2; cases zT h2
  ·rw [zZ ⋯] at h1';rw [zZ (by simpa using hi),yL] at h2;generalize i - xs.length=j at h1' h2;rw [zB] at h1';unfold lG at h2;rw [zB] at h2;cases e:fr[j]? with
   | none=>rw [e] at h1'; cases h1'
   | some p =>
    rw [e] at h1' h2;have e1:p.1=y:=zT h1';have e2:σ.getD p.2 none=some v:=zT h2;obtain ⟨n1,n2⟩:=c.fr p (yD e);have e3:σ[p.2]?=some (some v):=by
     rw [tV] at e2;cases q:σ[p.2]? with
     | none=>rw [q] at e2; cases e2
     | some o=>rw [q] at e2; have e2':o=some v:=e2; rw [e2']
    subst e1;have hm:(p.1,NameKind.free)∈scope.names:=vF n2;have kd:=c.free' _ hm rfl;obtain ⟨m',_,hl⟩:=I4.loc;obtain ⟨u,ru,lk⟩:=hl p.2 p.1 v n1 e3 (.inr kd);refine ⟨u,ru,.inr ⟨Gg n2,?_⟩⟩;rcases lk with ⟨k1,_⟩ | ⟨_,b,q,z⟩
    ·rcases kd with kd | kd <;> (rw [kd] at k1; cases k1)
    ·obtain ⟨b',q'⟩:=Bs (env:=X.env) (l:=scope.names) (cs:=[]) (.inl hm);have e4:=c.was I q';rw [q] at e4;cases e4;refine ⟨b,?_,z⟩;show (cellsFrom (s.heap.objs.size+1) scope.names (clOf X.env scope.names [])).lookup p.1=some b;rw [dC,List.lookup_append];cases w:(cellsFrom (s.heap.objs.size+1) scope.names []).lookup p.1 with
     | none=>exact q'
     | some b2 =>
      rcases own_mem (mem_of_lookup w) with w | w
      ·simp at w
      ·cases Hz c.nn hm w
 ·rcases fG h with e1 | ⟨_,e1⟩
  ·exact ⟨none,(own e1).1⟩
  ·exact I4.cell y b (c.was I e1)
 ·exact I.hok.fresh (zF _)
 ·rcases fG h with e1 | ⟨_,e1⟩
  ·exact I.hok.fresh (by have:=(own e1).2; omega)
  ·exact I4.freeC y b (c.was I e1)
 ·show (xs.map (λ _=>none)++lG fr σ).length=(xs++fr.map (·.1)).length;simp [lG]
end
abbrev TOx:=St->Hp->(Option V->Hp->Prop)->Prop
def tEl (te:TE)  : TOx:=λ σ H Q=>te σ H λ y H'=>Q (some y) H'
def jP (tc:TT) (te:TE)  : TOx:=λ σ H Q=>tc σ H λ b H1=>if b=true then te σ H1 (λ y H'=>Q (some y) H') else Q none H1
def dE (elt:Expr) (ifs:List Expr) (env:Env) (M:Model) (A:Around) (Q:Option Value->Shared->Prop) (E:VP) (s:Shared):Prop :=
 match ifs with
 | []=>wpAny M A (eval elt env) (λ x s1=>Q (some x) s1) E s
 | [c]=>wpAny M A (isTrue c env (eval c env)) (λ b s1=>if b=true then wpAny M A (eval elt env) (λ x s2=>Q (some x) s2) E s1 else Q none s1) E s
 | _=>False
def POx (X:Cx) (elt:Expr) (ifs:List Expr) (t:TOx):Prop:=∀ (pins:PN) (s:Shared) (σ:St) (H:Hp) (Q:Option V->Hp->Prop),Inv X pins σ H s->t σ H Q ->
 dE elt ifs X.env (model X.prog X.w) X.A (λ o s'=>∃ v H',Inv X pins σ H' s'/\(match o,v with | some u,some y=>RelV y u | none,none=>True | _,_=>False)/\Q v H') X.xe s
theorem nT {X:Cx} {elt:Expr} {te:TE} (h:PE X elt te):POx X elt [] (tEl te):=λ pins s σ H Q I hw =>
 thn (h pins s σ H _ I hw) λ u s1 ⟨y,H1,I1,r1,q1⟩=>⟨some y,H1,I1,r1,q1⟩
theorem Bp {X:Cx} {elt c:Expr} {tc:TT} {te:TE} (hc:PT X c tc) (h:PE X elt te):POx X elt [c] (jP tc te):=λ pins s σ H Q I hw=>by
 refine thn (hc pins s σ H _ I hw) λ b s1 ⟨H1,I1,q1⟩=>?_;cases b with
 | true =>
  rw [if_pos rfl] at q1 ⊢;exact thn (h pins s1 σ H1 _ I1 q1) λ u s2 ⟨y,H2,I2,r2,q2⟩=>⟨some y,H2,I2,r2,q2⟩
 | false =>
  rw [if_neg yG] at q1 ⊢;exact ⟨none,H1,I1,trivial,q1⟩
theorem Qp {prog:Program} {w:World} {A:Around} {R:Result->Shared->Prop} {s:Shared} {elt target iter:Expr} {ifs:List Expr} {scope:Scope} {pos:Pos} {it acc:Value} {env:Env} (I:Nat->Shared->Prop)
  (turn:∀ n s,I n s->wpAny (model prog w) A (pyNext it) (λ r s₁=>match r with
   | none=>R (.ok .next) s₁
   | some v=>wpAny (model prog w) A (letOwnedTupleGo target it v) (λ _ s₁'=>wpAny (model prog w) A (assign target env v) (λ _ s₂=>dE elt ifs env (model prog w) A (λ o s₃=>match o with
     | some x=>wpAny (model prog w) A (call (.builtin "list.append") [acc,x]) (λ _ s₄=>∃ m,m < n/\I m s₄) (λ _ _=>False) s₃
     | none=>∃ m,m < n/\I m s₃)
     (λ _ _=>False) s₂) (λ _ _=>False) s₁') (λ _ _=>False) s₁) (λ _ _=>False) s)
  (n:Nat) (h:I n s) (hifs:ifs.length<=1) :
  codeAny (model prog w) A (.compLoop (.ListComp elt [⟨target,iter,ifs,0⟩] scope pos) 0 it acc env) R s:=by
 refine codeAny_loop rfl I (λ n s hI=>?_) n h;show wpAny _ _ ((compTurn (.ListComp elt [⟨target,iter,ifs,0⟩] scope pos) 0 it acc env).onRaise (λ x=>do noteFrame x env; theTreesLotGoes x)) _ _ s;refine wpAny_noted ?_;have T:=turn n s hI
 match ifs,hifs,T with
 | [],_,T =>
  rw [compTurn_list1];refine zA (uU (zA (xG T (λ r s₁ h₁=>?_) λ _ _ h'=>h'.elim)));cases r with
  | none=>exact zC h₁
  | some v =>
   refine zA (xG h₁ (λ _ s₁' h₁'=>?_) λ _ _ h'=>h'.elim);exact zA (xG h₁' (λ _ s₂ h₂=>zA (zA (xG (show wpAny _ _ _ _ _ _ from h₂) (λ x s₃ h₃=>zA (xG h₃
    (λ _ s₄ h₄=>zC (zC ⟨rfl,h₄⟩)) λ _ _ h'=>h'.elim)) λ _ _ h'=>h'.elim))) λ _ _ h'=>h'.elim)
 | [c],_,T =>
  have e1:compTurn (.ListComp elt [⟨target,iter,[c],0⟩] scope pos) 0 it acc env=(standAt iter.pos >>= λ _=>pyNext it >>= λ r=>match r with
   | none=>pure (.done .next)
   | some v=>letOwnedTupleGo target it v >>= λ _=>assign target env v >>= λ _=>isTrue c env (eval c env) >>= λ ok =>
    (if ok=true then (eval elt env >>= λ x=>call (.builtin "list.append") [acc,x] >>= λ _=>pure ()) >>= λ _=>again (.compLoop (.ListComp elt [⟨target,iter,[c],0⟩] scope pos) 0 it acc env)
     else again (.compLoop (.ListComp elt [⟨target,iter,[c],0⟩] scope pos) 0 it acc env))):=by
   unfold compTurn;simp only [List.forIn_cons,List.forIn_nil,if_true,bind_assoc,pure_bind,List.getElem?_cons_zero];rfl
  rw [e1];refine zA (uU (zA (xG T (λ r s₁ h₁=>?_) λ _ _ h'=>h'.elim)));cases r with
  | none=>exact zC h₁
  | some v =>
   refine zA (xG h₁ (λ _ s₁' h₁'=>?_) λ _ _ h'=>h'.elim);refine zA (xG h₁' (λ _ s₂ h₂=>zA (xG (show wpAny _ _ _ _ _ _ from h₂) (λ b s₃ h₃=>?_) λ _ _ h'=>h'.elim)) λ _ _ h'=>h'.elim);cases b with
   | true =>
    rw [if_pos rfl] at h₃ ⊢;exact zA (zA (xG h₃ (λ x s₄ h₄=>zA (xG h₄ (λ _ s₅ h₅=>zC (zC ⟨rfl,h₅⟩)) λ _ _ h'=>h'.elim)) λ _ _ h'=>h'.elim))
   | false =>
    rw [if_neg yG] at h₃ ⊢;exact zC ⟨rfl,h₃⟩
 | _ :: _ :: _,hifs,T =>
  exact absurd hifs (by simp)
def Qo (a:Addr) (N:Hp->Prop):Option V->Hp->Prop
 | some y,H=>∃ zs,H a=some (.lst zs)/\zs.length < sizeLine/\N (upd H a (.lst (zs++[y])))
 | none,H=>N H
abbrev lN (J:It) (g:TG) (tt:TOx) (n:Nat) (fr:List (Str × Nat)) (σ:St) (a:Addr) (H:Hp) (Q:VK):Prop :=
 ∃ W:Nat->Nat->Hp->Prop,(∃ m,W 0 m (upd H a (.lst [])))/\∀ i m H2,W i m H2->(J.stop i H2/\Q (.ref a) H2) \/
  (J.go i H2/\∃ N:Hp->Prop,(∀ H',N H'->∃ m',m' < m/\W (i+1) m' H')/\∀ (ys:St) x H3,ys.length=n->J.yld i H2 x H3 ->
   g x (ys++lG fr σ) H3 λ σ4 H4=>(∃ ys':St,ys'.length=n/\σ4=ys'++lG fr σ)/\tt σ4 H4 (Qo a N))
def lO (wi:TI) (g:TG) (tt:TOx) (n:Nat) (fr:List (Str × Nat)):TE:=λ σ H Q=>wi σ H λ J H1=>∀ a,H1 a=none->lN J g tt n fr σ a H1 Q
section
variable {X:Cx} {sc scope:Scope} {xs:List Str} {fr:List (Str × Nat)} {elt tg iter:Expr} {ifs:List Expr} {g:TG} {tt:TOx}
theorem Hy {pins:PN} {σ:St} {H:Hp} {s:Shared} {pos:Pos} {J:It} {fp:LA} {it:Addr} {tn:Nat->Heap->Prop} {Q:VK} {RR:Value->Addr->Result->Shared->Prop} {E:VP}
  (c:jO X sc scope xs fr) (hc:X.calm=true) (hifs:ifs.length<=1) (I:Inv X pins σ H s) (T:Turn X.prog X.w X.K tg J fp it tn) (t0:tn 0 s.heap) (hf:∀ b∈fp,FpOk X pins H b)
  (hg:∀ (s₃:Shared) (H₃:Hp) (fp:LA),(lK X scope (xs++fr.map (·.1)) s₃ H₃ fp).env.scope=hJ sc scope->PG (lK X scope (xs++fr.map (·.1)) s₃ H₃ fp) tg g)
  (he:∀ (s₃:Shared) (H₃:Hp) (fp:LA),(lK X scope (xs++fr.map (·.1)) s₃ H₃ fp).env.scope=hJ sc scope->POx (lK X scope (xs++fr.map (·.1)) s₃ H₃ fp) elt ifs tt)
  (hw:∀ a,H a=none->lN J g tt xs.length fr σ a H Q)
  (hRR:∀ a C H' s' m,s'.heap.Ns C m->Inv X pins σ H' s'->FpOk X pins H' C->Q (.ref a) H'->RR (.ref a) C (.ok .next) s') :
  wpAny (model X.prog X.w) X.A (newList []) (λ acc s₃=>wpAny (model X.prog X.w) X.A (newFunctionEnv scope X.env.globals (clOf X.env scope.names []) [] X.env.qual none .none (some X.env)) (λ cenv s₄ =>
   codeAny (model X.prog X.w) X.A (.compStart (.ListComp elt [⟨tg,iter,ifs,0⟩] scope pos) 0 (.ref it) acc { cenv with scope:=relabel scope X.env }) (RR acc cenv.locals) s₄) E s₃) E s:=by
 obtain ⟨W,⟨m0,w0⟩,turn⟩:=hw s.heap.objs.size I.fresh;refine xJ (Qr ?_);have I3:Inv X pins σ (upd H s.heap.objs.size (.lst [])) { s with heap:=s.heap.push { cls:=.type "list",dict:=none,data:=.seq ([]:LW).toArray } }:=I.lnew (ys:=[]) (its:=[]) (t':=s.toks) .nil (yY _);have kp:∀ b o,s.heap.get? b=some o->(s.heap.push { cls:=.type "list",dict:=none,data:=.seq ([]:LW).toArray }).get? b=some o:=λ b o e=>zD _ e;have un0:Un (frs X.stack) fp H (upd H s.heap.objs.size (.lst [])) s.heap (s.heap.push { cls:=.type "list",dict:=none,data:=.seq ([]:LW).toArray }):=Un.laid kp (zF _) I.fresh;dsimp only;generalize hH2:s.heap.push { cls:=.type "list",dict:=none,data:=.seq ([]:LW).toArray }=hp2 at I3 kp un0 ⊢;have hsz:s.heap.objs.size<=hp2.objs.size:=by rw [← hH2,xY]; exact Nat.le_succ _
 have ft:∀ b∈fp,∃ o,s.heap.get? b=some o:=λ b hb=>let ⟨o,e,_⟩:=T.obj _ _ t0 b hb; ⟨o,e⟩
 have nea:∀ b∈fp,b≠s.heap.objs.size:=λ b hb=>let ⟨_,e⟩:=ft b hb; yA (zP e)
 have f3:∀ b∈fp,FpOk X pins (upd H s.heap.objs.size (.lst [])) b/\∃ o,hp2.get? b=some o:=λ b hb=>by
  obtain ⟨o,e⟩:=ft b hb;exact ⟨⟨by rw [nD (nea b hb)]; exact (hf b hb).1,(hf b hb).2⟩,o,kp b o e⟩
 have J0:=Qq c I3 f3;have k4:∀ b o,hp2.get? b=some o->(pushCells (hp2.push { cls:=.type "dict",data:=.dict #[] }) scope.names).get? b=some o:=λ b o e=>qV _ _ b o (zD _ e);have t4:tn 0 (pushCells (hp2.push { cls:=.type "dict",data:=.dict #[] }) scope.names):=T.keep 0 _ _ t0 λ b hb o e=>k4 b o (kp b o e);have esc:∀ (s₃:Shared) (H₃:Hp) (fp:LA),(lK X scope (xs++fr.map (·.1)) s₃ H₃ fp).env.scope=hJ sc scope:=λ _ _ _=>Qs c.hsc;have stat:∀ {H':Hp},(∀ b∈fp,H' b=none)->∀ b∈fp,FpOk (lK X scope (xs++fr.map (·.1)) { s with heap:=hp2 } (upd H s.heap.objs.size (.lst [])) fp) [] H' b:=λ hn b hb=>by
  obtain ⟨e1,e2⟩:=J0.ok.exf b hb;exact ⟨hn b hb,e1,J0.ok.exfs b hb,.inl hb,e2,λ p hp=>absurd (show p∈([]:PN) from hp) (by simp)⟩
 have loop:codeAny (model X.prog X.w) X.A (.compLoop (.ListComp elt [⟨tg,iter,ifs,0⟩] scope pos) 0 (.ref it) (.ref s.heap.objs.size) (compEnvC scope (cellsFrom (hp2.objs.size+1) scope.names (clOf X.env scope.names [])) hp2.objs.size X.env))
   (RR (.ref s.heap.objs.size) hp2.objs.size) { s with heap:=pushCells (hp2.push { cls:=.type "dict",data:=.dict #[] }) scope.names }:=by
  refine Qp (λ n s'=>∃ i,∃ ys:St,∃ H',ys.length=xs.length/\Inv (lK X scope (xs++fr.map (·.1)) { s with heap:=hp2 } (upd H s.heap.objs.size (.lst [])) fp) [] (ys++lG fr σ) H' s'/\tn i s'.heap/\(∀ b∈fp,H' b=none)/\W i n H')
   ?_ m0 ⟨0,xs.map λ _=>none,_,by simp,J0,t4,λ b hb=>(f3 b hb).1.1,w0⟩ hifs
  rintro n s3 ⟨i,ys,H3,hys,K3,st3,fr3,w3⟩;rcases turn i n H3 w3 with ⟨stop,qn⟩ | ⟨go,N,hN,step⟩
  ·refine thn (T.done (lK X scope (xs++fr.map (·.1)) { s with heap:=hp2 } (upd H s.heap.objs.size (.lst [])) fp) rfl rfl rfl hc i [] s3 _ H3 (λ _ _=>False) K3 (stat fr3) st3 stop) λ r s4 ⟨hr,K4⟩=>?_;subst hr;obtain ⟨m4,hn4,_⟩:=K4.loc;have K5:Inv X pins σ H3 s4:=I.call' K4.os (un0.trans K4.base) K4.hok K4.bare λ b hb=>let f:=hf b hb; ⟨f.2.2.2.1,f.2.1,f.2.2.2.2.1,f.2.2.2.2.2⟩
   exact hRR _ _ H3 s4 m4 hn4 K5 (I.fpOk hsz K4.free) qn
  ·refine thn (T.item (lK X scope (xs++fr.map (·.1)) { s with heap:=hp2 } (upd H s.heap.objs.size (.lst [])) fp) rfl rfl rfl hc i [] s3 _ H3 (λ _ _=>False) K3 (stat fr3) st3 go) λ r s4 ⟨u,hr,h4⟩=>?_;subst hr;refine thn h4 λ _ s5 ⟨y,H5,K5,r5,y5,st5,fr5⟩=>?_;have K5':=K5.pinned (stat fr5) (T.obj _ _ st5);refine thn (hg _ _ _ (esc _ _ _) _ s5 _ H5 y u _ K5' r5 (step ys y H5 hys y5)) λ _ s6 ⟨σ6,H6,K6,⟨ys6,hl6,e6⟩,q6⟩=>?_;subst e6;have fin:∀ (s8:Shared) (H8:Hp),Inv (lK X scope (xs++fr.map (·.1)) { s with heap:=hp2 } (upd H s.heap.objs.size (.lst [])) fp) ([]++eO fp s5.heap) (ys6++lG fr σ) H8 s8->N H8 ->
     ∃ m,m < n/\∃ i,∃ ys:St,∃ H',ys.length=xs.length/\Inv (lK X scope (xs++fr.map (·.1)) { s with heap:=hp2 } (upd H s.heap.objs.size (.lst [])) fp) [] (ys++lG fr σ) H' s8/\tn i s8.heap/\(∀ b∈fp,H' b=none)/\W i m H':=by
    intro s8 H8 K8 n8;obtain ⟨m',hm,w8⟩:=hN H8 n8;refine ⟨m',hm,i+1,ys6,H8,hl6,K8.unpinned,T.keep _ _ _ st5 λ b hb o e=>(K8.pin (b,o) (yM _ (yM _ (cV hb e)))).1,λ b hb=>?_,w8⟩;obtain ⟨o,e,d⟩:=T.obj _ _ st5 b hb;exact (K8.pin (b,o) (yM _ (yM _ (cV hb e)))).2.1
   have h7:=he _ _ _ (esc _ _ _) _ s6 _ H6 _ K6 q6;have mono:∀ {Q Q':Option Value->Shared->Prop} {E:VP} {s':Shared} {env:Env},(∀ o s1,Q o s1->Q' o s1)->dE elt ifs env (model X.prog X.w) X.A Q E s'->dE elt ifs env (model X.prog X.w) X.A Q' E s':=by
    intro Q Q' E s' env hq ht;unfold dE at ht ⊢
    match ifs,hifs,ht with
    | [],_,ht=>exact xG ht (λ x s1 q=>hq _ _ q) λ _ _ e=>e
    | [c],_,ht =>
     refine xG ht (λ b s1 q=>?_) λ _ _ e=>e;split at q
     ·rename_i hb; rw [if_pos hb]; exact xG q (λ x s2 q=>hq _ _ q) λ _ _ e=>e
     ·rename_i hb; rw [if_neg hb]; exact hq _ _ q
    | _ :: _ :: _,hifs,_=>exact absurd hifs (by simp)
   refine mono (λ o s7 ⟨z7,H7,K7,r7,q7⟩=>?_) h7;cases o with
   | none =>
    cases z7 with
    | none=>exact fin s7 H7 K7 q7
    | some z=>exact r7.elim
   | some v7 =>
    cases z7 with
    | none=>exact r7.elim
    | some z7 =>
     obtain ⟨zs,hz,hl,w7⟩:=q7;exact thn (fD _ s7 _ H7 (.ref s.heap.objs.size) [z7] (.ref s.heap.objs.size) [v7] (λ _ H8=>N H8) K7 rfl (.cons r7 .nil) ⟨_,zs,z7,rfl,rfl,hz,hl,w7⟩) λ _ s8 ⟨_,H8,K8,_,n8⟩=>fin s8 H8 K8 n8
 exact codeAny_compStart_list loop (T.self _ 0 _ _ _ t4 loop)
variable {wi:TI}
theorem mE {pos:Pos} (c:jO X sc scope xs fr) (hc:X.calm=true) (hi:PI X tg iter wi)
  (hg:∀ (s₃:Shared) (H₃:Hp) (fp:LA),(lK X scope (xs++fr.map (·.1)) s₃ H₃ fp).env.scope=hJ sc scope->PG (lK X scope (xs++fr.map (·.1)) s₃ H₃ fp) tg g)
  (he:∀ (s₃:Shared) (H₃:Hp) (fp:LA),(lK X scope (xs++fr.map (·.1)) s₃ H₃ fp).env.scope=hJ sc scope->POx (lK X scope (xs++fr.map (·.1)) s₃ H₃ fp) elt ifs tt)
  (hifs:ifs.length<=1:=by exact Nat.le_of_ble_eq_true rfl) (hs:∀ x,foldedSetIterable iter X.env x=pure x:=by intro _; rfl):PE X (.ListComp elt [⟨tg,iter,ifs,0⟩] scope pos) (lO wi g tt xs.length fr):=by
 intro pins s σ H Q I h;rw [eval_ListComp];refine pR (use:=none) rfl hs (Gh (c.cells I)) c.kind c.loc (thn (hi pins s σ H _ I h) λ v s1 h1=>thn h1 λ itv s2 h2=>?_);obtain ⟨it,fp,tn,J,H2,e,I2,T,t2,f2,hw⟩:=h2;subst e;refine Hy (RR:=λ acc C=>compPost (model X.prog X.w) X.A X.xe none (EP X pins σ Q) acc C) c hc hifs I2 T t2 f2 hg he hw ?_;intro a C H' s' m hn K f q;exact ⟨m,hn,λ h' hs'=>⟨.ref a,H',K.turned (t':=s'.toks) (λ b o hb e=>(hs'.2 b hb).trans e) f.1 f.2.1 f.2.2.2.1 f.2.2.2.2.1 f.2.2.2.2.2,rfl,q⟩⟩
theorem jX {pos spos py:Pos} {y:Str} {i:Nat} (c:jO X sc scope xs fr) (hc:X.calm=true) (hN:X.N.Nodup) (hy:X.N[i]?=some y) (hl:X.env.scope.names.lookup y=some .local) (hi:PI X tg iter wi)
  (hg:∀ (s₃:Shared) (H₃:Hp) (fp:LA),(lK X scope (xs++fr.map (·.1)) s₃ H₃ fp).env.scope=hJ sc scope->PG (lK X scope (xs++fr.map (·.1)) s₃ H₃ fp) tg g)
  (he:∀ (s₃:Shared) (H₃:Hp) (fp:LA),(lK X scope (xs++fr.map (·.1)) s₃ H₃ fp).env.scope=hJ sc scope->POx (lK X scope (xs++fr.map (·.1)) s₃ H₃ fp) elt ifs tt)
  (hsw:swapsWith (.ListComp elt [⟨tg,iter,ifs,0⟩] scope pos) (some (.Name y py)) spos.line X.env=pure true:=by rfl)
  (hifs:ifs.length<=1:=by exact Nat.le_of_ble_eq_true rfl) (hs:∀ x,foldedSetIterable iter X.env x=pure x:=by intro _; rfl):PS X (.Assign [.Name y py] (.ListComp elt [⟨tg,iter,ifs,0⟩] scope pos) spos) (Pa i (lO wi g tt xs.length fr)):=by
 intro pins s σ H D I h;rw [exec_Assign_Name_used _ _ _ _ hsw];refine zA (uU (zA ?_));show wpAny _ _ (do let _ ← comprehension (.ListComp elt [⟨tg,iter,ifs,0⟩] scope pos) scope X.env _ (newList []) false (eval iter X.env) (some (assign (.Name y py) X.env))) _ _ s;refine zA (xG (pR (use:=some (assign (.Name y py) X.env)) (Q:=λ _ s'=>SP X pins D .next s') rfl hs (Gh (c.cells I)) c.kind c.loc
  (thn (hi pins s σ H _ I h) λ v s1 h1=>thn h1 λ itv s2 h2=>?_)) (λ _ s' hq=>zC (zC hq)) λ _ _ e=>e)
 obtain ⟨it,fp,tn,J,H2,e,I2,T,t2,f2,hw⟩:=h2;subst e;refine Hy (RR:=λ acc C=>compPost (model X.prog X.w) X.A X.xe (some (assign (.Name y py) X.env)) (λ _ s'=>SP X pins D .next s') acc C) (Q:=λ v H1=>D.nx (σ.set i (some v)) H1) c hc hifs I2 T t2 f2 hg he hw ?_;intro a C H' s' m hn K f q;show wpAny _ _ (assign (.Name y py) X.env (.ref a)) _ _ _;refine wpAny_assign_Name (Fs K hN hy (.inl hl) (show RelV (.ref a) (.ref a) from rfl) (λ s'' K2 ⟨b,sb,hb⟩=>?_) (.inr hl));have hCb:C≠b:=by
  rcases hb with e | e
  ·rw [e]; exact f.2.1
  ·exact Ne.symm (f.2.2.2.2.1 y b e)
 refine ⟨m,hn.sameBut sb hCb,λ h' hs'=>?_⟩;exact ⟨_,H',K2.turned (t':=s''.toks) (λ b o hb e=>(hs'.2 b hb).trans e) f.1 f.2.1 f.2.2.2.1 f.2.2.2.2.1 f.2.2.2.2.2,q⟩
end
noncomputable def Hx (sc:Scope) (N:List Str) (scope:Scope) (fr:List (Str × Nat)):Bool :=
 decide (scope.kind=.function) && decide ((scope.names.map (·.1)).Nodup) && decide (∀ y∈scope.names,y.2=.free->sc.names.lookup y.1=some .cell\/sc.names.lookup y.1=some .free) &&
 decide (∀ y∈scope.names,y.2=.local->scope.names.lookup y.1=some .local) && decide (∀ p∈fr,N[p.2]?=some p.1/\scope.names.lookup p.1=some .free)
theorem nR {X:Cx} {sc scope:Scope} {N xs:List Str} {fr:List (Str × Nat)} (h1:X.env.scope=sc) (h2:X.N=N) (h:Hx sc N scope fr=true):jO X sc scope xs fr:=by
 unfold Hx at h;simp only [Bool.and_eq_true,decide_eq_true_eq] at h;obtain ⟨⟨⟨⟨e1,e2⟩,e3⟩,e4⟩,e5⟩:=h;subst h2;exact ⟨h1,e1,e2,e3,e4,e5⟩
noncomputable def Hw (sc:Scope) (N:List Str) (i:Nat) (x:Str):Bool:=decide (N.Nodup) && decide (N[i]?=some x) && (decide (sc.names.lookup x=some .local))
theorem nU {X:Cx} {sc:Scope} {N:List Str} {i:Nat} {x:Str} {pos:Pos} (h1:X.env.scope=sc) (h2:X.N=N) (h:Hw sc N i x=true):PG X (.Name x pos) (oW i):=by
 unfold Hw at h;simp only [Bool.and_eq_true,decide_eq_true_eq] at h;subst h1 h2;exact mD h.1.1 h.1.2 (.inl h.2) (.inr h.2)
theorem hZ {X:Cx} {sc:Scope} {N:List Str} {i:Nat} {x:Str} {pos:Pos} (h1:X.env.scope=sc) (h2:X.N=N) (h:(decide (N.Nodup) && decide (N[i]?=some x) && (decide (sc.names.lookup x=some .cell)))=true) (hf:X.fn x=true):PG X (.Name x pos) (oW i):=by
 simp only [Bool.and_eq_true,decide_eq_true_eq] at h;subst h1 h2;exact mD h.1.1 h.1.2 (.inr h.2) (.inl hf)
def SqB (b:Bool) (K:Frag) (H:Hp) (a:Addr) (xs:List V):Prop:=match b with | false=>SqL K H a xs | true=>SqT K H a xs
def ItB (b:Bool) (h:Heap) (it a:Addr) (i:Nat):Prop:=match b with | false=>h.IsListIter it a i | true=>h.IsTupleIter it a i
def seqB (b:Bool) (h:Heap) (a:Addr) (its:Array Value):Prop:=match b with | false=>h.IsList a its | true=>h.IsTuple a its
noncomputable def nmB (b:Bool):String:=match b with | false => "list_iterator" | true => "tuple_iterator"
theorem ItB.at {b:Bool} {h h':Heap} {it a:Addr} {i:Nat} (x:ItB b h it a i) (e:∀ o,h.get? it=some o->h'.get? it=some o):ItB b h' it a i:=by
 cases b
 ·exact Heap.IsListIter.at x e
 ·exact Heap.IsTupleIter.at x e
theorem seqB.at {b:Bool} {h h':Heap} {a:Addr} {its:Array Value} (x:seqB b h a its) (e:∀ o,h.get? a=some o->h'.get? a=some o):seqB b h' a its:=by
 cases b
 ·exact Heap.IsList.at x e
 ·obtain ⟨o,ho,r⟩:=x;exact ⟨o,e o ho,r⟩
theorem ItB.lt {b:Bool} {h:Heap} {it a:Addr} {i:Nat} (x:ItB b h it a i):∃ o,h.get? it=some o/\∀ v,o.data≠.cell v:=by
 cases b
 ·obtain ⟨o,e,c,d⟩:=x;exact ⟨o,e,λ v z=>by rw [d] at z; cases z⟩
 ·obtain ⟨o,e,c,d⟩:=x;exact ⟨o,e,λ v z=>by rw [d] at z; cases z⟩
section
variable {prog:Program} {w:World} {A:Around} {E:VP} {s:Shared}
theorem Qn {it t:Addr} {i:Nat} {items} {x:Value} {Q:VP} (hit:s.heap.IsTupleIter it t i) (ht:s.heap.IsTuple t items) (hx:items[i]?=some x)
  (hQ:∀ h',h'.IsTupleIter it t (i+1)->Heap.SameBut it s.heap h'->Q x { s with heap:=h' }):wpAny (model prog w) A (Builtin.SmallTypes.nextOf (.ref it)) Q E s:=by
 obtain ⟨o,ho,hc,hd⟩:=id hit;obtain ⟨ol,hol,_,nl,hdl⟩:=ht;unfold Builtin.SmallTypes.nextOf;refine zA (wB (name:=Str.ofString "__next__") hit.typeIs vZ
  (xN vZ hit.typeIs pF ?_ (pC _)))
 show wpAny _ _ (field (.ref it) 0 >>= _) _ _ s;refine zA (wA ho hd (x:=.ref t) rfl ?_);show wpAny _ _ (if (Value.ref t == Value.none)=true then _ else _) _ _ s;rw [if_neg (show ¬ ((Value.ref t == Value.none)=true) from yG)];show wpAny _ _ (field (.ref it) 1 >>= _) _ _ s;refine zA (wA ho hd (x:=.int i 0) rfl ?_);show wpAny _ _ (seqItems? (.ref t) >>= _) _ _ s;refine zA (wK hol hdl ?_);simp only [Int.toNat_natCast,hx];refine zA (rO ho hd (by simp) (zC ⟨x,rfl,zC (hQ _ ?_ (vH ..))⟩));exact ⟨_,vY _ ho (Obj.isFreed_of_fields (tP hd _)),(Obj.cls_mapFields ..).trans hc,by
  rw [tP hd]; simp [rawInt]⟩
theorem Qm {it t:Addr} {i:Nat} {items} {Q:VP} (hh:A.handled=none) (hit:s.heap.IsTupleIter it t i) (ht:s.heap.IsTuple t items) (hx:items[i]?=none)
  (hE:∀ h' e,Heap.ExtBut it s.heap h'->(∃ o,h'.get? e=some o/\o.cls=.type "StopIteration")->E (.ref e) { s with heap:=h' }):wpAny (model prog w) A (Builtin.SmallTypes.nextOf (.ref it)) Q E s:=by
 obtain ⟨o,ho,hc,hd⟩:=id hit;obtain ⟨ol,hol,_,nl,hdl⟩:=ht;unfold Builtin.SmallTypes.nextOf;refine zA (wB (name:=Str.ofString "__next__") hit.typeIs vZ
  (xN vZ hit.typeIs pF ?_ (pC _)))
 show wpAny _ _ (field (.ref it) 0 >>= _) _ _ s;refine zA (wA ho hd (x:=.ref t) rfl ?_);show wpAny _ _ (if (Value.ref t == Value.none)=true then _ else _) _ _ s;rw [if_neg (show ¬ ((Value.ref t == Value.none)=true) from yG)];show wpAny _ _ (field (.ref it) 1 >>= _) _ _ s;refine zA (wA ho hd (x:=.int i 0) rfl ?_);show wpAny _ _ (seqItems? (.ref t) >>= _) _ _ s;refine zA (wK hol hdl ?_);simp only [Int.toNat_natCast,hx];refine zA (wM (zA (rO ho hd (by simp) ?_)));show wpAny _ _ (newExc (.type "StopIteration") [] >>= _) _ _ _;refine zA ?_;simp only [newExc,newTuple];refine zA (xJ ?_ (by size_fits));refine zA (m:=firstArgMember _ _) (wpAny_of_eq (a:=Value.none) (by first | rfl | (simp only [firstArgMember]; rfl)) ?_);refine xJ ?_ (by size_fits);simp only [raiseNew];refine zA (wpAny_handled ?_)
 first | rw [show A.in1.handled=none from hh] | rw [hh]
 refine zA (zC (wpAny_throw ?_));exact hE _ _ (((vH ..).extBut.push _).push _) ⟨_,zU _ rfl,rfl⟩
theorem bF {b:Bool} {it l:Addr} {i:Nat} {items:Array Value} {x:Value} {Q:VP} (hit:ItB b s.heap it l i) (hl:seqB b s.heap l items) (hx:items[i]?=some x)
  (hQ:∀ h',ItB b h' it l (i+1)->Heap.SameBut it s.heap h'->Q x { s with heap:=h' }):wpAny (model prog w) A (Builtin.SmallTypes.nextOf (.ref it)) Q E s:=by
 cases b
 ·exact wpAny_nextOf_list_item hit hl hx hQ
 ·exact Qn hit hl hx hQ
theorem Bo {b:Bool} {it l:Addr} {i:Nat} {items:Array Value} {Q:VP} (hh:A.handled=none) (hit:ItB b s.heap it l i) (hl:seqB b s.heap l items) (hx:items[i]?=none)
  (hE:∀ h' e,Heap.ExtBut it s.heap h'->(∃ o,h'.get? e=some o/\o.cls=.type "StopIteration")->E (.ref e) { s with heap:=h' }):wpAny (model prog w) A (Builtin.SmallTypes.nextOf (.ref it)) Q E s:=by
 cases b
 ·exact wpAny_nextOf_list_end hh hit hl hx hE
 ·exact Qm hh hit hl hx hE
theorem Hv {b:Bool} {l:Addr} {items:Array Value} {Q:VP} (hl:seqB b s.heap l items)
  (hQ:Q (.ref s.heap.objs.size) { s with heap:=s.heap.push { cls:=.type (nmB b),data:=.fields #[.ref l,.int 0 0] } }):wpAny (model prog w) A (pyIter (.ref l)) Q E s:=by
 cases b
 ·exact sD hl hQ
 ·exact uH hl hQ
theorem Hu {b:Bool} {h:Heap} {l:Addr}:ItB b (h.push { cls:=.type (nmB b),data:=.fields #[.ref l,.int 0 0] }) h.objs.size l 0:=by
 cases b
 ·exact ⟨_,zU _ rfl,rfl,rfl⟩
 ·exact ⟨_,zU _ rfl,rfl,rfl⟩
theorem Ht (b:Bool) (hh:A.handled=none) (it l:Addr) (hne:l≠it) (items:Array Value) :
  Draws prog w A it [it,l] items.size (λ i v=>items[i]?=some v) (λ i h=>ItB b h it l i/\seqB b h l items) where
 live:=λ _ _ st=>let ⟨o,ho,_⟩:=st.1.lt; ⟨o,ho⟩
 frame:=λ _ _ _ st hk=>⟨st.1.at λ o e=>hk it (by simp) o e,st.2.at λ o e=>hk l (by simp) o e⟩
 item:=λ i s Q E hi st hQ=>by
  refine bF st.1 st.2 (x:=items[i]) (by simp [hi]) λ h' hit' hs'=>?_;exact hQ _ h' s.toks (by simp [hi]) ⟨hit',st.2.at λ o e=>(hs'.2 l hne).trans e⟩ hs'
 done:=λ s Q E st hE=>Bo hh st.1 st.2 (by simp) hE
theorem Ql {b1 b2:Bool} {z TI TO i1 i2 l1 l2:Addr} {k1 k2:Nat} {xs ys:Array Value} {x y a b:Value} {Q:Option Value->Shared->Prop} (D:ZipApart z TI TO i1 i2 l1 l2)
  (hz:IsZip s.heap z TI TO .none) (hTI:IsPair s.heap TI (.ref i1) (.ref i2)) (hTO:IsPair s.heap TO a b)
  (h1:ItB b1 s.heap i1 l1 k1) (h2:ItB b2 s.heap i2 l2 k2) (hl1:seqB b1 s.heap l1 xs) (hl2:seqB b2 s.heap l2 ys) (hx:xs[k1]?=some x) (hy:ys[k2]?=some y)
  (hQ:∀ h',IsZip h' z TI TO (rawInt s.heap.objs.size)->IsPair h' TO x y->ItB b1 h' i1 l1 (k1+1)->ItB b2 h' i2 l2 (k2+1)->IsPair h' s.heap.objs.size x y->h'.objs.size=s.heap.objs.size+1 ->
   (∀ c o,c≠z->c≠TO->c≠i1->c≠i2->s.heap.get? c=some o->h'.get? c=some o)->Q (some (.ref s.heap.objs.size)) { s with heap:=h' }) :
  wpAny (model prog w) A (pyNext (.ref z)) Q E s:=by
 have hT:s.TypeIs (.ref z) "zip" := ⟨_,hz,rfl⟩;unfold pyNext;refine zA (vW (wB (name:=Str.ofString "__next__") hT rE (xN rE hT F.entry_zip_next ?_ (F.args_zip_next_1 _))));show wpAny _ _ (field (.ref z) 2 >>= _) _ _ _;refine zA (wA hz rfl (x:=.bool false) rfl ?_);show wpAny _ _ (field (.ref z) 3 >>= _) _ _ _;refine zA (wA hz rfl (x:=.ref TI) rfl ?_);refine zA (wK hTI rfl ?_);show wpAny _ _ (Builtin.SmallTypes.ownedTupleIsFree (.ref z) >>= _) _ _ _;refine zA ?_;unfold Builtin.SmallTypes.ownedTupleIsFree;refine zA (wA hz rfl (x:=.none) rfl (zC ?_));simp only [if_true];refine zA (wM ?_);refine zA (wA hz rfl (x:=.ref TO) rfl ?_);refine zA (vQ hz (by simp) λ h₁ hz₁ hs₁=>?_);replace hz₁:IsZip h₁ z TI TO .ellipsis:=hz₁;refine zA ?_;simp only [List.zipIdx_cons,List.zipIdx_nil,List.forIn_cons,List.forIn_nil];refine zA (zA (rY ?_));show wpAny _ _ (Builtin.SmallTypes.nextOf (.ref i1) >>= _) _ _ _;refine zA (bF (h1.at λ o e=>hs₁.extBut _ _ D.i1z e) (hl1.at λ o e=>hs₁.extBut _ _ D.l1z e) hx λ h₂ h1₂ hs₂=>zC ?_);have hTO₂:IsPair h₂ TO a b:=hs₂.extBut _ _ D.TOi1 (hs₁.extBut _ _ D.TOz hTO);refine zA (wK hTO₂ rfl ?_);refine zA (rQ hTO₂ λ h₃ hTO₃ hs₃=>?_);replace hTO₃:IsPair h₃ TO x b:=hTO₃;refine zA (wpAny_letGo (zC ?_));refine zA (zA (rY ?_));show wpAny _ _ (Builtin.SmallTypes.nextOf (.ref i2) >>= _) _ _ _;refine zA (bF (h2.at λ o e=>hs₃.extBut _ _ D.TOi2.symm (hs₂.extBut _ _ D.i12.symm (hs₁.extBut _ _ D.i2z e)))
  (hl2.at λ o e=>hs₃.extBut _ _ D.l2TO (hs₂.extBut _ _ D.l2i1 (hs₁.extBut _ _ D.l2z e))) hy λ h₄ h2₄ hs₄=>zC ?_)
 have hTO₄:IsPair h₄ TO x b:=hs₄.extBut _ _ D.TOi2 hTO₃;refine zA (wK hTO₄ rfl ?_);refine zA (rQ hTO₄ λ h₅ hTO₅ hs₅=>?_);replace hTO₅:IsPair h₅ TO x y:=hTO₅;refine zA (wpAny_letGo (zC (zC ?_)));refine zA (wK hTO₅ rfl ?_);refine zA (wpAny_newTuple ?_);have hsz:h₅.objs.size=s.heap.objs.size:=by rw [hs₅.1,hs₄.1,hs₃.1,hs₂.1,hs₁.1]
 have hz₅:IsZip h₅ z TI TO .ellipsis:=hs₅.extBut _ _ D.TOz.symm (hs₄.extBut _ _ D.i2z.symm (hs₃.extBut _ _ D.TOz.symm (hs₂.extBut _ _ D.i1z.symm hz₁)));have hk₅:∀ c o,c≠z->c≠TO->c≠i1->c≠i2->s.heap.get? c=some o->h₅.get? c=some o:=λ c o c1 c2 c3 c4 e =>
  hs₅.extBut _ _ c2 (hs₄.extBut _ _ c4 (hs₃.extBut _ _ c2 (hs₂.extBut _ _ c3 (hs₁.extBut _ _ c1 e))))
 have h1₅:ItB b1 h₅ i1 l1 (k1+1):=h1₂.at λ o e=>hs₅.extBut _ _ D.TOi1.symm (hs₄.extBut _ _ D.i12 (hs₃.extBut _ _ D.TOi1.symm e));have h2₅:ItB b2 h₅ i2 l2 (k2+1):=h2₄.at λ o e=>hs₅.extBut _ _ D.TOi2.symm e;have hzlt:z < h₅.objs.size:=zP hz₅;show wpAny _ _ (Builtin.SmallTypes.ownedTupleHandOut (.ref z) (.ref h₅.objs.size) >>= _) _ _ _;refine zA ?_;unfold Builtin.SmallTypes.ownedTupleHandOut;have hz₆:IsZip (h₅.push { cls:=.type "tuple",data:=.seq #[x,y] }) z TI TO .ellipsis:=zD _ hz₅;refine zA (vQ hz₆ (by simp) λ h₇ hz₇ hs₇=>?_);replace hz₇:IsZip h₇ z TI TO (rawInt h₅.objs.size):=hz₇;refine vQ hz₇ (by simp) λ h₈ hz₈ hs₈=>?_;replace hz₈:IsZip h₈ z TI TO (rawInt h₅.objs.size):=hz₈;have up:∀ c o,c≠z->h₅.get? c=some o->h₈.get? c=some o:=λ c o c1 e=>hs₈.extBut _ _ c1 (hs₇.extBut _ _ c1 (zD _ e));have hT₈:IsPair h₈ h₅.objs.size x y:=hs₈.extBut _ _ (sW hzlt) (hs₇.extBut _ _ (sW hzlt) (zU _ rfl));have hz8:h₈.objs.size=h₅.objs.size+1:=by rw [hs₈.1,hs₇.1,xY]
 rw [hsz] at hz₈ hT₈ hz8;refine zC ⟨_,rfl,zC ?_⟩;show Q (some (.ref h₅.objs.size)) _;rw [hsz];exact hQ h₈ hz₈ (up _ _ D.TOz hTO₅) (h1₅.at λ o e=>up _ o D.i1z e) (h2₅.at λ o e=>up _ o D.i2z e) hT₈ hz8 λ c o c1 c2 c3 c4 e=>up c o c1 (hk₅ c o c1 c2 c3 c4 e)
theorem Qk {b1 b2:Bool} {z TI TO i1 i2 l1 l2:Addr} {k1 k2:Nat} {xs ys:Array Value} {a b:Value} {Q:Option Value->Shared->Prop} (hh:A.handled=none) (D:ZipApart z TI TO i1 i2 l1 l2)
  (hz:IsZip s.heap z TI TO .none) (hTI:IsPair s.heap TI (.ref i1) (.ref i2)) (hTO:IsPair s.heap TO a b)
  (h1:ItB b1 s.heap i1 l1 k1) (h2:ItB b2 s.heap i2 l2 k2) (hl1:seqB b1 s.heap l1 xs) (hl2:seqB b2 s.heap l2 ys) (hend:xs[k1]?=none\/ys[k2]?=none)
  (hQ:∀ h',(∀ c o,c≠z->c≠TO->c≠i1->c≠i2->s.heap.get? c=some o->h'.get? c=some o)->Q none { s with heap:=h' }):wpAny (model prog w) A (pyNext (.ref z)) Q E s:=by
 have hT:s.TypeIs (.ref z) "zip" := ⟨_,hz,rfl⟩;unfold pyNext;refine zA (vW (wB (name:=Str.ofString "__next__") hT rE (xN rE hT F.entry_zip_next (Q:=_) ?_ (F.args_zip_next_1 _))));show wpAny _ _ (field (.ref z) 2 >>= _) _ _ _;refine zA (wA hz rfl (x:=.bool false) rfl ?_);show wpAny _ _ (field (.ref z) 3 >>= _) _ _ _;refine zA (wA hz rfl (x:=.ref TI) rfl ?_);refine zA (wK hTI rfl ?_);show wpAny _ _ (Builtin.SmallTypes.ownedTupleIsFree (.ref z) >>= _) _ _ _;refine zA ?_;unfold Builtin.SmallTypes.ownedTupleIsFree;refine zA (wA hz rfl (x:=.none) rfl (zC ?_));simp only [if_true];refine zA (wM ?_);refine zA (wA hz rfl (x:=.ref TO) rfl ?_);refine zA (vQ hz (by simp) λ h₁ hz₁ hs₁=>?_);replace hz₁:IsZip h₁ z TI TO .ellipsis:=hz₁;refine zA ?_;simp only [List.zipIdx_cons,List.zipIdx_nil,List.forIn_cons,List.forIn_nil];refine zA (zA (rY ?_));show wpAny _ _ (Builtin.SmallTypes.nextOf (.ref i1) >>= _) _ _ _;cases hx:xs[k1]? with
 | none =>
  refine zA (Bo hh (h1.at λ o e=>hs₁.extBut _ _ D.i1z e) (hl1.at λ o e=>hs₁.extBut _ _ D.l1z e) hx λ h₂ e hs₂ he=>?_);obtain ⟨oe,hoe,hce⟩:=he;have hz₂:IsZip h₂ z TI TO .ellipsis:=hs₂ _ _ D.i1z.symm hz₁;have hez:e≠z:=λ x=>by subst x; rw [hz₂] at hoe; cases hoe; simp at hce
  refine vQ hz₂ (by simp) λ h₃ _ hs₃=>?_;refine zA (vI (T := "StopIteration") (b:=true) ⟨oe,hs₃.extBut _ _ hez hoe,hce⟩ pH ?_);exact zC (hQ h₃ λ c o c1 _ c3 _ x=>hs₃.extBut _ _ c1 (hs₂ _ _ c3 (hs₁.extBut _ _ c1 x)))
 | some x =>
  have hy:ys[k2]?=none:=by rcases hend with h | h; rw [hx] at h; cases h; exact h
  refine zA (bF (h1.at λ o e=>hs₁.extBut _ _ D.i1z e) (hl1.at λ o e=>hs₁.extBut _ _ D.l1z e) hx λ h₂ h1₂ hs₂=>zC ?_);have hTO₂:IsPair h₂ TO a b:=hs₂.extBut _ _ D.TOi1 (hs₁.extBut _ _ D.TOz hTO);refine zA (wK hTO₂ rfl ?_);refine zA (rQ hTO₂ λ h₃ hTO₃ hs₃=>?_);refine zA (wpAny_letGo (zC ?_));refine zA (zA (rY ?_));show wpAny _ _ (Builtin.SmallTypes.nextOf (.ref i2) >>= _) _ _ _;refine zA (Bo hh (h2.at λ o e=>hs₃.extBut _ _ D.TOi2.symm (hs₂.extBut _ _ D.i12.symm (hs₁.extBut _ _ D.i2z e)))
   (hl2.at λ o e=>hs₃.extBut _ _ D.l2TO (hs₂.extBut _ _ D.l2i1 (hs₁.extBut _ _ D.l2z e))) hy λ h₄ e hs₄ he=>?_)
  obtain ⟨oe,hoe,hce⟩:=he;have hz₄:IsZip h₄ z TI TO .ellipsis:=hs₄ _ _ D.i2z.symm (hs₃.extBut _ _ D.TOz.symm (hs₂.extBut _ _ D.i1z.symm hz₁));have hez:e≠z:=λ x=>by subst x; rw [hz₄] at hoe; cases hoe; simp at hce
  refine vQ hz₄ (by simp) λ h₅ _ hs₅=>?_;refine zA (vI (T := "StopIteration") (b:=true) ⟨oe,hs₅.extBut _ _ hez hoe,hce⟩ pH ?_);exact zC (hQ h₅ λ c o c1 c2 c3 c4 x=>hs₅.extBut _ _ c1 (hs₄ _ _ c4 (hs₃.extBut _ _ c2 (hs₂.extBut _ _ c3 (hs₁.extBut _ _ c1 x)))))
end
noncomputable abbrev zB1 (b1:Bool) (h:Heap) (l1:Addr):Heap:=h.push { cls:=.type (nmB b1),data:=.fields #[.ref l1,.int 0 0] }
noncomputable abbrev zB2 (b1 b2:Bool) (h:Heap) (l1 l2:Addr):Heap:=(zB1 b1 h l1).push { cls:=.type (nmB b2),data:=.fields #[.ref l2,.int 0 0] }
noncomputable abbrev zB3 (b1 b2:Bool) (h:Heap) (l1 l2:Addr):Heap:=(zB2 b1 b2 h l1 l2).push { cls:=.type "tuple",data:=.seq #[.ref h.objs.size,.ref (zB1 b1 h l1).objs.size] }
noncomputable abbrev zB4 (b1 b2:Bool) (h:Heap) (l1 l2:Addr):Heap:=(zB3 b1 b2 h l1 l2).push { cls:=.type "tuple",data:=.seq #[.none,.none] }
noncomputable abbrev zB5 (b1 b2:Bool) (h:Heap) (l1 l2:Addr):Heap:=(zB4 b1 b2 h l1 l2).push { cls:=.type "zip",data:=.fields #[.none,.bool false,.bool false,.ref (zB2 b1 b2 h l1 l2).objs.size,.ref (zB3 b1 b2 h l1 l2).objs.size] }
theorem Qj (b1 b2:Bool) (l1 l2:Addr) (xs ys:Array Value) :
  Meets (Builtin.«zip.__new__» ⟨[.type "zip",.ref l1,.ref l2],[]⟩) (λ _ R s=>seqB b1 s.heap l1 xs/\seqB b2 s.heap l2 ys /\
   R (.ok (.ret (.ref (zB4 b1 b2 s.heap l1 l2).objs.size))) { s with heap:=zB5 b1 b2 s.heap l1 l2 }) :=
 .of_wp λ prog w A R s h=>by
  obtain ⟨hp,g,d,tk,os⟩:=s; obtain ⟨hl1,hl2,h⟩:=h;have hsub:=sub_zip;have hL1:seqB b1 (Shared.heap ⟨hp,g,d,tk,os⟩) l1 xs:=hl1;have hL2:seqB b2 (Shared.heap ⟨hp.push { cls:=.type (nmB b1),data:=.fields #[.ref l1,.int 0 0] },g,d,tk,os⟩) l2 ys:=hl2.at λ o e=>zD _ e
  wp_walk using Hv hL1,Hv hL2
  exact ⟨_,rfl,h⟩
theorem Qi {prog:Program} {w:World} {A:Around} {E:VP} {s:Shared} {b1 b2:Bool} {l1 l2:Addr} {xs ys:Array Value} {Q:VP} (hl1:seqB b1 s.heap l1 xs) (hl2:seqB b2 s.heap l2 ys)
  (h:∀ h',IsZip h' (s.heap.objs.size+4) (s.heap.objs.size+2) (s.heap.objs.size+3) .none->IsPair h' (s.heap.objs.size+2) (.ref s.heap.objs.size) (.ref (s.heap.objs.size+1)) ->
   IsPair h' (s.heap.objs.size+3) .none .none->ItB b1 h' s.heap.objs.size l1 0->ItB b2 h' (s.heap.objs.size+1) l2 0 ->
   (∀ c o,s.heap.get? c=some o->h'.get? c=some o)->Q (.ref (s.heap.objs.size+4)) { s with heap:=h' }) :
  wpAny (model prog w) A (call (.type "zip") [.ref l1,.ref l2]) Q E s:=by
 refine callType_new F.called_zip ∅ (F.typeCall_zip_2 _ _) (F.newCall_zip_2 _ _) (λ obj=>F.args_object_init_3 obj _ _) F.entry_zip_new
  (Qj b1 b2 l1 l2 xs ys) ⟨hl1,hl2,?_⟩
 have z1:(zB1 b1 s.heap l1).objs.size=s.heap.objs.size+1:=xY ..;have z2:(zB2 b1 b2 s.heap l1 l2).objs.size=s.heap.objs.size+2:=by rw [xY,z1]
 have z3:(zB3 b1 b2 s.heap l1 l2).objs.size=s.heap.objs.size+3:=by rw [xY,z2]
 have z4:(zB4 b1 b2 s.heap l1 l2).objs.size=s.heap.objs.size+4:=by rw [xY,z3]
 have g5:(zB5 b1 b2 s.heap l1 l2).get? (zB4 b1 b2 s.heap l1 l2).objs.size=some _:=zU _ rfl;have g4:(zB5 b1 b2 s.heap l1 l2).get? (zB3 b1 b2 s.heap l1 l2).objs.size=some _:=zD _ (zU _ rfl);have g3:(zB5 b1 b2 s.heap l1 l2).get? (zB2 b1 b2 s.heap l1 l2).objs.size=some _:=zD _ (zD _ (zU _ rfl));have u2:∀ c o,(zB2 b1 b2 s.heap l1 l2).get? c=some o->(zB5 b1 b2 s.heap l1 l2).get? c=some o:=λ c o e=>zD _ (zD _ (zD _ e));have g2:ItB b2 (zB5 b1 b2 s.heap l1 l2) (zB1 b1 s.heap l1).objs.size l2 0:=Hu.at λ o e=>u2 _ o e;have g1:ItB b1 (zB5 b1 b2 s.heap l1 l2) s.heap.objs.size l1 0:=Hu.at λ o e=>u2 _ o (zD _ e);show _/\_;rw [z2,z3,z4] at g5;rw [z1,z2] at g3;rw [z3] at g4;rw [z1] at g2;rw [z4];exact ⟨⟨_,g5,rfl⟩,h _ g5 g3 g4 g1 g2 λ c o x=>u2 c o (zD _ (zD _ x))⟩
section
variable {X:Cx} {pins:PN} {σ:St} {H:Hp} {s:Shared} {h':Heap}
theorem Inv.seqB {b:Bool} {a:Addr} {xs:List V} (I:Inv X pins σ H s) (h:SqB b X.K H a xs):∃ its:LW,Vals xs its/\L2.seqB b s.heap a its.toArray:=by
 cases b
 ·obtain ⟨its,rv,p,_⟩:=I.list h;exact ⟨its,rv,p.isList⟩
 ·obtain ⟨its,rv,p,_⟩:=I.tuple h;exact ⟨its,rv,p⟩
theorem Inv.seqB_inj {b:Bool} {a:Addr} {xs ys:List V} (I:Inv X pins σ H s) (h:SqB b X.K H a xs) (h2:SqB b X.K H a ys):xs=ys:=by
 cases b
 ·exact I.list_inj h h2
 ·exact I.tuple_inj h h2
theorem Inv.seq_ne {b:Bool} {a f:Addr} {xs:List V} (I:Inv X pins σ H s) (h:SqB b X.K H a xs) (hf:FpOk X pins H f):a≠f:=by
 have rd:∀ u,Rd H a u->a≠f:=λ u r z=>by
  subst z;rcases r with r | ⟨o,r⟩ <;> (rw [hf.1] at r; cases r)
 have kk:∀ o,X.K.lookup a=some o->a≠f:=λ o e z=>by
  subst z;have q:=I.mod.kin a o e;rcases hf.2.2.2.1 with w | w
  ·exact I.ok.noex _ _ q w
  ·exact absurd (zI (zP q) (yC I.ok.bsz w)) (xC _)
 cases b
 ·rcases h with h | ⟨o,its,n,hk,_⟩
  ·exact rd _ h
  ·exact kk _ hk
 ·rcases h with h | ⟨o,its,n,hk,_⟩
  ·exact rd _ h
  ·exact kk _ hk
theorem Inv.turnedNew {fp:LA} {n:Addr} {u:HO} {t':Nat} (I:Inv X pins σ H s) (hf:∀ b∈fp,FpOk X pins H b) (k:∀ b o,b ∉ fp->s.heap.get? b=some o->h'.get? b=some o) (hn:s.heap.objs.size<=n)
  (new:mQ X.prog X.w (upd H n u) h' n u):Inv X pins σ (upd H n u) { s with heap:=h',toks:=t' }:=by
 have fn:=I.hok.fresh hn;have nfp:∀ b v,H b=some v->b ∉ fp:=λ b v e z=>by rw [(hf b z).1] at e; cases e
 have nl:X.env.locals ∉ fp:=λ z=>(hf _ z).2.1 rfl;refine I.step (g':=s.gens) (d':=s.drawn) (ch:=fp) (λ b hb=>?_) (λ b o _ _ hc e _=>k b o hc e) (λ b o _ _ hc e _=>⟨o.slots,k b o hc e⟩) (λ b o _ e z=>?_)
  (λ b o hc e=>⟨o,k b o hc e⟩) (λ b xs e=>?_) (λ b o v e=>?_) (λ b ps e=>⟨#[],?_⟩) (λ m hm=>?_) (λ b v e=>?_) I.bare
 ·obtain ⟨f0,f1,f2,f3,f4,f5⟩:=hf b hb;exact ⟨f3,f1,f4,f5⟩
 ·rw [nD (yA (zI (zP e) hn))];exact z
 ·rw [nD (mX e fn)]; exact e
 ·rw [nD (mX e fn)]; exact e
 ·rw [nD (mX e fn),e]; simp
 ·obtain ⟨o,es,ep,ho,r⟩:=hm;exact ⟨o,es,ep,k _ o nl ho,r⟩
 ·by_cases hb:b=n
  ·subst hb;rw [oZ] at e;cases e;exact new
  ·rw [nD hb] at e;refine (I.hok b v e).stay (λ c x hc q=>k c x ?_ q) (λ c q=>by rw [nD (mX q fn)]; exact q) λ c xs q=>by rw [nD (mX q fn)]; exact q
   rcases hc with z | z
   ·rw [z]; exact nfp b v e
   ·exact nfp c _ z
theorem Inv.turnedL {fp:LA} {t':Nat} (I:Inv X pins σ H s) (hf:∀ b∈fp,FpOk X pins H b) (k:∀ b o,b ∉ fp->s.heap.get? b=some o->h'.get? b=some o):Inv X pins σ H { s with heap:=h',toks:=t' }:=by
 have nfp:∀ b v,H b=some v->b ∉ fp:=λ b v e z=>by rw [(hf b z).1] at e; cases e
 have nl:X.env.locals ∉ fp:=λ z=>(hf _ z).2.1 rfl;refine I.step (g':=s.gens) (d':=s.drawn) (ch:=fp) (λ b hb=>?_) (λ b o _ _ hc e _=>k b o hc e) (λ b o _ _ hc e _=>⟨o.slots,k b o hc e⟩) (λ b o _ e z=>z)
  (λ b o hc e=>⟨o,k b o hc e⟩) (λ b xs e=>e) (λ b o v e=>e) (λ b ps e=>⟨#[],by rw [e]; simp⟩) (λ m hm=>?_) (λ b v e=>?_) I.bare
 ·obtain ⟨f0,f1,f2,f3,f4,f5⟩:=hf b hb;exact ⟨f3,f1,f4,f5⟩
 ·obtain ⟨o,es,ep,ho,r⟩:=hm;exact ⟨o,es,ep,k _ o nl ho,r⟩
 ·refine (I.hok b v e).stay (λ c x hc q=>k c x ?_ q) (λ c q=>q) λ c xs q=>q;rcases hc with z | z
  ·rw [z]; exact nfp b v e
  ·exact nfp c _ z
end
noncomputable def Itz (K:Frag) (b1:Bool) (l1:Addr) (b2:Bool) (l2:Addr):It :=
  ⟨λ i H=>∃ xs ys x y,SqB b1 K H l1 xs/\SqB b2 K H l2 ys/\xs[i]?=some x/\ys[i]?=some y,
   λ i H v H'=>∃ p x y,v=.ref p/\H p=none/\H'=upd H p (.tup [x,y])/\(∀ xs,SqB b1 K H l1 xs->xs[i]?=some x)/\∀ ys,SqB b2 K H l2 ys->ys[i]?=some y,
   λ i H=>∃ xs ys,SqB b1 K H l1 xs/\SqB b2 K H l2 ys/\(xs[i]?=none\/ys[i]?=none)⟩
theorem Hs {xs:List V} {its:LW} {i:Nat} (r:Vals xs its):xs[i]?=none->its.toArray[i]?=none:=λ h=>by
 have:=r.none_of h;simpa using this
theorem Qh {P:Program} {w:World} {K:Frag} {es:List Expr} {k:Nat} {pos:Pos} {b1 b2:Bool} {z TI TO i1 i2 l1 l2:Addr} (hd:[z,TI,TO,i1,i2].Nodup) :
  Turn P w K (.Tuple es k pos) (Itz K b1 l1 b2 l2) [z,TI,TO,i1,i2] z (λ i h=>IsZip h z TI TO .none/\IsPair h TI (.ref i1) (.ref i2)/\(∃ a b,IsPair h TO a b)/\ItB b1 h i1 l1 i/\ItB b2 h i2 l2 i) where
 mem:=by simp
 obj:=λ i h ⟨hz,hTI,⟨a,b,hTO⟩,h1,h2⟩ c hc=>by
  simp only [List.mem_cons,List.not_mem_nil,or_false] at hc;rcases hc with e | e | e | e | e <;> subst e
  ·exact ⟨_,hz,λ v q=>by have q':Data.fields _=Data.cell v:=q; cases q'⟩
  ·exact ⟨_,hTI,λ v q=>by have q':Data.seq _ _=Data.cell v:=q; cases q'⟩
  ·exact ⟨_,hTO,λ v q=>by have q':Data.seq _ _=Data.cell v:=q; cases q'⟩
  ·exact h1.lt
  ·exact h2.lt
 keep:=λ i h h' ⟨hz,hTI,⟨a,b,hTO⟩,h1,h2⟩ kk=>⟨kk z (by simp) _ hz,kk TI (by simp) _ hTI,⟨a,b,kk TO (by simp) _ hTO⟩,h1.at λ o e=>kk i1 (by simp) o e,h2.at λ o e=>kk i2 (by simp) o e⟩
 item:=by
  intro X hP hw hK hc i pins s σ H E I hf st hg;subst hP hw hK;obtain ⟨hz,hTI,⟨a,b,hTO⟩,h1,h2⟩:=st;obtain ⟨xs,ys,x,y,q1,q2,e1,e2⟩:=hg;obtain ⟨its1,r1,p1⟩:=I.seqB q1;obtain ⟨its2,r2,p2⟩:=I.seqB q2;obtain ⟨u1,hu1,ru1⟩:=r1.get e1;obtain ⟨u2,hu2,ru2⟩:=r2.get e2;have ne1:∀ f∈[z,TI,TO,i1,i2],l1≠f:=λ f hff=>I.seq_ne q1 (hf f hff);have ne2:∀ f∈[z,TI,TO,i1,i2],l2≠f:=λ f hff=>I.seq_ne q2 (hf f hff);simp only [List.nodup_cons,List.mem_cons,List.not_mem_nil,or_false,not_or,List.nodup_nil,and_true,not_false_eq_true] at hd;obtain ⟨⟨d1,d2,d3,d4⟩,⟨d5,d6,d7⟩,⟨d8,d9⟩,d10⟩:=hd;have D:ZipApart z TI TO i1 i2 l1 l2:=⟨Ne.symm d1,Ne.symm d2,Ne.symm d3,Ne.symm d4,d5,d6,d7,d8,d9,d10,ne1 z (by simp),ne1 TO (by simp),ne1 i1 (by simp),ne1 i2 (by simp),ne2 z (by simp),ne2 TO (by simp),ne2 i1 (by simp),ne2 i2 (by simp)⟩;refine Ql D hz hTI hTO h1 h2 p1 p2 (x:=u1) (y:=u2) (by simpa using hu1) (by simpa using hu2) λ h' a1 a2 a3 a4 a5 a6 a7=>⟨_,rfl,?_⟩;refine wpAny_letOwnedTupleGo_zip a1 λ h'' hz' hs'=>?_;have up:∀ c o,c ∉ [z,TI,TO,i1,i2]->s.heap.get? c=some o->h''.get? c=some o:=λ c o hc' e=>by
   simp only [List.mem_cons,List.not_mem_nil,or_false,not_or] at hc';obtain ⟨c1,c2,c3,c4,c5⟩:=hc';exact hs'.extBut _ _ c1 (a7 c o c1 c3 c4 c5 e)
  have nz:s.heap.objs.size≠z:=sW (zP hz);have new:mQ X.prog X.w (upd H s.heap.objs.size (.tup [x,y])) h'' s.heap.objs.size (.tup [x,y]) :=
   ⟨by show 2<=sizeLine; decide,[u1,u2],.cons ru1 (.cons ru2 .nil),⟨_,hs'.extBut _ _ nz a5,rfl,_,rfl⟩⟩
  have I2:Inv X pins σ (upd H s.heap.objs.size (.tup [x,y])) { s with heap:=h'' }:=I.turnedNew (t':=s.toks) hf up (zF _) new;refine ⟨.ref s.heap.objs.size,_,I2,rfl,⟨_,x,y,rfl,I.fresh,rfl,λ xs' q=>by rw [I.seqB_inj q q1]; exact e1,λ ys' q=>by rw [I.seqB_inj q q2]; exact e2⟩,⟨hz',hs'.extBut _ _ D.TIz (a7 _ _ D.TIz D.TITO D.TIi1 D.TIi2 hTI),⟨_,_,hs'.extBut _ _ D.TOz a2⟩,a3.at λ o e=>hs'.extBut _ _ D.i1z e,a4.at λ o e=>hs'.extBut _ _ D.i2z e⟩,λ c hc'=>?_⟩;have hcf:=(hf c hc').1;rw [nD]
  ·exact hcf
  ·intro e;subst e;simp only [List.mem_cons,List.not_mem_nil,or_false] at hc';rcases hc' with e | e | e | e | e
   ·exact nz e
   ·exact absurd (zP hTI) (by rw [← e]; exact xC _)
   ·exact absurd (zP hTO) (by rw [← e]; exact xC _)
   ·obtain ⟨o,q,_⟩:=h1.lt; exact absurd (zP q) (by rw [← e]; exact xC _)
   ·obtain ⟨o,q,_⟩:=h2.lt; exact absurd (zP q) (by rw [← e]; exact xC _)
 done:=by
  intro X hP hw hK hc i pins s σ H E I hf st hg;subst hP hw hK;obtain ⟨hz,hTI,⟨a,b,hTO⟩,h1,h2⟩:=st;obtain ⟨xs,ys,q1,q2,e1⟩:=hg;obtain ⟨its1,r1,p1⟩:=I.seqB q1;obtain ⟨its2,r2,p2⟩:=I.seqB q2;have ne1:∀ f∈[z,TI,TO,i1,i2],l1≠f:=λ f hff=>I.seq_ne q1 (hf f hff);have ne2:∀ f∈[z,TI,TO,i1,i2],l2≠f:=λ f hff=>I.seq_ne q2 (hf f hff);simp only [List.nodup_cons,List.mem_cons,List.not_mem_nil,or_false,not_or,List.nodup_nil,and_true,not_false_eq_true] at hd;obtain ⟨⟨d1,d2,d3,d4⟩,⟨d5,d6,d7⟩,⟨d8,d9⟩,d10⟩:=hd;have D:ZipApart z TI TO i1 i2 l1 l2:=⟨Ne.symm d1,Ne.symm d2,Ne.symm d3,Ne.symm d4,d5,d6,d7,d8,d9,d10,ne1 z (by simp),ne1 TO (by simp),ne1 i1 (by simp),ne1 i2 (by simp),ne2 z (by simp),ne2 TO (by simp),ne2 i1 (by simp),ne2 i2 (by simp)⟩;refine Qk (I.ok.hd hc) D hz hTI hTO h1 h2 p1 p2 (e1.imp (Hs r1) (Hs r2)) λ h' a7=>⟨rfl,I.turnedL (t':=s.toks) hf λ c o hc' e=>?_⟩;simp only [List.mem_cons,List.not_mem_nil,or_false,not_or] at hc';obtain ⟨c1,c2,c3,c4,c5⟩:=hc';exact a7 c o c1 c3 c4 c5 e
 self:=λ _ _ _ _ _ st h=>wpAny_pyIter_zip st.1 h
section
variable {X:Cx}
def iZip (K:Frag) (ta:TA):TI:=λ σ H R=>ta σ H λ vs H1=>∃ b1 b2 l1 l2,vs=[.ref l1,.ref l2]/\(∃ xs,SqB b1 K H1 l1 xs)/\(∃ ys,SqB b2 K H1 l2 ys)/\R (Itz K b1 l1 b2 l2) H1
theorem Bn {a b:Expr} {ta:TA} {es:List Expr} {k:Nat} {tp p pos:Pos} (hg:Gl X "zip") (hm:X.mg "zip" = none) (ha:PA X [a,b] ta) (hv:bootBuiltins "zip" = some (.type "zip"):=by decide +kernel)
  (hs:starEach [a,b] X.env=[(false,eval a X.env),(false,eval b X.env)]:=by rfl) (hs2:starEach [b] X.env=[(false,eval b X.env)]:=by rfl) :
  PI X (.Tuple es k tp) (.Call (.Name "zip" p) [a,b] [] pos) (iZip X.K ta):=by
 intro pins s σ H R I h;refine Call_ (gM I hg hm hv (wQ (thn (ha pos pins s σ H _ I h) λ us s1 ⟨vs,H1,I1,r1,q1⟩=>?_) (by rw [hs,hs2]) (by rw [hs2]; rfl)));obtain ⟨b1,b2,l1,l2,e,⟨xs,q1⟩,⟨ys,q2⟩,q⟩:=q1;subst e;cases r1 with
 | cons r rr =>
  cases rr with
  | cons r' rr =>
   cases rr;cases r;cases r';obtain ⟨its1,v1,p1⟩:=I1.seqB q1;obtain ⟨its2,v2,p2⟩:=I1.seqB q2;refine Qi p1 p2 λ h' a1 a2 a3 a4 a5 kp=>?_;refine wpAny_pyIter_zip a1 ?_;have lt:∀ j,j<=4->s1.heap.objs.size<=s1.heap.objs.size+j:=λ j _=>qQ _ _;refine ⟨s1.heap.objs.size+4,[s1.heap.objs.size+4,s1.heap.objs.size+2,s1.heap.objs.size+3,s1.heap.objs.size,s1.heap.objs.size+1],_,_,H1,rfl,I1.kept (t':=s1.toks) kp,Qh (b1:=b1) (b2:=b2) (l1:=l1) (l2:=l2) ?_,⟨a1,a2,⟨_,_,a3⟩,a4,a5⟩,λ c hc=>?_,q⟩
   ·simp
   ·have hle:s1.heap.objs.size<=c:=by
     simp only [List.mem_cons,List.not_mem_nil,or_false] at hc;rcases hc with e | e | e | e | e <;> subst e <;> first | exact zF _ | exact qQ _ _
    exact I1.fpOk hle (I1.hok.fresh hle)
end
open AutoSeq1 (wpAny_loadPart')
set_option maxRecDepth 100000 in
theorem Qg (l:Addr) (items:Array Value) (n:Nat) (dct:Option Addr) (sl:Array (Option Value)) :
  Meets (Builtin.«enumerate.__new__» ⟨[.type "enumerate",.ref l],[]⟩) (λ _ R s=>s.heap.get? l=some { cls:=.type "tuple",dict:=dct,data:=.seq items n,slots:=sl } /\
   R (.ok (.ret (.ref (s.heap.push { cls:=.type "tuple_iterator",data:=.fields #[.ref l,.int 0 0] }).objs.size)))
    { s with heap:=(s.heap.push { cls:=.type "tuple_iterator",data:=.fields #[.ref l,.int 0 0] }).push { cls:=.type "enumerate",data:=.fields #[.none,.bool false,.ref s.heap.objs.size,rawInt 0,.none,.none] } }) :=
 .of_wp λ prog w A R s h=>by
  obtain ⟨hp,g,d,tk,os⟩:=s; obtain ⟨hl,h⟩:=h;have hsub:=sub_enumerate;have hL:Heap.IsTuple (Shared.heap ⟨hp,g,d,tk,os⟩) l items:=⟨_,hl,rfl,n,rfl⟩
  wp_walk using uE hl
  refine wpAny_stack_any λ st=>zC ?_;split
  ·rename_i c _ _ _ _ _;cases (c == Value.type "enumerate")
   ·wp_walk using uE hl,uH hL
    exact ⟨_,rfl,h⟩
   ·wp_walk using uE hl,uH hL
    exact ⟨_,rfl,h⟩
  ·wp_walk using uE hl,uH hL
   exact ⟨_,rfl,h⟩
theorem Qf {prog:Program} {w:World} {A:Around} {E:VP} {s:Shared} {b:Bool} {l:Addr} {items:Array Value} {Q:VP} (hL:seqB b s.heap l items)
  (h:∀ h',IsEnum h' (s.heap.objs.size+1) s.heap.objs.size 0 .none->ItB b h' s.heap.objs.size l 0 ->
   (∀ b o,s.heap.get? b=some o->h'.get? b=some o)->Q (.ref (s.heap.objs.size+1)) { s with heap:=h' }) :
  wpAny (model prog w) A (call (.type "enumerate") [.ref l]) Q E s:=by
 cases b
 ·exact call_enumerate_list hL λ h' a1 a2 a3 a4=>h h' a1 a2 a4
 ·obtain ⟨⟨c,dct,dt,sl⟩,hl,hc,n,hd⟩:=hL;replace hc:c=.type "tuple" := hc;replace hd:dt=.seq items n:=hd;subst hc hd;refine callType_new F.called_enumerate ∅ (F.typeCall_enumerate_1 _) (F.newCall_enumerate_1 _) (λ obj=>F.args_object_init_2 obj _) F.entry_enumerate_new
   (Qg l items n dct sl) ⟨hl,?_⟩
  have hz:(s.heap.push { cls:=.type "tuple_iterator",data:=.fields #[.ref l,.int 0 0] }).objs.size=s.heap.objs.size+1:=xY ..;show _/\_;rw [hz];have he:IsEnum ((s.heap.push { cls:=.type "tuple_iterator",data:=.fields #[.ref l,.int 0 0] }).push
    { cls:=.type "enumerate",data:=.fields #[.none,.bool false,.ref s.heap.objs.size,rawInt 0,.none,.none] }) (s.heap.objs.size+1) s.heap.objs.size 0 .none:=by
   have:=zU (s.heap.push { cls:=.type "tuple_iterator",data:=.fields #[.ref l,.int 0 0] })
    (o:={ cls:=.type "enumerate",data:=.fields #[.none,.bool false,.ref s.heap.objs.size,rawInt 0,.none,.none] }) rfl
   rw [hz] at this; exact this
  refine ⟨⟨_,he,rfl⟩,h _ he ⟨_,zD _ (zU _ rfl),rfl,rfl⟩ λ b o x=>zD _ (zD _ x)⟩
noncomputable def Ite (K:Frag) (b:Bool) (l:Addr):It :=
  ⟨λ i H=>∃ xs x,SqB b K H l xs/\xs[i]?=some x,
   λ i H v H'=>∃ p x,v=.ref p/\H p=none/\H'=upd H p (.tup [.int i,x])/\∀ xs,SqB b K H l xs->xs[i]?=some x,
   λ i H=>∃ xs,SqB b K H l xs/\xs.length=i⟩
theorem Qe {P:Program} {w:World} {K:Frag} {es:List Expr} {k:Nat} {pos:Pos} {b:Bool} {e it l:Addr} (hd:e≠it) :
  Turn P w K (.Tuple es k pos) (Ite K b l) [e,it] e (λ i h=>(∃ old,IsEnum h e it i old)/\ItB b h it l i) where
 mem:=by simp
 obj:=λ i h ⟨⟨old,hz⟩,h1⟩ c hc=>by
  simp only [List.mem_cons,List.not_mem_nil,or_false] at hc;rcases hc with e | e <;> subst e
  ·exact ⟨_,hz,λ v q=>by have q':Data.fields _=Data.cell v:=q; cases q'⟩
  ·exact h1.lt
 keep:=λ i h h' ⟨⟨old,hz⟩,h1⟩ kk=>⟨⟨old,kk e (by simp) _ hz⟩,h1.at λ o q=>kk it (by simp) o q⟩
 item:=by
  intro X hP hw hK hc i pins s σ H E I hf st hg;subst hP hw hK;obtain ⟨⟨old,hz⟩,h1⟩:=st;obtain ⟨xs,x,q1,e1⟩:=hg;obtain ⟨its1,r1,p1⟩:=I.seqB q1;obtain ⟨u1,hu1,ru1⟩:=r1.get e1;have ne1:∀ f∈[e,it],l≠f:=λ f hff=>I.seq_ne q1 (hf f hff);have hlt:i < its1.toArray.size:=by
   have:=(zR.mp hu1).1;simpa using this
  refine wpAny_pyNext_enum_itemD (Ht b (show X.A.in1.handled=none from I.ok.hd hc) it l (ne1 it (by simp)) its1.toArray) hz ⟨h1,p1⟩ hlt hd (λ q=>?_) λ u h' tk hP a1 a2 a3 a4 a5=>⟨_,rfl,?_⟩
  ·simp only [List.mem_cons,List.not_mem_nil,or_false] at q;rcases q with q | q
   ·exact hd q
   ·exact ne1 e (by simp) q.symm
  have eu:u=u1:=by
   have:its1.toArray[i]?=some u1:=by simpa using hu1
   rw [this] at hP;exact (zT hP).symm
  subst eu;refine wpAny_letOwnedTupleGo_enum a1 λ h'' hz' hs'=>?_;have ne:s.heap.objs.size≠e:=sW (zP hz);have up:∀ c o,c ∉ [e,it]->s.heap.get? c=some o->h''.get? c=some o:=λ c o hc' q=>by
   simp only [List.mem_cons,List.not_mem_nil,or_false,not_or] at hc';exact hs'.extBut _ _ hc'.1 (a5 c o hc'.1 hc'.2 q)
  have new:mQ X.prog X.w (upd H s.heap.objs.size (.tup [.int i,x])) h'' s.heap.objs.size (.tup [.int i,x]) :=
   ⟨by show 2<=sizeLine; decide,[.int i tk,u],.cons ⟨tk,rfl⟩ (.cons ru1 .nil),⟨_,hs'.extBut _ _ ne a3,rfl,_,rfl⟩⟩
  have I2:Inv X pins σ (upd H s.heap.objs.size (.tup [.int i,x])) { s with heap:=h'',toks:=tk+1 }:=I.turnedNew (t':=tk+1) hf up (zF _) new;refine ⟨.ref s.heap.objs.size,_,I2,rfl,⟨_,x,rfl,I.fresh,rfl,λ xs' q=>by rw [I.seqB_inj q q1]; exact e1⟩,⟨⟨u,by simpa using hz'⟩,a2.1.at λ o q=>hs'.extBut _ _ (Ne.symm hd) q⟩,λ c hc'=>?_⟩;have hcf:=(hf c hc').1;rw [nD]
  ·exact hcf
  ·intro z;subst z;simp only [List.mem_cons,List.not_mem_nil,or_false] at hc';rcases hc' with z | z
   ·exact ne z
   ·obtain ⟨o,q,_⟩:=h1.lt; exact absurd (zP q) (by rw [← z]; exact xC _)
 done:=by
  intro X hP hw hK hc i pins s σ H E I hf st hg;subst hP hw hK;obtain ⟨⟨old,hz⟩,h1⟩:=st;obtain ⟨xs,q1,e1⟩:=hg;obtain ⟨its1,r1,p1⟩:=I.seqB q1;have ne1:∀ f∈[e,it],l≠f:=λ f hff=>I.seq_ne q1 (hf f hff);have el:its1.toArray.size=i:=by rw [zW,← r1.length,e1]
  refine wpAny_pyNext_enum_endD (Ht b (show X.A.in1.handled=none from I.ok.hd hc) it l (ne1 it (by simp)) its1.toArray) hz ⟨by rw [el]; exact h1,p1⟩ λ h' hx=>⟨rfl,I.turnedL (t':=s.toks) hf λ c o hc' q=>?_⟩;simp only [List.mem_cons,List.not_mem_nil,or_false,not_or] at hc';exact hx c o hc'.2 q
 self:=λ _ _ _ _ _ st h=>let ⟨⟨_,q⟩,_⟩:=st; wpAny_pyIter_enum q h
section
variable {X:Cx}
def fH (K:Frag) (ta:TA):TI:=λ σ H R=>ta σ H λ vs H1=>∃ b l,vs=[.ref l]/\(∃ xs,SqB b K H1 l xs)/\R (Ite K b l) H1
theorem dF {a:Expr} {ta:TA} {es:List Expr} {k:Nat} {tp p pos:Pos} (hg:Gl X "enumerate") (hm:X.mg "enumerate" = none) (ha:PA X [a] ta) (hv:bootBuiltins "enumerate" = some (.type "enumerate"):=by decide +kernel)
  (hs:starEach [a] X.env=[(false,eval a X.env)]:=by rfl) :
  PI X (.Tuple es k tp) (.Call (.Name "enumerate" p) [a] [] pos) (fH X.K ta):=by
 intro pins s σ H R I h;refine Call_ (gM I hg hm hv (wQ (thn (ha pos pins s σ H _ I h) λ us s1 ⟨vs,H1,I1,r1,q1⟩=>?_) hs rfl));obtain ⟨b,l,e,⟨xs,q1⟩,q⟩:=q1;subst e;cases r1 with
 | cons r rr =>
  cases rr;cases r;obtain ⟨its1,v1,p1⟩:=I1.seqB q1;refine Qf p1 λ h' a1 a2 kp=>?_;refine wpAny_pyIter_enum a1 ?_;refine ⟨s1.heap.objs.size+1,[s1.heap.objs.size+1,s1.heap.objs.size],_,_,H1,rfl,I1.kept (t':=s1.toks) kp,Qe (b:=b) (l:=l) (by simp),⟨⟨_,a1⟩,a2⟩,λ c hc=>?_,q⟩;have hle:s1.heap.objs.size<=c:=by
   simp only [List.mem_cons,List.not_mem_nil,or_false] at hc;rcases hc with e | e <;> subst e <;> first | exact zF _ | exact qQ _ _
  exact I1.fpOk hle (I1.hok.fresh hle)
theorem Hr:∀ {ns:LI'} {its:LW},Vals (ns.map V.int) its->∃ xs:List (Int × Tok),its=xs.map (λ p=>Value.int p.1 p.2)/\xs.map (·.1)=ns
 | [],_,.nil=>⟨[],rfl,rfl⟩
 | n :: r,_,.cons ⟨t,h⟩ q=>by
  obtain ⟨xs,e1,e2⟩:=Hr (ns:=r) q;exact ⟨(n,t) :: xs,by rw [h,e1]; rfl,by rw [zG,e2]⟩
theorem Bm (hc:X.calm=true):kA X (.builtin "sum") (λ xs H Q=>∃ (p:Addr) (ns:LI'),xs=[.ref p]/\SqL X.K H p (ns.map V.int)/\Q (.int ns.sum) H):=by
 intro pins s σ H xs us Q I r h;obtain ⟨p,ns,rfl,hq,q⟩:=h;obtain ⟨u,rfl,rx⟩:=jL r;cases rx;obtain ⟨its,rv,pl,hz⟩:=I.list hq;obtain ⟨ps,e1,e2⟩:=Hr rv;have hl:s.heap.IsList p (intItems ps.toArray):=by
  have:=pl.isList;rw [e1] at this;simpa [intItems] using this
 refine sum_intListG (I.ok.hd hc) hl λ h' tk t' hk=>⟨.int ns.sum,H,I.kept (t':=tk) hk,⟨t',?_⟩,q⟩;rw [preSum_eq,wP (by simp)];simp [e2]
end
theorem SqB.or {b:Bool} {K:Frag} {H:Hp} {a:Addr} {xs:List V} (h:SqB b K H a xs):SqL K H a xs\/SqT K H a xs:=by
 cases b
 ·exact .inl h
 ·exact .inr h
theorem SqB.up {b:Bool} {K:Frag} {H H':Hp} {a:Addr} {xs:List V} (h:SqB b K H a xs) (s:Same H H'):SqB b K H' a xs:=by
 cases b
 ·exact s.seq h
 ·exact s.tup h
theorem SqB.lst {K:Frag} {H:Hp} {a:Addr} {xs:List V} (h:H a=some (.lst xs)):SqB false K H a xs:=SqL.of h
theorem SqB.tup {K:Frag} {H:Hp} {a:Addr} {xs:List V} (h:H a=some (.tup xs)):SqB true K H a xs:=SqT.of h
noncomputable def Its (K:Frag) (b:Bool) (a:Addr):It:=match b with | false=>Itl K a | true=>Itt K a
theorem Its.go {K:Frag} {b:Bool} {a:Addr} {xs:List V} {x:V} {i:Nat} {H:Hp} (h:SqB b K H a xs) (e:xs[i]?=some x):(Its K b a).go i H:=by
 cases b
 ·exact ⟨xs,x,h,e⟩
 ·exact ⟨xs,x,h,e⟩
theorem Its.stop {K:Frag} {b:Bool} {a:Addr} {xs:List V} {i:Nat} {H:Hp} (h:SqB b K H a xs) (e:xs.length<=i):(Its K b a).stop i H:=by
 cases b
 ·exact ⟨xs,h,e⟩
 ·exact ⟨xs,h,e⟩
theorem Its.yld {K:Frag} {b:Bool} {a:Addr} {xs:List V} {i:Nat} {H H':Hp} {x:V} (h:SqB b K H a xs) (y:(Its K b a).yld i H x H'):H'=H/\xs[i]?=some x:=by
 cases b
 ·exact ⟨y.1,y.2 xs h⟩
 ·exact ⟨y.1,y.2 xs h⟩
section
variable {X:Cx}
def iSeq (K:Frag) (tl:TE):TI:=λ σ H R=>tl σ H λ x H1=>∃ b a,x=.ref a/\(∃ xs,SqB b K H1 a xs)/\R (Its K b a) H1
theorem mJ {tg l:Expr} {tl:TE} (hl:PE X l tl):PI X tg l (iSeq X.K tl):=by
 intro pins s σ H R I h;refine thn (hl pins s σ H _ I h) λ v s1 ⟨x,H1,I1,r1,q1⟩=>?_;obtain ⟨b,a,e,⟨xs,hq⟩,q⟩:=q1;subst e;cases r1;cases b
 ·obtain ⟨its,rv,p,hz⟩:=I1.list hq;refine sD p.isList ?_;refine ⟨s1.heap.objs.size,[s1.heap.objs.size],_,_,H1,rfl,I1.kept (t':=s1.toks) λ b o e=>zD _ e,Ng a _,⟨_,zU _ rfl,rfl,rfl⟩,λ b hb=>?_,q⟩;have e:b=s1.heap.objs.size:=by simpa using hb
  subst e;exact I1.fpOk (zF _) (I1.hok.fresh (zF _))
 ·obtain ⟨its,rv,p,hz⟩:=I1.tuple hq;refine uH (show s1.heap.IsTuple a its.toArray from p) ?_;refine ⟨s1.heap.objs.size,[s1.heap.objs.size],_,_,H1,rfl,I1.kept (t':=s1.toks) λ b o e=>zD _ e,Nf a _,⟨_,zU _ rfl,rfl,rfl⟩,λ b hb=>?_,q⟩;have e:b=s1.heap.objs.size:=by simpa using hb
  subst e;exact I1.fpOk (zF _) (I1.hok.fresh (zF _))
def rIxB (K:Frag):R2:=λ x y H Q=>E5 λ (b:Bool) (p:Addr) (xs:List V) (i:Int) (v:V)=>A5 (x=.ref p) (y=.int i) (SqB b K H p xs) (atI xs i=some v) (Q v H)
theorem ix_B:IxR X (rIxB X.K):=by
 intro value slice pins s σ H x y v u Q I rx ry h;obtain ⟨b,p,xs,i,v',e1,e2,hq,ha,q⟩:=h;cases b
 ·exact Pt value slice pins s σ H x y v u Q I rx ry ⟨p,xs,i,v',e1,e2,hq,ha,q⟩
 ·exact Ps value slice pins s σ H x y v u Q I rx ry ⟨p,xs,i,v',e1,e2,hq,ha,q⟩
def jY (K:Frag):List V->Hp->VK->Prop:=λ xs H Q=>E3 λ (b:Bool) (p:Addr) (ys:List V)=>A3 (xs=[.ref p]) (SqB b K H p ys) (Q (.int ys.length) H)
theorem mC:kA X (.builtin "len") (jY X.K):=by
 intro pins s σ H xs us Q I r h;obtain ⟨b,p,ys,e,hq,q⟩:=h;exact Pm pins s σ H xs us Q I r ⟨p,ys,e,hq.or,q⟩
def dG (K:Frag):List V->Hp->VK->Prop:=λ xs H Q=>∃ b p ys,xs=[.ref p]/\SqB b K H p ys/\∀ l,H l=none->Q (.ref l) (upd H l (.lst ys))
theorem gQ:kA X (.type "list") (dG X.K):=by
 intro pins s σ H xs us Q I r h;obtain ⟨b,p,ys,e,hq,q⟩:=h;exact Pl pins s σ H xs us Q I r ⟨p,ys,e,hq.or,q⟩
def dH (K:Frag):List V->Hp->VK->Prop:=λ xs H Q=>∃ p ys,xs=[.ref p]/\((SqL K H p ys/\∀ l,H l=none->Q (.ref l) (upd H l (.tup ys)))\/(SqT K H p ys/\Q (.ref p) H))
theorem jZ:kA X (.type "tuple") (dH X.K):=Pk
end
theorem Qd {K:Frag} {b:Bool} {a:Addr} {xs:List V} {g:TG} {tb:TS} {D:Ends} {σ:St} {H:Hp} (Pv:Nat->St->Hp->Prop) (h0:Pv 0 σ H) (hl:∀ i σ H,i<=xs.length->Pv i σ H->SqB b K H a xs)
  (hs:∀ i x σ H,xs[i]?=some x->Pv i σ H->g x σ H λ σ2 H2=>tb { D with nx:=Pv (i+1),ct:=Pv (i+1),bk:=D.nx } σ2 H2) (hd:∀ σ H,Pv xs.length σ H->D.nx σ H) :
  ∃ W:Nat->Nat->St->Hp->Prop,(∃ m,W 0 m σ H)/\∀ i m σ H,W i m σ H ->
   ((Its K b a).stop i H/\D.nx σ H)\/((Its K b a).go i H/\∃ N:St->Hp->Prop,(∀ σ' H',N σ' H'->∃ m',m' < m/\W (i+1) m' σ' H')/\∀ x H',(Its K b a).yld i H x H'->g x σ H' λ σ2 H2=>tb { D with nx:=N,ct:=N,bk:=D.nx } σ2 H2):=by
 cases b
 ·exact Na Pv h0 hl hs hd
 ·exact Oz Pv h0 hl hs hd
theorem Qb {K:Frag} {b:Bool} {a:Addr} {xs:List V} {g:TG} {tb:TS} {D:Ends} {σ:St} {H:Hp} (Pv:Nat->St->Hp->Prop) (h0:Pv 0 σ H) (hl:∀ i σ H,i<=xs.length->Pv i σ H->SqB b K H a xs)
  (hs:∀ i x p σ H,xs[i]?=some x->Pv i σ H->H p=none->g (.ref p) σ (upd H p (.tup [.int i,x])) λ σ2 H2=>tb { D with nx:=Pv (i+1),ct:=Pv (i+1),bk:=D.nx } σ2 H2) (hd:∀ σ H,Pv xs.length σ H->D.nx σ H) :
  ∃ W:Nat->Nat->St->Hp->Prop,(∃ m,W 0 m σ H)/\∀ i m σ H,W i m σ H ->
   ((Ite K b a).stop i H/\D.nx σ H)\/((Ite K b a).go i H/\∃ N:St->Hp->Prop,(∀ σ' H',N σ' H'->∃ m',m' < m/\W (i+1) m' σ' H')/\∀ x H',(Ite K b a).yld i H x H'->g x σ H' λ σ2 H2=>tb { D with nx:=N,ct:=N,bk:=D.nx } σ2 H2):=by
 refine ⟨λ i m σ H=>m=xs.length - i/\i<=xs.length/\Pv i σ H,⟨xs.length,by simp,yY _,h0⟩,?_⟩;rintro i m σ H ⟨rfl,hi,p⟩;have q:=hl i σ H hi p
 by_cases hlt:i < xs.length
 ·refine .inr ⟨⟨xs,xs[i],q,by simp [hlt]⟩,Pv (i+1),λ σ' H' p'=>⟨xs.length - (i+1),⋯,rfl,hlt,p'⟩,λ x H' y=>?_⟩;obtain ⟨r,x,rfl,hr,rfl,hx⟩:=y;exact hs i x r σ H (hx xs q) p hr
 ·have e:i=xs.length:=⋯
  subst e;exact .inl ⟨⟨xs,q,rfl⟩,hd σ H p⟩
def kO (a:Addr) (H H':Hp):Prop:=∀ b o,b≠a->H b=some o->H' b=some o
theorem Same.x {a:Addr} {H H':Hp} (s:Same H H'):kO a H H':=λ b o _ e=>s b o e
section
variable {J:It} {g:TG} {tt:TOx} {te:TE} {n:Nat} {fr:List (Str × Nat)} {σ:St} {a:Addr} {H:Hp} {Q:VK} {K:Frag}
theorem dI (len:Nat) (P:Nat->List V->Hp->Prop) (ha:H a=none) (hz:len<=1000) (h0:P 0 [] (upd H a (.lst [])))
  (hl:∀ i zs H1,P i zs H1->zs.length<=i) (mono:∀ i zs H1 H2,P i zs H1->kO a H1 H2->P i zs H2)
  (hgo:∀ i H1,i < len->Same H H1->J.go i H1) (hstop:∀ H1,Same H H1->J.stop len H1)
  (he:∀ i H1 zs,i < len->Same H H1->H1 a=some (.lst zs)->P i zs H1->∀ (ys:St) x H3,ys.length=n->J.yld i H1 x H3->∀ C:Option V->Hp->Prop,
   (∀ y H2,Same H1 H2->P (i+1) (zs++[y]) H2->C (some y) H2)->(∀ H2,Same H1 H2->P (i+1) zs H2->C none H2) ->
   g x (ys++lG fr σ) H3 λ σ4 H4=>(∃ ys':St,ys'.length=n/\σ4=ys'++lG fr σ)/\tt σ4 H4 C)
  (hd:∀ H1 ys,Same H H1->H1 a=some (.lst ys)->P len ys H1->Q (.ref a) H1):lN J g tt n fr σ a H Q:=by
 refine ⟨λ i m H1=>m=len - i/\i<=len/\Same H H1/\∃ zs,H1 a=some (.lst zs)/\P i zs H1,⟨len,by simp,Nat.zero_le _,Same.new ha,[],oZ,h0⟩,?_⟩;rintro i m H1 ⟨rfl,hi,s1,zs,ez,p⟩
 by_cases hlt:i < len
 ·refine .inr ⟨hgo i H1 hlt s1,λ H'=>i+1<=len/\Same H H'/\∃ zs,H' a=some (.lst zs)/\P (i+1) zs H',λ H' q=>⟨len - (i+1),⋯,rfl,q⟩,λ ys x H3 hys hy=>?_⟩;refine he i H1 zs hlt s1 ez p ys x H3 hys hy _ (λ y H2 s2 p2=>?_) λ H2 s2 p2=>?_
  ·refine ⟨zs,s2 _ _ ez,eZ (by have:=hl i zs H1 p; omega),hlt,Same.over ha (s1.trans s2),_,oZ,mono _ _ _ _ p2 λ b o hb e=>?_⟩;rw [nD hb];exact e
  ·exact ⟨hlt,s1.trans s2,zs,s2 _ _ ez,p2⟩
 ·have e:i=len:=⋯
  subst e;exact .inl ⟨hstop H1 s1,hd H1 zs s1 ez p⟩
theorem bG (len:Nat) (R:Nat->V->Hp->Prop) (ha:H a=none) (hz:len<=1000) (mono:∀ i y H1 H2,R i y H1->kO a H1 H2->R i y H2)
  (hgo:∀ i H1,i < len->Same H H1->J.go i H1) (hstop:∀ H1,Same H H1->J.stop len H1)
  (he:∀ i H1 zs,i < len->Same H H1->H1 a=some (.lst zs)->∀ (ys:St) x H3,ys.length=n->J.yld i H1 x H3->∀ Q':VK,(∀ y H2,Same H1 H2->R i y H2->Q' y H2) ->
   g x (ys++lG fr σ) H3 λ σ4 H4=>(∃ ys':St,ys'.length=n/\σ4=ys'++lG fr σ)/\te σ4 H4 Q')
  (hd:∀ H1 ys,Same H H1->H1 a=some (.lst ys)->ys.length=len->(∀ j y,ys[j]?=some y->R j y H1)->Q (.ref a) H1):lN J g (tEl te) n fr σ a H Q:=by
 refine dI len (λ i zs H1=>zs.length=i/\∀ j y,zs[j]?=some y->R j y H1) ha hz ⟨rfl,λ j y e=>by simp at e⟩ (λ i zs H1 p=>sZ p.1) (λ i zs H1 H2 p s=>⟨p.1,λ j y e=>mono _ _ _ _ (p.2 j y e) s⟩) hgo hstop ?_ λ H1 ys s e p=>hd H1 ys s e p.1 p.2;intro i H1 zs hi s1 ez p ys x H3 hys hy C hC _;refine he i H1 zs hi s1 ez ys x H3 hys hy _ λ y H2 s2 r=>hC y H2 s2 ⟨by simp [p.1],λ j z e=>?_⟩
 by_cases hj:j < zs.length
 ·rw [yK hj] at e;exact mono _ _ _ _ (p.2 j z e) s2.x
 ·rw [zZ ⋯] at e;have e0:j - zs.length=0:=by
   by_cases h0:j - zs.length=0
   ·exact h0
   ·rw [wW (by simp; omega)] at e; cases e
  rw [e0] at e;cases zT e;have:j=i:=by have:=p.1; omega
  rw [this];exact r
theorem lC {b:Bool} {l:Addr} {xs:List V} (R:Nat->V->Hp->Prop) (ha:H a=none) (hS:SqB b K H l xs) (hz:xs.length<=1000) (mono:∀ i y H1 H2,R i y H1->kO a H1 H2->R i y H2)
  (he:∀ i x H1 zs,xs[i]?=some x->Same H H1->H1 a=some (.lst zs)->∀ Q':VK,(∀ y H2,Same H1 H2->R i y H2->Q' y H2)->te (some x :: lG fr σ) H1 Q')
  (hd:∀ H1 ys,Same H H1->H1 a=some (.lst ys)->ys.length=xs.length->(∀ j y,ys[j]?=some y->R j y H1)->Q (.ref a) H1):lN (Its K b l) (oW 0) (tEl te) 1 fr σ a H Q:=by
 refine bG xs.length R ha hz mono (λ i H1 hi s=>Its.go (hS.up s) (x:=xs[i]) (by simp [hi])) (λ H1 s=>Its.stop (hS.up s) (zF _)) ?_ hd;intro i H1 zs hi s1 ez ys x H3 hys hy Q' hQ';obtain ⟨e1,e2⟩:=Its.yld (hS.up s1) hy;subst e1
 match ys,hys with
 | [o],_=>exact ⟨⟨[some x],rfl,rfl⟩,he i x H3 zs e2 s1 ez Q' hQ'⟩
theorem lY {lo:Int} {len:Nat} (R:Nat->V->Hp->Prop) (ha:H a=none) (hz:len<=1000) (mono:∀ i y H1 H2,R i y H1->kO a H1 H2->R i y H2)
  (he:∀ (i:Nat) H1 zs,i < len->Same H H1->H1 a=some (.lst zs)->∀ Q':VK,(∀ y H2,Same H1 H2->R i y H2->Q' y H2)->te (some (.int (lo+i)) :: lG fr σ) H1 Q')
  (hd:∀ H1 ys,Same H H1->H1 a=some (.lst ys)->ys.length=len->(∀ j y,ys[j]?=some y->R j y H1)->Q (.ref a) H1):lN (Itr lo len) (oW 0) (tEl te) 1 fr σ a H Q:=by
 refine bG len R ha hz mono (λ i H1 hi s=>hi) (λ H1 s=>zF _) ?_ hd;intro i H1 zs hi s1 ez ys x H3 hys hy Q' hQ';obtain ⟨e1,e2⟩:=hy;subst e1 e2
 match ys,hys with
 | [o],_=>exact ⟨⟨[_],rfl,rfl⟩,he i H3 zs hi s1 ez Q' hQ'⟩
theorem Bl {b1 b2:Bool} {l1 l2:Addr} {xs ys:List V} (R:Nat->V->Hp->Prop) (ha:H a=none) (hS1:SqB b1 K H l1 xs) (hS2:SqB b2 K H l2 ys) (hlen:xs.length=ys.length) (hz:xs.length<=1000) (mono:∀ i y H1 H2,R i y H1->kO a H1 H2->R i y H2)
  (he:∀ i x y H1 zs,xs[i]?=some x->ys[i]?=some y->Same H H1->H1 a=some (.lst zs)->∀ Q':VK,(∀ y H2,Same H1 H2->R i y H2->Q' y H2)->te (some x :: some y :: lG fr σ) H1 Q')
  (hd:∀ H1 zs,Same H H1->H1 a=some (.lst zs)->zs.length=xs.length->(∀ j y,zs[j]?=some y->R j y H1)->Q (.ref a) H1) :
  lN (Itz K b1 l1 b2 l2) (gTup K 2 (mL (oW 0) (mL (oW 1) gNil))) (tEl te) 2 fr σ a H Q:=by
 refine bG xs.length R ha hz mono (λ i H1 hi s=>⟨xs,ys,xs[i],ys[i],hS1.up s,hS2.up s,by simp [hi],by simp⟩) (λ H1 s=>⟨xs,ys,hS1.up s,hS2.up s,.inl (by simp)⟩) ?_ hd;intro i H1 zs hi s1 ez os x H3 hos hy Q' hQ';obtain ⟨p,x,y,rfl,hp,rfl,hx,hy⟩:=hy;refine ⟨p,[x,y],rfl,SqT.of oZ,rfl,x,[y],rfl,y,[],rfl,rfl,?_⟩
 match os,hos with
 | [o,o'],_ =>
  refine ⟨⟨[some x,some y],rfl,rfl⟩,he i x y _ zs (hx xs (hS1.up s1)) (hy ys (hS2.up s1)) (s1.trans (Same.new hp)) (Same.new hp _ _ ez) Q' λ y H2 s2 r=>hQ' y H2 ((Same.new hp).trans s2) r⟩
theorem Qa {b:Bool} {l:Addr} {xs:List V} (R:Nat->V->Hp->Prop) (ha:H a=none) (hS:SqB b K H l xs) (hz:xs.length<=1000) (mono:∀ i y H1 H2,R i y H1->kO a H1 H2->R i y H2)
  (he:∀ i x H1 zs,xs[i]?=some x->Same H H1->H1 a=some (.lst zs)->∀ Q':VK,(∀ y H2,Same H1 H2->R i y H2->Q' y H2)->te (some (.int i) :: some x :: lG fr σ) H1 Q')
  (hd:∀ H1 zs,Same H H1->H1 a=some (.lst zs)->zs.length=xs.length->(∀ j y,zs[j]?=some y->R j y H1)->Q (.ref a) H1) :
  lN (Ite K b l) (gTup K 2 (mL (oW 0) (mL (oW 1) gNil))) (tEl te) 2 fr σ a H Q:=by
 refine bG xs.length R ha hz mono (λ i H1 hi s=>⟨xs,xs[i],hS.up s,by simp [hi]⟩) (λ H1 s=>⟨xs,hS.up s,rfl⟩) ?_ hd;intro i H1 zs hi s1 ez os x H3 hos hy Q' hQ';obtain ⟨p,x,rfl,hp,rfl,hx⟩:=hy;refine ⟨p,[.int i,x],rfl,SqT.of oZ,rfl,_,[x],rfl,x,[],rfl,rfl,?_⟩
 match os,hos with
 | [o,o'],_ =>
  refine ⟨⟨[some (.int i),some x],rfl,rfl⟩,he i x _ zs (hx xs (hS.up s1)) (s1.trans (Same.new hp)) (Same.new hp _ _ ez) Q' λ y H2 s2 r=>hQ' y H2 ((Same.new hp).trans s2) r⟩
end
def MatB (b1 b2:Bool) (K:Frag) (H:Hp) (a:Addr) (rows:List (LI')):Prop:=∃ ps:LA,SqB b1 K H a (ps.map V.ref)/\ps.length=rows.length/\∀ (i:Nat) (p:Addr) (r:LI'),ps[i]?=some p->rows[i]?=some r->SqB b2 K H p (r.map V.int)
theorem MatB.up {b1 b2:Bool} {K:Frag} {H H':Hp} {a:Addr} {rows:List (LI')} (h:MatB b1 b2 K H a rows) (s:Same H H'):MatB b1 b2 K H' a rows:=let ⟨ps,h1,h2,h3⟩:=h; ⟨ps,h1.up s,h2,λ i p r e1 e2=>(h3 i p r e1 e2).up s⟩
def RowR (a:Addr) (f:Nat->LI') (j:Nat) (y:V) (H:Hp):Prop:=∃ p,y=.ref p/\p≠a/\H p=some (.lst ((f j).map V.int))
theorem RowR.mono {a:Addr} {f:Nat->LI'} (i:Nat) (y:V) (H1 H2:Hp) (h:RowR a f i y H1) (s:kO a H1 H2):RowR a f i y H2:=let ⟨p,e,n,q⟩:=h; ⟨p,e,n,s _ _ n q⟩
noncomputable def iT:Nat->PyData->Bool
 | _,.int _=>true
 | n+1,.list xs=>xs.all (iT n)
 | n+1,.tuple xs=>xs.all (iT n)
 | _,_=>false
theorem iA:∀ (n:Nat) (d:PyData),iT n d=true->d.canLay0=true/\d.depth<=n
 | 0,.int _,_=>by simp [PyData.canLay0,PyData.depth]
 | n+1,.int _,_=>by simp [PyData.canLay0,PyData.depth]
 | n+1,.list xs,h=>by
  have all:∀ ys:List PyData,ys.all (iT n)=true->PyData.canLayAll0 ys=true/\PyData.depthAll ys<=n:=by
   intro ys
   induction ys with
   | nil=>intro _; simp [PyData.canLayAll0,PyData.depthAll]
   | cons y r ih =>
    intro hy;rw [yV,zO] at hy;have h1:=iA n y hy.1;have h2:=ih hy.2;simp only [PyData.canLayAll0,PyData.depthAll,Bool.and_eq_true];exact ⟨⟨h1.1,h2.1⟩,⋯⟩
  have:=all xs (by simpa [iT] using h);simp only [PyData.canLay0,PyData.depth];exact ⟨this.1,⋯⟩
 | n+1,.tuple xs,h=>by
  have all:∀ ys:List PyData,ys.all (iT n)=true->PyData.canLayAll0 ys=true/\PyData.depthAll ys<=n:=by
   intro ys
   induction ys with
   | nil=>intro _; simp [PyData.canLayAll0,PyData.depthAll]
   | cons y r ih =>
    intro hy;rw [yV,zO] at hy;have h1:=iA n y hy.1;have h2:=ih hy.2;simp only [PyData.canLayAll0,PyData.depthAll,Bool.and_eq_true];exact ⟨⟨h1.1,h2.1⟩,⋯⟩
  have:=all xs (by simpa [iT] using h);simp only [PyData.canLay0,PyData.depth];exact ⟨this.1,⋯⟩
theorem bH:∀ (n:Nat) (d d':PyData),iT n d=true->iT n d'=true->SeqAt.noMix d d'=true:=by
 intro n
 induction n with
 | zero=>intro d d' h h'; cases d <;> simp [iT] at h <;> cases d' <;> simp [iT] at h' <;> simp [SeqAt.noMix]
 | succ n ih =>
  have all:∀ ys zs:List PyData,ys.all (iT n)=true->zs.all (iT n)=true->SeqAt.noMixAll ys zs=true:=by
   intro ys
   induction ys with
   | nil=>intro zs _ _; cases zs <;> simp [SeqAt.noMixAll]
   | cons y r ihr =>
    intro zs hy hz;cases zs with
    | nil=>simp [SeqAt.noMixAll]
    | cons z t =>
     rw [yV,zO] at hy hz;simp only [SeqAt.noMixAll,Bool.and_eq_true];exact ⟨ih y z hy.1 hz.1,ihr t hy.2 hz.2⟩
  intro d d' h h';cases d <;> simp only [iT,Bool.false_eq_true] at h <;> cases d' <;> simp only [iT,Bool.false_eq_true] at h' <;> simp only [SeqAt.noMix]
  ·exact all _ _ h h'
  ·exact all _ _ h h'
theorem bI:∀ (n:Nat) (d d':PyData),iT n d=true->iT n d'=true->(same d d'=true ↔ d=d'):=by
 intro n
 induction n with
 | zero=>intro d d' h h'; cases d <;> simp [iT] at h <;> cases d' <;> simp [iT] at h' <;> simp [same]
 | succ n ih =>
  have all:∀ ys zs:List PyData,ys.all (iT n)=true->zs.all (iT n)=true->(sameAll ys zs=true ↔ ys=zs):=by
   intro ys
   induction ys with
   | nil=>intro zs _ _; cases zs <;> simp [sameAll]
   | cons y r ihr =>
    intro zs hy hz;cases zs with
    | nil=>simp [sameAll]
    | cons z t =>
     rw [yV,zO] at hy hz;simp only [sameAll,Bool.and_eq_true,List.cons.injEq];rw [ih y z hy.1 hz.1,ihr t hy.2 hz.2]
  intro d d' h h';cases d <;> simp only [iT,Bool.false_eq_true] at h <;> cases d' <;> simp only [iT,Bool.false_eq_true] at h' <;> simp only [same,beq_iff_eq,PyData.int.injEq,PyData.list.injEq,PyData.tuple.injEq,reduceCtorEq,Bool.false_eq_true]
  ·exact all _ _ h h'
  ·exact all _ _ h h'
theorem bJ {n:Nat} {d:PyData} (hn:n<=64) (h:iT n d=true):SeqAt.shaped d=true:=by
 have:=iA n d h;unfold SeqAt.shaped;rw [zO];exact ⟨this.1,zM ⋯⟩
section
variable {K:Frag} {H:Hp} {x y:V} {d d':PyData} {Q:VK}
theorem dJ (n:Nat) (hn:n<=64) (h1:Dt K H x d) (h2:Dt K H y d') (t1:iT n d=true) (t2:iT n d'=true) {b:Bool} (hb:b=true ↔ d=d') (q:Q (.bl b) H):rEqD K x y H Q:=by
 refine ⟨d,d',h1,h2,bJ hn t1,bJ hn t2,bH n d d' t1 t2,?_⟩;have:=bI n d d' t1 t2;have e:same d d'=b:=by
  cases hs:same d d' <;> cases b <;> simp_all
 rw [e];exact q
theorem dL (n:Nat) (hn:n<=64) (h1:Dt K H x d) (h2:Dt K H y d') (t1:iT n d=true) (t2:iT n d'=true) {b:Bool} (hb:b=true ↔ d=d') (q:Q (.bl (!b)) H):rNeD K x y H Q:=by
 refine ⟨d,d',h1,h2,bJ hn t1,bJ hn t2,bH n d d' t1 t2,?_⟩;have:=bI n d d' t1 t2;have e:same d d'=b:=by
  cases hs:same d d' <;> cases b <;> simp_all
 rw [e];exact q
end
noncomputable def seqD (b:Bool) (ds:List PyData):PyData:=match b with | false=>.list ds | true=>.tuple ds
noncomputable def kZ (b:Bool) (ns:LI'):PyData:=seqD b (ns.map PyData.int)
noncomputable def matD (b1 b2:Bool) (rows:List (LI')):PyData:=seqD b1 (rows.map (kZ b2))
theorem Hq {b:Bool} {xs ys:List PyData}:seqD b xs=seqD b ys ↔ xs=ys:=by cases b <;> simp [seqD]
theorem Bk {α β:Type} {f:α->β} (hf:∀ x y,f x=f y->x=y):∀ {xs ys:List α},xs.map f=ys.map f ↔ xs=ys
 | [],[]=>by simp
 | [],_ :: _=>by simp
 | _ :: _,[]=>by simp
 | x :: r,y :: t=>by
  rw [zG,zG,yE,yE,Bk hf];exact ⟨λ h=>⟨hf _ _ h.1,h.2⟩,λ h=>⟨by rw [h.1],h.2⟩⟩
theorem Bj {b:Bool} {ns ms:LI'}:kZ b ns=kZ b ms ↔ ns=ms:=by
 unfold kZ;rw [Hq,Bk λ x y h=>by injection h]
theorem Rz {b1 b2:Bool} {A B:List (LI')}:matD b1 b2 A=matD b1 b2 B ↔ A=B:=by
 unfold matD;rw [Hq,Bk λ x y h=>Bj.mp h]
theorem gR (b:Bool) (n:Nat) (ns:LI'):iT (n+1) (kZ b ns)=true:=by
 have:(ns.map PyData.int).all (iT n)=true:=by
  rw [wI];intro d hd;obtain ⟨i,_,rfl⟩:=zE.mp hd;cases n <;> rfl
 cases b <;> simpa [kZ,seqD,iT] using this
theorem Ry (b1 b2:Bool) (n:Nat) (rows:List (LI')):iT (n+2) (matD b1 b2 rows)=true:=by
 have:(rows.map (kZ b2)).all (iT (n+1))=true:=by
  rw [wI];intro d hd;obtain ⟨i,_,rfl⟩:=zE.mp hd;exact gR b2 n i
 cases b1 <;> simpa [matD,seqD,iT] using this
theorem Dt.seqB {b:Bool} {K:Frag} {H:Hp} {a:Addr} {xs:List V} {ds:List PyData} (h:SqB b K H a xs) (hd:Dts K H xs ds):Dt K H (.ref a) (seqD b ds):=by
 cases b
 ·exact .lst h hd
 ·exact .tup h hd
theorem Dt.intsB {b:Bool} {K:Frag} {H:Hp} {a:Addr} {ns:LI'} (h:SqB b K H a (ns.map V.int)):Dt K H (.ref a) (kZ b ns):=Dt.seqB h (Dts.ints ns)
theorem Dt.matB {b1 b2:Bool} {K:Frag} {H:Hp} {a:Addr} {rows:List (LI')} (h:MatB b1 b2 K H a rows):Dt K H (.ref a) (matD b1 b2 rows):=by
 obtain ⟨ps,h1,h2,h3⟩:=h;refine Dt.seqB h1 ?_;clear h1
 induction ps generalizing rows with
 | nil =>
  cases rows with
  | nil=>exact .nil
  | cons r t=>simp at h2
 | cons p ps ih =>
  cases rows with
  | nil=>simp at h2
  | cons r t =>
   refine .cons (Dt.intsB (h3 0 p r rfl rfl)) (ih (by simpa using h2) λ i q z e1 e2=>h3 (i+1) q z (by simpa using e1) (by simpa using e2))
section
variable {wi:TI} {g:TG} {tt:TOx} {te:TE} {tc:TT} {n:Nat} {fr:List (Str × Nat)} {σ:St} {H:Hp} {Q:VK}
theorem nV (h:∀ B:TE,B=te->wi σ H λ J H1=>∀ a,H1 a=none->lN J g (tEl B) n fr σ a H1 Q):lO wi g (tEl te) n fr σ H Q:=h _ rfl
theorem Bi (h:∀ (C:TT) (B:TE),C=tc->B=te->wi σ H λ J H1=>∀ a,H1 a=none->lN J g (jP C B) n fr σ a H1 Q):lO wi g (jP tc te) n fr σ H Q:=h _ _ rfl rfl
end
noncomputable def seqO (b:Bool) (xs:List V):HO:=match b with | false=>.lst xs | true=>.tup xs
def rSlB (K:Frag):V->Option Int->Option Int->Hp->VK->Prop:=λ x lo hi H Q=>∃ b a xs,x=.ref a/\SqB b K H a xs /\
 (b=true->¬ (HT.sIx xs.length 0 lo=0/\HT.sIx xs.length xs.length hi=xs.length))/\∀ p,H p=none->Q (.ref p) (upd H p (seqO b (cutV xs lo hi)))
theorem sl_B {X:Cx}:SlR X (rSlB X.K):=by
 intro pins s σ H x v vl vu lo hi sl Q I rx hs pl pu h;obtain ⟨b,a,xs,e,hq,hw,q⟩:=h;cases b
 ·exact Po pins s σ H x v vl vu lo hi sl Q I rx hs pl pu ⟨a,xs,e,hq,q⟩
 ·exact Px pins s σ H x v vl vu lo hi sl Q I rx hs pl pu ⟨a,xs,e,hq,hw rfl,q⟩
def MatL (H:Hp) (a:Addr) (rows:List (LI')):Prop:=∃ ps:LA,H a=some (.lst (ps.map V.ref))/\ps.length=rows.length/\∀ (i:Nat) (p:Addr) (r:LI'),ps[i]?=some p->rows[i]?=some r->p≠a/\H p=some (.lst (r.map V.int))
theorem MatL.b {K:Frag} {H:Hp} {a:Addr} {rows:List (LI')} (h:MatL H a rows):MatB false false K H a rows:=let ⟨ps,h1,h2,h3⟩:=h; ⟨ps,SqB.lst h1,h2,λ i p r e1 e2=>SqB.lst (h3 i p r e1 e2).2⟩
theorem MatL.up {H H':Hp} {a:Addr} {rows:List (LI')} (h:MatL H a rows) (s:Same H H'):MatL H' a rows:=let ⟨ps,h1,h2,h3⟩:=h; ⟨ps,s _ _ h1,h2,λ i p r e1 e2=>⟨(h3 i p r e1 e2).1,s _ _ (h3 i p r e1 e2).2⟩⟩
theorem MatL.of {H:Hp} {a:Addr} {f:Nat->LI'} {ys:List V} (h:H a=some (.lst ys)) (hr:∀ (j:Nat) y,ys[j]?=some y->RowR a f j y H):MatL H a ((List.range ys.length).map f):=by
 have hp:∃ ps:LA,ys=ps.map V.ref:=by
  clear h;have:∀ (zs:List V) (k:Nat),(∀ (j:Nat) y,zs[j]?=some y->RowR a f (j+k) y H)->∃ ps:LA,zs=ps.map V.ref:=by
   intro zs
   induction zs with
   | nil=>intro k _; exact ⟨[],rfl⟩
   | cons z r ih =>
    intro k hz;obtain ⟨p,e,_⟩:=hz 0 z rfl;obtain ⟨ps,e2⟩:=ih (k+1) λ j y q=>by
     have:=hz (j+1) y (by simpa using q)
     rwa [sI,Nat.add_comm 1 k] at this
    exact ⟨p :: ps,by rw [e,e2]; rfl⟩
  exact this ys 0 hr
 obtain ⟨ps,rfl⟩:=hp;refine ⟨ps,h,by simp,λ i p r e1 e2=>?_⟩;obtain ⟨p',e,n,q⟩:=hr i (.ref p) (by simp [e1]);cases e;have hi:i < ps.length:=(zR.mp e1).1;have:r=f i:=by
  rw [zB,yL,xP hi] at e2;exact (zT e2).symm
 rw [this];exact ⟨n,q⟩
theorem MatB.row {b1 b2:Bool} {K:Frag} {H:Hp} {a:Addr} {rows:List (LI')} (h:MatB b1 b2 K H a rows) {i:Nat} {r:LI'} (e:rows[i]?=some r):∃ ps:LA,∃ p,SqB b1 K H a (ps.map V.ref)/\(ps.map V.ref)[i]?=some (.ref p)/\(ps.map V.ref).length=rows.length/\SqB b2 K H p (r.map V.int):=by
 obtain ⟨ps,h1,h2,h3⟩:=h;have hi:i < ps.length:=by have:=(zR.mp e).1; omega
 exact ⟨ps,ps[i],h1,by simp [hi],by simp [h2],h3 i _ r (by simp [hi]) e⟩
theorem MatB.walk {b1 b2:Bool} {K:Frag} {H:Hp} {a:Addr} {rows:List (LI')} (h:MatB b1 b2 K H a rows):∃ xs:List V,SqB b1 K H a xs/\xs.length=rows.length/\∀ (i:Nat) x,xs[i]?=some x->∃ p r,x=.ref p/\rows[i]?=some r/\SqB b2 K H p (r.map V.int):=by
 obtain ⟨ps,h1,h2,h3⟩:=h;refine ⟨_,h1,by simp [h2],λ i x e=>?_⟩;rw [zB] at e;cases q:ps[i]? with
 | none=>rw [q] at e; cases e
 | some p =>
  rw [q] at e;have hi:i < rows.length:=by have:=(zR.mp q).1; omega
  exact ⟨p,rows[i],(zT e).symm,by simp [hi],h3 i p _ q (by simp [hi])⟩
theorem mY {α:Type} {xs:List α} {k:Nat} {x:α} {i:Int} (h:xs[k]?=some x) (hi:i=k):atI xs i=some x:=by
 subst hi;exact Pw h
theorem lP {ns:LI'} {i:Nat} {x:V} (h:(ns.map V.int)[i]?=some x):∃ n,ns[i]?=some n/\x=.int n:=by
 rw [zB] at h;cases e:ns[i]? with
 | none=>rw [e] at h; cases h
 | some n=>rw [e] at h; exact ⟨n,rfl,(zT h).symm⟩
theorem lQ {ns:LI'} {i:Nat} {n:Int} (h:ns[i]?=some n):(ns.map V.int)[i]?=some (.int n):=by rw [zB,h]; rfl
theorem Rx {ns:LI'} {k:Nat} {n:Int} (h:ns[k]?=some n):ns.getD k 0=n:=by rw [tV,h]; rfl
theorem getD_at {ns:LI'} {k:Nat} (h:k < ns.length):ns[k]?=some (ns.getD k 0):=by simp [h]
theorem getD_mem {ns:LI'} {k:Nat} (h:k < ns.length):ns.getD k 0∈ns:=by
 rw [show ns.getD k 0=ns[k] by simp [h]];exact vJ h
noncomputable def colI (k:Nat) (rows:List (LI')):LI':=rows.map λ r=>r.getD k 0
noncomputable def dotI (ms ns:LI'):Int:=(List.zipWith (·*·) ms ns).sum
noncomputable def bK (w:Nat) (rows:List (LI')):List (LI'):=(List.range w).map λ k=>colI k rows
noncomputable def mulM (w:Nat) (A B:List (LI')):List (LI'):=A.map λ r=>(List.range w).map λ k=>dotI r (colI k B)
section
variable {K:Frag} {g:TG} {tb:TS} {σ:St} {H:Hp} {nx:St->Hp->Prop} {rt:VK}
abbrev bL (J:It) (g:TG) (tb:TS) (nx:St->Hp->Prop) (rt:VK) (σ:St) (H:Hp):Prop:=∃ W:Nat->Nat->St->Hp->Prop,(∃ m,W 0 m σ H)/\∀ i m σ H,W i m σ H ->
 (J.stop i H/\nx σ H)\/(J.go i H/\∃ N:St->Hp->Prop,(∀ σ' H',N σ' H'->∃ m',m' < m/\W (i+1) m' σ' H')/\∀ x H',J.yld i H x H'->g x σ H' λ σ2 H2=>tb { nx:=N,rt:=rt,bk:=nx,ct:=N } σ2 H2)
theorem Ho {lo:Int} {n:Nat} (Pv:Nat->St->Hp->Prop) (h0:Pv 0 σ H)
  (hs:∀ i σ H,i < n->Pv i σ H->g (.int (lo+i)) σ H λ σ2 H2=>tb { nx:=Pv (i+1),rt:=rt,bk:=nx,ct:=Pv (i+1) } σ2 H2) (hd:∀ σ H,Pv n σ H->nx σ H):bL (Itr lo n) g tb nx rt σ H :=
 Oy (D:={ nx:=nx,rt:=rt,bk:=nx,ct:=nx }) Pv h0 hs hd
theorem iB {b:Bool} {a:Addr} {xs:List V} (Pv:Nat->St->Hp->Prop) (h0:Pv 0 σ H) (hl:∀ i σ H,i<=xs.length->Pv i σ H->SqB b K H a xs)
  (hs:∀ i x σ H,xs[i]?=some x->Pv i σ H->g x σ H λ σ2 H2=>tb { nx:=Pv (i+1),rt:=rt,bk:=nx,ct:=Pv (i+1) } σ2 H2) (hd:∀ σ H,Pv xs.length σ H->nx σ H):bL (Its K b a) g tb nx rt σ H :=
 Qd (D:={ nx:=nx,rt:=rt,bk:=nx,ct:=nx }) Pv h0 hl hs hd
theorem Bh {b:Bool} {a:Addr} {xs:List V} (Pv:Nat->St->Hp->Prop) (h0:Pv 0 σ H) (hl:∀ i σ H,i<=xs.length->Pv i σ H->SqB b K H a xs)
  (hs:∀ i x p σ H,xs[i]?=some x->Pv i σ H->H p=none->g (.ref p) σ (upd H p (.tup [.int i,x])) λ σ2 H2=>tb { nx:=Pv (i+1),rt:=rt,bk:=nx,ct:=Pv (i+1) } σ2 H2) (hd:∀ σ H,Pv xs.length σ H->nx σ H):bL (Ite K b a) g tb nx rt σ H :=
 Qb (D:={ nx:=nx,rt:=rt,bk:=nx,ct:=nx }) Pv h0 hl hs hd
end
theorem bN {b1 b2:Bool} {K:Frag} {H:Hp} {a:Addr} {rows:List (LI')} {i k:Nat} {r:LI'} {x:Int} {I J:Int} {Q:VK} (h:MatB b1 b2 K H a rows) (e:rows[i]?=some r) (e2:r[k]?=some x) (hi:I=i) (hk:J=k) (q:Q (.int x) H) :
  rIxB K (.ref a) (.int I) H λ v H1=>rIxB K v (.int J) H1 Q:=by
 obtain ⟨ps,p,k1,k2,k3,k4⟩:=h.row e;exact ⟨b1,a,_,_,_,rfl,rfl,k1,mY k2 hi,b2,p,_,_,_,rfl,rfl,k4,mY (lQ e2) hk,q⟩
theorem Rw {b1 b2:Bool} {K:Frag} {H:Hp} {a:Addr} {rows:List (LI')} {i:Nat} {r:LI'} {I:Int} {Q:VK} (h:MatB b1 b2 K H a rows) (e:rows[i]?=some r) (hi:I=i) (q:∀ p,SqB b2 K H p (r.map V.int)->Q (.ref p) H) :
  rIxB K (.ref a) (.int I) H Q:=by
 obtain ⟨ps,p,k1,k2,k3,k4⟩:=h.row e;exact ⟨b1,a,_,_,_,rfl,rfl,k1,mY k2 hi,q p k4⟩
theorem gC {b1 b2:Bool} {K:Frag} {H:Hp} {a:Addr} {rows:List (LI')} {Q:VK} (h:MatB b1 b2 K H a rows) (q:Q (.int rows.length) H):jY K [.ref a] H Q:=by
 obtain ⟨ps,h1,h2,h3⟩:=h;refine ⟨b1,a,_,rfl,h1,?_⟩;rw [yL,h2];exact q
theorem lU {b:Bool} {K:Frag} {H:Hp} {a:Addr} {ns:LI'} {Q:VK} (h:SqB b K H a (ns.map V.int)) (q:Q (.int ns.length) H):jY K [.ref a] H Q:=by
 refine ⟨b,a,_,rfl,h,?_⟩;rw [yL];exact q
noncomputable def Itq (lo st:Int) (n:Nat):It:=⟨λ i _=>i < n,λ i H x H'=>H'=H/\x=.int (lo+i*st),λ i _=>n<=i⟩
section
variable {g:TG} {tb:TS} {σ:St} {H:Hp} {nx:St->Hp->Prop} {rt:VK}
theorem fr_step {lo st:Int} {n:Nat} (Pv:Nat->St->Hp->Prop) (h0:Pv 0 σ H)
  (hs:∀ i σ H,i < n->Pv i σ H->g (.int (lo+i*st)) σ H λ σ2 H2=>tb { nx:=Pv (i+1),rt:=rt,bk:=nx,ct:=Pv (i+1) } σ2 H2) (hd:∀ σ H,Pv n σ H->nx σ H):bL (Itq lo st n) g tb nx rt σ H:=by
 refine ⟨λ i m σ H=>m=n - i/\i<=n/\Pv i σ H,⟨n,by simp,yY _,h0⟩,?_⟩;rintro i m σ H ⟨rfl,hi,p⟩
 by_cases hlt:i < n
 ·refine .inr ⟨hlt,Pv (i+1),λ σ' H' p'=>⟨n - (i+1),⋯,rfl,hlt,p'⟩,λ x H' y=>?_⟩;obtain ⟨e,y⟩:=y;subst e y;exact hs i σ _ hlt p
 ·have e:i=n:=⋯
  subst e;exact .inl ⟨zF _,hd σ H p⟩
end
def kJ (a:Addr) (H:Hp) (zs:List V) (M:List (LI')):Prop:=∃ ps:LA,zs=ps.map V.ref/\ps.length=M.length/\∀ (j:Nat) (p:Addr) (r:LI'),ps[j]?=some p->M[j]?=some r->p≠a/\H p=some (.lst (r.map V.int))
theorem kJ.nil {a:Addr} {H:Hp}:kJ a H [] []:=⟨[],rfl,rfl,λ j p r e=>by simp at e⟩
theorem kJ.len {a:Addr} {H:Hp} {zs:List V} {M:List (LI')} (h:kJ a H zs M):zs.length=M.length:=let ⟨ps,e,l,_⟩:=h; by rw [e,yL,l]
theorem kJ.mono {a:Addr} {H H':Hp} {zs:List V} {M:List (LI')} (h:kJ a H zs M) (s:kO a H H'):kJ a H' zs M:=let ⟨ps,e,l,q⟩:=h; ⟨ps,e,l,λ j p r e1 e2=>⟨(q j p r e1 e2).1,s _ _ (q j p r e1 e2).1 (q j p r e1 e2).2⟩⟩
theorem kJ.snoc {a p:Addr} {H:Hp} {zs:List V} {M:List (LI')} {r:LI'} (h:kJ a H zs M) (ne:p≠a) (hp:H p=some (.lst (r.map V.int))):kJ a H (zs++[.ref p]) (M++[r]):=by
 obtain ⟨ps,rfl,h2,h3⟩:=h;refine ⟨ps++[p],by simp,by simp [h2],λ i q z e1 e2=>?_⟩
 by_cases hi:i < ps.length
 ·rw [yK hi] at e1;rw [yK ⋯] at e2;exact h3 i q z e1 e2
 ·have e0:i=ps.length:=by
   have:=(zR.mp e1).1;simp at this;omega
  subst e0;rw [zZ (zF _)] at e1;rw [h2,zZ (zF _)] at e2;simp at e1 e2;subst e1 e2;exact ⟨ne,hp⟩
theorem kJ.mat {a:Addr} {H:Hp} {zs:List V} {M:List (LI')} (h:H a=some (.lst zs)) (r:kJ a H zs M):MatL H a M:=by
 obtain ⟨ps,rfl,h2,h3⟩:=r;exact ⟨ps,h,h2,h3⟩
theorem dM (ns:LI') (lo hi:Option Int):cutV (ns.map V.int) lo hi=((ns.drop (HT.sIx ns.length 0 lo)).take (HT.sIx ns.length ns.length hi - HT.sIx ns.length 0 lo)).map V.int:=by
 unfold cutV;rw [yL,List.map_take,List.map_drop]
theorem Rv {ns:LI'} {k:Nat} (h:k<=ns.length):cutV (ns.map V.int) none (some (k:Int))=(ns.take k).map V.int:=by
 rw [dM,HT.sIx_none,HT.sIx_nat,Nat.min_eq_left h];simp
theorem Ru {ns:LI'} {k:Nat} (h:k<=ns.length):cutV (ns.map V.int) (some (k:Int)) none=(ns.drop k).map V.int:=by
 rw [dM,HT.sIx_none,HT.sIx_nat,Nat.min_eq_left h,wP (by simp)]
section
variable {K:Frag} {H:Hp} {a a1:Addr} {M:List (LI')} {σ:St} {Q:VK} {b1 b2:Bool}
def MatT (H:Hp) (a:Addr) (rows:List (LI')):Prop:=∃ ps:LA,H a=some (.lst (ps.map V.ref))/\ps.length=rows.length/\∀ (i:Nat) (p:Addr) (r:LI'),ps[i]?=some p->rows[i]?=some r->H p=some (.tup (r.map V.int))
theorem Rt (hM:MatB b1 false K H a M) (hl:M.length<=1000) (ha1:H a1=none) (hQ:∀ H1,Same H H1->MatT H1 a1 M->Q (.ref a1) H1):lN (Its K b1 a) (oW 0) (tEl (tCB (dH K) (nQ (tVar 0) tNil))) 1 [] σ a1 H Q:=by
 obtain ⟨xs,x1,x2,x3⟩:=hM.walk;refine lC (λ j y H1=>∃ p r,y=.ref p/\M[j]?=some r/\p≠a1/\H1 p=some (.tup (r.map V.int))) ha1 x1 ⋯ (λ i y H1 H2 ⟨p,r,e1,e2,e3,e4⟩ s=>⟨p,r,e1,e2,e3,s _ _ e3 e4⟩) ?_ ?_
 ·intro i x H1 zs ex s1 ez Q' hQ';obtain ⟨p,r,rfl,er,hp⟩:=x3 i x ex;exact ⟨_,rfl,p,_,rfl,.inl ⟨hp.up s1,λ l hl1=>hQ' _ _ (Same.new hl1) ⟨l,r,rfl,er,Ne.symm (mX ez hl1),oZ⟩⟩⟩
 ·intro H1 ys s1 e1 hly hr1;have hps:∃ ps:LA,ys=ps.map V.ref:=by
   clear e1 hly;have:∀ (zs:List V),(∀ (j:Nat) y,zs[j]?=some y->∃ p:Addr,y=.ref p)->∃ ps:LA,zs=ps.map V.ref:=by
    intro zs
    induction zs with
    | nil=>intro _; exact ⟨[],rfl⟩
    | cons z r ih =>
     intro hz;obtain ⟨p,e⟩:=hz 0 z rfl;obtain ⟨ps,e2⟩:=ih λ j y q=>hz (j+1) y (by simpa using q);exact ⟨p :: ps,by rw [e,e2]; rfl⟩
   exact this ys λ j y e=>let ⟨p,r,e1,_⟩:=hr1 j y e; ⟨p,e1⟩
  obtain ⟨ps,rfl⟩:=hps;refine hQ H1 s1 ⟨ps,e1,by simp at hly; omega,λ i p r e2 e3=>?_⟩;obtain ⟨p',r',e4,e5,_,e6⟩:=hr1 i (.ref p) (by simp [e2]);cases e4;rw [e3] at e5;cases e5;exact e6
theorem MatT.tuple {l:Addr} (h:MatT H a M) (hl:H l=none):∃ zs,H a=some (.lst zs)/\MatB true true K (upd H l (.tup zs)) l M:=by
 obtain ⟨ps,h1,h2,h3⟩:=h;exact ⟨_,h1,ps,SqB.tup oZ,h2,λ i p r e1 e2=>SqB.tup (Same.new hl _ _ (h3 i p r e1 e2))⟩
end
theorem Rr {X:Cx} {x:Str} {v:V} {pos:Pos} (hg:Gl X x) (h:∃ u,X.mg x=some u/\RelV v u) (hd:(x == ("__debug__" : Str))=false:=by decide):PE X (.Name x pos) (tC v):=by
 obtain ⟨u,e,r⟩:=h;exact Nq hg e r hd
def MkI (te:TE) (n:Int):Prop:=∀ σ H Q,Q (.int n) H->te σ H Q
def MkIs (ta:TA) (ns:LI'):Prop:=∀ σ H Q,Q (ns.map V.int) H->ta σ H Q
def MkR (te:TE) (ns:LI'):Prop:=∀ σ H Q,(∀ p H',Same H H'->H p=none->H' p=some (.lst (ns.map V.int))->Q (.ref p) H')->te σ H Q
theorem MkR.of {ta:TA} {ns:LI'} (h:MkIs ta ns) (hz:ns.length<=1000):MkR (tLst ta) ns:=λ σ H Q q=>h σ H _ ⟨by rw [yL]; exact xU (eZ hz),λ l hl=>q l _ (Same.new hl) hl oZ⟩
def MkRs (ta:TA) (M:List (LI')):Prop:=∀ σ H Q,(∀ ps H',Same H H'->RefRowsN H H' ps M->Q (ps.map V.ref) H')->ta σ H Q
where RefRowsN (H H':Hp) (ps:LA) (M:List (LI')):Prop:=ps.length=M.length/\∀ (j:Nat) (p:Addr) (r:LI'),ps[j]?=some p->M[j]?=some r->H' p=some (.lst (r.map V.int))
theorem MkRs.nil:MkRs tNil []:=λ _ H Q q=>q [] H (Same.refl _) ⟨rfl,λ j p r e=>by simp at e⟩
theorem MkRs.cons {te:TE} {ta:TA} {ns:LI'} {M:List (LI')} (h:MkR te ns) (h2:MkRs ta M):MkRs (nQ te ta) (ns :: M):=λ σ H Q q=>h σ H _ λ p H1 s1 hp e1=>h2 σ H1 _ λ ps H2 s2 r=>q (p :: ps) H2 (s1.trans s2) ⟨by simp [r.1],λ j p' r' e e'=>by
 cases j with
 | zero=>simp at e e'; subst e e'; exact s2 _ _ e1
 | succ j=>exact r.2 j p' r' (by simpa using e) (by simpa using e')⟩
def MkM (te:TE) (M:List (LI')):Prop:=∀ σ H Q,(∀ p H',Same H H'->H p=none->MatL H' p M->Q (.ref p) H')->te σ H Q
theorem MkM.of {ta:TA} {M:List (LI')} (h:MkRs ta M) (hz:M.length<=1000):MkM (tLst ta) M:=λ σ H Q q=>h σ H _ λ ps H1 s1 r=>⟨by rw [yL,r.1]; exact xU (eZ hz),λ l hl=>by
 have hn:H l=none:=by cases e:H l with | none=>rfl | some o=>rw [s1 _ _ e] at hl; cases hl
 exact q l _ (s1.trans (Same.new hl)) hn ⟨ps,oZ,r.1,λ i p z e1 e2=>⟨mX (r.2 i p z e1 e2) hl,Same.new hl _ _ (r.2 i p z e1 e2)⟩⟩⟩
def Mats (H:Hp) (p:Addr) (Ms:List (List (LI'))):Prop:=∃ ps:LA,H p=some (.lst (ps.map V.ref))/\ps.length=Ms.length/\∀ (i:Nat) (q:Addr) (M:List (LI')),ps[i]?=some q->Ms[i]?=some M->MatL H q M
theorem Mats.up {H H':Hp} {p:Addr} {Ms:List (List (LI'))} (h:Mats H p Ms) (s:Same H H'):Mats H' p Ms:=let ⟨ps,h1,h2,h3⟩:=h; ⟨ps,s _ _ h1,h2,λ i q M e1 e2=>(h3 i q M e1 e2).up s⟩
def MkMs (ta:TA) (Ms:List (List (LI'))):Prop:=∀ σ H Q,(∀ (ps:LA) H',Same H H'->ps.length=Ms.length->(∀ (i:Nat) (q:Addr) (M:List (LI')),ps[i]?=some q->Ms[i]?=some M->MatL H' q M)->Q (ps.map V.ref) H')->ta σ H Q
theorem MkMs.nil:MkMs tNil []:=λ _ H Q q=>q [] H (Same.refl _) rfl λ j p r e=>by simp at e
theorem MkMs.cons {te:TE} {ta:TA} {M:List (LI')} {Ms:List (List (LI'))} (h:MkM te M) (h2:MkMs ta Ms):MkMs (nQ te ta) (M :: Ms):=λ σ H Q q=>h σ H _ λ p H1 s1 _ e1=>h2 σ H1 _ λ ps H2 s2 l r=>q (p :: ps) H2 (s1.trans s2) (by simp [l]) λ j p' r' e e'=>by
 cases j with
 | zero=>simp at e e'; subst e e'; exact e1.up s2
 | succ j=>exact r j p' r' (by simpa using e) (by simpa using e')
theorem MkMs.lst {ta:TA} {Ms:List (List (LI'))} (h:MkMs ta Ms) (hz:Ms.length<=1000) {σ:St} {H:Hp} {Q:VK} (q:∀ p H',Same H H'->Mats H' p Ms->Q (.ref p) H'):tLst ta σ H Q:=h σ H _ λ ps H1 s1 l r=>⟨by rw [yL,l]; exact xU (eZ hz),λ a ha =>
 q a _ (s1.trans (Same.new ha)) ⟨ps,oZ,l,λ i q M e1 e2=>(r i q M e1 e2).up (Same.new ha)⟩⟩
theorem Mats.at {K:Frag} {H:Hp} {p:Addr} {Ms:List (List (LI'))} {i:Nat} {M:List (LI')} {I:Int} {Q:VK} (h:Mats H p Ms) (e:Ms[i]?=some M) (hi:I=i) (k:∀ q,MatL H q M->Q (.ref q) H):rIxB K (.ref p) (.int I) H Q:=by
 obtain ⟨ps,h1,h2,h3⟩:=h;have hlt:i < ps.length:=by have:=(zR.mp e).1; omega
 exact ⟨false,p,_,_,_,rfl,rfl,SqB.lst h1,mY (show (ps.map V.ref)[i]?=some (.ref ps[i]) by simp [hlt]) hi,k _ (h3 i _ M (by simp [hlt]) e)⟩
def MatD (H0 H:Hp) (a:Addr) (rows:List (LI')):Prop:=∃ ps:LA,H a=some (.lst (ps.map V.ref))/\ps.length=rows.length/\ps.Nodup/\∀ (i:Nat) (p:Addr) (r:LI'),ps[i]?=some p->rows[i]?=some r->p≠a/\H0 p=none/\H p=some (.lst (r.map V.int))
theorem MatD.l {H0 H:Hp} {a:Addr} {rows:List (LI')} (h:MatD H0 H a rows):MatL H a rows:=let ⟨ps,h1,h2,_,h3⟩:=h; ⟨ps,h1,h2,λ i p r e1 e2=>⟨(h3 i p r e1 e2).1,(h3 i p r e1 e2).2.2⟩⟩
section
variable {K:Frag} {H:Hp} {a a1:Addr} {M:List (LI')} {σ:St} {Q:VK} {b1 b2:Bool}
theorem Rq (hM:MatB b1 b2 K H a M) (hl:M.length<=1000) (ha1:H a1=none) (hQ:∀ H1,Same H H1->MatD H H1 a1 M->Q (.ref a1) H1):lN (Its K b1 a) (oW 0) (tEl (tCB (dG K) (nQ (tVar 0) tNil))) 1 [] σ a1 H Q:=by
 obtain ⟨xs,x1,x2,x3⟩:=hM.walk;refine dI xs.length (λ t zs H1=>∃ ps:LA,zs=ps.map V.ref/\ps.length=t/\ps.Nodup/\∀ (j:Nat) (p:Addr) (r:LI'),ps[j]?=some p->M[j]?=some r->p≠a1/\H p=none/\H1 p=some (.lst (r.map V.int))) ha1 ⋯ ⟨[],rfl,rfl,tL,λ j p r e=>by simp at e⟩
  (λ i zs H1 ⟨ps,e,l,_⟩=>by rw [e,yL,l]; exact zF _) (λ i zs H1 H2 ⟨ps,e,l,n,q⟩ s=>⟨ps,e,l,n,λ j p r e1 e2=>⟨(q j p r e1 e2).1,(q j p r e1 e2).2.1,s _ _ (q j p r e1 e2).1 (q j p r e1 e2).2.2⟩⟩)
  (λ i H1 hi s=>Its.go (x1.up s) (x:=xs[i]) (by simp [hi])) (λ H1 s=>Its.stop (x1.up s) (zF _)) ?_ ?_
 ·rintro i H1 zs hi s1 ez ⟨ps,rfl,hpl,hnd,hq⟩ ys x H3 hys hy C hC _;obtain ⟨e1,e2⟩:=Its.yld (x1.up s1) hy;subst e1;obtain ⟨p,r,rfl,er,hp⟩:=x3 i x e2
  match ys,hys with
  | [o],_ =>
   refine ⟨⟨[some (.ref p)],rfl,rfl⟩,_,rfl,b2,p,_,rfl,hp.up s1,λ l hl1=>hC _ _ (Same.new hl1) ⟨ps++[l],by simp,by simp [hpl],?_,λ j p' r' e3 e4=>?_⟩⟩
   ·rw [sF];refine ⟨hnd,by simp,λ z hz w hw=>?_⟩;rw [yF.mp hw];obtain ⟨j,hj,ej⟩:=xV hz;have hjM:j < M.length:=⋯
    exact mX (hq j z M[j] (by simp [hj,ej]) (by simp [hjM])).2.2 hl1
   ·by_cases hj:j < ps.length
    ·rw [yK hj] at e3;obtain ⟨n1,n3,n2⟩:=hq j p' r' e3 e4;exact ⟨n1,n3,Same.new hl1 _ _ n2⟩
    ·have ej:j=ps.length:=by have:=(zR.mp e3).1; simp at this; omega
     subst ej;rw [zZ (zF _)] at e3;simp at e3;subst e3;rw [hpl,er] at e4;cases e4;have hn:H l=none:=by cases w:H l with | none=>rfl | some o=>rw [s1 _ _ w] at hl1; cases hl1
     exact ⟨Ne.symm (mX ez hl1),hn,oZ⟩
 ·rintro H1 ys s1 e1 ⟨ps,rfl,hpl,hnd,hq⟩;exact hQ H1 s1 ⟨ps,e1,⋯,hnd,hq⟩
end
noncomputable def litI:Expr->Option Int
 | .Constant (.int i) _ _=>some i
 | .UnaryOp .USub (.Constant (.int i) _ _) _=>some (-i)
 | _=>none
noncomputable def bO:List Expr->Option (LI')
 | []=>some []
 | e :: es=>match litI e,bO es with | some n,some ns=>some (n :: ns) | _,_=>none
noncomputable def litR:Expr->Option (LI')
 | .List es _=>bO es
 | _=>none
noncomputable def bP:List Expr->Option (List (LI'))
 | []=>some []
 | e :: es=>match litR e,bP es with | some n,some ns=>some (n :: ns) | _,_=>none
noncomputable def litM:Expr->Option (List (LI'))
 | .List es _=>bP es
 | _=>none
noncomputable def bQ:List Expr->Option (List (List (LI')))
 | []=>some []
 | e :: es=>match litM e,bQ es with | some n,some ns=>some (n :: ns) | _,_=>none
noncomputable def Bg:Expr->Option (List (List (LI')))
 | .List es _=>bQ es
 | _=>none
section
variable {X:Cx}
theorem PE.weak {e:Expr} {t u:TE} (h:PE X e t) (w:∀ σ H Q,u σ H Q->t σ H Q):PE X e u:=λ pins s σ H Q I q=>h pins s σ H Q I (w σ H Q q)
theorem PA.weak {es:List Expr} {t u:TA} (h:PA X es t) (w:∀ σ H Q,u σ H Q->t σ H Q):PA X es u:=λ pos pins s σ H Q I q=>h pos pins s σ H Q I (w σ H Q q)
theorem Hn {e:Expr} {n:Int} (h:litI e=some n):PE X e (tC (.int n))/\∀ es,starEach (e :: es) X.env=(false,eval e X.env) :: starEach es X.env:=by
 unfold litI at h;split at h
 ·cases h; exact ⟨oS,λ _=>rfl⟩
 ·cases h;exact ⟨(eP eQ oS).weak λ σ H Q q=>⟨_,rfl,q⟩,λ _=>rfl⟩
 ·cases h
theorem Hm:∀ {es:List Expr} {ns:LI'},bO es=some ns->PA X es λ _ H Q=>Q (ns.map V.int) H
 | [],ns,h=>by cases h; exact oR
 | e :: es,ns,h=>by
  unfold bO at h;split at h
  ·rename_i n ms e1 e2;cases h;exact (oQ (Hn e1).1 (Hm e2) ((Hn e1).2 es)).weak λ σ H Q q=>q
  ·cases h
def Hl (ns:LI'):TE:=λ _ H Q=>∀ p H',Same H H'->H p=none->H' p=some (.lst (ns.map V.int))->Q (.ref p) H'
def Hk (M:List (LI')):TE:=λ _ H Q=>∀ p H',Same H H'->H p=none->MatL H' p M->Q (.ref p) H'
def Hj (Ms:List (List (LI'))):TE:=λ _ H Q=>∀ p H',Same H H'->Mats H' p Ms->Q (.ref p) H'
theorem Rp {e:Expr} {ns:LI'} (h:litR e=some ns) (hz:ns.length<=1000):PE X e (Hl ns)/\∀ es,starEach (e :: es) X.env=(false,eval e X.env) :: starEach es X.env:=by
 unfold litR at h;split at h
 ·refine ⟨(kX (Hm h)).weak λ σ H Q q=>MkR.of (ta:=λ _ H Q=>Q (ns.map V.int) H) (λ _ _ _ q=>q) hz σ H Q q,λ _=>rfl⟩
 ·cases h
theorem Hi:∀ {es:List Expr} {M:List (LI')},bP es=some M->(∀ r∈M,r.length<=1000)->∃ ta,PA X es ta/\MkRs ta M
 | [],ns,h,_=>by cases h; exact ⟨_,oR,MkRs.nil⟩
 | e :: es,ns,h,hz=>by
  unfold bP at h;split at h
  ·rename_i n ms e1 e2;cases h;have h1:=Rp (X:=X) e1 (hz n zS);obtain ⟨ta,h2,h3⟩:=Hi e2 λ r hr=>hz r (zK _ hr);exact ⟨_,oQ h1.1 h2 (h1.2 es),MkRs.cons (te:=Hl n) (λ σ H Q q=>q) h3⟩
  ·cases h
theorem Ro {e:Expr} {M:List (LI')} (h:litM e=some M) (hz:M.length<=1000/\∀ r∈M,r.length<=1000):PE X e (Hk M)/\∀ es,starEach (e :: es) X.env=(false,eval e X.env) :: starEach es X.env:=by
 unfold litM at h;split at h
 ·obtain ⟨ta,h1,h2⟩:=Hi (X:=X) h hz.2;exact ⟨(kX h1).weak λ σ H Q q=>MkM.of h2 hz.1 σ H Q q,λ _=>rfl⟩
 ·cases h
theorem Hh:∀ {es:List Expr} {Ms:List (List (LI'))},bQ es=some Ms->(∀ M∈Ms,M.length<=1000/\∀ r∈M,r.length<=1000)->∃ ta,PA X es ta/\MkMs ta Ms
 | [],ns,h,_=>by cases h; exact ⟨_,oR,MkMs.nil⟩
 | e :: es,ns,h,hz=>by
  unfold bQ at h;split at h
  ·rename_i n ms e1 e2;cases h;have h1:=Ro (X:=X) e1 (hz n zS);obtain ⟨ta,h2,h3⟩:=Hh e2 λ r hr=>hz r (zK _ hr);exact ⟨_,oQ h1.1 h2 (h1.2 es),MkMs.cons (te:=Hk n) (λ σ H Q q=>q) h3⟩
  ·cases h
theorem Rn {e:Expr} {Ms:List (List (LI'))} (h:(decide (Bg e=some Ms) && decide (Ms.length<=1000/\∀ M∈Ms,M.length<=1000/\∀ r∈M,r.length<=1000))=true):PE X e (Hj Ms):=by
 simp only [Bool.and_eq_true,decide_eq_true_eq] at h;obtain ⟨h,hz,hz2⟩:=h;unfold Bg at h;split at h
 ·obtain ⟨ta,h1,h2⟩:=Hh (X:=X) h hz2;exact (kX h1).weak λ σ H Q q=>MkMs.lst h2 hz q
 ·cases h
end
noncomputable def Rm (Ms:List (List (LI'))):Bool:=decide (Ms.length<=1000/\∀ M∈Ms,M.length<=1000/\∀ r∈M,r.length<=1000)
noncomputable def isList:Expr->Bool
 | .List _ _=>true
 | _=>false
section
variable {X:Cx}
theorem Hg:∀ {bs:List Bool} {its:LW},Vals (bs.map V.bl) its->∀ (i:Nat) (v:Value),its[i]?=some v->∃ b,bs[i]?=some b/\v=.bool b
 | [],_,.nil,i,v,e=>by simp at e
 | b :: r,_,.cons h q,i,v,e=>by
  cases i with
  | zero=>simp at e; subst e; exact ⟨b,rfl,h⟩
  | succ i=>simpa using Hg (bs:=r) q i v (by simpa using e)
theorem Hf:∀ bs:List Bool,((List.range bs.length).any λ i=>(bs[i]?).getD false)=bs.any id
 | []=>rfl
 | b :: bs=>by
  have ih:=Hf bs;rw [zX,List.range_succ_eq_map,uV,uV,List.any_map];show (b || _)=(b || _);congr 1
theorem Rl (hc:X.calm=true):kA X (.builtin "any") (λ xs H Q=>∃ (p:Addr) (bs:List Bool),xs=[.ref p]/\SqL X.K H p (bs.map V.bl)/\Q (.bl (bs.any id)) H):=by
 intro pins s σ H xs us Q I r h;obtain ⟨p,bs,rfl,hq,q⟩:=h;obtain ⟨u,rfl,rx⟩:=jL r;cases rx;obtain ⟨its,rv,pl,hz⟩:=I.list hq;have hl:s.heap.IsList p its.toArray:=pl.isList;have hlt:p < s.heap.objs.size:=by obtain ⟨_,e,_⟩:=hl; exact zP e
 have hlen:its.toArray.size=bs.length:=by
  have:=rv.length;simpa using this.symm
 refine call_any_walk (sD hl ?_);refine ⟨s.heap.objs.size,[s.heap.objs.size,p],[s.heap.objs.size],its.toArray.size,_,_,λ i=>(bs[i]?).getD false,rfl,Walks.list (A:=X.A.in1) (I.ok.hd hc) _ p (yA hlt) its.toArray,
  ⟨⟨_,zU _ rfl,rfl,rfl⟩,hl.push _⟩,λ i v s' Q' E' hP hQ=>?_,λ h' tk hk=>?_⟩
 ·obtain ⟨b,e,rfl⟩:=Hg rv i v (by simpa using hP);simp only [e,Option.getD_some] at hQ;exact uK hQ
 ·rw [hlen,Hf bs];refine ⟨.bl (bs.any id),H,I.kept (t':=tk) λ b x e=>hk b x (λ hm=>by rw [yF.mp hm] at e; exact xC _ (zP e)) (zD _ e),rfl,q⟩
end
section
variable {prog:Program} {w:World} {A:Around} {E:VP} {s:Shared}
set_option maxRecDepth 100000 in
end
open Builtin Builtin.Str
def qVar (i:Nat):TE:=λ σ H Q=>match σ[i]? with
 | some (some v)=>Q v H
 | _=>False
theorem Rk {i:Nat} {σ:St} {H:Hp} {Q:VK} (h:qVar i σ H Q):tVar i σ H Q:=by
 unfold qVar at h;split at h
 ·next v e=>exact ⟨v,e,h⟩
 ·exact h.elim
theorem pq {X:Cx} (i:Nat) {x:Str} {pos:Pos} (hN:X.N[i]?=some x:=by rfl) (hv:Vis X.env.scope x:=by first | exact Or.inl rfl | exact Or.inr (Or.inl rfl) | exact Or.inr (Or.inr rfl)) (hd:(x == ("__debug__" : Str))=false:=by decide)
  (hcd:(x == ("__classdict__" : Str))=false:=by decide):PE X (.Name x pos) (qVar i):=λ pins s σ H Q I q=>pv i hN hv hd hcd pins s σ H Q I (Rk q)
instance decPD:DecidableEq PyData:=λ _ _=>Classical.propDecidable _
noncomputable def tT:Nat->PyData->Bool
 | _,.int _=>true
 | n+1,.tuple xs=>xs.all (tT n)
 | _,_=>false
theorem gS:∀ (n:Nat) (d:PyData),tT n d=true->iT n d=true:=by
 intro n
 induction n with
 | zero=>intro d h; cases d <;> simp [tT] at h <;> simp [iT]
 | succ n ih =>
  intro d h;cases d <;> simp [tT] at h
  ·simp [iT]
  ·simp only [iT,List.all_eq_true];exact λ x hx=>ih x (h x hx)
mutual
noncomputable def iC:PyData->Int
 | .int i=>hashInt i
 | .tuple xs=>reduceHash (Builtin.Tuple.tupleHashOf (dN xs))
 | _=>0
noncomputable def dN:List PyData->LI'
 | []=>[]
 | d :: ds=>iC d :: dN ds
end
mutual
noncomputable def iD:PyData->Nat
 | .tuple xs=>gT xs+1
 | _=>1
noncomputable def gT:List PyData->Nat
 | []=>0
 | d :: ds=>iD d+gT ds
end
section
variable {prog:Program} {w:World} {E:VP}
theorem Rj (n:Nat) (ih:∀ {A:Around} {s:Shared} {v:Value} {d:PyData} {as:LA} {Q:Int->Shared->Prop},tT n d=true->Reads s.heap v d as->A.units+n < cLine->Q (iC d) { s with toks:=s.toks+iD d }->wpAny (model prog w) A (pyHash v) Q E s) :
  ∀ (xs:List PyData) (vs:LW) (as:LA) (A:Around) (s:Shared) (b:Array Int) (Q:Array Int->Shared->Prop),xs.all (tT n)=true->ReadsAll s.heap vs xs as->A.units+n < cLine ->
  (∀ b':Array Int,b'.toList=b.toList++dN xs->Q b' { s with toks:=s.toks+gT xs }) ->
  wpAny (model prog w) A (forIn vs b λ x r=>do let h ← pyHash x; pure PUnit.unit; pure (ForInStep.yield (r.push h))) Q E s:=by
 intro xs
 induction xs with
 | nil =>
  intro vs as A s b Q _ r _ h;cases r;exact zC (h b (by simp [dN]))
 | cons d ds ihr =>
  intro vs as A s b Q ht r hu h;cases r with
  | cons r1 r2 =>
   rw [yV,zO] at ht;rw [uF];refine zA (zA (ih ht.1 r1 hu ?_));refine zA (zC (zC ?_));refine ihr _ _ A { s with toks:=s.toks+iD d } (b.push (iC d)) Q ht.2 r2 hu λ b' hb=>?_;have:=h b' (by rw [hb]; simp [dN]);rw [show s.toks+gT (d :: ds)=s.toks+iD d+gT ds by simp [gT,Nat.add_assoc]] at this;exact this
theorem Ri:∀ (n:Nat) {A:Around} {s:Shared} {v:Value} {d:PyData} {as:LA} {Q:Int->Shared->Prop},tT n d=true->Reads s.heap v d as->A.units+n < cLine->Q (iC d) { s with toks:=s.toks+iD d }->wpAny (model prog w) A (pyHash v) Q E s:=by
 intro n
 induction n with
 | zero =>
  intro A s v d as Q ht r hu h;cases r <;> simp [tT] at ht;exact qO (by simpa [iC,iD] using h)
 | succ n ih =>
  intro A s v d as Q ht r hu h;cases r <;> simp only [tT,Bool.false_eq_true] at ht
  case int=>exact qO (by simpa [iC,iD] using h)
  case tuple a o vs m xs hg hc hd hr =>
   unfold pyHash;refine PySem.W.pyHash_slot (T := "tuple") ⟨_,hg,hc⟩ PySem.F.slot_tuple_hash PySem.F.entry_tuple_hash (PySem.F.args_tuple_hash_1 _) (beq_builtin_none _) (.inr ⋯) ?_;show wpAny _ _ (Builtin.Tuple.tupleItemsOf (.ref a) >>= _) _ _ s;refine zA (uG hg hd ?_);refine zA ?_;rw [← Array.forIn_toList];refine Rj n ih xs vs.toList _ A.in1 s #[] _ ht hr (by show A.units+1+n < cLine; omega) λ b hb=>?_;show wpAny _ _ (retInt (Builtin.Tuple.tupleHashOf b.toList)) _ _ _;rw [hb];refine zA (wpAny_mkInt (zC ⟨_,_,rfl,?_⟩));have e:s.toks+gT xs+1=s.toks+iD (.tuple xs):=by simp [iD,Nat.add_assoc]
   simp only [iC] at h;rw [← e] at h;exact h
theorem Rh:∀ (n m:Nat),n < m->∀ {A:Around} {s:Shared} {v:Value} {d:PyData} {as:LA} {Q:Bool->Shared->Prop},tT n d=true->Reads s.heap v d as->Q true s->wpAny (model prog w) A (eqIsQuiet m v) Q E s:=by
 intro n
 induction n with
 | zero =>
  intro m _ A s v d as Q ht r h;cases r <;> simp [tT] at ht;rw [eqIsQuiet_byValue _ rfl];exact zC h
 | succ n ih =>
  intro m hm A s v d as Q ht r h;cases r <;> simp only [tT,Bool.false_eq_true] at ht
  case int=>rw [eqIsQuiet_byValue _ rfl]; exact zC h
  case tuple a o vs k xs hg hc hd hr =>
   obtain ⟨m,rfl⟩:∃ j,m=j+1:=⟨m - 1,⋯⟩;have hT:s.TypeIs (.ref a) "tuple" := ⟨o,hg,hc⟩;unfold eqIsQuiet;refine zA (wpAny_specialOf hT PySem.F.slot_tuple_eq.lookup ?_);show wpAny _ _ (isInstance (.ref a) (.type "tuple") >>= _) _ _ s;refine zA (vI hT rF ?_);simp only [Bool.not_true,Bool.false_eq_true,if_false];refine zA (wK hg hd ?_);refine zA ?_;show wpAny _ _ (forIn vs _ _) _ _ s;rw [← Array.forIn_toList];refine qP _ (λ rest q s'=>q.1=none/\s'=s/\∃ ys bs,ys.all (tT n)=true/\ReadsAll s.heap rest ys bs) _ ?_ ?_ _ _ ⟨rfl,rfl,xs,_,ht,hr⟩
   ·rintro u rest q s' ⟨hq,rfl,ys,bs,hy,hrs⟩;cases hrs with
    | cons r1 r2 =>
     rw [yV,zO] at hy;refine zA (ih m ⋯ hy.1 r1 ?_);simp only [Bool.not_true,Bool.false_eq_true,if_false];exact zC ⟨rfl,rfl,_,_,hy.2,r2⟩
   ·rintro ⟨r1,r2⟩ s' ⟨hq,rfl,_⟩;simp only at hq;subst hq;exact zC h
end
theorem Rg {h h':Heap} {x:Addr} {ox:Obj} {es:Array DictEntry} {ep:Nat} (hx:h.get? x=some ox) (hd:ox.data=.dict es ep) (hs:Heap.SameBut x h h'):∀ (n:Nat) {v:Value} {d:PyData} {as:LA},tT n d=true->Reads h v d as->Reads h' v d as:=by
 intro n
 induction n with
 | zero =>
  intro v d as ht r;cases r <;> simp [tT] at ht;exact .int _ _
 | succ n ih =>
  have all:∀ (xs:List PyData) (vs:LW) (as:LA),xs.all (tT n)=true->ReadsAll h vs xs as->ReadsAll h' vs xs as:=by
   intro xs
   induction xs with
   | nil=>intro vs as _ r; cases r; exact .nil
   | cons d ds ihr =>
    intro vs as ht r;cases r with
    | cons r1 r2 =>
     rw [yV,zO] at ht;exact .cons (ih ht.1 r1) (ihr _ _ ht.2 r2)
  intro v d as ht r;cases r <;> simp only [tT,Bool.false_eq_true] at ht
  case int=>exact .int _ _
  case tuple a o vs k xs hg hc hdd hr =>
   have hne:a≠x:=by
    rintro rfl;rw [hx] at hg;cases hg;rw [hd] at hdd;cases hdd
   exact .tuple ((hs.2 a hne).trans hg) hc hdd (all _ _ _ ht hr)
def isT (h:Heap) (d:PyData) (a:Addr):Prop:=tT 4 d=true/\∃ as,Reads h (.ref a) d as
noncomputable def jA (prog:Program) (w:World):HeapKind prog w PyData where
 is:=isT
 hash:=iC
 draws:=iD
 room:=λ A=>A.units+8 < cLine
 inj:=λ {h a x y} hx hy=>by
  obtain ⟨t1,as,r1⟩:=hx;obtain ⟨t2,bs,r2⟩:=hy;exact sJ _ _ _ _ _ (iA 4 _ (gS 4 _ t1)).1 r1 r2
 keeps:=λ {h h' k a x o es ep} hk hx hd hs=>⟨hk.1,let ⟨as,r⟩:=hk.2; ⟨as,Rg hx hd hs 4 hk.1 r⟩⟩
 pyHash:=λ {A E s k a Q} hu hk h=>let ⟨as,r⟩:=hk.2; Ri 4 hk.1 r ⋯ h
 eqBool:=λ {A E s x y a b Q} hu hx hy h=>by
  obtain ⟨t1,as,r1⟩:=hx;obtain ⟨t2,bs,r2⟩:=hy;have i1:=gS 4 _ t1;have i2:=gS 4 _ t2;have l1:=iA 4 _ i1;have l2:=iA 4 _ i2;refine pJ _ _ _ _ _ _ _ _ _ _ _ _ r1 r2 l1.1 l2.1 ⋯ ?_;rw [← SeqAt.same_eq_eqv _ _ (bH 4 _ _ i1 i2)];have e:=bI 4 _ _ i1 i2
  by_cases z:x=y
  ·rw [zM z] at h;rw [e.mpr z];exact h
  ·rw [zQ z] at h;have:same x y=false:=by
    cases q:same x y with
    | false=>rfl
    | true=>exact absurd (e.mp q) z
   rw [this];exact h
 quiet:=λ {A E s k a Q} hk h=>let ⟨as,r⟩:=hk.2; Rh 4 8 ∅ hk.1 r h
noncomputable def lE (a:Addr) (xs:List (PyData × Addr × Value)):HO:=.ext λ h=>∃ o es ep,h.get? a=some o/\o.ExactDict/\o.data=.dict es ep/\es.toList=xs.map λ x=>⟨iC x.1,.ref x.2.1,x.2.2⟩
theorem He {o:Option V} {u:Option Value} (h:RelO o u):o.isSome=u.isSome:=by
 cases o <;> cases u <;> first | rfl | exact h.elim
def vT (kvs:List (PyData × V)) (k:PyData):Option V:=(kvs.find? λ kv=>decide (kv.1=k)).map (·.2)
def pT (kvs:List (PyData × V)) (k:PyData) (v:V):List (PyData × V):=if (vT kvs k).isSome=true then kvs.map (λ kv=>if kv.1=k then (kv.1,v) else kv) else kvs++[(k,v)]
theorem dO {p:PyData × V} {r:List (PyData × V)} {k:PyData} (e:p.1=k):vT (p :: r) k=some p.2:=by simp [vT,List.find?_cons,e]
theorem fI {p:PyData × V} {r:List (PyData × V)} {k:PyData} (e:¬ p.1=k):vT (p :: r) k=vT r k:=by simp [vT,List.find?_cons,e]
abbrev KP (K:Frag) (H:Hp):List (PyData × V)->List (PyData × Addr × Value)->Prop:=Paired λ p q=>p.1=q.1/\(tT 4 p.1=true/\Dt K H (.ref q.2.1) p.1)/\RelV p.2 q.2.2
structure DTr (K:Frag) (H:Hp) (a:Addr) (kvs:List (PyData × V)):Prop where
 len:kvs.length<=sizeLine
 sys:(a == sysModules)=false
 ex:∃ xs,H a=some (lE a xs)/\(xs.map (·.1)).Nodup/\KP K H kvs xs
theorem KP.val {K:Frag} {H:Hp} {kvs:List (PyData × V)} {xs:List (PyData × Addr × Value)} (r:KP K H kvs xs) (k:PyData):RelO (vT kvs k) ((atKey xs k).map (·.2)):=by
 induction r with
 | nil=>exact True.intro
 | @cons p q ps qs h t ih =>
  obtain ⟨h1,_,h2⟩:=h
  by_cases e:p.1=k
  ·have b:atKey (q :: qs) k=some q.2:=by simp [atKey,List.find?_cons,h1.symm.trans e]
   rw [dO e,b]; exact h2
  ·have e':¬ q.1=k:=λ z=>e (h1.trans z);have b:atKey (q :: qs) k=atKey qs k:=by simp [atKey,List.find?_cons,e']
   rw [fI e,b]; exact ih
theorem KP.put {K:Frag} {H:Hp} {kvs:List (PyData × V)} {xs:List (PyData × Addr × Value)} (r:KP K H kvs xs) (k:PyData) {b:Addr} {y:V} {u:Value} (tk:tT 4 k=true) (hb:Dt K H (.ref b) k) (ry:RelV y u):KP K H (pT kvs k y) (storedH xs k b u):=by
 have e:(vT kvs k).isSome=(atKey xs k).isSome:=by rw [He (r.val k),Option.isSome_map]
 unfold pT storedH;rw [e]
 by_cases q:(atKey xs k).isSome=true
 ·rw [if_pos q,if_pos q];clear e q
  induction r with
  | nil=>exact .nil
  | @cons p q ps qs h t ih =>
   rw [zG,zG];refine .cons ?_ ih;obtain ⟨h1,h2,h3⟩:=h;unfold putAt
   by_cases e:p.1=k
   ·rw [if_pos e,if_pos (h1.symm.trans e)]; exact ⟨h1,h2,ry⟩
   ·rw [if_neg e,if_neg (λ z=>e (h1.trans z))]; exact ⟨h1,h2,h3⟩
 ·rw [if_neg q,if_neg q];exact rL r ⟨rfl,⟨tk,hb⟩,ry⟩
theorem nZ {K:Frag} {H H':Hp} (ht:∀ b xs,SqT K H b xs->SqT K H' b xs):∀ (n:Nat) {x:V} {d:PyData},tT n d=true->Dt K H x d->Dt K H' x d:=by
 intro n
 induction n with
 | zero =>
  intro x d h r;cases r <;> simp [tT] at h;exact .int _
 | succ n ih =>
  have all:∀ (ds:List PyData) (xs:List V),ds.all (tT n)=true->Dts K H xs ds->Dts K H' xs ds:=by
   intro ds
   induction ds with
   | nil=>intro xs _ r; cases r; exact .nil
   | cons d ds ihr =>
    intro xs h r;cases r with
    | cons r1 r2 =>
     rw [yV,zO] at h;exact .cons (ih h.1 r1) (ihr _ h.2 r2)
  intro x d h r;cases r <;> simp only [tT,Bool.false_eq_true] at h
  case int=>exact .int _
  case tup a xs ds hq hr=>exact .tup (ht _ _ hq) (all _ _ h hr)
theorem Hd {K:Frag} {H:Hp} {a:Addr} {o:HO} (hn:∀ xs,¬ Rd H a (.tup xs)):∀ b xs,SqT K H b xs->SqT K (upd H a o) b xs:=λ b xs h=>by
 rcases h with h | h
 ·have ne:b≠a:=λ e=>hn xs (e ▸ h);rcases h with h | ⟨ob,h⟩
  ·exact .inl (.inl (by rw [nD ne]; exact h))
  ·exact .inl (.inr ⟨ob,by rw [nD ne]; exact h⟩)
 ·exact .inr h
theorem KP.keeps {K:Frag} {H H':Hp} {kvs:List (PyData × V)} {xs:List (PyData × Addr × Value)} (r:KP K H kvs xs) (ht:∀ b ys,SqT K H b ys->SqT K H' b ys):KP K H' kvs xs :=
 Paired.mapP r λ _ _ z=>⟨z.1,⟨z.2.1.1,nZ ht 4 z.2.1.1 z.2.1.2⟩,z.2.2⟩
theorem nY {K:Frag} {H H':Hp} (s:Same H H'):∀ b xs,SqT K H b xs->SqT K H' b xs:=λ b xs h=>by
 rcases h with (h | ⟨o,h⟩) | h
 ·exact .inl (.inl (s _ _ h))
 ·exact .inl (.inr ⟨o,s _ _ h⟩)
 ·exact .inr h
theorem DTr.up {K:Frag} {H H':Hp} {a:Addr} {kvs:List (PyData × V)} (h:DTr K H a kvs) (s:Same H H'):DTr K H' a kvs:=by
 obtain ⟨l,y,xs,e,n,r⟩:=h;exact ⟨l,y,xs,s _ _ e,n,r.keeps (nY s)⟩
section
variable {X:Cx} {pins:PN} {σ:St} {H:Hp} {s:Shared} {a:Addr}
theorem fJ {k:PyData} {b:Addr} (I:Inv X pins σ H s) (tk:tT 4 k=true) (hb:Dt X.K H (.ref b) k):(jA X.prog X.w).is s.heap k b:=⟨tk,hb.reads I rfl⟩
theorem dP {kvs:List (PyData × V)} (I:Inv X pins σ H s) (g:DTr X.K H a kvs):∃ xs,H a=some (lE a xs)/\KP X.K H kvs xs/\s.heap.DictOfH (jA X.prog X.w) a xs:=by
 obtain ⟨_,_,xs,e,n,r⟩:=g;obtain ⟨⟨o,es,ep,h1,h2,h3,h4⟩,_⟩:=(show mQ X.prog X.w H s.heap a (lE a xs) from I.hok a _ e);refine ⟨xs,e,r,o,es,ep,h1,h2,h3,h4,λ x hx=>?_,n⟩;have all:∀ {l:List (PyData × V)} {m:List (PyData × Addr × Value)},KP X.K H l m->∀ x∈m,(jA X.prog X.w).is s.heap x.1 x.2.1:=by
  intro l m q
  induction q with
  | nil=>intro x hx; exact nomatch hx
  | @cons p q ps qs hq t ih =>
   intro x hx;rcases zL.mp hx with e | hx
   ·subst e;rw [← hq.1];exact fJ I hq.2.1.1 hq.2.1.2
   ·exact ih x hx
 exact all r x hx
end
def bU (K:Frag):R2:=λ x y H Q=>∃ a kvs b k v,x=.ref a/\y=.ref b/\DTr K H a kvs/\tT 4 k=true/\Dt K H (.ref b) k/\vT kvs k=some v/\Q v H
def rInT (K:Frag) (neg:Bool):R2:=λ y x H Q=>∃ a kvs b k,x=.ref a/\y=.ref b/\DTr K H a kvs/\tT 4 k=true/\Dt K H (.ref b) k/\Q (.bl (if neg=true then !(vT kvs k).isSome else (vT kvs k).isSome)) H
def Rf (K:Frag):TSet:=λ x y v H Q=>∃ a kvs b k,x=.ref a/\y=.ref b/\DTr K H a kvs/\tT 4 k=true/\Dt K H (.ref b) k/\kvs.length < sizeLine/\∀ H',(∀ c o,c≠a->H c=some o->H' c=some o)->(∀ c,c≠a->H' c=H c)->DTr K H' a (pT kvs k v)->Q H'
section
variable {X:Cx}
theorem ix_T (hu:X.A.units+64 < cLine):IxR X (bU X.K):=by
 intro value slice pins s σ H x y v u Q I rx ry h hs;obtain ⟨a,kvs,b,k,z,rfl,rfl,g,tk,hb,hv,q⟩:=h;cases rx;cases ry;obtain ⟨xs,e,r,dd⟩:=dP I g;obtain ⟨w',hw,rw'⟩:=RelO.some_of (v:=z) (o:=(atKey xs k).map (·.2)) (by rw [← hv]; exact r.val k);obtain ⟨p,hp,hp2⟩:=Option.map_eq_some_iff.mp hw;refine rA (x:=w') dd.typeIs PySem.F.slot_dict_getitem.lookup ?_ hs;refine wpAny_getItem_heap (knd:=jA X.prog X.w) (show X.A.units+1+8 < cLine by omega) (fJ I tk hb) dd hp ⟨hp2,z,H,I.tok _,?_,q⟩;rw [hp2];exact rw'
theorem Hc (hu:X.A.units+64 < cLine):OpR X (compareOp .NotIn) (rInT X.K true):=by
 intro pins s σ H x y v u Q I rx ry h;obtain ⟨a,kvs,b,k,rfl,rfl,g,tk,hb,q⟩:=h;cases rx;cases ry;obtain ⟨xs,e,r,dd⟩:=dP I g;refine wpAny_notIn_heap (knd:=jA X.prog X.w) (show X.A.units+1+8 < cLine by omega) (fJ I tk hb) g.sys dd ?_;have e:=He (r.val k);rw [Option.isSome_map] at e;rw [← e];exact ⟨.bl _,H,I.tok _,rfl,q⟩
theorem Re (kvs:List (PyData × V)) (k:PyData) (v:V):(pT kvs k v).length<=kvs.length+1:=by
 unfold pT;split
 ·rw [yL]; omega
 ·rw [yB]; exact zF _
theorem bV {P:Program} {w:World} {H:Hp} {h:Heap} {a:Addr} {xs:List (PyData × Addr × Value)} {o:Obj} {es:Array DictEntry} {ep:Nat} (h1:h.get? a=some o) (h2:o.ExactDict) (h3:o.data=.dict es ep) (h4:es.toList=xs.map λ x=>⟨iC x.1,.ref x.2.1,x.2.2⟩):mQ P w H h a (lE a xs) :=
 ⟨⟨o,es,ep,h1,h2,h3,h4⟩,⟨o,h1⟩,λ g1 g2 ⟨o',es',ep',q1,q2⟩ k=>⟨o',es',ep',k o' q1,q2⟩⟩
theorem Hb (hu:X.A.units+64 < cLine):PSet X (Rf X.K):=by
 intro pins s σ H o i v ov iv u Q I ro ri rv h;obtain ⟨a,kvs,b,k,rfl,rfl,g,tk,hb,hl,q⟩:=h;cases ro;cases ri;obtain ⟨xs,e,r,dd⟩:=dP I g;have hz:xs.length<=sizeLine:=by rw [← Paired.length r]; exact g.len
 have nt:∀ ys,¬ Rd H a (.tup ys):=λ ys z=>by
  rcases z with z | ⟨ob,z⟩
  ·rw [e] at z; cases z
  ·rw [e] at z; cases z
 refine wpAny_setItem_heap (knd:=jA X.prog X.w) (hsz:=hz) (show X.A.units+1+8 < cLine by omega) (fJ I tk hb) dd λ h' dd' hs=>?_;obtain ⟨ob,es,ep,h1,h2,h3,h4,_,h5⟩:=dd';refine ⟨upd H a (lE a (storedH xs k b u)),I.write (x:=a) (e:=a) (by rw [e]; exact True.intro) (.inl rfl) (λ c o hc z=>(hs.2 c hc).trans z) ⟨ob,h1⟩ (bV h1 h2 h3 h4),?_⟩;refine q _ (λ c o hc z=>by rw [nD hc]; exact z) (λ c hc=>nD hc) ⟨by have:=Re kvs k v; omega,g.sys,_,oZ,h5,(r.put k tk hb rv).keeps (Hd nt)⟩
end
section
variable {X:Cx} {pos:Pos}
theorem Bf {pins:PN} {σ:St} {H:Hp} {s:Shared} (I:Inv X pins σ H s):sysModules < s.heap.objs.size :=
 Nat.lt_trans ∅ (show mainGlobals < s.heap.objs.size from (I.mod.glob.keeps I.bk).lt)
theorem Ha {P:Program} {w:World} {H:Hp} (h:Heap):mQ P w H (h.push { cls:=.type "dict",data:=.dict #[] }) h.objs.size (lE h.objs.size []) :=
 bV (es:=#[]) (ep:=0) (zU _ rfl) ⟨rfl,rfl,rfl⟩ rfl rfl
theorem Iz {K:Frag} {H:Hp} {p:Addr} (hp:(p == sysModules)=false) (e:H p=some (lE p [])):DTr K H p []:=⟨yY _,hp,[],e,tL,.nil⟩
def Iy (K:Frag):TE:=λ _ H Q=>∀ p,H p=none->DTr K (upd H p (lE p [])) p []->Q (.ref p) (upd H p (lE p []))
theorem Rc:PE X (.Dict [] [] pos) (Iy X.K):=λ pins s σ H Q I h =>
 wpAny_Dict_empty ⟨.ref s.heap.objs.size,_,I.laid (a:=s.heap.objs.size) (o:=lE s.heap.objs.size []) (t':=s.toks) (λ _ _ q=>zD _ q) (zF _) (Ha s.heap),rfl,
  h _ (I.hok.fresh (zF _)) (Iz (wF.mpr (Ne.symm (yA (Bf I)))) oZ)⟩
def Ix (K:Frag) (tk tv:TE):TE:=λ σ H Q=>∀ p,H p=none->tk σ (upd H p (lE p [])) λ x H1=>tv σ H1 λ y H2=>∃ b d,x=.ref b/\tT 4 d=true/\Dt K H2 (.ref b) d/\H2 p=some (lE p [])/\∀ H3,(∀ c,c≠p->H3 c=H2 c)->DTr K H3 p [(d,y)]->Q (.ref p) H3
theorem Rb {k v:Expr} {tk tv:TE} (hu:X.A.units+64 < cLine) (hk:PE X k tk) (hv:PE X v tv):PE X (.Dict [some k] [v] pos) (Ix X.K tk tv):=by
 intro pins s σ H Q I q;have hn:=I.hok.fresh (zF s.heap.objs.size);have hp:(s.heap.objs.size == sysModules)=false:=wF.mpr (Ne.symm (yA (Bf I)));have I1:=I.laid (a:=s.heap.objs.size) (o:=lE s.heap.objs.size []) (h':=s.heap.push { cls:=.type "dict",data:=.dict #[] }) (t':=s.toks) (λ _ _ q=>zD _ q) (zF _) (Ha s.heap);rw [arm_eval_Dict,zip_pairTrees [some k] [v] X.env pos rfl rfl,dictDisplay_pairs (pairTrees [some k] [v] X.env pos) (by intro e; cases e) (show 1 < 17 by decide)];refine zA (uU (zA ?_));unfold subDict;refine zA (wpAny_alloc ?_);refine zA (xT ?_);rw [if_pos (show (pairTrees [some k] [v] X.env pos).length<=15 from (show 1<=15 by decide))];refine zA (pairTrees_cons_walk (thn (hk pins _ σ _ _ I1 (q _ hn)) λ u s1 ⟨x,H1,I2,rx,q1⟩=>thn (hv pins s1 σ H1 _ I2 q1) λ w2 s2 ⟨y,H2,I3,ry,b,d,ex,td,hb,e,q2⟩=>pairTrees_nil_walk ?_));subst ex;cases rx;refine xT ?_;obtain ⟨xs,e',r,dd⟩:=dP I3 (Iz hp e);cases r;refine zA ?_;rw [uF];refine zA (zA (wpAny_dictSet_heap (knd:=jA X.prog X.w) (hsz:=yY _) (show X.A.units+8 < cLine by omega) (fJ I3 td hb) dd λ h' dd' hs=>zC ?_));refine zC (zC (zC (zC ?_)));obtain ⟨ob,es,ep,h1,h2,h3,h4,_,h5⟩:=dd';have nt:∀ ys,¬ Rd H2 s.heap.objs.size (.tup ys):=λ ys z=>by
  rcases z with z | ⟨ob,z⟩
  ·rw [e] at z; cases z
  ·rw [e] at z; cases z
 refine ⟨.ref s.heap.objs.size,upd H2 s.heap.objs.size (lE s.heap.objs.size (storedH [] d b w2)),I3.write (x:=s.heap.objs.size) (e:=s.heap.objs.size) (by rw [e]; exact True.intro) (.inl rfl) (λ c o hc z=>(hs.2 c hc).trans z) ⟨ob,h1⟩ (bV h1 h2 h3 h4),rfl,?_⟩;exact q2 _ (λ c hc=>nD hc) ⟨by show 1<=sizeLine; decide,hp,_,oZ,h5,.cons ⟨rfl,⟨td,nZ (Hd nt) 4 td hb⟩,ry⟩ .nil⟩
end
noncomputable def jB:Bool->Keyed->Array Keyed->Nat->Nat->Nat->StateT SortSt Sem (Option Nat):=sortPriv% PySem.Builtin.gallop
noncomputable def gU (left:Bool) (key:Keyed) (arr:Array Keyed) (base i:Nat):StateT SortSt Sem (Option Bool):=do
 let x ← elem' arr (base+i)
 if left then lt' x key else return (← lt' key x).map (!·)
theorem Ra (left:Bool) (key:Keyed) (arr:Array Keyed) (base n hint:Nat):jB left key arr base n hint=(do
 let mut lastofs:=0
 let mut ofs:=1
 let mut lo:=0
 let mut hi:=0
 let some right ← gU left key arr base hint | return none
 if right then
  let maxofs:=n - hint
  for _ in [0:n] do
   if ofs ≥ maxofs then break
   let some more ← gU left key arr base (hint+ofs) | return none
   if !more then break
   lastofs:=ofs
   ofs:=2*ofs+1
  lo:=hint+lastofs+1
  hi:=hint+min ofs maxofs
 else
  let maxofs:=hint+1
  for _ in [0:n] do
   if ofs ≥ maxofs then break
   let some found ← gU left key arr base (hint - ofs) | return none
   if found then break
   lastofs:=ofs
   ofs:=2*ofs+1
  lo:=hint+1 - min ofs maxofs
  hi:=hint - lastofs
 for _ in [0:n] do
  if lo ≥ hi then break
  let m:=lo+(hi - lo) / 2
  let some more ← gU left key arr base m | return none
  if more then lo:=m+1 else hi:=m
 return some hi):=rfl
section
variable {prog:Program} {w:World} {A:Around} {E:VP} {s:Shared} {κ:PyProof.Rows.KeyKind} {kd:SortKind}
def Cmp (prog:Program) (w:World) (A:Around) (s:Shared) (κ:PyProof.Rows.KeyKind) (kd:SortKind):Prop :=
 ∀ (E:VP) (x y:Value) (a b:κ.α) (Q:Bool->Shared->Prop),κ.keyOf x=some a->κ.keyOf y=some b->Q (κ.blt a b) s->wpAny (model prog w) A (keyLt' kd x y) Q E s
noncomputable def ky (κ:PyProof.Rows.KeyKind) (p:Keyed):κ.α:=(κ.keyOf p.1).getD κ.dflt
def Gd (κ:PyProof.Rows.KeyKind) (p:Keyed):Prop:=∃ a,κ.keyOf p.1=some a
noncomputable def lq (κ:PyProof.Rows.KeyKind) (p q:Keyed):Bool:=κ.blt (ky κ p) (ky κ q)
theorem Iw {p:Keyed} (h:Gd κ p):κ.keyOf p.1=some (ky κ p):=by
 obtain ⟨a,e⟩:=h;unfold ky;rw [e];rfl
theorem dQ (hC:Cmp prog w A s κ kd) {st:SortSt} {x y:Keyed} {Q:Option Bool->SortSt->Prop} (hk:kindOf st=kd) (hx:Gd κ x) (hy:Gd κ y) (h:Q (some (lq κ x y)) st):wpS (model prog w) A E s (lt' x y) Q st:=by
 rw [lt'_eq];refine zH (uT ?_);rw [hk];refine zH (rK (vW (hC _ x.1 y.1 _ _ _ (Iw hx) (Iw hy) ⟨rfl,?_⟩)));exact zJ h
theorem lV {st:SortSt} {arr:Array Keyed} {i:Nat} {p:Keyed} {Q:Keyed->SortSt->Prop} (hi:arr[i]?=some p) (h:Q p st):wpS (model prog w) A E s (elem' arr i) Q st:=by
 rw [elem'_eq,hi];exact zJ h
noncomputable def bey (κ:PyProof.Rows.KeyKind) (left:Bool) (key p:Keyed):Bool:=if left=true then lq κ p key else !lq κ key p
theorem Sz (hC:Cmp prog w A s κ kd) {st:SortSt} {left:Bool} {key p:Keyed} {arr:Array Keyed} {base i:Nat} {Q:Option Bool->SortSt->Prop} (hk:kindOf st=kd) (hg:Gd κ key) (hp:arr[base+i]?=some p) (gp:Gd κ p) (h:Q (some (bey κ left key p)) st) :
  wpS (model prog w) A E s (gU left key arr base i) Q st:=by
 unfold gU;refine zH (lV hp ?_);unfold bey at h;cases left with
 | true =>
  rw [if_pos rfl] at h ⊢;exact dQ hC hk gp hg h
 | false =>
  rw [if_neg (by simp)] at h ⊢;exact zH (dQ hC hk hg gp (zJ h))
theorem Iv {st:SortSt} {n lo hi:Nat} {B:Nat->Bool} {f:Nat->StateT SortSt Sem (Option Bool)} {Q:Option Nat->SortSt->Prop}
  (ask:∀ (i:Nat) (R:Option Bool->SortSt->Prop),i < n->R (some (B i)) st->wpS (model prog w) A E s (f i) R st) (hlh:lo<=hi) (hn:hi<=n) (mono:∀ i j,i<=j->j < n->B j=true->B i=true) (h1:∀ i,i < lo->B i=true) (h2:∀ i,hi<=i->i < n->B i=false)
  (h:∀ k,k<=n->(∀ i,i < k->B i=true)->(∀ i,k<=i->i < n->B i=false)->Q (some k) st) :
  wpS (model prog w) A E s (do
   let mut lo:=lo
   let mut hi:=hi
   for _ in [0:n] do
    if lo ≥ hi then break
    let m:=lo+(hi - lo) / 2
    let some more ← f m | return none
    if more then lo:=m+1 else hi:=m
   return some hi) Q st:=by
 refine zH (wT (xK (I:=λ x c st'=>st'=st/\∃ lo hi,c=(none,lo,hi)/\lo<=hi/\hi<=n/\hi - lo+x<=n/\(∀ i,i < lo->B i=true)/\∀ i,hi<=i->i < n->B i=false)
  (Q:=λ c st'=>st'=st/\∃ k,c=(none,k,k)/\k<=n/\(∀ i,i < k->B i=true)/\∀ i,k<=i->i < n->B i=false) ?_ ?_ ⟨rfl,lo,hi,rfl,hlh,hn,⋯,h1,h2⟩) ?_)
 ·rintro x c st' _ hx ⟨rfl,lo,hi,rfl,a1,a2,a3,a4,a5⟩;dsimp only
  by_cases hl:lo ≥ hi
  ·rw [if_pos hl];exact zJ ⟨rfl,hi,by rw [show lo=hi by omega],a2,λ i hi'=>a4 i ⋯,a5⟩
  ·rw [if_neg hl];refine zH (ask _ _ ⋯ ?_);dsimp only;cases hb:B (lo+(hi - lo) / 2) with
   | true =>
    rw [if_pos rfl];refine zJ ⟨rfl,_,_,rfl,⋯,a2,⋯,λ i hi'=>?_,a5⟩;exact mono i _ ⋯ ⋯ hb
   | false =>
    rw [if_neg (by simp)];refine zJ ⟨rfl,_,_,rfl,⋯,⋯,⋯,a4,λ i hi' hin=>?_⟩;cases hbi:B i with
    | false=>rfl
    | true=>rw [mono _ i hi' hin hbi] at hb; cases hb
 ·rintro c st' ⟨rfl,lo,hi,rfl,a1,a2,a3,a4,a5⟩;have:lo=hi:=⋯
  subst this;exact ⟨rfl,lo,rfl,a2,a4,a5⟩
 ·rintro c st' ⟨rfl,k,rfl,a2,a4,a5⟩;exact zJ (h k a2 a4 a5)
theorem dR (hC:Cmp prog w A s κ kd) {st:SortSt} {left:Bool} {key:Keyed} {arr:Array Keyed} {base n hint:Nat} {B:Nat->Bool} {Q:Option Nat->SortSt->Prop} (hk:kindOf st=kd) (hg:Gd κ key) (hn:hint < n)
  (hB:∀ i,i < n->∃ p,arr[base+i]?=some p/\Gd κ p/\bey κ left key p=B i) (mono:∀ i j,i<=j->j < n->B j=true->B i=true)
  (h:∀ k,k<=n->(∀ i,i < k->B i=true)->(∀ i,k<=i->i < n->B i=false)->Q (some k) st):wpS (model prog w) A E s (jB left key arr base n hint) Q st:=by
 have ask:∀ (i:Nat) (R:Option Bool->SortSt->Prop),i < n->R (some (B i)) st->wpS (model prog w) A E s (gU left key arr base i) R st:=λ i R hi r=>by
  obtain ⟨p,e1,e2,e3⟩:=hB i hi;exact Sz hC hk hg e1 e2 (by rw [e3]; exact r)
 rw [Ra];refine zH (ask hint _ hn ?_);dsimp only;cases hh:B hint with
 | true =>
  rw [if_pos rfl];refine zH (wT (xK (I:=λ x c st'=>st'=st/\∃ lo ofs,c=(none,lo,ofs)/\x+1<=ofs/\lo < ofs/\hint+lo < n/\B (hint+lo)=true)
   (Q:=λ c st'=>st'=st/\∃ lo ofs,c=(none,lo,ofs)/\lo < ofs/\hint+lo < n/\B (hint+lo)=true/\(n - hint<=ofs\/(hint+ofs < n/\B (hint+ofs)=false))) ?_ ?_ ⟨rfl,0,1,rfl,zF _,⋯,hn,hh⟩) ?_)
  ·rintro x c st' _ hx ⟨rfl,lo,ofs,rfl,a1,a2,a3,a4⟩;dsimp only
   by_cases hl:ofs ≥ n - hint
   ·rw [if_pos hl];exact zJ ⟨rfl,lo,ofs,rfl,a2,a3,a4,.inl hl⟩
   ·rw [if_neg hl];refine zH (ask _ _ ⋯ ?_);dsimp only;cases hb:B (hint+ofs) with
    | true =>
     rw [if_neg (by simp)];exact zJ ⟨rfl,_,_,rfl,⋯,⋯,⋯,hb⟩
    | false =>
     rw [if_pos ∅];exact zJ ⟨rfl,lo,ofs,rfl,a2,a3,a4,.inr ⟨⋯,hb⟩⟩
  ·rintro c st' ⟨rfl,lo,ofs,rfl,a1,a2,a3,a4⟩;exact ⟨rfl,lo,ofs,rfl,a2,a3,a4,.inl ⋯⟩
  ·rintro c st' ⟨rfl,lo,ofs,rfl,a2,a3,a4,a5⟩;dsimp only;refine Iv (lo:=hint+lo+1) (hi:=hint+min ofs (n - hint)) ask ⋯ ⋯ mono (λ i hi=>mono i _ ⋯ a3 a4) (λ i hi hin=>?_) h;rcases a5 with a5 | ⟨a5,a6⟩
   ·omega
   ·cases hbi:B i with
    | false=>rfl
    | true=>rw [mono _ i ⋯ hin hbi] at a6; cases a6
 | false =>
  rw [if_neg (by simp)];refine zH (wT (xK (I:=λ x c st'=>st'=st/\∃ lo ofs,c=(none,lo,ofs)/\x+1<=ofs/\lo < ofs/\lo<=hint/\B (hint - lo)=false)
   (Q:=λ c st'=>st'=st/\∃ lo ofs,c=(none,lo,ofs)/\lo < ofs/\lo<=hint/\B (hint - lo)=false/\(hint+1<=ofs\/(ofs<=hint/\B (hint - ofs)=true))) ?_ ?_ ⟨rfl,0,1,rfl,zF _,⋯,yY _,hh⟩) ?_)
  ·rintro x c st' _ hx ⟨rfl,lo,ofs,rfl,a1,a2,a3,a4⟩;dsimp only
   by_cases hl:ofs ≥ hint+1
   ·rw [if_pos hl];exact zJ ⟨rfl,lo,ofs,rfl,a2,a3,a4,.inl hl⟩
   ·rw [if_neg hl];refine zH (ask _ _ ⋯ ?_);dsimp only;cases hb:B (hint - ofs) with
    | true =>
     rw [if_pos rfl];exact zJ ⟨rfl,lo,ofs,rfl,a2,a3,a4,.inr ⟨⋯,hb⟩⟩
    | false =>
     rw [if_neg (by simp)];exact zJ ⟨rfl,_,_,rfl,⋯,⋯,⋯,hb⟩
  ·rintro c st' ⟨rfl,lo,ofs,rfl,a1,a2,a3,a4⟩;exact ⟨rfl,lo,ofs,rfl,a2,a3,a4,.inl ⋯⟩
  ·rintro c st' ⟨rfl,lo,ofs,rfl,a2,a3,a4,a5⟩;dsimp only;refine Iv (lo:=hint+1 - min ofs (hint+1)) (hi:=hint - lo) ask ⋯ ⋯ mono (λ i hi=>?_) (λ i hi hin=>?_) h
   ·rcases a5 with a5 | ⟨a5,a6⟩
    ·omega
    ·exact mono i _ ⋯ ⋯ a6
   ·cases hbi:B i with
    | false=>rfl
    | true=>rw [mono _ i ⋯ hin hbi] at a4; cases a4
end
section
variable {κ:PyProof.Rows.KeyKind}
def le' (κ:PyProof.Rows.KeyKind) (x y:Keyed):Prop:=lq κ y x=false
theorem lL {x y z:Keyed} (h1:le' κ x y) (h2:le' κ y z):le' κ x z:=KeyOrd.kle_trans (O:=κ.toKeyOrd) h1 h2
theorem lW {x y:Keyed} (h:lq κ x y=true):le' κ x y:=KeyOrd.klt_asymm (O:=κ.toKeyOrd) h
theorem iP (x:Keyed):le' κ x x:=κ.irrefl _
abbrev Srt (κ:PyProof.Rows.KeyKind) (l:List Keyed):Prop:=l.Pairwise (le' κ)
structure MI (κ:PyProof.Rows.KeyKind) (A B out:List Keyed) (ia ib:Nat):Prop where
 pm:out.Perm (A.take ia++B.take ib)
 so:Srt κ out
 oa:∀ x∈out,∀ y∈A.drop ia,le' κ x y
 ob:∀ x∈out,∀ y∈B.drop ib,le' κ x y
theorem MI.symm {A B out:List Keyed} {ia ib:Nat} (h:MI κ A B out ia ib):MI κ B A out ib ia:=⟨h.pm.trans vX,h.so,h.ob,h.oa⟩
theorem Sy {A:List Keyed} {i k:Nat}:A.take (i+k)=A.take i++(A.drop i).take k:=by rw [qB]
theorem MI.ext {A B out:List Keyed} {ia ib k:Nat} (h:MI κ A B out ia ib) (sA:Srt κ A) (hx:∀ x∈(A.drop ia).take k,∀ y∈B.drop ib,le' κ x y):MI κ A B (out++(A.drop ia).take k) (ia+k) ib:=by
 have sd:Srt κ (A.drop ia):=uQ (sH _ _) sA;have cut:(A.drop ia).take k++A.drop (ia+k)=A.drop ia:=by rw [← pI]; exact xX _ _
 have sp:=xF.mp (show Srt κ ((A.drop ia).take k++A.drop (ia+k)) by rw [cut]; exact sd);refine ⟨?_,xF.mpr ⟨h.so,sp.1,λ x hx' y hy=>h.oa x hx' y (rR hy)⟩,λ x hx' y hy=>?_,λ x hx' y hy=>?_⟩
 ·rw [Sy,yP];refine (h.pm.append_right _).trans ?_;rw [yP];exact rJ _ vX
 ·rcases xB.mp hx' with q | q
  ·exact h.oa x q y (by rw [← cut]; exact yM _ hy)
  ·exact sp.2.2 x q y hy
 ·rcases xB.mp hx' with q | q
  ·exact h.ob x q y hy
  ·exact hx x q y hy
theorem bW {A:List Keyed} {i:Nat} {p:Keyed} (e:A[i]?=some p):A.drop i=p :: A.drop (i+1):=by
 obtain ⟨h,rfl⟩:=zR.mp e;exact tY h
theorem MI.push {A B out:List Keyed} {ia ib:Nat} {p:Keyed} (h:MI κ A B out ia ib) (sA:Srt κ A) (e:A[ia]?=some p) (hx:∀ y∈B.drop ib,le' κ p y):MI κ A B (out++[p]) (ia+1) ib:=by
 have:=MI.ext (k:=1) h sA (λ x hx' y hy=>by
  rw [bW e] at hx';have hxp:x=p:=by simpa using hx'
  rw [hxp];exact hx y hy)
 rw [bW e] at this;simpa using this
theorem fK {A:List Keyed} {i:Nat} {p q:Keyed} (sA:Srt κ A) (e:A[i]?=some q) (h:le' κ p q):∀ y∈A.drop i,le' κ p y:=λ y hy=>by
 have sd:Srt κ (A.drop i):=uQ (sH _ _) sA;rw [bW e] at hy sd;rcases zL.mp hy with e' | hy
 ·rw [e']; exact h
 ·exact lL h ((tR.mp sd).1 y hy)
def Res (κ:PyProof.Rows.KeyKind) (A B r:List Keyed):Prop:=r.Perm (A++B)/\Srt κ r
theorem MI.all {A B out:List Keyed} {ia ib:Nat} (h:MI κ A B out ia ib) (sA:Srt κ A) (hb:B.length<=ib):Res κ A B (out++A.drop ia):=by
 refine ⟨?_,xF.mpr ⟨h.so,uQ (sH _ _) sA,h.oa⟩⟩;have:=h.pm;rw [wP hb] at this;refine (this.append_right _).trans ?_;rw [yP];refine (rJ _ vX).trans ?_;rw [← yP,xX]
theorem Res.symm {A B r:List Keyed} (h:Res κ A B r):Res κ B A r:=⟨h.1.trans vX,h.2⟩
theorem MI.last {A B out:List Keyed} {ia ib:Nat} {p:Keyed} (h:MI κ A B out ia ib) (sB:Srt κ B) (e:A[ia]?=some p) (hl:ia+1=A.length) (hx:∀ y∈B,le' κ y p):Res κ A B (out++B.drop ib++A.drop ia):=by
 have da:A.drop ia=[p]:=by rw [bW e,rB ⋯]
 rw [da];refine ⟨?_,xF.mpr ⟨xF.mpr ⟨h.so,uQ (sH _ _) sB,h.ob⟩,List.pairwise_singleton _ _,λ x hx' y hy=>?_⟩⟩
 ·have t:A=A.take ia++[p]:=by rw [← da,xX]
  have:=(h.pm.append_right (B.drop ib)).append_right [p];refine this.trans ?_;rw [yP (A.take ia),xX,yP]
  conv=>rhs; rw [t]
  rw [yP];exact rJ _ vX
 ·rw [yF.mp hy];rcases xB.mp hx' with q | q
  ·exact h.oa x q p (by rw [da]; exact List.mem_singleton_self _)
  ·exact hx x (List.mem_of_mem_drop q)
theorem Be (a:Array Keyed) (i j:Nat):(a.extract i (i+j)).toList=(a.toList.drop i).take j:=by simp [Array.toList_extract,List.extract_eq_take_drop]
theorem fL (a:Array Keyed) (i:Nat):(a.extract i a.size).toList=a.toList.drop i:=by
 simp only [Array.toList_extract,List.extract_eq_take_drop];exact wP (by rw [uS,zN]; exact zF _)
end
section
variable {prog:Program} {w:World} {A:Around} {E:VP} {s:Shared} {κ:PyProof.Rows.KeyKind} {kd:SortKind}
structure MG (κ:PyProof.Rows.KeyKind) (a b:Array Keyed):Prop where
 sa:Srt κ a.toList
 sb:Srt κ b.toList
 ga:∀ p∈a.toList,Gd κ p
 gb:∀ p∈b.toList,Gd κ p
 na:1<=a.size
 nb:1<=b.size
 top:∀ p,a[a.size - 1]?=some p->∀ y∈b.toList,le' κ y p
 fst:∀ p q,b[0]?=some p->a[0]?=some q->le' κ p q
structure Sm (st st':SortSt):Prop where
 k:kindOf st'=kindOf st
 a:arrOf st'=arrOf st
 p:pendingOf st'=pendingOf st
 f:failedOf st'=failedOf st
theorem Sm.refl (st:SortSt):Sm st st:=⟨rfl,rfl,rfl,rfl⟩
theorem Sm.set {st st':SortSt} (h:Sm st st') (g:Nat):Sm st (SortSt.mk' (kindOf st') (arrOf st') (pendingOf st') g (failedOf st')):=⟨h.k,h.a,h.p,h.f⟩
theorem nF {a:Array Keyed} {i:Nat} {p:Keyed}:a[i]?=some p ↔ a.toList[i]?=some p:=by rw [yW]
theorem lA {a:Array Keyed} {i:Nat} (h:i < a.size):∃ p,a[i]?=some p:=⟨a[i],Array.getElem?_eq_getElem h⟩
theorem kB {st:SortSt} {arr:Array Keyed} {i:Nat} {Q:Keyed->SortSt->Prop} (hi:i < arr.size) (h:∀ p,arr[i]?=some p->Q p st):wpS (model prog w) A E s (elem' arr i) Q st:=by
 obtain ⟨p,e⟩:=lA hi;exact lV e (h p e)
theorem gD {l:List Keyed} (hs:Srt κ l) {i j:Nat} {p q:Keyed} (h:i<=j) (e1:l[i]?=some p) (e2:l[j]?=some q):le' κ p q:=by
 rcases uJ i j with h' | h'
 ·obtain ⟨h1,rfl⟩:=zR.mp e1;obtain ⟨h2,rfl⟩:=zR.mp e2;exact wY.mp hs i j h1 h2 h'
 ·have:i=j:=⋯
  subst this;rw [e1] at e2;cases e2;exact iP _
theorem Bd {l:List Keyed} {i:Nat} {x:Keyed} (h:x∈l.drop i):∃ j,i<=j/\l[j]?=some x:=by
 obtain ⟨j,hj,rfl⟩:=xV h;exact ⟨i+j,⋯,by rw [← tS]; exact xO hj⟩
theorem fM {l:List Keyed} {i k:Nat} {x:Keyed} (h:x∈(l.drop i).take k):∃ j,j < k/\l[i+j]?=some x:=by
 obtain ⟨j,hj,rfl⟩:=xV h;rw [xA] at hj;refine ⟨j,⋯,?_⟩;rw [← tS,List.getElem_take];exact xO ⋯
theorem Sx (hC:Cmp prog w A s κ kd) {st:SortSt} {a:Array Keyed} {ia:Nat} {p:Keyed} {Q:Option Nat->SortSt->Prop} (hk:kindOf st=kd) (sa:Srt κ a.toList) (ga:∀ x∈a.toList,Gd κ x) (gp:Gd κ p) (hia:ia < a.size)
  (h:∀ k,ia+k<=a.size->(∀ x∈(a.toList.drop ia).take k,le' κ x p)->(∀ y∈a.toList.drop (ia+k),lq κ p y=true)->Q (some k) st):wpS (model prog w) A E s (jB false p a ia (a.size - ia) 0) Q st:=by
 refine dR hC (B:=λ i=>!lq κ p (a.getD (ia+i) p)) hk gp ⋯ (λ i hi=>?_) (λ i j hij hj hb=>?_) λ k hkn h1 h2=>h k ⋯ (λ x hx=>?_) λ y hy=>?_
 ·obtain ⟨q,e⟩:=lA (a:=a) (i:=ia+i) ⋯;refine ⟨q,e,ga q (yD (nF.mp e)),?_⟩;rw [show a.getD (ia+i) p=q by simp [Array.getD_eq_getD_getElem?,e]];rfl
 ·obtain ⟨q,e⟩:=lA (a:=a) (i:=ia+i) ⋯;obtain ⟨r,e'⟩:=lA (a:=a) (i:=ia+j) ⋯;rw [show a.getD (ia+j) p=r by simp [Array.getD_eq_getD_getElem?,e']] at hb;rw [show a.getD (ia+i) p=q by simp [Array.getD_eq_getD_getElem?,e]];have l1:le' κ r p:=by unfold le'; simpa using hb
  have:=lL (gD sa (show ia+i<=ia+j by omega) (nF.mp e) (nF.mp e')) l1;unfold le' at this;rw [this];rfl
 ·obtain ⟨j,hj,e⟩:=fM hx;have:=h1 j hj;rw [show a.getD (ia+j) p=x by simp [Array.getD_eq_getD_getElem?,nF.mpr e]] at this;unfold le';simpa using this
 ·obtain ⟨j,hj,e⟩:=Bd hy;have hjl:=(zR.mp e).1;rw [zN] at hjl;have:=h2 (j - ia) ⋯ ⋯;rw [show ia+(j - ia)=j by omega,show a.getD j p=y by simp [Array.getD_eq_getD_getElem?,nF.mpr e]] at this;simpa using this
theorem bX (hC:Cmp prog w A s κ kd) {st:SortSt} {b:Array Keyed} {ib hint:Nat} {q:Keyed} {n:Nat} {Q:Option Nat->SortSt->Prop} (hk:kindOf st=kd) (sb:Srt κ b.toList) (gb:∀ x∈b.toList,Gd κ x) (gq:Gd κ q) (hn:ib+n<=b.size) (hh:hint < n)
  (h:∀ k,k<=n->(∀ i x,i < k->b[ib+i]?=some x->lq κ x q=true)->(∀ i x,k<=i->i < n->b[ib+i]?=some x->le' κ q x)->Q (some k) st):wpS (model prog w) A E s (jB true q b ib n hint) Q st:=by
 refine dR hC (B:=λ i=>lq κ (b.getD (ib+i) q) q) hk gq hh (λ i hi=>?_) (λ i j hij hj hb=>?_) λ k hkn h1 h2=>h k hkn (λ i x hi e=>?_) λ i x hi hin e=>?_
 ·obtain ⟨p,e⟩:=lA (a:=b) (i:=ib+i) ⋯;refine ⟨p,e,gb p (yD (nF.mp e)),?_⟩;rw [show b.getD (ib+i) q=p by simp [Array.getD_eq_getD_getElem?,e]];rfl
 ·obtain ⟨p,e⟩:=lA (a:=b) (i:=ib+i) ⋯;obtain ⟨r,e'⟩:=lA (a:=b) (i:=ib+j) ⋯;rw [show b.getD (ib+j) q=r by simp [Array.getD_eq_getD_getElem?,e']] at hb;rw [show b.getD (ib+i) q=p by simp [Array.getD_eq_getD_getElem?,e]];exact KeyOrd.klt_of_kle_of_klt (O:=κ.toKeyOrd) (gD sb (show ib+i<=ib+j by omega) (nF.mp e) (nF.mp e')) hb
 ·have:=h1 i hi;rw [show b.getD (ib+i) q=x by simp [Array.getD_eq_getD_getElem?,e]] at this;exact this
 ·have:=h2 i hi hin;rw [show b.getD (ib+i) q=x by simp [Array.getD_eq_getD_getElem?,e]] at this;exact this
end
noncomputable def Bc:Array Keyed->Array Keyed->StateT SortSt Sem (Array Keyed):=sortPriv% PySem.Builtin.mergeLo
noncomputable def dW:Nat->StateT SortSt Sem Unit:=sortPriv% PySem.Builtin.setMinGallop
theorem Sw (a b:Array Keyed):Bc a b=(do
 rule "list.sort.merge-lo"
 let total:=a.size+b.size
 let done (out:Array Keyed) (ia ib:Nat):=out++a.extract ia a.size++b.extract ib b.size
 let lastOfA (out:Array Keyed) (ia ib:Nat):=out++b.extract ib b.size++a.extract ia a.size
 let mut out:Array Keyed:=#[← elem' b 0]
 let mut ia:=0
 let mut ib:=1
 if ib == b.size then return done out ia ib
 if ia+1 == a.size then return lastOfA out ia ib
 let mut minGallop:=gallopOf (← get)
 for _ in [0:total] do
  let mut acount:=0
  let mut bcount:=0
  for _ in [0:total] do
   let some bWins ← lt' (← elem' b ib) (← elem' a ia) | return done out ia ib
   if bWins then
    out:=out.push (← elem' b ib); ib:=ib+1; bcount:=bcount+1; acount:=0
    if ib == b.size then return done out ia ib
    if bcount ≥ minGallop then break
   else
    out:=out.push (← elem' a ia); ia:=ia+1; acount:=acount+1; bcount:=0
    if ia+1 == a.size then return lastOfA out ia ib
    if acount ≥ minGallop then break
  rule "list.sort.gallop"
  minGallop:=minGallop+1
  for _ in [0:total] do
   if minGallop > 1 then minGallop:=minGallop - 1
   dW minGallop
   let some k ← jB false (← elem' b ib) a ia (a.size - ia) 0 | return done out ia ib
   acount:=k
   if k > 0 then
    out:=out++a.extract ia (ia+k); ia:=ia+k
    if ia+1 == a.size then return lastOfA out ia ib
    if ia == a.size then return done out ia ib
   out:=out.push (← elem' b ib); ib:=ib+1
   if ib == b.size then return done out ia ib
   let some k ← jB true (← elem' a ia) b ib (b.size - ib) 0 | return done out ia ib
   bcount:=k
   if k > 0 then
    out:=out++b.extract ib (ib+k); ib:=ib+k
    if ib == b.size then return done out ia ib
   out:=out.push (← elem' a ia); ia:=ia+1
   if ia+1 == a.size then return lastOfA out ia ib
   if acount < 7 && bcount < 7 then break
  minGallop:=minGallop+1
  dW minGallop
 unsupported "internal:list.sort.merge-bound"):=rfl
theorem bY (g:Nat):dW g=modify λ s=>SortSt.mk' (kindOf s) (arrOf s) (pendingOf s) g (failedOf s):=rfl
section
variable {prog:Program} {w:World} {A:Around} {E:VP} {s:Shared} {κ:PyProof.Rows.KeyKind} {kd:SortKind}
theorem fN {a b out:Array Keyed} {ia ib:Nat} (G:MG κ a b) (h:MI κ a.toList b.toList out.toList ia ib) (hb:b.size<=ib):Res κ a.toList b.toList (out++a.extract ia a.size++b.extract ib b.size).toList:=by
 rw [yJ,yJ,fL,fL,rB (as:=b.toList) (by rw [zN]; exact hb),vV];exact h.all G.sa (by rw [zN]; exact hb)
theorem Sv {a b out:Array Keyed} {ia ib:Nat} (G:MG κ a b) (h:MI κ a.toList b.toList out.toList ia ib) (ha:a.size<=ia):Res κ a.toList b.toList (out++a.extract ia a.size++b.extract ib b.size).toList:=by
 rw [yJ,yJ,fL,fL,rB (as:=a.toList) (by rw [zN]; exact ha),vV];exact (h.symm.all G.sb (by rw [zN]; exact ha)).symm
theorem gW {a b out:Array Keyed} {ia ib:Nat} (G:MG κ a b) (h:MI κ a.toList b.toList out.toList ia ib) (ha:ia+1=a.size):Res κ a.toList b.toList (out++b.extract ib b.size++a.extract ia a.size).toList:=by
 rw [yJ,yJ,fL,fL];obtain ⟨p,e⟩:=lA (a:=a) (i:=ia) ⋯;exact h.last G.sb (nF.mp e) (by rw [zN]; exact ha) (G.top p (by rw [show a.size - 1=ia by omega]; exact e))
theorem bZ {a b out:Array Keyed} {ia ib:Nat} {p:Keyed} (G:MG κ a b) (h:MI κ a.toList b.toList out.toList ia ib) (e:b[ib]?=some p) (hx:∀ y∈a.toList.drop ia,le' κ p y):MI κ a.toList b.toList (out.push p).toList ia (ib+1):=by
 rw [uM];exact (h.symm.push G.sb (nF.mp e) hx).symm
theorem dX {a b out:Array Keyed} {ia ib:Nat} {p:Keyed} (G:MG κ a b) (h:MI κ a.toList b.toList out.toList ia ib) (e:a[ia]?=some p) (hx:∀ y∈b.toList.drop ib,le' κ p y):MI κ a.toList b.toList (out.push p).toList (ia+1) ib:=by
 rw [uM];exact h.push G.sa (nF.mp e) hx
theorem Su {a b out:Array Keyed} {ia ib k:Nat} {p:Keyed} (G:MG κ a b) (h:MI κ a.toList b.toList out.toList ia ib) (e:b[ib]?=some p) (hx:∀ x∈(a.toList.drop ia).take k,le' κ x p):MI κ a.toList b.toList (out++a.extract ia (ia+k)).toList (ia+k) ib:=by
 rw [yJ,Be];exact h.ext G.sa λ x hx' y hy=>lL (hx x hx') (fK G.sb (nF.mp e) (iP p) y hy)
theorem Iu {a b out:Array Keyed} {ia ib k:Nat} {p:Keyed} (G:MG κ a b) (h:MI κ a.toList b.toList out.toList ia ib) (e:a[ia]?=some p) (hx:∀ x∈(b.toList.drop ib).take k,le' κ x p):MI κ a.toList b.toList (out++b.extract ib (ib+k)).toList ia (ib+k):=by
 rw [yJ,Be];exact (h.symm.ext G.sb λ x hx' y hy=>lL (hx x hx') (fK G.sa (nF.mp e) (iP p) y hy)).symm
theorem Bb {a out:Array Keyed} {i:Nat}:out++a.extract i (i+0)=out:=by simp; omega
theorem nN {α:Type} {c:Prop} [Decidable c] {t e:StateT SortSt Sem α} {Q:α->SortSt->Prop} {st:SortSt} (h1:c->wpS (model prog w) A E s t Q st) (h2:¬ c->wpS (model prog w) A E s e Q st):wpS (model prog w) A E s (if c then t else e) Q st:=by
 by_cases h:c
 ·rw [if_pos h]; exact h1 h
 ·rw [if_neg h]; exact h2 h
theorem Is {α:Type} {c:Nat->Prop} [∀ m,Decidable (c m)] {t F:Nat->StateT SortSt Sem α} {Q:α->SortSt->Prop} {st:SortSt} (h:∀ m,wpS (model prog w) A E s (F m) Q st) (e:∀ m,F (m - 1)=t m) (m:Nat):wpS (model prog w) A E s (if c m then t m else F m) Q st:=nN (λ _=>by rw [← e]; exact h _) λ _=>h m
theorem Ss (hC:Cmp prog w A s κ kd) {st:SortSt} {a b:Array Keyed} {Q:Array Keyed->SortSt->Prop} (hk:kindOf st=kd) (G:MG κ a b)
  (h:∀ r st',Sm st st'->Res κ a.toList b.toList r.toList->Q r st'):wpS (model prog w) A E s (Bc a b) Q st:=by
 have na:=G.na;have nb:=G.nb;have gA:∀ i p,a[i]?=some p->Gd κ p:=λ i p e=>G.ga p (yD (nF.mp e));have gB:∀ i p,b[i]?=some p->Gd κ p:=λ i p e=>G.gb p (yD (nF.mp e));rw [Sw];refine zH (rK (wM ⟨rfl,?_⟩));refine zH (kB ⋯ λ p0 e0=>?_);dsimp only;obtain ⟨q0,f0⟩:=lA (a:=a) (i:=0) ⋯;have m0:MI κ a.toList b.toList (#[p0]:Array Keyed).toList 0 1:=by
  have:=bZ (out:=#[]) (ia:=0) (ib:=0) G ⟨by simp,List.Pairwise.nil,λ x hx=>by simp at hx,λ x hx=>by simp at hx⟩ e0 (fK G.sa (nF.mp f0) (G.fst p0 q0 e0 f0));simpa using this
 by_cases hb1:(1 == b.size)=true
 ·rw [if_pos hb1];exact zJ (h _ _ (Sm.refl _) (fN G m0 (by have:=yQ hb1; omega)))
 rw [if_neg hb1];have hb1':1≠b.size:=λ e=>hb1 (zY.mpr e)
 by_cases ha1:(0+1 == a.size)=true
 ·rw [if_pos ha1];exact zJ (h _ _ (Sm.refl _) (gW G m0 (by have:=yQ ha1; omega)))
 rw [if_neg ha1];have ha1':0+1≠a.size:=λ e=>ha1 (zY.mpr e);refine zH (uT ?_);refine zH (wT (xK (I:=λ x c st'=>Sm st st'/\∃ out ia ib mg,c=(none,out,ia,ib,mg)/\MI κ a.toList b.toList out.toList ia ib/\ia+1 < a.size/\ib < b.size/\x+1<=ia+ib)
  (Q:=λ c st'=>Sm st st'/\∃ r t,c=(some r,t)/\Res κ a.toList b.toList r.toList) ?_ ?_ ⟨Sm.refl _,_,_,_,_,rfl,m0,⋯,⋯,⋯⟩) ?_)
 ·rintro x c st1 _ hx ⟨sm,out,ia,ib,mg,rfl,mi,lia,lib,pr⟩;dsimp only;refine zH (wT (xK (I:=λ y c st'=>Sm st st'/\∃ out ia ib ac bc,c=(none,out,ia,ib,ac,bc)/\MI κ a.toList b.toList out.toList ia ib/\ia+1 < a.size/\ib < b.size/\x+1<=ia+ib/\(1<=y->x+2<=ia+ib))
   (Q:=λ c st'=>Sm st st'/\((∃ r t,c=(some r,t)/\Res κ a.toList b.toList r.toList)\/∃ out ia ib ac bc,c=(none,out,ia,ib,ac,bc)/\MI κ a.toList b.toList out.toList ia ib/\ia+1 < a.size/\ib < b.size/\x+2<=ia+ib)) ?_ ?_ ⟨sm,out,ia,ib,0,0,rfl,mi,lia,lib,pr,⋯⟩) ?_)
  ·rintro y c st2 _ hy ⟨sm,out,ia,ib,ac,bc,rfl,mi,lia,lib,pr,_⟩;dsimp only;refine zH (kB lib λ p e=>?_);refine zH (kB (show ia < a.size by omega) λ q f=>?_);refine zH (dQ hC (by rw [sm.k]; exact hk) (gB _ _ e) (gA _ _ f) ?_);dsimp only;cases hl:lq κ p q with
   | true =>
    rw [if_pos rfl];have mi':=bZ G mi e (fK G.sa (nF.mp f) (lW hl));refine zH (lV e ?_)
    by_cases hz:(ib+1 == b.size)=true
    ·rw [if_pos hz];exact zJ ⟨sm,.inl ⟨_,_,rfl,fN G mi' (by have:=yQ hz; omega)⟩⟩
    rw [if_neg hz];have hz':ib+1≠b.size:=λ e=>hz (zY.mpr e);split
    ·exact zJ ⟨sm,.inr ⟨_,_,_,_,_,rfl,mi',lia,⋯,⋯⟩⟩
    ·exact zJ ⟨sm,_,_,_,_,_,rfl,mi',lia,⋯,⋯,⋯⟩
   | false =>
    rw [if_neg (by simp)];have mi':=dX G mi f (fK G.sb (nF.mp e) hl);refine zH (lV f ?_)
    by_cases hz:(ia+1+1 == a.size)=true
    ·rw [if_pos hz];exact zJ ⟨sm,.inl ⟨_,_,rfl,gW G mi' (by have:=yQ hz; omega)⟩⟩
    rw [if_neg hz];have hz':ia+1+1≠a.size:=λ e=>hz (zY.mpr e);split
    ·exact zJ ⟨sm,.inr ⟨_,_,_,_,_,rfl,mi',⋯,lib,⋯⟩⟩
    ·exact zJ ⟨sm,_,_,_,_,_,rfl,mi',⋯,lib,⋯,⋯⟩
  ·rintro c st2 ⟨sm,out,ia,ib,ac,bc,rfl,mi,lia,lib,pr,pr2⟩;exact ⟨sm,.inr ⟨_,_,_,_,_,rfl,mi,lia,lib,pr2 ⋯⟩⟩
  ·rintro c st2 ⟨sm,⟨r,t,rfl,res⟩ | ⟨out,ia,ib,ac,bc,rfl,mi,lia,lib,pr⟩⟩
   ·exact zJ ⟨sm,_,_,rfl,res⟩
   dsimp only;refine zH (rK (wM ⟨rfl,?_⟩));refine zH (wT (xK (I:=λ y c st'=>Sm st st'/\∃ out ia ib mg ac bc,c=(none,out,ia,ib,mg,ac,bc)/\MI κ a.toList b.toList out.toList ia ib/\ia+1 < a.size/\ib < b.size/\x+2<=ia+ib)
    (Q:=λ c st'=>Sm st st'/\((∃ r t,c=(some r,t)/\Res κ a.toList b.toList r.toList)\/∃ out ia ib mg ac bc,c=(none,out,ia,ib,mg,ac,bc)/\MI κ a.toList b.toList out.toList ia ib/\ia+1 < a.size/\ib < b.size/\x+2<=ia+ib)) ?_ ?_ ⟨sm,_,_,_,_,_,_,rfl,mi,lia,lib,pr⟩) ?_)
   ·rintro y c st3 _ hy ⟨sm,out,ia,ib,mg,ac,bc,rfl,mi,lia,lib,pr⟩;dsimp only
    revert mg
    refine Is (λ mg=>?_) λ _=>rfl;rw [bY];refine zH (wU ?_);refine zH (kB (arr:=b) lib λ p e=>?_);refine zH (Sx hC (show kindOf _=kd from sm.k.trans hk) G.sa G.ga (gB _ _ e) (show ia < a.size by omega) λ k hk1 hk2 hk3=>?_);have mk:=Su G mi e hk2;dsimp only;refine nN (λ hkp=>?_) λ hkp=>?_
    ·refine nN (λ z=>?_) λ z=>?_
     ·exact zJ ⟨sm.set _,.inl ⟨_,_,rfl,gW G mk (yQ z)⟩⟩
     have z':ia+k+1≠a.size:=λ e=>z (zY.mpr e);refine nN (λ y=>?_) λ y=>?_
     ·exact zJ ⟨sm.set _,.inl ⟨_,_,rfl,Sv G mk (by have:=yQ y; omega)⟩⟩
     have y':ia+k≠a.size:=λ e=>y (zY.mpr e);have mp:=bZ G mk e λ y hy=>lW (hk3 y hy);refine zH (lV e ?_);refine nN (λ z=>?_) λ z=>?_
     ·exact zJ ⟨sm.set _,.inl ⟨_,_,rfl,fN G mp (by have:=yQ z; omega)⟩⟩
     have zb:ib+1≠b.size:=λ e=>z (zY.mpr e);refine zH (kB (arr:=a) (i:=(ia+k)) ⋯ λ q f=>?_);refine zH (bX hC (show kindOf _=kd from sm.k.trans hk) G.sb G.gb (gA _ _ f) (show ib+1+(b.size - (ib+1))<=b.size by omega) ⋯ λ k2 j1 j2 j3=>?_);have mq:=Iu (k:=k2) G mp f λ x hx=>by
      obtain ⟨j,hj,ej⟩:=fM hx;exact lW (j2 j x hj (nF.mpr ej))
     have nx:∀ y∈b.toList.drop (ib+1+k2),le' κ q y:=λ y hy=>by
      obtain ⟨j,hj,ej⟩:=Bd hy;have hjl:=(zR.mp ej).1;rw [zN] at hjl;exact j3 (j - (ib+1)) y ⋯ ⋯ (by rw [show ib+1+(j - (ib+1))=j by omega]; exact nF.mpr ej)
     dsimp only;refine nN (λ hkq=>?_) λ hkq=>?_
     ·refine nN (λ z=>?_) λ z=>?_
      ·exact zJ ⟨sm.set _,.inl ⟨_,_,rfl,fN G mq (by have:=yQ z; omega)⟩⟩
      have zc:ib+1+k2≠b.size:=λ e=>z (zY.mpr e);have mr:=dX G mq f nx;refine zH (lV f ?_);refine nN (λ z=>?_) λ z=>?_
      ·exact zJ ⟨sm.set _,.inl ⟨_,_,rfl,gW G mr (yQ z)⟩⟩
      have zd:(ia+k)+1+1≠a.size:=λ e=>z (zY.mpr e);refine nN (λ _=>?_) λ _=>?_
      ·exact zJ ⟨sm.set _,.inr ⟨_,_,_,_,_,_,rfl,mr,⋯,⋯,⋯⟩⟩
      ·exact zJ ⟨sm.set _,_,_,_,_,_,_,rfl,mr,⋯,⋯,⋯⟩
     ·have k20:k2=0:=⋯
      subst k20;rw [Bb] at mq;simp only [Nat.add_zero] at mq nx;have mr:=dX G mq f nx;refine zH (lV f ?_);refine nN (λ z=>?_) λ z=>?_
      ·exact zJ ⟨sm.set _,.inl ⟨_,_,rfl,gW G mr (yQ z)⟩⟩
      have zd:(ia+k)+1+1≠a.size:=λ e=>z (zY.mpr e);refine nN (λ _=>?_) λ _=>?_
      ·exact zJ ⟨sm.set _,.inr ⟨_,_,_,_,_,_,rfl,mr,⋯,⋯,⋯⟩⟩
      ·exact zJ ⟨sm.set _,_,_,_,_,_,_,rfl,mr,⋯,⋯,⋯⟩
    ·have k0:k=0:=⋯
     subst k0;rw [Bb] at mk;simp only [Nat.add_zero] at mk hk3;have mp:=bZ G mk e λ y hy=>lW (hk3 y hy);refine zH (lV e ?_);refine nN (λ z=>?_) λ z=>?_
     ·exact zJ ⟨sm.set _,.inl ⟨_,_,rfl,fN G mp (by have:=yQ z; omega)⟩⟩
     have zb:ib+1≠b.size:=λ e=>z (zY.mpr e);refine zH (kB (arr:=a) (i:=ia) ⋯ λ q f=>?_);refine zH (bX hC (show kindOf _=kd from sm.k.trans hk) G.sb G.gb (gA _ _ f) (show ib+1+(b.size - (ib+1))<=b.size by omega) ⋯ λ k2 j1 j2 j3=>?_);have mq:=Iu (k:=k2) G mp f λ x hx=>by
      obtain ⟨j,hj,ej⟩:=fM hx;exact lW (j2 j x hj (nF.mpr ej))
     have nx:∀ y∈b.toList.drop (ib+1+k2),le' κ q y:=λ y hy=>by
      obtain ⟨j,hj,ej⟩:=Bd hy;have hjl:=(zR.mp ej).1;rw [zN] at hjl;exact j3 (j - (ib+1)) y ⋯ ⋯ (by rw [show ib+1+(j - (ib+1))=j by omega]; exact nF.mpr ej)
     dsimp only;refine nN (λ hkq=>?_) λ hkq=>?_
     ·refine nN (λ z=>?_) λ z=>?_
      ·exact zJ ⟨sm.set _,.inl ⟨_,_,rfl,fN G mq (by have:=yQ z; omega)⟩⟩
      have zc:ib+1+k2≠b.size:=λ e=>z (zY.mpr e);have mr:=dX G mq f nx;refine zH (lV f ?_);refine nN (λ z=>?_) λ z=>?_
      ·exact zJ ⟨sm.set _,.inl ⟨_,_,rfl,gW G mr (yQ z)⟩⟩
      have zd:ia+1+1≠a.size:=λ e=>z (zY.mpr e);refine nN (λ _=>?_) λ _=>?_
      ·exact zJ ⟨sm.set _,.inr ⟨_,_,_,_,_,_,rfl,mr,⋯,⋯,⋯⟩⟩
      ·exact zJ ⟨sm.set _,_,_,_,_,_,_,rfl,mr,⋯,⋯,⋯⟩
     ·have k20:k2=0:=⋯
      subst k20;rw [Bb] at mq;simp only [Nat.add_zero] at mq nx;have mr:=dX G mq f nx;refine zH (lV f ?_);refine nN (λ z=>?_) λ z=>?_
      ·exact zJ ⟨sm.set _,.inl ⟨_,_,rfl,gW G mr (yQ z)⟩⟩
      have zd:ia+1+1≠a.size:=λ e=>z (zY.mpr e);refine nN (λ _=>?_) λ _=>?_
      ·exact zJ ⟨sm.set _,.inr ⟨_,_,_,_,_,_,rfl,mr,⋯,⋯,⋯⟩⟩
      ·exact zJ ⟨sm.set _,_,_,_,_,_,_,rfl,mr,⋯,⋯,⋯⟩
   ·rintro c st3 ⟨sm,out,ia,ib,mg,ac,bc,rfl,mi,lia,lib,pr⟩;exact ⟨sm,.inr ⟨_,_,_,_,_,_,rfl,mi,lia,lib,pr⟩⟩
   ·rintro c st3 ⟨sm,⟨r,t,rfl,res⟩ | ⟨out,ia,ib,mg,ac,bc,rfl,mi,lia,lib,pr⟩⟩
    ·exact zJ ⟨sm,_,_,rfl,res⟩
    dsimp only;rw [bY];refine zH (wU (zJ ⟨sm.set _,_,_,_,_,rfl,mi,lia,lib,⋯⟩))
 ·rintro c st1 ⟨sm,out,ia,ib,mg,rfl,mi,lia,lib,pr⟩;omega
 ·rintro c st1 ⟨sm,r,t,rfl,res⟩;exact zJ (h r st1 sm res)
end
noncomputable def Ba:Array Keyed->Array Keyed->StateT SortSt Sem (Array Keyed):=sortPriv% PySem.Builtin.mergeHi
theorem Sr (a b:Array Keyed):Ba a b=(do
 rule "list.sort.merge-hi"
 let total:=a.size+b.size
 let done (out:Array Keyed) (na nb:Nat):=a.extract 0 na++b.extract 0 nb++out.reverse
 let firstOfB (out:Array Keyed) (na nb:Nat):=b.extract 0 nb++a.extract 0 na++out.reverse
 let mut na:=a.size - 1
 let mut nb:=b.size
 let mut out:Array Keyed:=#[← elem' a na]
 if na == 0 then return done out na nb
 if nb == 1 then return firstOfB out na nb
 let mut minGallop:=gallopOf (← get)
 for _ in [0:total] do
  let mut acount:=0
  let mut bcount:=0
  for _ in [0:total] do
   let some aWins ← lt' (← elem' b (nb - 1)) (← elem' a (na - 1)) | return done out na nb
   if aWins then
    na:=na - 1; out:=out.push (← elem' a na); acount:=acount+1; bcount:=0
    if na == 0 then return done out na nb
    if acount ≥ minGallop then break
   else
    nb:=nb - 1; out:=out.push (← elem' b nb); bcount:=bcount+1; acount:=0
    if nb == 1 then return firstOfB out na nb
    if bcount ≥ minGallop then break
  rule "list.sort.gallop"
  minGallop:=minGallop+1
  for _ in [0:total] do
   if minGallop > 1 then minGallop:=minGallop - 1
   dW minGallop
   let some at_ ← jB false (← elem' b (nb - 1)) a 0 na (na - 1) | return done out na nb
   let k:=na - at_
   acount:=k
   if k > 0 then
    out:=out++(a.extract at_ na).reverse; na:=at_
    if na == 0 then return done out na nb
   nb:=nb - 1; out:=out.push (← elem' b nb)
   if nb == 1 then return firstOfB out na nb
   let some at_ ← jB true (← elem' a (na - 1)) b 0 nb (nb - 1) | return done out na nb
   let k:=nb - at_
   bcount:=k
   if k > 0 then
    out:=out++(b.extract at_ nb).reverse; nb:=at_
    if nb == 1 then return firstOfB out na nb
    if nb == 0 then return done out na nb
   na:=na - 1; out:=out.push (← elem' a na)
   if na == 0 then return done out na nb
   if acount < 7 && bcount < 7 then break
  minGallop:=minGallop+1
  dW minGallop
 unsupported "internal:list.sort.merge-bound"):=rfl
noncomputable def revK (κ:PyProof.Rows.KeyKind):PyProof.Rows.KeyKind where
 α:=κ.α
 blt:=λ a b=>κ.blt b a
 irrefl:=κ.irrefl
 trans:=λ a b c h1 h2=>κ.trans c b a h2 h1
 negTrans:=λ a b c h=>(κ.negTrans c b a h).symm
 total:=λ a b h1 h2=>κ.total a b h2 h1
 keyOf:=κ.keyOf
 dflt:=κ.dflt
section
variable {prog:Program} {w:World} {A:Around} {E:VP} {s:Shared} {κ:PyProof.Rows.KeyKind} {kd:SortKind}
theorem Ir {x y:Keyed}:le' (revK κ) x y ↔ le' κ y x:=Iff.rfl
theorem gX {l:List Keyed} (h:Srt κ l):Srt (revK κ) l.reverse:=List.pairwise_reverse.mpr h
theorem So {l:List Keyed} (h:Srt (revK κ) l):Srt κ l.reverse:=List.pairwise_reverse.mpr h
def MH (κ:PyProof.Rows.KeyKind) (a b out:Array Keyed) (na nb:Nat):Prop:=MI (revK κ) a.toList.reverse b.toList.reverse out.toList (a.size - na) (b.size - nb)
theorem Cz {a:Array Keyed} {n:Nat} {p:Keyed} (h:n < a.size) (e:a[n]?=some p):a.toList.reverse[a.size - (n+1)]?=some p:=by
 rw [rH (by rw [zN]; omega),zN,show a.size - 1 - (a.size - (n+1))=n by omega];exact nF.mp e
theorem fO {a:Array Keyed} {n:Nat} (h:n<=a.size):a.toList.reverse.drop (a.size - n)=(a.toList.take n).reverse:=by
 rw [List.drop_reverse,zN,show a.size - (a.size - n)=n by omega]
theorem aA {a:Array Keyed} {n:Nat} {y:Keyed} (h:n<=a.size) (hy:y∈a.toList.reverse.drop (a.size - n)):∃ i,i < n/\a[i]?=some y:=by
 rw [fO h] at hy;obtain ⟨i,hi,e⟩:=xV (wH.mp hy);rw [xA] at hi;refine ⟨i,⋯,?_⟩;rw [nF,← e,List.getElem_take];exact xO _
theorem Cy {a b r:Array Keyed} {l:List Keyed} (e:r.toList.reverse=l) (h:Res (revK κ) a.toList.reverse b.toList.reverse l):Res κ a.toList b.toList r.toList:=by
 subst e;refine ⟨?_,?_⟩
 ·refine (qL r.toList).symm.trans (h.1.trans ?_);exact ((qL _).append (qL _))
 ·have:=So h.2
  rwa [List.reverse_reverse] at this
theorem fP {a:Array Keyed} {n:Nat}:(a.extract 0 n).toList=a.toList.take n:=by
 have:=Be a 0 n;rw [wO,List.drop_zero] at this;exact this
theorem gY {a b out:Array Keyed} {nb:Nat} (G:MG κ a b) (h:MH κ a b out 0 nb) (hb:nb<=b.size):Res κ a.toList b.toList (a.extract 0 0++b.extract 0 nb++out.reverse).toList:=by
 refine Cy (l:=out.toList++b.toList.reverse.drop (b.size - nb)) ?_ ((MI.symm h).all (gX G.sb) (by simp)).symm;rw [yJ,yJ,fP,fP,fO hb,uY];simp
theorem Iq {a b out:Array Keyed} {na:Nat} (G:MG κ a b) (h:MH κ a b out na 0) (ha:na<=a.size):Res κ a.toList b.toList (a.extract 0 na++b.extract 0 0++out.reverse).toList:=by
 refine Cy (l:=out.toList++a.toList.reverse.drop (a.size - na)) ?_ (MI.all h (gX G.sa) (by simp));rw [yJ,yJ,fP,fP,fO ha,uY];simp
theorem fQ {a b out:Array Keyed} {na:Nat} (G:MG κ a b) (h:MH κ a b out na 1) (ha:na<=a.size):Res κ a.toList b.toList (b.extract 0 1++a.extract 0 na++out.reverse).toList:=by
 have hb:=G.nb;obtain ⟨p,e⟩:=lA (a:=b) (i:=0) ⋯;obtain ⟨q,f⟩:=lA (a:=a) (i:=0) (by have:=G.na; omega);refine Cy (l:=out.toList++a.toList.reverse.drop (a.size - na)++b.toList.reverse.drop (b.size - 1)) ?_ (Res.symm ((MI.symm h).last (gX G.sa) (Cz ⋯ e) (by rw [List.length_reverse,zN]; omega) λ y hy=>?_))
 ·rw [yJ,yJ,fP,fP,fO ha,fO hb,uY];simp
 ·exact fK G.sa (nF.mp f) (G.fst p q e f) y (by simpa using wH.mp hy)
theorem fR {a b out:Array Keyed} {na nb:Nat} {p:Keyed} (G:MG κ a b) (h:MH κ a b out (na+1) nb) (hn:na < a.size) (hb:nb<=b.size) (e:a[na]?=some p) (hx:∀ i y,i < nb->b[i]?=some y->le' κ y p):MH κ a b (out.push p) na nb:=by
 unfold MH at h ⊢;rw [uM,show a.size - na=a.size - (na+1)+1 by omega];exact MI.push h (gX G.sa) (Cz hn e) λ y hy=>by
  obtain ⟨i,hi,ei⟩:=aA hb hy;exact hx i y hi ei
theorem Cv {a b out:Array Keyed} {na nb:Nat} {p:Keyed} (G:MG κ a b) (h:MH κ a b out na (nb+1)) (hn:nb < b.size) (ha:na<=a.size) (e:b[nb]?=some p) (hx:∀ i y,i < na->a[i]?=some y->le' κ y p):MH κ a b (out.push p) na nb:=by
 unfold MH at h ⊢;rw [uM,show b.size - nb=b.size - (nb+1)+1 by omega];exact (MI.push (MI.symm h) (gX G.sb) (Cz hn e) λ y hy=>by
  obtain ⟨i,hi,ei⟩:=aA ha hy;exact hx i y hi ei).symm
theorem Ip {a:Array Keyed} {n m:Nat} (h:n<=a.size) (hm:m<=n):(a.extract m n).reverse.toList=(a.toList.reverse.drop (a.size - n)).take (n - m):=by
 rw [fO h,uY,List.take_reverse,xA,zN,show min n a.size - (n - m)=m by omega];simp only [Array.toList_extract,List.extract_eq_take_drop];rw [List.drop_take]
theorem Sn {a b out:Array Keyed} {na nb m:Nat} {p:Keyed} (G:MG κ a b) (h:MH κ a b out na nb) (ha:na<=a.size) (hm:m<=na) (hb:nb<=b.size) (hb0:0 < nb) (e:b[nb - 1]?=some p) (hx:∀ i x,m<=i->i < na->a[i]?=some x->le' κ p x):MH κ a b (out++(a.extract m na).reverse) m nb:=by
 unfold MH at h ⊢;rw [yJ,Ip ha hm,show a.size - m=a.size - na+(na - m) by omega];refine MI.ext h (gX G.sa) λ x hx' y hy=>?_;obtain ⟨i,hi,ei⟩:=aA hb hy;obtain ⟨j,hj,ej⟩:=fM hx';rw [rH (by rw [zN]; omega),zN] at ej;have l1:le' κ y p:=gD G.sb (show i<=nb - 1 by omega) (nF.mp ei) (nF.mp e);exact Ir.mpr (lL l1 (hx _ x ⋯ ⋯ (nF.mpr ej)))
theorem Io {a b out:Array Keyed} {na nb m:Nat} {p:Keyed} (G:MG κ a b) (h:MH κ a b out na nb) (ha:nb<=b.size) (hm:m<=nb) (hb:na<=a.size) (hb0:0 < na) (e:a[na - 1]?=some p) (hx:∀ i x,m<=i->i < nb->b[i]?=some x->le' κ p x):MH κ a b (out++(b.extract m nb).reverse) na m:=by
 unfold MH at h ⊢;rw [yJ,Ip ha hm,show b.size - m=b.size - nb+(nb - m) by omega];refine (MI.ext (MI.symm h) (gX G.sb) λ x hx' y hy=>?_).symm;obtain ⟨i,hi,ei⟩:=aA hb hy;obtain ⟨j,hj,ej⟩:=fM hx';rw [rH (by rw [zN]; omega),zN] at ej;have l1:le' κ y p:=gD G.sa (show i<=na - 1 by omega) (nF.mp ei) (nF.mp e);exact Ir.mpr (lL l1 (hx _ x ⋯ ⋯ (nF.mpr ej)))
theorem Sl (hC:Cmp prog w A s κ kd) {st:SortSt} {b:Array Keyed} {ib hint:Nat} {q:Keyed} {n:Nat} {Q:Option Nat->SortSt->Prop} (hk:kindOf st=kd) (sb:Srt κ b.toList) (gb:∀ x∈b.toList,Gd κ x) (gq:Gd κ q) (hn:ib+n<=b.size) (hh:hint < n)
  (h:∀ k,k<=n->(∀ i x,i < k->b[ib+i]?=some x->le' κ x q)->(∀ i x,k<=i->i < n->b[ib+i]?=some x->lq κ q x=true)->Q (some k) st):wpS (model prog w) A E s (jB false q b ib n hint) Q st:=by
 refine dR hC (B:=λ i=>!lq κ q (b.getD (ib+i) q)) hk gq hh (λ i hi=>?_) (λ i j hij hj hb=>?_) λ k hkn h1 h2=>h k hkn (λ i x hi e=>?_) λ i x hi hin e=>?_
 ·obtain ⟨p,e⟩:=lA (a:=b) (i:=ib+i) ⋯;refine ⟨p,e,gb p (yD (nF.mp e)),?_⟩;rw [show b.getD (ib+i) q=p by simp [Array.getD_eq_getD_getElem?,e]];rfl
 ·obtain ⟨p,e⟩:=lA (a:=b) (i:=ib+i) ⋯;obtain ⟨r,e'⟩:=lA (a:=b) (i:=ib+j) ⋯;rw [show b.getD (ib+j) q=r by simp [Array.getD_eq_getD_getElem?,e']] at hb;rw [show b.getD (ib+i) q=p by simp [Array.getD_eq_getD_getElem?,e]];have l1:le' κ r q:=by unfold le'; simpa using hb
  have:=lL (gD sb (show ib+i<=ib+j by omega) (nF.mp e) (nF.mp e')) l1;unfold le' at this;rw [this];rfl
 ·have:=h1 i hi;rw [show b.getD (ib+i) q=x by simp [Array.getD_eq_getD_getElem?,e]] at this;unfold le';simpa using this
 ·have:=h2 i hi hin;rw [show b.getD (ib+i) q=x by simp [Array.getD_eq_getD_getElem?,e]] at this;simpa using this
theorem Cu {a out:Array Keyed} {n:Nat}:out++(a.extract n n).reverse=out:=by simp; omega
theorem Sk (hC:Cmp prog w A s κ kd) {st:SortSt} {a b:Array Keyed} {Q:Array Keyed->SortSt->Prop} (hk:kindOf st=kd) (G:MG κ a b)
  (h:∀ r st',Sm st st'->Res κ a.toList b.toList r.toList->Q r st'):wpS (model prog w) A E s (Ba a b) Q st:=by
 have na1:=G.na;have nb1:=G.nb;have gA:∀ i p,a[i]?=some p->Gd κ p:=λ i p e=>G.ga p (yD (nF.mp e));have gB:∀ i p,b[i]?=some p->Gd κ p:=λ i p e=>G.gb p (yD (nF.mp e));rw [Sr];refine zH (rK (wM ⟨rfl,?_⟩));refine zH (kB ⋯ λ p0 e0=>?_);dsimp only;have m0:MH κ a b #[p0] (a.size - 1) b.size:=by
  have i0:MH κ a b #[] (a.size - 1+1) b.size:=by
   unfold MH;rw [show a.size - (a.size - 1+1)=0 by omega,tH];exact ⟨by simp,List.Pairwise.nil,λ x hx=>by simp at hx,λ x hx=>by simp at hx⟩
  exact fR G i0 ⋯ (zF _) e0 λ i y _ ey=>G.top p0 e0 y (yD (nF.mp ey))
 refine nN (λ z=>?_) λ z=>?_
 ·have z0:=yQ z;rw [z0] at m0 ⊢;exact zJ (h _ _ (Sm.refl _) (gY G m0 (zF _)))
 have z':a.size - 1≠0:=λ e=>z (zY.mpr e);refine nN (λ y=>?_) λ y=>?_
 ·have y0:=yQ y;refine zJ (h _ _ (Sm.refl _) ?_);rw [y0] at m0 ⊢;exact fQ G m0 ⋯
 have y':b.size≠1:=λ e=>y (zY.mpr e);refine zH (uT ?_);refine zH (wT (xK (I:=λ x c st'=>Sm st st'/\∃ na nb out mg,c=(none,na,nb,out,mg)/\MH κ a b out na nb/\0 < na/\na < a.size/\1 < nb/\nb<=b.size/\x+na+nb < a.size+b.size)
  (Q:=λ c st'=>Sm st st'/\∃ r t,c=(some r,t)/\Res κ a.toList b.toList r.toList) ?_ ?_ ⟨Sm.refl _,_,_,_,_,rfl,m0,⋯,⋯,⋯,⋯,⋯⟩) ?_)
 ·rintro x c st1 _ hx ⟨sm,na,nb,out,mg,rfl,mi,l1,l2,l3,l4,pr⟩;dsimp only;refine zH (wT (xK (I:=λ y c st'=>Sm st st'/\∃ na nb out ac bc,c=(none,na,nb,out,ac,bc)/\MH κ a b out na nb/\0 < na/\na < a.size/\1 < nb/\nb<=b.size/\x+na+nb < a.size+b.size/\(1<=y->x+1+na+nb < a.size+b.size))
   (Q:=λ c st'=>Sm st st'/\((∃ r t,c=(some r,t)/\Res κ a.toList b.toList r.toList)\/∃ na nb out ac bc,c=(none,na,nb,out,ac,bc)/\MH κ a b out na nb/\0 < na/\na < a.size/\1 < nb/\nb<=b.size/\x+1+na+nb < a.size+b.size)) ?_ ?_ ⟨sm,na,nb,out,0,0,rfl,mi,l1,l2,l3,l4,pr,⋯⟩) ?_)
  ·rintro y c st2 _ hy ⟨sm,na,nb,out,ac,bc,rfl,mi,l1,l2,l3,l4,pr,_⟩;obtain ⟨n,rfl⟩:∃ n,na=n+1:=⟨na - 1,⋯⟩;obtain ⟨m,rfl⟩:∃ m,nb=m+1:=⟨nb - 1,⋯⟩;dsimp only;refine zH (kB (arr:=b) (i:=m+1 - 1) ⋯ λ p e=>?_);refine zH (kB (arr:=a) (i:=n+1 - 1) ⋯ λ q f=>?_);refine zH (dQ hC (by rw [sm.k]; exact hk) (gB _ _ e) (gA _ _ f) ?_);dsimp only;cases hl:lq κ p q with
   | true =>
    rw [if_pos rfl];have mi':=fR G mi (show n < a.size by omega) ⋯ f λ i y hi ey=>lL (gD G.sb (show i<=m by omega) (nF.mp ey) (nF.mp e)) (lW hl);refine zH (lV f ?_);refine nN (λ z=>?_) λ z=>?_
    ·have z0:n=0:=yQ z;subst z0;exact zJ ⟨sm,.inl ⟨_,_,rfl,gY G mi' ⋯⟩⟩
    have hz':n≠0:=λ e=>z (zY.mpr e);refine nN (λ _=>?_) λ _=>?_
    ·exact zJ ⟨sm,.inr ⟨n,m+1,_,_,_,rfl,mi',⋯,⋯,⋯,⋯,⋯⟩⟩
    ·exact zJ ⟨sm,n,m+1,_,_,_,rfl,mi',⋯,⋯,⋯,⋯,⋯,⋯⟩
   | false =>
    rw [if_neg (by simp)];have mi':=Cv G mi (show m < b.size by omega) ⋯ e λ i y hi ey=>lL (gD G.sa (show i<=n by omega) (nF.mp ey) (nF.mp f)) hl;refine zH (lV e ?_);refine nN (λ z=>?_) λ z=>?_
    ·have z0:m=1:=yQ z;subst z0;exact zJ ⟨sm,.inl ⟨_,_,rfl,fQ G mi' ⋯⟩⟩
    have hz':m≠1:=λ e=>z (zY.mpr e);refine nN (λ _=>?_) λ _=>?_
    ·exact zJ ⟨sm,.inr ⟨n+1,m,_,_,_,rfl,mi',⋯,⋯,⋯,⋯,⋯⟩⟩
    ·exact zJ ⟨sm,n+1,m,_,_,_,rfl,mi',⋯,⋯,⋯,⋯,⋯,⋯⟩
  ·rintro c st2 ⟨sm,na,nb,out,ac,bc,rfl,mi,l1,l2,l3,l4,pr,pr2⟩;exact ⟨sm,.inr ⟨_,_,_,_,_,rfl,mi,l1,l2,l3,l4,pr2 ⋯⟩⟩
  ·rintro c st2 ⟨sm,⟨r,t,rfl,res⟩ | ⟨na,nb,out,ac,bc,rfl,mi,l1,l2,l3,l4,pr⟩⟩
   ·exact zJ ⟨sm,_,_,rfl,res⟩
   dsimp only;refine zH (rK (wM ⟨rfl,?_⟩));refine zH (wT (xK (I:=λ y c st'=>Sm st st'/\∃ na nb out mg ac bc,c=(none,na,nb,out,mg,ac,bc)/\MH κ a b out na nb/\0 < na/\na < a.size/\1 < nb/\nb<=b.size/\x+1+na+nb < a.size+b.size)
    (Q:=λ c st'=>Sm st st'/\((∃ r t,c=(some r,t)/\Res κ a.toList b.toList r.toList)\/∃ na nb out mg ac bc,c=(none,na,nb,out,mg,ac,bc)/\MH κ a b out na nb/\0 < na/\na < a.size/\1 < nb/\nb<=b.size/\x+1+na+nb < a.size+b.size)) ?_ ?_ ⟨sm,_,_,_,_,_,_,rfl,mi,l1,l2,l3,l4,pr⟩) ?_)
   ·rintro y c st3 _ hy ⟨sm,na,nb,out,mg,ac,bc,rfl,mi,l1,l2,l3,l4,pr⟩;dsimp only
    revert mg
    refine Is (λ mg=>?_) λ _=>rfl;rw [bY];refine zH (wU ?_);refine zH (kB (arr:=b) (i:=nb - 1) ⋯ λ p e=>?_);refine zH (Sl hC (show kindOf _=kd from sm.k.trans hk) G.sa G.ga (gB _ _ e) (show 0+na<=a.size by omega) ⋯ λ k hk1 hk2 hk3=>?_);have mk:=Sn (m:=k) G mi ⋯ hk1 l4 ⋯ e λ i x hi him ex=>lW (hk3 i x hi him (by rw [wO]; exact ex));dsimp only;refine nN (λ hkp=>?_) λ hkp=>?_
    ·refine nN (λ z=>?_) λ z=>?_
     ·have z0:k=0:=yQ z;subst z0;exact zJ ⟨sm.set _,.inl ⟨_,_,rfl,gY G mk l4⟩⟩
     have z':k≠0:=λ e=>z (zY.mpr e)
     -- the other's last comes out
     obtain ⟨m,rfl⟩:∃ m,nb=m+1:=⟨nb - 1,⋯⟩;have mp:=Cv G mk (show m < b.size by omega) ⋯ e λ i y hi ey=>hk2 i y hi (by rw [wO]; exact ey);refine zH (lV (show b[m+1 - 1]?=some p from e) ?_);refine nN (λ z=>?_) λ z=>?_
     ·have z0:m=1:=yQ z;subst z0;exact zJ ⟨sm.set _,.inl ⟨_,_,rfl,fQ G mp ⋯⟩⟩
     have zb:m≠1:=λ e=>z (zY.mpr e);have e'':0 < m:=⋯
     refine zH (kB (arr:=a) (i:=k - 1) ⋯ λ q f=>?_);refine zH (bX hC (show kindOf _=kd from sm.k.trans hk) G.sb G.gb (gA _ _ f) (show 0+(m+1 - 1)<=b.size by omega) ⋯ λ k2 j1 j2 j3=>?_);replace j1:k2<=m:=j1;have mq:=Io (m:=k2) G mp ⋯ j1 ⋯ ⋯ f λ i x hi him ex=>j3 i x hi him (by rw [wO]; exact ex);obtain ⟨n,hn⟩:∃ n,k=n+1:=⟨k - 1,⋯⟩;dsimp only;refine nN (λ hkq=>?_) λ hkq=>?_
     ·refine nN (λ z=>?_) λ z=>?_
      ·have z0:k2=1:=yQ z;subst z0;exact zJ ⟨sm.set _,.inl ⟨_,_,rfl,fQ G mq ⋯⟩⟩
      have zc:k2≠1:=λ e=>z (zY.mpr e);refine nN (λ z=>?_) λ z=>?_
      ·have z0:k2=0:=yQ z;subst z0;exact zJ ⟨sm.set _,.inl ⟨_,_,rfl,Iq G mq ⋯⟩⟩
      have zd:k2≠0:=λ e=>z (zY.mpr e);rw [hn] at mq f ⊢;have mr:=fR G mq (show n < a.size by omega) ⋯ f λ i y hi ey=>lW (j2 i y hi (by rw [wO]; exact ey));refine zH (lV (show a[n+1 - 1]?=some q from f) ?_);refine nN (λ z=>?_) λ z=>?_
      ·have z0:n=0:=yQ z;subst z0;exact zJ ⟨sm.set _,.inl ⟨_,_,rfl,gY G mr ⋯⟩⟩
      have ze:n≠0:=λ e=>z (zY.mpr e);refine nN (λ _=>?_) λ _=>?_
      ·exact zJ ⟨sm.set _,.inr ⟨n,_,_,_,_,_,rfl,mr,⋯,⋯,⋯,⋯,⋯⟩⟩
      ·exact zJ ⟨sm.set _,n,_,_,_,_,_,rfl,mr,⋯,⋯,⋯,⋯,⋯⟩
     ·have k20:k2=m:=by
       have:¬ m - k2 > 0:=hkq;omega
      subst k20;rw [Cu] at mq;rw [hn] at mq f ⊢;have mr:=fR G mq (show n < a.size by omega) ⋯ f λ i y hi ey=>lW (j2 i y hi (by rw [wO]; exact ey));refine zH (lV (show a[n+1 - 1]?=some q from f) ?_);refine nN (λ z=>?_) λ z=>?_
      ·have z0:n=0:=yQ z;subst z0;exact zJ ⟨sm.set _,.inl ⟨_,_,rfl,gY G mr ⋯⟩⟩
      have ze:n≠0:=λ e=>z (zY.mpr e);refine nN (λ _=>?_) λ _=>?_
      ·exact zJ ⟨sm.set _,.inr ⟨n,_,_,_,_,_,rfl,mr,⋯,⋯,⋯,⋯,⋯⟩⟩
      ·exact zJ ⟨sm.set _,n,_,_,_,_,_,rfl,mr,⋯,⋯,⋯,⋯,⋯⟩
    ·have k0:k=na:=by
      have:¬ na - k > 0:=hkp;omega
     subst k0;rw [Cu] at mk
     -- the other's last comes out
     obtain ⟨m,rfl⟩:∃ m,nb=m+1:=⟨nb - 1,⋯⟩;have mp:=Cv G mk (show m < b.size by omega) ⋯ e λ i y hi ey=>hk2 i y hi (by rw [wO]; exact ey);refine zH (lV (show b[m+1 - 1]?=some p from e) ?_);refine nN (λ z=>?_) λ z=>?_
     ·have z0:m=1:=yQ z;subst z0;exact zJ ⟨sm.set _,.inl ⟨_,_,rfl,fQ G mp ⋯⟩⟩
     have zb:m≠1:=λ e=>z (zY.mpr e);have e'':0 < m:=⋯
     refine zH (kB (arr:=a) (i:=k - 1) ⋯ λ q f=>?_);refine zH (bX hC (show kindOf _=kd from sm.k.trans hk) G.sb G.gb (gA _ _ f) (show 0+(m+1 - 1)<=b.size by omega) ⋯ λ k2 j1 j2 j3=>?_);replace j1:k2<=m:=j1;have mq:=Io (m:=k2) G mp ⋯ j1 ⋯ ⋯ f λ i x hi him ex=>j3 i x hi him (by rw [wO]; exact ex);obtain ⟨n,hn⟩:∃ n,k=n+1:=⟨k - 1,⋯⟩;dsimp only;refine nN (λ hkq=>?_) λ hkq=>?_
     ·refine nN (λ z=>?_) λ z=>?_
      ·have z0:k2=1:=yQ z;subst z0;exact zJ ⟨sm.set _,.inl ⟨_,_,rfl,fQ G mq ⋯⟩⟩
      have zc:k2≠1:=λ e=>z (zY.mpr e);refine nN (λ z=>?_) λ z=>?_
      ·have z0:k2=0:=yQ z;subst z0;exact zJ ⟨sm.set _,.inl ⟨_,_,rfl,Iq G mq ⋯⟩⟩
      have zd:k2≠0:=λ e=>z (zY.mpr e);rw [hn] at mq f ⊢;have mr:=fR G mq (show n < a.size by omega) ⋯ f λ i y hi ey=>lW (j2 i y hi (by rw [wO]; exact ey));refine zH (lV (show a[n+1 - 1]?=some q from f) ?_);refine nN (λ z=>?_) λ z=>?_
      ·have z0:n=0:=yQ z;subst z0;exact zJ ⟨sm.set _,.inl ⟨_,_,rfl,gY G mr ⋯⟩⟩
      have ze:n≠0:=λ e=>z (zY.mpr e);refine nN (λ _=>?_) λ _=>?_
      ·exact zJ ⟨sm.set _,.inr ⟨n,_,_,_,_,_,rfl,mr,⋯,⋯,⋯,⋯,⋯⟩⟩
      ·exact zJ ⟨sm.set _,n,_,_,_,_,_,rfl,mr,⋯,⋯,⋯,⋯,⋯⟩
     ·have k20:k2=m:=by
       have:¬ m - k2 > 0:=hkq;omega
      subst k20;rw [Cu] at mq;rw [hn] at mq f ⊢;have mr:=fR G mq (show n < a.size by omega) ⋯ f λ i y hi ey=>lW (j2 i y hi (by rw [wO]; exact ey));refine zH (lV (show a[n+1 - 1]?=some q from f) ?_);refine nN (λ z=>?_) λ z=>?_
      ·have z0:n=0:=yQ z;subst z0;exact zJ ⟨sm.set _,.inl ⟨_,_,rfl,gY G mr ⋯⟩⟩
      have ze:n≠0:=λ e=>z (zY.mpr e);refine nN (λ _=>?_) λ _=>?_
      ·exact zJ ⟨sm.set _,.inr ⟨n,_,_,_,_,_,rfl,mr,⋯,⋯,⋯,⋯,⋯⟩⟩
      ·exact zJ ⟨sm.set _,n,_,_,_,_,_,rfl,mr,⋯,⋯,⋯,⋯,⋯⟩
   ·rintro c st3 ⟨sm,na,nb,out,mg,ac,bc,rfl,mi,l1,l2,l3,l4,pr⟩;exact ⟨sm,.inr ⟨_,_,_,_,_,_,rfl,mi,l1,l2,l3,l4,pr⟩⟩
   ·rintro c st3 ⟨sm,⟨r,t,rfl,res⟩ | ⟨na,nb,out,mg,ac,bc,rfl,mi,l1,l2,l3,l4,pr⟩⟩
    ·exact zJ ⟨sm,_,_,rfl,res⟩
    dsimp only;rw [bY];refine zH (wU (zJ ⟨sm.set _,_,_,_,_,rfl,mi,l1,l2,l3,l4,pr⟩))
 ·rintro c st1 ⟨sm,na,nb,out,mg,rfl,mi,l1,l2,l3,l4,pr⟩;omega
 ·rintro c st1 ⟨sm,r,t,rfl,res⟩;exact zJ (h r st1 sm res)
end
theorem Sj (i:Nat):mergeAt' i=(do
 let s ← get
 let (some (sa,na,power),some (sb,nb,_)):=((pendingOf s)[i]?,(pendingOf s)[i+1]?) | unsupported "internal:list.sort.pending"
 set (SortSt.mk' (kindOf s) (arrOf s) (((pendingOf s).setIfInBounds i (sa,na+nb,power)).eraseIdxIfInBounds (i+1)) (gallopOf s) (failedOf s))
 let some k ← jB false (← elem' (arrOf s) sb) (arrOf s) sa na 0 | return false
 let (sa,na):=(sa+k,na - k)
 if na == 0 then return true
 let some nb ← jB true (← elem' (arrOf s) (sa+na - 1)) (arrOf s) sb nb (nb - 1) | return false
 if nb == 0 then return true
 let x:=(arrOf s).extract sa sb
 let y:=(arrOf s).extract sb (sb+nb)
 let merged ← if na<=nb then Bc x y else Ba x y
 modify λ s=>setArr s (merged.toList.zipIdx.foldl (λ a (p,j)=>a.setIfInBounds (sa+j) p) (arrOf s))
 return (failedOf (← get)).isNone):=rfl
section
variable {prog:Program} {w:World} {A:Around} {E:VP} {s:Shared} {κ:PyProof.Rows.KeyKind} {kd:SortKind}
noncomputable def seg (l:List Keyed) (i j:Nat):List Keyed:=(l.drop i).take (j - i)
theorem Si {st st':SortSt} {Q:PUnit->SortSt->Prop} (h:Q ⟨⟩ st'):wpS (model prog w) A E s (set st':StateT SortSt Sem PUnit) Q st:=by
 unfold wpS; rw [StateT.run_set]; exact zC ⟨rfl,h⟩
theorem Ct {l:List Keyed} {i j k:Nat} (h1:i<=j) (h2:j<=k):seg l i k=seg l i j++seg l j k:=by
 unfold seg;rw [show k - i=(j - i)+(k - j) by omega,qB,pI,show i+(j - i)=j by omega]
theorem Im {l:List Keyed} {i j:Nat} (h:i<=j):l.take i++seg l i j++l.drop j=l:=by
 unfold seg;have:l.take j=l.take i++(l.drop i).take (j - i):=by
  conv=>lhs; rw [show j=i+(j - i) by omega]
  exact qB
 rw [← this,xX]
theorem dY {l:List Keyed} {i j t:Nat}:(seg l i j)[t]?=if t < j - i then l[i+t]? else none:=by
 unfold seg;rw [List.getElem?_take];split
 ·rw [tS]
 ·rfl
theorem iE {l:List Keyed} {i j:Nat} {x:Keyed} (h:x∈seg l i j):∃ t,t < j - i/\l[i+t]?=some x:=fM h
theorem Cs {l:List Keyed} {i j:Nat} (h:j<=l.length):(seg l i j).length=j - i:=by
 unfold seg;rw [xA,uS];omega
theorem aB {l:List Keyed} {i j:Nat} (hs:Srt κ (seg l i j)) {t u:Nat} {x y:Keyed} (htu:t<=u) (hu:u < j - i) (ex:l[i+t]?=some x) (ey:l[i+u]?=some y):le' κ x y :=
 gD hs htu (by rw [dY,if_pos ⋯]; exact ex) (by rw [dY,if_pos hu]; exact ey)
theorem iF (a:Array Keyed) (i j:Nat):(a.extract i j).toList=seg a.toList i j:=by
 unfold seg;simp only [Array.toList_extract,List.extract_eq_take_drop]
theorem Il:∀ (m:List Keyed) (j0 sa:Nat) (a:Array Keyed),sa+j0+m.length<=a.size->((m.zipIdx j0).foldl (λ a (x:Keyed × Nat)=>a.setIfInBounds (sa+x.2) x.1) a).toList=a.toList.take (sa+j0)++m++a.toList.drop (sa+j0+m.length)
 | [],j0,sa,a,_=>by simp
 | p :: m,j0,sa,a,h=>by
  rw [zX] at h;have hl:sa+j0 < a.toList.length:=by rw [zN]; omega
  rw [uB,wN,Il m (j0+1) sa _ (by rw [pU]; omega),pM,zX];show List.take (sa+(j0+1)) (a.toList.set (sa+j0) p)++m++List.drop (sa+(j0+1)+m.length) (a.toList.set (sa+j0) p)=_;have e1:List.take (sa+(j0+1)) (a.toList.set (sa+j0) p)=a.toList.take (sa+j0)++[p]:=by
   rw [show sa+(j0+1)=sa+j0+1 by omega,sE,List.take_set_of_le (zF _),uN hl];rfl
  have e2:List.drop (sa+(j0+1)+m.length) (a.toList.set (sa+j0) p)=a.toList.drop (sa+j0+(m.length+1)):=by
   rw [List.drop_set_of_lt ⋯,show sa+(j0+1)+m.length=sa+j0+(m.length+1) by omega]
  rw [e1,e2];simp
theorem Sh (hC:Cmp prog w A s κ kd) {st:SortSt} {b:Array Keyed} {ib hint:Nat} {q:Keyed} {n:Nat} {Q:Option Nat->SortSt->Prop} (hk:kindOf st=kd) (hs:∀ i j x y,i<=j->j < n->b[ib+i]?=some x->b[ib+j]?=some y->le' κ x y) (gb:∀ x∈b.toList,Gd κ x) (gq:Gd κ q) (hn:ib+n<=b.size) (hh:hint < n)
  (h:∀ k,k<=n->(∀ i x,i < k->b[ib+i]?=some x->le' κ x q)->(∀ i x,k<=i->i < n->b[ib+i]?=some x->lq κ q x=true)->Q (some k) st):wpS (model prog w) A E s (jB false q b ib n hint) Q st:=by
 refine dR hC (B:=λ i=>!lq κ q (b.getD (ib+i) q)) hk gq hh (λ i hi=>?_) (λ i j hij hj hb=>?_) λ k hkn h1 h2=>h k hkn (λ i x hi e=>?_) λ i x hi hin e=>?_
 ·obtain ⟨p,e⟩:=lA (a:=b) (i:=ib+i) ⋯;refine ⟨p,e,gb p (yD (nF.mp e)),?_⟩;rw [show b.getD (ib+i) q=p by simp [Array.getD_eq_getD_getElem?,e]];rfl
 ·obtain ⟨p,e⟩:=lA (a:=b) (i:=ib+i) ⋯;obtain ⟨r,e'⟩:=lA (a:=b) (i:=ib+j) ⋯;rw [show b.getD (ib+j) q=r by simp [Array.getD_eq_getD_getElem?,e']] at hb;rw [show b.getD (ib+i) q=p by simp [Array.getD_eq_getD_getElem?,e]];have l1:le' κ r q:=by unfold le'; simpa using hb
  have:=lL (hs i j p r hij hj e e') l1;unfold le' at this;rw [this];rfl
 ·have:=h1 i hi;rw [show b.getD (ib+i) q=x by simp [Array.getD_eq_getD_getElem?,e]] at this;unfold le';simpa using this
 ·have:=h2 i hi hin;rw [show b.getD (ib+i) q=x by simp [Array.getD_eq_getD_getElem?,e]] at this;simpa using this
theorem Sg (hC:Cmp prog w A s κ kd) {st:SortSt} {b:Array Keyed} {ib hint:Nat} {q:Keyed} {n:Nat} {Q:Option Nat->SortSt->Prop} (hk:kindOf st=kd) (hs:∀ i j x y,i<=j->j < n->b[ib+i]?=some x->b[ib+j]?=some y->le' κ x y) (gb:∀ x∈b.toList,Gd κ x) (gq:Gd κ q) (hn:ib+n<=b.size) (hh:hint < n)
  (h:∀ k,k<=n->(∀ i x,i < k->b[ib+i]?=some x->lq κ x q=true)->(∀ i x,k<=i->i < n->b[ib+i]?=some x->le' κ q x)->Q (some k) st):wpS (model prog w) A E s (jB true q b ib n hint) Q st:=by
 refine dR hC (B:=λ i=>lq κ (b.getD (ib+i) q) q) hk gq hh (λ i hi=>?_) (λ i j hij hj hb=>?_) λ k hkn h1 h2=>h k hkn (λ i x hi e=>?_) λ i x hi hin e=>?_
 ·obtain ⟨p,e⟩:=lA (a:=b) (i:=ib+i) ⋯;refine ⟨p,e,gb p (yD (nF.mp e)),?_⟩;rw [show b.getD (ib+i) q=p by simp [Array.getD_eq_getD_getElem?,e]];rfl
 ·obtain ⟨p,e⟩:=lA (a:=b) (i:=ib+i) ⋯;obtain ⟨r,e'⟩:=lA (a:=b) (i:=ib+j) ⋯;rw [show b.getD (ib+j) q=r by simp [Array.getD_eq_getD_getElem?,e']] at hb;rw [show b.getD (ib+i) q=p by simp [Array.getD_eq_getD_getElem?,e]];exact KeyOrd.klt_of_kle_of_klt (O:=κ.toKeyOrd) (hs i j p r hij hj e e') hb
 ·have:=h1 i hi;rw [show b.getD (ib+i) q=x by simp [Array.getD_eq_getD_getElem?,e]] at this;exact this
 ·have:=h2 i hi hin;rw [show b.getD (ib+i) q=x by simp [Array.getD_eq_getD_getElem?,e]] at this;exact this
theorem Sf (hC:Cmp prog w A s κ kd) {st:SortSt} {i sa na pw nb pw2:Nat} {Q:Bool->SortSt->Prop} (hk:kindOf st=kd) (gd:∀ x∈(arrOf st).toList,Gd κ x) (hf:failedOf st=none) (e1:(pendingOf st)[i]?=some (sa,na,pw)) (e2:(pendingOf st)[i+1]?=some (sa+na,nb,pw2))
  (hna:1<=na) (hnb:1<=nb) (hz:sa+na+nb<=(arrOf st).size) (s1:Srt κ (seg (arrOf st).toList sa (sa+na))) (s2:Srt κ (seg (arrOf st).toList (sa+na) (sa+na+nb)))
  (h:∀ st' X,kindOf st'=kd->failedOf st'=none->pendingOf st'=((pendingOf st).setIfInBounds i (sa,na+nb,pw)).eraseIdxIfInBounds (i+1)->(arrOf st').toList=(arrOf st).toList.take sa++X++(arrOf st).toList.drop (sa+na+nb)->X.Perm (seg (arrOf st).toList sa (sa+na+nb))->Srt κ X->Q true st') :
  wpS (model prog w) A E s (mergeAt' i) Q st:=by
 rw [Sj];refine zH (uT ?_);rw [e1,e2];dsimp only;refine zH (Si ?_);generalize hst:SortSt.mk' (kindOf st) (arrOf st) (((pendingOf st).setIfInBounds i (sa,na+nb,pw)).eraseIdxIfInBounds (i+1)) (gallopOf st) (failedOf st)=st1;have k1:kindOf st1=kd:=by rw [← hst]; exact hk
 have a1:arrOf st1=arrOf st:=by rw [← hst]
 have p1:pendingOf st1=((pendingOf st).setIfInBounds i (sa,na+nb,pw)).eraseIdxIfInBounds (i+1):=by rw [← hst]
 have f1:failedOf st1=none:=by rw [← hst]; exact hf
 clear hst e1 e2;generalize harr:arrOf st=arr at *
 generalize pendingOf st=pend at *;have lz:arr.toList.length=arr.size:=zN;have gA:∀ t x,arr[t]?=some x->Gd κ x:=λ t x e=>gd x (yD (nF.mp e))
 -- already in order
 have stay:Srt κ (seg arr.toList sa (sa+na+nb))->Q true st1:=λ so=>h st1 _ k1 f1 p1 (by rw [a1,Im ⋯]) (List.Perm.refl _) so;have cat:seg arr.toList sa (sa+na+nb)=seg arr.toList sa (sa+na)++seg arr.toList (sa+na) (sa+na+nb):=Ct ⋯ ⋯;refine zH (kB (arr:=arr) (i:=sa+na) ⋯ λ p ep=>?_);refine zH (Sh hC k1 (λ t u x y htu hu ex ey=>aB s1 htu ⋯ (nF.mp ex) (nF.mp ey)) gd (gA _ _ ep) ⋯ ⋯ λ k hk1 hk2 hk3=>?_);dsimp only;have pB:∀ y∈seg arr.toList (sa+na) (sa+na+nb),le' κ p y:=λ y hy=>by
  obtain ⟨t,ht,et⟩:=iE hy;exact aB s2 (yY t) ht (nF.mp ep) et
 refine nN (λ z=>?_) λ z=>?_
 ·have z0:na - k=0:=yQ z;refine zJ (stay ?_);rw [cat];refine xF.mpr ⟨s1,s2,λ x hx y hy=>?_⟩;obtain ⟨t,ht,et⟩:=iE hx;exact lL (hk2 t x ⋯ (nF.mpr et)) (pB y hy)
 have z':na - k≠0:=λ e=>z (zY.mpr e);refine zH (kB (arr:=arr) (i:=sa+k+(na - k) - 1) ⋯ λ q eq=>?_);rw [show sa+k+(na - k) - 1=sa+(na - 1) by omega] at eq;refine zH (Sg hC k1 (λ t u x y htu hu ex ey=>aB s2 htu ⋯ (nF.mp ex) (nF.mp ey)) gd (gA _ _ eq) ⋯ ⋯ λ k2 j1 j2 j3=>?_);dsimp only;have qA:∀ x∈seg arr.toList sa (sa+na),le' κ x q:=λ x hx=>by
  obtain ⟨t,ht,et⟩:=iE hx;exact aB s1 (show t<=na - 1 by omega) ⋯ et (nF.mp eq)
 refine nN (λ y=>?_) λ y=>?_
 ·have y0:k2=0:=yQ y;refine zJ (stay ?_);rw [cat];refine xF.mpr ⟨s1,s2,λ x hx y hy=>?_⟩;obtain ⟨t,ht,et⟩:=iE hy;exact lL (qA x hx) (j3 t y ⋯ ⋯ (nF.mpr et))
 have y':k2≠0:=λ e=>y (zY.mpr e)
 -- the parts
 have cA:seg arr.toList sa (sa+na)=seg arr.toList sa (sa+k)++seg arr.toList (sa+k) (sa+na):=Ct ⋯ ⋯;have cB:seg arr.toList (sa+na) (sa+na+nb)=seg arr.toList (sa+na) (sa+na+k2)++seg arr.toList (sa+na+k2) (sa+na+nb):=Ct ⋯ ⋯;have s1':=s1;have s2':=s2;rw [cA] at s1';rw [cB] at s2';obtain ⟨sP,sX,hPX⟩:=xF.mp s1';obtain ⟨sY,sS,hYS⟩:=xF.mp s2';have pP:∀ x∈seg arr.toList sa (sa+k),le' κ x p:=λ x hx=>by
  obtain ⟨t,ht,et⟩:=iE hx;exact hk2 t x ⋯ (nF.mpr et)
 have pX:∀ x∈seg arr.toList (sa+k) (sa+na),le' κ p x:=λ x hx=>by
  obtain ⟨t,ht,et⟩:=iE hx;exact lW (hk3 (k+t) x ⋯ ⋯ (by rw [show sa+(k+t)=sa+k+t by omega]; exact nF.mpr et))
 have qY:∀ y∈seg arr.toList (sa+na) (sa+na+k2),le' κ y q:=λ y hy=>by
  obtain ⟨t,ht,et⟩:=iE hy;exact lW (j2 t y ⋯ (nF.mpr et))
 have qS:∀ y∈seg arr.toList (sa+na+k2) (sa+na+nb),le' κ q y:=λ y hy=>by
  obtain ⟨t,ht,et⟩:=iE hy;exact j3 (k2+t) y ⋯ ⋯ (by rw [show sa+na+(k2+t)=sa+na+k2+t by omega]; exact nF.mpr et)
 have G:MG κ (arr.extract (sa+k) (sa+na)) (arr.extract (sa+na) (sa+na+k2)):=by
  refine ⟨by rw [iF]; exact sX,by rw [iF]; exact sY,λ x hx=>?_,λ x hx=>?_,by rw [qF]; omega,by rw [qF]; omega,λ x ex y hy=>?_,λ x y ex ey=>?_⟩
  ·rw [iF] at hx;obtain ⟨t,_,et⟩:=iE hx;exact gA _ x (nF.mpr et)
  ·rw [iF] at hx;obtain ⟨t,_,et⟩:=iE hx;exact gA _ x (nF.mpr et)
  ·rw [iF] at hy;rw [nF,iF,dY,qF] at ex;split at ex
   ·rw [show sa+k+(min (sa+na) arr.size - (sa+k) - 1)=sa+(na - 1) by omega,nF.mp eq] at ex;cases ex;exact qY y hy
   ·cases ex
  ·rw [nF,iF,dY,if_pos ⋯,Nat.add_zero,nF.mp ep] at ex;cases ex;rw [nF,iF] at ey;exact pX y (yD ey)
 have fin:∀ (r:Array Keyed) (st':SortSt),Sm st1 st'->Res κ (arr.extract (sa+k) (sa+na)).toList (arr.extract (sa+na) (sa+na+k2)).toList r.toList->wpS (model prog w) A E s (do
   modify λ s=>setArr s (r.toList.zipIdx.foldl (λ a (p,j)=>a.setIfInBounds (sa+k+j) p) (arrOf s))
   return (failedOf (← get)).isNone) Q st':=λ r st' sm res=>by
  rw [iF,iF] at res;refine zH (wU (zH (uT (zJ ?_))));have fn:failedOf st'=none:=sm.f.trans f1;show Q (failedOf st').isNone _;rw [fn];have rl:r.toList.length=(na - k)+k2:=by
   rw [res.1.length_eq,yB,Cs ⋯,Cs ⋯];omega
  refine h _ (seg arr.toList sa (sa+k)++r.toList++seg arr.toList (sa+na+k2) (sa+na+nb)) (sm.k.trans k1) fn (sm.p.trans p1) ?_ ?_ ?_
  ·show (List.foldl _ (arrOf st') _).toList=_;rw [sm.a,a1,Il r.toList 0 (sa+k) arr ⋯,rl];have t1:arr.toList.take (sa+k+0)=arr.toList.take sa++seg arr.toList sa (sa+k):=by
    unfold seg;rw [Nat.add_zero,qB,show sa+k - sa=k by omega]
   have t2:arr.toList.drop (sa+k+0+(na - k+k2))=seg arr.toList (sa+na+k2) (sa+na+nb)++arr.toList.drop (sa+na+nb):=by
    unfold seg;rw [show sa+k+0+(na - k+k2)=sa+na+k2 by omega]
    conv=>lhs; rw [← xX (sa+na+nb - (sa+na+k2)) (arr.toList.drop (sa+na+k2))]
    rw [pI,show sa+na+k2+(sa+na+nb - (sa+na+k2))=sa+na+nb by omega]
   rw [t1,t2];simp only [List.append_assoc]
  ·rw [cat,cA,cB];have:=(res.1.append_left (seg arr.toList sa (sa+k))).append_right (seg arr.toList (sa+na+k2) (sa+na+nb));simp only [List.append_assoc] at this ⊢;exact this
  ·have mem:∀ x∈r.toList,x∈seg arr.toList (sa+k) (sa+na)\/x∈seg arr.toList (sa+na) (sa+na+k2):=λ x hx=>xB.mp (res.1.mem_iff.mp hx);refine xF.mpr ⟨xF.mpr ⟨sP,res.2,λ x hx y hy=>?_⟩,sS,λ x hx y hy=>?_⟩
   ·rcases mem y hy with q1 | q1
    ·exact hPX x hx y q1
    ·exact lL (pP x hx) (pB y (by rw [cB]; exact vC _ q1))
   ·rcases xB.mp hx with q1 | q1
    ·exact lL (pP x q1) (pB y (by rw [cB]; exact yM _ hy))
    ·rcases mem x q1 with q2 | q2
     ·exact lL (qA x (by rw [cA]; exact yM _ q2)) (qS y hy)
     ·exact hYS x q2 y hy
 refine nN (λ _=>?_) λ _=>?_
 ·exact zH (Ss hC k1 G λ r st' sm res=>fin r st' sm res)
 ·exact zH (Sk hC k1 G λ r st' sm res=>fin r st' sm res)
theorem dZ (hC:Cmp prog w A s κ kd) {st:SortSt} {i j:Nat} {Q:Option Bool->SortSt->Prop} (hk:kindOf st=kd) (gd:∀ x∈(arrOf st).toList,Gd κ x) (hi:i < (arrOf st).size) (hj:j < (arrOf st).size)
  (h:∀ x y,(arrOf st)[i]?=some x->(arrOf st)[j]?=some y->Q (some (lq κ x y)) st):wpS (model prog w) A E s (ltAt' i j) Q st:=by
 rw [ltAt'_eq];refine zH (uT ?_);refine zH (kB hi λ x ex=>?_);refine zH (kB hj λ y ey=>?_);exact dQ hC hk (gd x (yD (nF.mp ex))) (gd y (yD (nF.mp ey))) (h x y ex ey)
structure Ch (lo hi:Nat) (st st':SortSt):Prop where
 k:kindOf st'=kindOf st
 p:pendingOf st'=pendingOf st
 f:failedOf st'=failedOf st
 z:(arrOf st').size=(arrOf st).size
 m:(arrOf st').Perm (arrOf st)
 o:∀ i,i < lo\/hi<=i->(arrOf st')[i]?=(arrOf st)[i]?
theorem Ch.refl (lo hi:Nat) (st:SortSt):Ch lo hi st st:=⟨rfl,rfl,rfl,rfl,Array.Perm.refl _,λ _ _=>rfl⟩
theorem Ch.trans {lo hi:Nat} {a b c:SortSt} (h1:Ch lo hi a b) (h2:Ch lo hi b c):Ch lo hi a c:=⟨h2.k.trans h1.k,h2.p.trans h1.p,h2.f.trans h1.f,h2.z.trans h1.z,h2.m.trans h1.m,λ i hi=>(h2.o i hi).trans (h1.o i hi)⟩
theorem Ch.wide {lo hi hi':Nat} {a b:SortSt} (h:Ch lo hi a b) (hh:hi<=hi'):Ch lo hi' a b:=⟨h.k,h.p,h.f,h.z,h.m,λ i hi=>h.o i ⋯⟩
theorem Ch.good {lo hi:Nat} {a b:SortSt} (h:Ch lo hi a b) (gd:∀ x∈(arrOf a).toList,Gd κ x):∀ x∈(arrOf b).toList,Gd κ x:=λ x hx=>gd x ((h.m.toList.mem_iff).mp hx)
def Up (κ:PyProof.Rows.KeyKind) (a:Array Keyed) (lo hi:Nat):Prop:=∀ i j x y,lo<=i->i<=j->j < hi->a[i]?=some x->a[j]?=some y->le' κ x y
def Dn (κ:PyProof.Rows.KeyKind) (a:Array Keyed) (lo hi:Nat):Prop:=∀ i j x y,lo<=i->i<=j->j < hi->a[i]?=some x->a[j]?=some y->le' κ y x
theorem Up.one {a:Array Keyed} {lo:Nat}:Up κ a lo (lo+1):=λ i j x y h1 h2 h3 ex ey=>by
 have:i=j:=⋯
 subst this;rw [ex] at ey;cases ey;exact iP _
theorem Up.more {a:Array Keyed} {lo hi hi':Nat} (h:Up κ a lo hi) (hl:lo < hi) (hz:hi < a.size) (hn:∀ x y,a[hi - 1]?=some x->a[hi]?=some y->le' κ x y) (he:hi'=hi+1:=by omega):Up κ a lo hi':=λ i j x y h1 h2 h3 ex ey=>by
 subst he;rcases uJ j hi with q | q
 ·exact h i j x y h1 h2 q ex ey
 ·have ej:j=hi:=⋯
  subst ej;rcases uJ i j with q2 | q2
  ·obtain ⟨u,eu⟩:=lA (a:=a) (i:=j - 1) ⋯;exact lL (h i (j - 1) x u h1 ⋯ ⋯ ex eu) (hn u y eu ey)
  ·have:i=j:=⋯
   subst this;rw [ex] at ey;cases ey;exact iP _
theorem Up.same {a b:Array Keyed} {lo hi:Nat} (h:Up κ a lo hi) (e:∀ i,lo<=i->i < hi->b[i]?=a[i]?):Up κ b lo hi:=λ i j x y h1 h2 h3 ex ey=>h i j x y h1 h2 h3 (by rw [← e i h1 ⋯]; exact ex) (by rw [← e j ⋯ h3]; exact ey)
theorem Dn.more {a:Array Keyed} {lo hi hi':Nat} (h:Dn κ a lo hi) (hl:lo < hi) (hz:hi < a.size) (hn:∀ x y,a[hi - 1]?=some x->a[hi]?=some y->le' κ y x) (he:hi'=hi+1:=by omega):Dn κ a lo hi':=λ i j x y h1 h2 h3 ex ey=>by
 subst he;rcases uJ j hi with q | q
 ·exact h i j x y h1 h2 q ex ey
 ·have ej:j=hi:=⋯
  subst ej;rcases uJ i j with q2 | q2
  ·obtain ⟨u,eu⟩:=lA (a:=a) (i:=j - 1) ⋯;exact lL (hn u y eu ey) (h i (j - 1) x u h1 ⋯ ⋯ ex eu)
  ·have:i=j:=⋯
   subst this;rw [ex] at ey;cases ey;exact iP _
noncomputable abbrev mir (a:Array Keyed) (i j:Nat):Array Keyed:=mirror a i j ((j - i) / 2)
theorem gE {a:Array Keyed} {i j k:Nat} (hj:j<=a.size):(mir a i j)[k]?=if i<=k/\k < j then a[i+j - 1 - k]? else a[k]?:=getElem?_mirror_all hj k
theorem Dn.turned {a:Array Keyed} {lo hi i0 j0:Nat} (h:Dn κ a lo hi) (u:Up κ a i0 j0) (hl:lo<=i0) (hj:j0<=hi) (hz:hi<=a.size):Dn κ (mir a i0 j0) lo hi:=λ i j x y h1 h2 h3 ex ey=>by
 rw [gE ⋯] at ex ey
 by_cases c1:i0<=i/\i < j0
 ·rw [if_pos c1] at ex
  by_cases c2:i0<=j/\j < j0
  ·rw [if_pos c2] at ey;exact u _ _ y x ⋯ (show i0+j0 - 1 - j<=i0+j0 - 1 - i by omega) ⋯ ey ex
  ·rw [if_neg c2] at ey;exact h _ _ x y ⋯ (show i0+j0 - 1 - i<=j by omega) h3 ex ey
 ·rw [if_neg c1] at ex
  by_cases c2:i0<=j/\j < j0
  ·rw [if_pos c2] at ey;exact h _ _ x y h1 (show i<=i0+j0 - 1 - j by omega) ⋯ ex ey
  ·rw [if_neg c2] at ey;exact h _ _ x y h1 h2 h3 ex ey
theorem Dn.up {a:Array Keyed} {lo hi:Nat} (h:Dn κ a lo hi) (hz:hi<=a.size):Up κ (mir a lo hi) lo hi:=λ i j x y h1 h2 h3 ex ey=>by
 rw [gE hz,if_pos ⟨h1,⋯⟩] at ex;rw [gE hz,if_pos ⟨⋯,h3⟩] at ey;exact h _ _ y x ⋯ (show lo+hi - 1 - j<=lo+hi - 1 - i by omega) ⋯ ey ex
theorem aC {st:SortSt} {i j:Nat} {Q:Unit->SortSt->Prop} (hj:j<=(arrOf st).size) (h:∀ st',Ch i j st st'->arrOf st'=mir (arrOf st) i j->Q () st'):wpS (model prog w) A E s (reverseSlice' i j) Q st:=by
 rw [reverseSlice'_eq];refine wU (h _ ⟨rfl,rfl,rfl,mirror_size _ _ _ _,mirror_perm _ _ _ _,λ k hk=>?_⟩ rfl);exact (gE hj).trans (if_neg ⋯)
theorem Ik (hC:Cmp prog w A s κ kd) {st:SortSt} {lo n0 nrem:Nat} {f:Nat->Option (Option Nat) × Nat->StateT SortSt Sem (ForInStep (Option (Option Nat) × Nat))} {Q:Option (Option Nat) × Nat->SortSt->Prop} (hk:kindOf st=kd) (gd:∀ x∈(arrOf st).toList,Gd κ x) (hz:lo+nrem<=(arrOf st).size) (h0:1<=n0) (hn:n0<=nrem) (hu:Up κ (arrOf st) lo (lo+n0))
  (hf:∀ x c,f x c=(do
   let __x ← ltAt' (lo+c.2) (lo+c.2 - 1)
   match __x with
    | some smaller=>if smaller=true then pure (ForInStep.done (none,c.2)) else pure (ForInStep.yield (none,c.2+1))
    | _=>pure (ForInStep.done (some none,c.2))))
  (h:∀ n,n0<=n->n<=nrem->Up κ (arrOf st) lo (lo+n)->(n=nrem\/∀ x y,(arrOf st)[lo+n]?=some x->(arrOf st)[lo+n - 1]?=some y->lq κ x y=true)->Q (none,n) st) :
  wpS (model prog w) A E s (forIn [n0:nrem] ((none,n0):Option (Option Nat) × Nat) f) Q st:=by
 refine wT (xK (I:=λ x c st'=>st'=st/\c=(none,x)/\n0<=x/\x<=nrem/\Up κ (arrOf st) lo (lo+x))
  (Q:=λ c st'=>st'=st/\∃ n,c=(none,n)/\n0<=n/\n<=nrem/\Up κ (arrOf st) lo (lo+n)/\(n=nrem\/∀ x y,(arrOf st)[lo+n]?=some x->(arrOf st)[lo+n - 1]?=some y->lq κ x y=true)) ?_ ?_ ⟨rfl,rfl,zF _,hn,hu⟩) ?_
 ·rintro x c st' hx1 hx2 ⟨rfl,rfl,a1,a2,a3⟩;rw [hf];dsimp only;refine zH (dZ hC hk gd ⋯ ⋯ λ p q ep eq=>?_);dsimp only;cases hl:lq κ p q with
  | true =>
   rw [if_pos rfl];refine zJ ⟨rfl,x,rfl,a1,a2,a3,.inr λ u v eu ev=>?_⟩;rw [ep] at eu;rw [eq] at ev;cases eu;cases ev;exact hl
  | false =>
   rw [if_neg (by simp)];refine zJ ⟨rfl,rfl,⋯,⋯,?_⟩;refine Up.more a3 ⋯ ⋯ λ u v eu ev=>?_;rw [eq] at eu;rw [ep] at ev;cases eu;cases ev;exact hl
 ·rintro c st' ⟨rfl,rfl,a1,a2,a3⟩;exact ⟨rfl,_,rfl,a1,a2,a3,.inl ⋯⟩
 ·rintro c st' ⟨rfl,n,rfl,a1,a2,a3,a4⟩;exact h n a1 a2 a3 a4
theorem Ij {α:Type} {c:Prop} [Decidable c] {P T:StateT SortSt Sem α} {R:SortSt->Prop} {st:SortSt} {Q:α->SortSt->Prop} (h1:c->(∀ st2,R st2->wpS (model prog w) A E s P Q st2)->wpS (model prog w) A E s T Q st) (h2:¬ c->R st) (go:∀ st2,R st2->wpS (model prog w) A E s P Q st2):wpS (model prog w) A E s (if c then T else P) Q st :=
 nN (λ x=>h1 x go) λ x=>go st (h2 x)
theorem Se (hC:Cmp prog w A s κ kd) {st:SortSt} {lo nrem:Nat} {Q:Option Nat->SortSt->Prop} (hk:kindOf st=kd) (gd:∀ x∈(arrOf st).toList,Gd κ x) (hz:lo+nrem<=(arrOf st).size) (h1:1<=nrem)
  (h:∀ n st',1<=n->n<=nrem->Ch lo (lo+n) st st'->Up κ (arrOf st') lo (lo+n)->Q (some n) st'):wpS (model prog w) A E s (countRun' lo nrem) Q st:=by
 rw [countRun'_eq];refine zH (Ik hC hk gd hz (zF _) h1 Up.one (λ x c=>rfl) λ n n1 n2 up nx=>?_);dsimp only;refine nN (λ z=>?_) λ z=>?_
 ·exact zJ (h n st n1 n2 (Ch.refl _ _ _) up)
 have z':n≠nrem:=λ e=>z (zY.mpr e);have nx':=nx.resolve_left z';refine Ij (R:=λ st2=>Ch lo (lo+n) st st2/\Dn κ (arrOf st2) lo (lo+n+1)) (λ y go=>?_) (λ y=>?_) λ st2 h2=>?_
 ·refine zH (dZ hC hk gd ⋯ ⋯ λ p q ep eq=>?_);dsimp only;cases hl:lq κ p q with
  | true =>
   rw [if_pos rfl];exact zJ (h n st n1 n2 (Ch.refl _ _ _) up)
  | false =>
   rw [if_neg (by simp)];refine zH (aC ⋯ λ st2 c2 e2=>?_);refine go st2 ⟨c2,Dn.more (hi:=lo+n) ?_ ⋯ (by rw [c2.z]; omega) λ u v eu ev=>?_⟩
   ·-- all alike
    rw [e2];intro i j x y b1 b2 b3 ex ey;rw [gE ⋯,if_pos ⟨b1,⋯⟩] at ex;rw [gE ⋯,if_pos ⟨⋯,b3⟩] at ey;exact up _ _ y x ⋯ (show lo+(lo+n) - 1 - j<=lo+(lo+n) - 1 - i by omega) ⋯ ey ex
   ·rw [c2.o _ (.inr (zF _))] at ev;rw [e2,gE ⋯,if_pos ⋯,show lo+(lo+n) - 1 - (lo+n - 1)=lo by omega,ep] at eu;cases eu;exact lL (lW (nx' v q ev eq)) hl
 ·have:n=1:=⋯
  subst this;refine ⟨Ch.refl _ _ _,Dn.more (hi:=lo+1) (λ i j x y b1 b2 b3 ex ey=>?_) ⋯ ⋯ λ u v eu ev=>lW (nx' v u ev eu)⟩;have:i=j:=⋯
  subst this;rw [ex] at ey;cases ey;exact iP _
 ·obtain ⟨c2,dn⟩:=h2;refine zH (rK (wM ⟨rfl,?_⟩));refine zH (wT (xK (I:=λ x c st'=>∃ neq,c=(none,x,neq)/\n+1<=x/\x<=nrem/\neq+1<=x/\Ch lo (lo+x) st st'/\Dn κ (arrOf st') lo (lo+x)/\Up κ (arrOf st') (lo+x - (neq+1)) (lo+x))
   (Q:=λ c st'=>∃ x neq,c=(none,x,neq)/\n+1<=x/\x<=nrem/\neq+1<=x/\Ch lo (lo+x) st st'/\Dn κ (arrOf st') lo (lo+x)/\Up κ (arrOf st') (lo+x - (neq+1)) (lo+x)) ?_ ?_ ⟨0,rfl,zF _,⋯,⋯,c2.wide ⋯,dn,by rw [show lo+(n+1)=lo+n+1 by omega]; exact Up.one⟩) ?_)
  ·rintro x c st' hx1 hx2 ⟨neq,rfl,a1,a2,a3,ch,dn,up⟩;have hk':kindOf st'=kd:=ch.k.trans hk;have gd':=ch.good gd;have z':=ch.z;dsimp only;refine zH (dZ hC hk' gd' ⋯ ⋯ λ p q ep eq=>?_);dsimp only;cases hl:lq κ p q with
   | true =>
    rw [if_pos rfl];refine nN (λ zn=>?_) λ zn=>?_
    ·refine zH (aC ⋯ λ st3 c3 e3=>zJ ?_);have cw:Ch lo (lo+x) st' st3:=⟨c3.k,c3.p,c3.f,c3.z,c3.m,λ i hi=>c3.o i ⋯⟩;refine ⟨0,rfl,⋯,⋯,⋯,(ch.trans cw).wide ⋯,?_,by rw [show lo+(x+1) - (0+1)=lo+x by omega]; exact Up.one⟩;refine Dn.more (hi:=lo+x) (by rw [e3]; exact Dn.turned dn up ⋯ (zF _) ⋯) ⋯ (by rw [c3.z]; omega) λ u v eu ev=>?_;rw [c3.o _ (.inr (zF _)),ep] at ev;cases ev;rw [e3,gE ⋯,if_pos ⋯] at eu;have l1:le' κ q u:=dn _ _ u q ⋯ (show lo+x - (neq+1)+(lo+x) - 1 - (lo+x - 1)<=lo+x - 1 by omega) ⋯ eu eq;exact lL (lW hl) l1
    ·refine zJ ⟨0,rfl,⋯,⋯,⋯,ch.wide ⋯,?_,by rw [show lo+(x+1) - (0+1)=lo+x by omega]; exact Up.one⟩;refine Dn.more dn ⋯ ⋯ λ u v eu ev=>?_;rw [eq] at eu;rw [ep] at ev;cases eu;cases ev;exact lW hl
   | false =>
    rw [if_neg (by simp)];refine zH (dZ hC hk' gd' ⋯ ⋯ λ q' p' eq' ep'=>?_);rw [eq] at eq';rw [ep] at ep';cases eq';cases ep';dsimp only;cases hl2:lq κ q p with
    | true =>
     rw [if_pos rfl];exact zJ ⟨x,neq,rfl,a1,a2,a3,ch,dn,up⟩
    | false =>
     rw [if_neg (by simp)];refine zJ ⟨neq+1,rfl,⋯,⋯,⋯,ch.wide ⋯,?_,?_⟩
     ·refine Dn.more dn ⋯ ⋯ λ u v eu ev=>?_;rw [eq] at eu;rw [ep] at ev;cases eu;cases ev;exact hl2
     ·have:=Up.more (hi':=lo+(x+1)) up ⋯ ⋯ λ u v eu ev=>by
       rw [eq] at eu;rw [ep] at ev;cases eu;cases ev;exact hl
      rw [show lo+(x+1) - (neq+1+1)=lo+x - (neq+1) by omega];exact this
  ·rintro c st' ⟨neq,rfl,a1,a2,a3,ch,dn,up⟩;exact ⟨_,neq,rfl,a1,a2,a3,ch,dn,up⟩
  ·rintro c st' ⟨x,neq,rfl,a1,a2,a3,ch,dn,up⟩;dsimp only;refine Ij (R:=λ st3=>Ch lo (lo+x) st st3/\Dn κ (arrOf st3) lo (lo+x)) (λ zn fin=>?_) (λ zn=>⟨ch,dn⟩) λ st3 h3=>?_
   ·have z':=ch.z;refine zH (aC ⋯ λ st3 c3 e3=>?_);have cw:Ch lo (lo+x) st' st3:=⟨c3.k,c3.p,c3.f,c3.z,c3.m,λ i hi=>c3.o i ⋯⟩;exact fin st3 ⟨ch.trans cw,by rw [e3]; exact Dn.turned dn up ⋯ (zF _) ⋯⟩
   ·obtain ⟨c3,dn3⟩:=h3;have z3:=c3.z;refine zH (aC ⋯ λ st4 c4 e4=>?_);have c34:=c3.trans c4;have z4:=c4.z;refine zH (Ik hC (c34.k.trans hk) (c34.good gd) ⋯ ⋯ a2 (by rw [e4]; exact Dn.up dn3 ⋯) (λ _ _=>rfl) λ m m1 m2 up' _=>?_);dsimp only;exact zJ (h m st4 ⋯ m2 (c34.wide ⋯) up')
theorem Sd {x y z:Keyed} (h1:lq κ x y=true) (h2:le' κ y z):lq κ x z=true:=KeyOrd.klt_of_klt_of_kle (O:=κ.toKeyOrd) h1 h2
theorem Up.put {a:Array Keyed} {lo k l:Nat} {p:Keyed} (hu:Up κ a lo (lo+k)) (hz:lo+k < a.size) (ep:a[lo+k]?=some p) (hl:l<=k) (h1:∀ i u,lo<=i->i < lo+l->a[i]?=some u->le' κ u p) (h2:∀ i u,lo+l<=i->i < lo+k->a[i]?=some u->lq κ p u=true) :
  Up κ (bubble a (lo+k) (lo+k - (lo+l))) lo (lo+(k+1)):=λ i j x y g1 g2 g3 ex ey=>by
 rw [getElem?_bubble hz _ ⋯,show lo+k - (lo+k - (lo+l))=lo+l by omega] at ex ey
 by_cases a1:i=lo+l
 ·rw [if_pos a1,ep] at ex;cases ex
  by_cases b1:j=lo+l
  ·rw [if_pos b1,ep] at ey;cases ey;exact iP _
  ·rw [if_neg b1,if_pos ⋯] at ey;exact lW (h2 _ _ ⋯ ⋯ ey)
 ·rw [if_neg a1] at ex
  by_cases a2:lo+l < i/\i<=lo+k
  ·rw [if_pos a2] at ex;rw [if_neg ⋯,if_pos ⋯] at ey;exact hu _ _ _ _ ⋯ (show i - 1<=j - 1 by omega) ⋯ ex ey
  ·rw [if_neg a2] at ex
   by_cases b1:j=lo+l
   ·rw [if_pos b1,ep] at ey;cases ey;exact h1 _ _ g1 ⋯ ex
   ·rw [if_neg b1] at ey
    by_cases b2:lo+l < j/\j<=lo+k
    ·rw [if_pos b2] at ey;exact hu _ _ _ _ g1 (show i<=j - 1 by omega) ⋯ ex ey
    ·rw [if_neg b2] at ey;exact hu _ _ _ _ g1 g2 ⋯ ex ey
theorem Sc (hC:Cmp prog w A s κ kd) {st:SortSt} {lo n ok:Nat} {Q:Bool->SortSt->Prop} (hk:kindOf st=kd) (gd:∀ x∈(arrOf st).toList,Gd κ x) (hz:lo+n<=(arrOf st).size) (h1:1<=ok) (hok:ok<=n) (hu:Up κ (arrOf st) lo (lo+ok))
  (h:∀ st',Ch lo (lo+n) st st'->Up κ (arrOf st') lo (lo+n)->Q true st'):wpS (model prog w) A E s (binarySort' lo n ok) Q st:=by
 rw [binarySort'_eq];refine zH (wT (xK (I:=λ k c st'=>c=(none,())/\ok<=k/\k<=n/\Ch lo (lo+n) st st'/\Up κ (arrOf st') lo (lo+k))
  (Q:=λ c st'=>c=(none,())/\Ch lo (lo+n) st st'/\Up κ (arrOf st') lo (lo+n)) ?step ?fin ?init) ?post)
 case post =>
  rintro c st' ⟨rfl,c1,u1⟩;exact zJ (h st' c1 u1)
 case init=>rw [show max ok 1=ok by omega]; exact ⟨rfl,zF _,hok,Ch.refl _ _ _,hu⟩
 case fin =>
  rintro c st' ⟨hc,a1,a2,c1,u1⟩;rw [show max (max ok 1) n=n by omega] at u1;exact ⟨hc,c1,u1⟩
 case step =>
  rintro k c st' hak hkn ⟨rfl,a1,a2,c1,u1⟩;have z1:=c1.z;have hk':kindOf st'=kd:=c1.k.trans hk;have gd':=c1.good gd;obtain ⟨p,ep⟩:=lA (a:=arrOf st') (i:=lo+k) ⋯;refine zH (wT (xK (I:=λ x c st''=>st''=st'/\∃ l r,c=(none,l,r)/\l<=r/\r<=k/\r - l<=k - x /\
    (∀ i u,lo<=i->i < lo+l->(arrOf st')[i]?=some u->le' κ u p)/\(∀ i u,lo+r<=i->i < lo+k->(arrOf st')[i]?=some u->lq κ p u=true))
   (Q:=λ c st''=>st''=st'/\∃ l r,c=(none,l,r)/\l<=k /\
    (∀ i u,lo<=i->i < lo+l->(arrOf st')[i]?=some u->le' κ u p)/\(∀ i u,lo+l<=i->i < lo+k->(arrOf st')[i]?=some u->lq κ p u=true)) ?istep ?ifin ?iinit) ?ipost)
  case iinit=>exact ⟨rfl,0,k,rfl,⋯,⋯,⋯,λ i u _ hi=>⋯,λ i u h1 h2=>⋯⟩
  case ifin =>
   rintro c st'' ⟨rfl,l,r,rfl,hlr,hrk,hm,hlo,hhi⟩;have:l=r:=⋯
   subst this;exact ⟨rfl,l,l,rfl,hrk,hlo,hhi⟩
  case istep =>
   rintro x c st'' _ hxk ⟨rfl,l,r,rfl,hlr,hrk,hm,hlo,hhi⟩;dsimp only;refine nN (λ hge=>?_) λ hge=>?_
   ·have:l=r:=⋯
    subst this;exact zJ ⟨rfl,l,l,rfl,hrk,hlo,hhi⟩
   ·refine zH (dZ hC hk' gd' ⋯ ⋯ λ p' q ep' eq=>?_);rw [ep] at ep';cases ep';dsimp only;cases hless:lq κ p q with
    | true =>
     rw [if_pos rfl];refine zJ ⟨rfl,l,(l+r) / 2,rfl,⋯,⋯,⋯,hlo,λ i u g1 g2 eu=>?_⟩;exact Sd hless (u1 _ _ _ _ ⋯ g1 g2 eq eu)
    | false =>
     rw [if_neg (by simp)];refine zJ ⟨rfl,(l+r) / 2+1,r,rfl,⋯,⋯,⋯,λ i u g1 g2 eu=>?_,hhi⟩;exact lL (u1 _ _ _ _ g1 (show i<=lo+(l+r) / 2 by omega) ⋯ eu eq) hless
  case ipost =>
   rintro c st'' ⟨rfl,l,r,rfl,hlk,hlo,hhi⟩;show wpS _ _ _ _ (do moveDown' (lo+k) (lo+l); pure (ForInStep.yield (none,()))) _ _;rw [moveDown'_eq];refine zH (wU (zJ ⟨rfl,⋯,⋯,c1.trans ⟨rfl,rfl,rfl,bubble_size _ _ _,bubble_perm _ _ _,λ i hi=>?_⟩,u1.put ⋯ ep hlk hlo hhi⟩));exact (getElem?_bubble ⋯ _ ⋯ i).trans (by rw [if_neg ⋯,if_neg ⋯])
def Run (κ:PyProof.Rows.KeyKind) (a:Array Keyed):Nat->List (Nat × Nat × Nat)->Nat->Prop
 | s,[],e=>s=e
 | s,x :: xs,e=>x.1=s/\1<=x.2.1/\Up κ a s (s+x.2.1)/\Run κ a (s+x.2.1) xs e
theorem Run.le {a:Array Keyed}:∀ {xs:List (Nat × Nat × Nat)} {s e:Nat},Run κ a s xs e->s+xs.length<=e
 | [],s,e,h=>by have:s=e:=h; simp [this]
 | x :: xs,s,e,h=>by have:=Run.le h.2.2.2; have:=h.2.1; simp only [List.length_cons]; omega
theorem Run.app {a:Array Keyed}:∀ {xs ys:List (Nat × Nat × Nat)} {s e:Nat},Run κ a s (xs++ys) e ↔ ∃ m,Run κ a s xs m/\Run κ a m ys e
 | [],ys,s,e=>⟨λ h=>⟨s,rfl,h⟩,λ ⟨m,h1,h2⟩=>by cases (show s=m from h1); exact h2⟩
 | x :: xs,ys,s,e=>⟨λ ⟨h1,h2,h3,h4⟩=>let ⟨m,g1,g2⟩:=Run.app.mp h4; ⟨m,⟨h1,h2,h3,g1⟩,g2⟩,λ ⟨m,⟨h1,h2,h3,h4⟩,g⟩=>⟨h1,h2,h3,Run.app.mpr ⟨m,h4,g⟩⟩⟩
theorem Run.same {a b:Array Keyed}:∀ {xs:List (Nat × Nat × Nat)} {s e:Nat},(∀ i,s<=i->i < e->b[i]?=a[i]?)->Run κ a s xs e->Run κ b s xs e
 | [],_,_,_,h=>h
 | x :: xs,s,e,q,h=>by
  have:=Run.le h.2.2.2;exact ⟨h.1,h.2.1,h.2.2.1.same λ i i1 i2=>q i i1 ⋯,Run.same (λ i i1 i2=>q i ⋯ i2) h.2.2.2⟩
theorem Cr {a:Array Keyed} {i j:Nat} (h:Up κ a i j):Srt κ (seg a.toList i j):=by
 rw [Srt,wY];intro t u ht hu htu;have e1:=xO ht;have e2:=xO hu;rw [dY] at e1 e2;split at e1
 ·split at e2
  ·exact h _ _ _ _ ⋯ (show i+t<=i+u by omega) ⋯ (nF.mpr e1) (nF.mpr e2)
  ·cases e2
 ·cases e1
theorem Sb {a:Array Keyed} {l X r:List Keyed} {i j:Nat} (e:a.toList=l++X++r) (hl:l.length=i) (hx:X.length=j - i) (h:Srt κ X):Up κ a i j:=λ p q x y h1 h2 h3 ex ey=>by
 have ex:=nF.mp ex;have ey:=nF.mp ey;rw [e,yP,zZ ⋯,yK ⋯] at ex ey;rcases uJ p q with c | c
 ·have hp:p - l.length < X.length:=⋯
  have hq:q - l.length < X.length:=⋯
  rw [xO hp] at ex;rw [xO hq] at ey;cases ex;cases ey;exact (wY.mp h) _ _ hp hq ⋯
 ·have:p=q:=⋯
  subst this;rw [ex] at ey;cases ey;exact iP _
structure Wt (κ:PyProof.Rows.KeyKind) (kd:SortKind) (a₀:Array Keyed) (hi:Nat) (st:SortSt):Prop where
 k:kindOf st=kd
 f:failedOf st=none
 m:(arrOf st).Perm a₀
 r:Run κ (arrOf st) 0 (pendingOf st).toList hi
theorem Wt.z {a₀:Array Keyed} {hi:Nat} {st:SortSt} (h:Wt κ kd a₀ hi st):(arrOf st).size=a₀.size:=h.m.size_eq
theorem Wt.good {a₀:Array Keyed} {hi:Nat} {st:SortSt} (h:Wt κ kd a₀ hi st) (gd:∀ x∈a₀.toList,Gd κ x):∀ x∈(arrOf st).toList,Gd κ x:=λ x hx=>gd x ((h.m.toList.mem_iff).mp hx)
theorem Sa {p:Array (Nat × Nat × Nat)} {xs ys:List (Nat × Nat × Nat)} {e f g:Nat × Nat × Nat} (h:p.toList=xs++e :: f :: ys):((p.setIfInBounds xs.length g).eraseIdxIfInBounds (xs.length+1)).toList=xs++g :: ys:=by
 have hz:xs.length+1 < (p.setIfInBounds xs.length g).size:=by
  rw [pU,← zN,h];simp
 rw [Array.eraseIdxIfInBounds,dif_pos hz,Array.toList_eraseIdx,pM,h,List.set_append_right _ _ (zF _),tH];rw [uI ⋯];simp
theorem Cq (hC:Cmp prog w A s κ kd) {a₀:Array Keyed} (gd:∀ x∈a₀.toList,Gd κ x) {st:SortSt} {i hi:Nat} {xs ys:List (Nat × Nat × Nat)} {e f:Nat × Nat × Nat} {Q:Bool->SortSt->Prop} (hw:Wt κ kd a₀ hi st) (hh:hi<=a₀.size) (hp:(pendingOf st).toList=xs++e :: f :: ys) (hx:i=xs.length)
  (h:∀ st',Wt κ kd a₀ hi st'->(pendingOf st').toList=xs++(e.1,e.2.1+f.2.1,e.2.2) :: ys->(∀ j,hi<=j->(arrOf st')[j]?=(arrOf st)[j]?)->Q true st'):wpS (model prog w) A E s (mergeAt' i) Q st:=by
 subst hx;have hr:=hw.r;rw [hp] at hr;obtain ⟨m,r1,h1,h2,h3,h4,h5,h6,r2⟩:=Run.app.mp hr;have l1:=r1.le;have l2:=r2.le;have hz:=hw.z;have e1:(pendingOf st)[xs.length]?=some (m,e.2.1,e.2.2):=by
  rw [← yW,hp,zZ (zF _),tH,← h1];rfl
 have e2:(pendingOf st)[xs.length+1]?=some (m+e.2.1,f.2.1,f.2.2):=by
  rw [← yW,hp,zZ ⋯,Nat.add_sub_cancel_left,← h4];rfl
 refine Sf hC hw.k (hw.good gd) hw.f e1 e2 h2 h5 ⋯ (Cr h3) (Cr h6) λ st' X k' f' p' a' pm sX=>?_;have lX:X.length=e.2.1+f.2.1:=by rw [pm.length_eq,Cs (by rw [zN]; omega)]; omega
 have lt:((arrOf st).toList.take m).length=m:=by rw [xA,zN]; omega
 have ps:(pendingOf st').toList=xs++(e.1,e.2.1+f.2.1,e.2.2) :: ys:=by
  rw [p',← h1];exact Sa hp
 have up:Up κ (arrOf st') m (m+e.2.1+f.2.1):=Sb a' lt ⋯ sX;have lo:∀ j,j < m->(arrOf st')[j]?=(arrOf st)[j]?:=λ j hj=>by
  rw [← yW,← yW,a',yP,yK ⋯,pS hj]
 have hig:∀ j,m+e.2.1+f.2.1<=j->(arrOf st')[j]?=(arrOf st)[j]?:=λ j hj=>by
  rw [← yW,← yW,a',zZ (by rw [yB]; omega),tS];congr 1;rw [yB];omega
 refine h st' ⟨k',f',?_,?_⟩ ps λ j hj=>hig j ⋯
 ·refine Array.Perm.trans (pN.mpr ?_) hw.m;have q:=(pm.append_left ((arrOf st).toList.take m)).append_right ((arrOf st).toList.drop (m+e.2.1+f.2.1));rw [Im ⋯] at q;rw [a'];exact q
 ·rw [ps];refine Run.app.mpr ⟨m,r1.same λ j _ hj=>lo j hj,h1,(show 1<=e.2.1+f.2.1 by omega),?_,?_⟩
  ·show Up κ _ m (m+(e.2.1+f.2.1));rw [← sI]; exact up
  ·show Run κ _ (m+(e.2.1+f.2.1)) _ _;rw [← sI]; exact r2.same λ j hj _=>hig j hj
theorem Run.modify {a:Array Keyed} {f:Nat × Nat × Nat->Nat × Nat × Nat} (hf:∀ e,(f e).1=e.1/\(f e).2.1=e.2.1):∀ {xs:List (Nat × Nat × Nat)} {i s e:Nat},Run κ a s xs e->Run κ a s (xs.modify i f) e
 | [],i,s,e,h=>by cases i <;> exact h
 | x :: xs,0,s,e,h=>by
  show (f x).1=s/\1<=(f x).2.1/\Up κ a s (s+(f x).2.1)/\Run κ a (s+(f x).2.1) xs e;rw [(hf x).1,(hf x).2];exact h
 | x :: xs,i+1,s,e,h=>⟨h.1,h.2.1,h.2.2.1,Run.modify hf h.2.2.2⟩
theorem Tz {b:Prop} [Decidable b] {z:Nat} (h:¬ z<=1):(if b then z - 2 - 1 else z - 2)+1 < z:=by split <;> omega
theorem Cp {p:Array (Nat × Nat × Nat)} {i:Nat} (h:i+1 < p.size):∃ xs e f ys,p.toList=xs++e :: f :: ys/\xs.length=i:=by
 have h':i+1 < p.toList.length:=by rw [zN]; exact h
 refine ⟨p.toList.take i,p.toList[i],p.toList[i+1],p.toList.drop (i+2),?_,by rw [xA]; omega⟩;rw [← tY,← tY,xX]
theorem Wt.push {a₀:Array Keyed} {lo n:Nat} {st:SortSt} (h:Wt κ kd a₀ lo st) (hn:1<=n) (hu:Up κ (arrOf st) lo (lo+n)):Wt κ kd a₀ (lo+n) (setPending st ((pendingOf st).push (lo,n,0))) :=
 ⟨h.k,h.f,h.m,by
  show Run κ (arrOf st) 0 ((pendingOf st).push (lo,n,0)).toList (lo+n);rw [uM];exact Run.app.mpr ⟨lo,h.r,rfl,hn,hu,rfl⟩⟩
theorem Ty (hC:Cmp prog w A s κ kd) {a₀:Array Keyed} (gd:∀ x∈a₀.toList,Gd κ x) {st:SortSt} {Q:Unit->SortSt->Prop} (hk:kindOf st=kd) (hf:failedOf st=none) (hp:pendingOf st=#[]) (ha:arrOf st=a₀)
  (h:∀ st',kindOf st'=kd->failedOf st'=none->(arrOf st').Perm a₀->Up κ (arrOf st') 0 a₀.size->Q () st'):wpS (model prog w) A E s sortRuns' Q st:=by
 rw [sortRuns'_eq];refine zH (uT ?_);rw [ha];dsimp only;have w0:Wt κ kd a₀ 0 st:=⟨hk,hf,by rw [ha],by rw [hp]; rfl⟩;refine zH (wT (xK (I:=λ x c st'=>∃ lo,c=(none,lo)/\x<=lo/\lo<=a₀.size/\Wt κ kd a₀ lo st')
  (Q:=λ c st'=>c=(none,a₀.size)/\Wt κ kd a₀ a₀.size st') ?step ?fin ⟨0,rfl,zF _,yY _,w0⟩) ?post)
 case fin =>
  rintro c st' ⟨lo,rfl,h1,h2,hw⟩;have:lo=a₀.size:=⋯
  subst this;exact ⟨rfl,hw⟩
 case step =>
  rintro x c st' hx1 hx2 ⟨lo,rfl,h1,h2,hw⟩;dsimp only;refine nN (λ z=>?_) λ z=>?_
  ·have:lo=a₀.size:=⋯
   subst this;exact zJ ⟨rfl,hw⟩
  have hz:=hw.z;refine zH (Se hC hw.k (hw.good gd) ⋯ ⋯ λ n st1 n1 n2 c1 u1=>?_);dsimp only;have low:∀ st2,kindOf st2=kindOf st'->pendingOf st2=pendingOf st'->failedOf st2=failedOf st'->(arrOf st2).Perm (arrOf st')->(∀ i,i < lo->(arrOf st2)[i]?=(arrOf st')[i]?)->Wt κ kd a₀ lo st2:=λ st2 e1 e2 e3 e4 e5=>⟨e1.trans hw.k,e3.trans hw.f,e4.trans hw.m,by rw [e2]; exact hw.r.same λ i _ hi=>e5 i hi⟩;refine nN (λ y=>?_) λ y=>?_
  ·refine zH (rK (wM ⟨rfl,?_⟩));have z1:=c1.z;refine zH (Sc hC (c1.k.trans hw.k) (c1.good (hw.good gd)) ⋯ n1 ⋯ u1 λ st2 c2 u2=>?_);rw [if_neg (by simp)];obtain ⟨w2,m1,m2,u2⟩:Wt κ kd a₀ lo st2/\1<=min (a₀.size - lo) (minRun' a₀.size a₀.size 0)/\lo+min (a₀.size - lo) (minRun' a₀.size a₀.size 0)<=a₀.size/\Up κ (arrOf st2) lo (lo+min (a₀.size - lo) (minRun' a₀.size a₀.size 0)):=⟨low st2 (c2.k.trans c1.k) (c2.p.trans c1.p) (c2.f.trans c1.f) (c2.m.trans c1.m) λ i hi=>(c2.o i (.inl hi)).trans (c1.o i (.inl hi)),⋯,⋯,u2⟩
   revert m1 m2 u2
   generalize min (a₀.size - lo) (minRun' a₀.size a₀.size 0)=n;intro m1 m2 u2;refine zH (uT ?_);cases hb:(pendingOf st2).back? with
   | none =>
    dsimp only;exact zH (wU (zJ ⟨lo+n,rfl,⋯,m2,w2.push m1 u2⟩))
   | some t =>
    obtain ⟨s1,k1,p1⟩:=t;dsimp only;generalize power' a₀.size (2*s1+k1) (2*s1+k1+k1+n) a₀.size=pw;refine zH (wT (xK (I:=λ x c st'=>c=(none,())/\Wt κ kd a₀ lo st'/\Up κ (arrOf st') lo (lo+n))
     (Q:=λ c st'=>c=(none,())/\Wt κ kd a₀ lo st'/\Up κ (arrOf st') lo (lo+n)) ?istep1 (λ c st' hh=>hh) ⟨rfl,w2,u2⟩) ?ipost1)
    case istep1 =>
     rintro x c st3 _ _ ⟨rfl,w3,u3⟩;refine zH (uT ?_)
     by_cases hs:(pendingOf st3).size > 1
     ·rw [if_pos hs];obtain ⟨xs,e,f,ys,ep,el⟩:=Cp (p:=pendingOf st3) (i:=(pendingOf st3).size - 2) ⋯;have ee:(pendingOf st3)[(pendingOf st3).size - 2]?=some e:=by
       rw [← yW,ep,zZ ⋯,el,tH];rfl
      rw [ee];dsimp only;refine nN (λ _=>zJ ⟨rfl,w3,u3⟩) λ _=>?_;refine zH (Cq hC gd w3 h2 ep el.symm λ st4 w4 p4 a4=>?_);rw [if_neg (by simp)];exact zJ ⟨rfl,w4,u3.same λ i hi _=>a4 i hi⟩
     ·rw [if_neg hs];exact zJ ⟨rfl,w3,u3⟩
    case ipost1 =>
     rintro c st3 ⟨rfl,w3,u3⟩;dsimp only;refine zH (wU ?_);have w4:Wt κ kd a₀ lo (setPending st3 ((pendingOf st3).modify ((pendingOf st3).size - 1) λ x=>(x.1,x.2.1,pw))):=⟨w3.k,w3.f,w3.m,by
      show Run κ (arrOf st3) 0 ((pendingOf st3).modify _ _).toList lo;rw [Array.toList_modify];exact Run.modify (f:=λ x=>(x.1,x.2.1,pw)) (λ e=>⟨rfl,rfl⟩) w3.r⟩
     exact zH (wU (zJ ⟨lo+n,rfl,⋯,m2,w4.push m1 u3⟩))
  ·have w2:=low st1 c1.k c1.p c1.f c1.m λ i hi=>c1.o i (.inl hi);have m2:lo+n<=a₀.size:=⋯
   refine zH (uT ?_);cases hb:(pendingOf st1).back? with
   | none =>
    dsimp only;exact zH (wU (zJ ⟨lo+n,rfl,⋯,m2,w2.push n1 u1⟩))
   | some t =>
    obtain ⟨s1,k1,p1⟩:=t;dsimp only;generalize power' a₀.size (2*s1+k1) (2*s1+k1+k1+n) a₀.size=pw;refine zH (wT (xK (I:=λ x c st'=>c=(none,())/\Wt κ kd a₀ lo st'/\Up κ (arrOf st') lo (lo+n))
     (Q:=λ c st'=>c=(none,())/\Wt κ kd a₀ lo st'/\Up κ (arrOf st') lo (lo+n)) ?istep (λ c st' hh=>hh) ⟨rfl,w2,u1⟩) ?ipost)
    case istep =>
     rintro x c st3 _ _ ⟨rfl,w3,u3⟩;refine zH (uT ?_)
     by_cases hs:(pendingOf st3).size > 1
     ·rw [if_pos hs];obtain ⟨xs,e,f,ys,ep,el⟩:=Cp (p:=pendingOf st3) (i:=(pendingOf st3).size - 2) ⋯;have ee:(pendingOf st3)[(pendingOf st3).size - 2]?=some e:=by
       rw [← yW,ep,zZ ⋯,el,tH];rfl
      rw [ee];dsimp only;refine nN (λ _=>zJ ⟨rfl,w3,u3⟩) λ _=>?_;refine zH (Cq hC gd w3 h2 ep el.symm λ st4 w4 p4 a4=>?_);rw [if_neg (by simp)];exact zJ ⟨rfl,w4,u3.same λ i hi _=>a4 i hi⟩
     ·rw [if_neg hs];exact zJ ⟨rfl,w3,u3⟩
    case ipost =>
     rintro c st3 ⟨rfl,w3,u3⟩;dsimp only;refine zH (wU ?_);have w4:Wt κ kd a₀ lo (setPending st3 ((pendingOf st3).modify ((pendingOf st3).size - 1) λ x=>(x.1,x.2.1,pw))):=⟨w3.k,w3.f,w3.m,by
      show Run κ (arrOf st3) 0 ((pendingOf st3).modify _ _).toList lo;rw [Array.toList_modify];exact Run.modify (f:=λ x=>(x.1,x.2.1,pw)) (λ e=>⟨rfl,rfl⟩) w3.r⟩
     exact zH (wU (zJ ⟨lo+n,rfl,⋯,m2,w4.push n1 u3⟩))
 case post =>
  rintro c st' ⟨rfl,hw⟩;dsimp only;have l0:=hw.r.le;rw [zN] at l0;refine zH (wT (xK (I:=λ x c st'=>c=(none,())/\Wt κ kd a₀ a₀.size st'/\((pendingOf st').size<=1\/(pendingOf st').size+x<=a₀.size))
   (Q:=λ c st'=>c=(none,())/\Wt κ kd a₀ a₀.size st'/\(pendingOf st').size<=1) ?fstep ?ffin ⟨rfl,hw,.inr ⋯⟩) ?fpost)
  case ffin =>
   rintro c st3 ⟨rfl,w3,z3⟩;exact ⟨rfl,w3,⋯⟩
  case fstep =>
   rintro x c st3 _ _ ⟨rfl,w3,z3⟩;refine zH (uT ?_);refine nN (λ q=>zJ ⟨rfl,w3,q⟩) λ q=>?_;generalize hi:(if Option.any (λ x=>decide (x < (pendingOf st3)[(pendingOf st3).size - 2+1]?.elim 0 λ x=>x.2.1)) (if (pendingOf st3).size - 2 > 0 then Option.map (λ x=>x.2.1) (pendingOf st3)[(pendingOf st3).size - 2 - 1]? else none)=true then (pendingOf st3).size - 2 - 1 else (pendingOf st3).size - 2)=i;have hi':i+1 < (pendingOf st3).size:=by
    rw [← hi];exact Tz q
   obtain ⟨xs,e,f,ys,ep,el⟩:=Cp hi';refine zH (Cq hC gd w3 (zF _) ep el.symm λ st4 w4 p4 _=>?_);rw [if_neg (by simp)];refine zJ ⟨rfl,w4,.inr ?_⟩;have g1:=xZ List.length ep;have g2:=xZ List.length p4;simp only [Array.length_toList,List.length_append,List.length_cons] at g1 g2;omega
  case fpost =>
   rintro c st3 ⟨rfl,w3,z3⟩;refine zJ (h st3 w3.k w3.f w3.m ?_);have hr:=w3.r;rw [← zN] at z3
   match hl:(pendingOf st3).toList,hr,z3 with
   | [],hr,_ =>
    have:0=a₀.size:=hr;rw [← this];exact λ i j x y _ _ hj=>absurd hj (qW _)
   | [t],hr,_ =>
    have:0+t.2.1=a₀.size:=hr.2.2.2;rw [← this];exact hr.2.2.1
end
def fS (prog:Program) (w:World) (n:Nat):Prop:=∀ {A:Around} {E:VP} {s:Shared} {κ:PyProof.Rows.KeyKind} {kd:SortKind} {a₀:Array Keyed} {st:SortSt} {Q:Unit->SortSt->Prop},a₀.size=n->2<=n->Cmp prog w A s κ kd->(∀ x∈a₀.toList,Gd κ x)->kindOf st=kd->failedOf st=none->pendingOf st=#[]->arrOf st=a₀ ->
 (∀ st',kindOf st'=kd->failedOf st'=none->(arrOf st').Perm a₀->Up κ (arrOf st') 0 a₀.size->Q () st')->wpS (model prog w) A E s sortRuns' Q st
section
variable {prog:Program} {w:World}
theorem Tx (n:Nat):fS prog w n:=λ _ _ hC gd hk hf hp ha h=>Ty hC gd hk hf hp ha h
end
mutual
noncomputable def fl:PyData->LI'
 | .int i=>[i]
 | .tuple xs=>flA xs
 | _=>[]
noncomputable def flA:List PyData->LI'
 | []=>[]
 | d :: ds=>fl d++flA ds
end
mutual
noncomputable def sm:PyData->PyData->Bool
 | .int _,.int _=>true
 | .tuple xs,.tuple ys=>smA xs ys
 | _,_=>false
noncomputable def smA:List PyData->List PyData->Bool
 | [],[]=>true
 | x :: xs,y :: ys=>sm x y && smA xs ys
 | _,_=>false
end
mutual
theorem cC:∀ (x y:PyData),sm x y=true->(fl x).length=(fl y).length
 | .int _,y,h=>by cases y <;> simp [sm] at h <;> simp [fl]
 | .tuple xs,y,h=>by cases y <;> simp [sm] at h <;> simp [fl]; exact Ii _ _ h
 | .none,y,h=>by simp [sm] at h
 | .bool _,y,h=>by simp [sm] at h
 | .str _,y,h=>by simp [sm] at h
 | .list _,y,h=>by simp [sm] at h
 | .dict _,y,h=>by simp [sm] at h
theorem Ii:∀ (xs ys:List PyData),smA xs ys=true->(flA xs).length=(flA ys).length
 | [],ys,h=>by cases ys <;> simp [smA] at h <;> rfl
 | x :: xs,ys,h=>by
  cases ys <;> simp [smA] at h;simp only [flA,List.length_append];rw [cC _ _ h.1,Ii _ _ h.2]
end
mutual
theorem cD:∀ (x y:PyData),sm x y=true->fl x=fl y->x=y
 | .int _,y,h,e=>by cases y <;> simp [sm] at h; simp [fl] at e; rw [e]
 | .tuple xs,y,h,e=>by cases y <;> simp [sm] at h; simp only [fl] at e; rw [Ih _ _ h e]
 | .none,y,h,e=>by simp [sm] at h
 | .bool _,y,h,e=>by simp [sm] at h
 | .str _,y,h,e=>by simp [sm] at h
 | .list _,y,h,e=>by simp [sm] at h
 | .dict _,y,h,e=>by simp [sm] at h
theorem Ih:∀ (xs ys:List PyData),smA xs ys=true->flA xs=flA ys->xs=ys
 | [],ys,h,e=>by cases ys <;> simp [smA] at h; rfl
 | x :: xs,ys,h,e=>by
  cases ys <;> simp [smA] at h;simp only [flA] at e;obtain ⟨e1,e2⟩:=List.append_inj e (cC _ _ h.1);rw [cD _ _ h.1 e1,Ih _ _ h.2 e2]
end
noncomputable def lx (a b:LI'):Bool:=decide (a < b)
theorem aD:∀ (a l1 l2:LI'),lx (a++l1) (a++l2)=lx l1 l2
 | [],_,_=>rfl
 | x :: a,l1,l2=>by
  rw [← aD a l1 l2]
  apply uR.mpr
  simp [List.cons_lt_cons_iff]
theorem aE:∀ (a b l1 l2:LI'),a.length=b.length->a≠b->lx (a++l1) (b++l2)=lx a b
 | [],[],_,_,_,h=>absurd rfl h
 | [],_ :: _,_,_,h,_=>by simp at h
 | _ :: _,[],_,_,h,_=>by simp at h
 | x :: a,y :: b,l1,l2,h,hn=>by
  apply uR.mpr
  simp only [List.cons_append,List.cons_lt_cons_iff]
  by_cases e:x=y
  ·subst e;have:=uR.mp (aE a b l1 l2 (by simpa using h) (by simpa using hn));rw [this]
  ·simp [e]
section
variable {prog:Program} {w:World} {E:VP}
theorem eqT {n:Nat} (hn:n<=4) {A:Around} {s:Shared} {v u:Value} {x y:PyData} {as bs:LA} {Q:Bool->Shared->Prop} (t1:tT n x=true) (t2:tT n y=true) (r1:Reads s.heap v x as) (r2:Reads s.heap u y bs) (hu:A.units+8 < cLine) (h:Q (decide (x=y)) s):wpAny (model prog w) A (eqBool v u) Q E s:=by
 have i1:=gS n _ t1;have i2:=gS n _ t2;have l1:=iA n _ i1;have l2:=iA n _ i2;refine pJ _ _ _ _ _ _ _ _ _ _ _ _ r1 r2 l1.1 l2.1 ⋯ ?_;rw [← SeqAt.same_eq_eqv _ _ (bH n _ _ i1 i2)];have e:=bI n _ _ i1 i2
 by_cases z:x=y
 ·rw [zM z] at h;rw [e.mpr z];exact h
 ·rw [zQ z] at h;have:same x y=false:=by
   cases q:same x y with
   | false=>rfl
   | true=>exact absurd (e.mp q) z
  rw [this];exact h
theorem ltT:∀ (n:Nat),n<=4->∀ {A:Around} {s:Shared} {v u:Value} {x y:PyData} {as bs:LA} {Q:VP},tT n x=true->tT n y=true->sm x y=true->Reads s.heap v x as->Reads s.heap u y bs->A.units+8+n < cLine->Q (.bool (lx (fl x) (fl y))) s->wpAny (model prog w) A (richCompare .Lt v u) Q E s:=by
 intro n
 induction n with
 | zero =>
  intro hn A s v u x y as bs Q t1 t2 hs r1 r2 hu h;cases r1 <;> simp [tT] at t1;cases r2 <;> simp [tT] at t2;refine wpAny_lt_int ?_;simpa [fl,lx,wX] using h
 | succ n ih =>
  intro hn A s v u x y as bs Q t1 t2 hs r1 r2 hu h;cases r1 <;> simp only [tT,Bool.false_eq_true] at t1
  case int =>
   cases r2 <;> simp only [sm,Bool.false_eq_true] at hs;refine wpAny_lt_int ?_;simpa [fl,lx,wX] using h
  case tuple a o vs m xs hg hc hd hr =>
   cases r2 <;> simp only [sm,Bool.false_eq_true] at hs;rename_i b o2 us m2 ys hg2 hc2 hd2 hr2;simp only [tT] at t2;have T1:s.TypeIs (.ref a) "tuple" := ⟨o,hg,hc⟩;have T2:s.TypeIs (.ref b) "tuple" := ⟨o2,hg2,hc2⟩;refine pE (op:=.Lt) T1 T2 PySem.F.slot_tuple_lt (xN PySem.F.slot_tuple_lt T1 PySem.F.entry_tuple_lt ?_ (PySem.F.args_tuple_lt_2 _ _)) ⋯;show wpAny _ _ (isInstance (.ref b) (.type "tuple") >>= _) _ _ s;refine zA (vI T2 rF ?_);simp only [Bool.not_true,Bool.false_eq_true,if_false];refine zA (uG hg hd ?_);refine zA (uG hg2 hd2 ?_);refine zA ?_;refine qP _
    (λ rest r s'=>r.1=none/\s'=s/\∃ x' y' vs' us' as' bs',rest=List.zip vs' us'/\ReadsAll s.heap vs' x' as'/\ReadsAll s.heap us' y' bs'/\x'.all (tT n)=true/\y'.all (tT n)=true/\smA x' y'=true/\lx (flA x') (flA y')=lx (flA xs) (flA ys)/\(vs'.length+us.size=us'.length+vs.size))
    _ ?_ ?_ _ _ ⟨rfl,rfl,xs,ys,vs.toList,us.toList,_,_,rfl,hr,hr2,t1,t2,hs,rfl,by simp; omega⟩
   ·rintro ⟨p,q⟩ rest r s' ⟨hq,rfl,x',y',vs',us',as',bs',hz,ra,rb,ta,tb,hsm,hdec,hlen⟩;cases ra with
    | nil=>simp at hz
    | @cons p' vs'' d' x'' a1 as'' r1 ra' =>
     cases rb with
     | nil=>simp [smA] at hsm
     | @cons q' us'' e' y'' b1 bs'' r2 rb' =>
      simp only [List.zip_cons_cons,List.cons.injEq,Prod.mk.injEq] at hz;obtain ⟨⟨rfl,rfl⟩,rfl⟩:=hz;rw [yV,zO] at ta tb;simp only [smA,Bool.and_eq_true] at hsm;refine zA (eqT (n:=n) ⋯ ta.1 tb.1 r1 r2 (by show A.units+1+8 < cLine; omega) ?_)
      by_cases e:d'=e'
      ·subst e;rw [zM rfl];simp only [Bool.not_true,Bool.false_eq_true,if_false];refine zC ⟨rfl,rfl,x'',y'',vs'',us'',_,_,rfl,ra',rb',ta.2,tb.2,hsm.2,?_,by simp at hlen; omega⟩;rw [← hdec];simp only [flA];rw [aD]
      ·rw [zQ e];simp only [Bool.not_false,if_true];have hne:fl d'≠fl e':=λ q=>e (cD _ _ hsm.1 q);simp only [flA] at hdec;rw [aE _ _ _ _ (cC _ _ hsm.1) hne] at hdec;refine zA (wM ?_);refine zA (ih ⋯ ta.1 tb.1 hsm.1 r1 r2 (by show A.units+1+8+n < cLine; omega) ?_);rw [hdec];exact zA (zC (zC (zC ⟨_,rfl,(λ e=>nomatch e),h⟩)))
   ·rintro ⟨r1,r2⟩ s' ⟨hq,rfl,x',y',vs',us',as',bs',hz,ra,rb,ta,tb,hsm,hdec,hlen⟩;simp only at hq;subst hq;cases ra with
    | cons ra1 ra2 =>
     cases rb with
     | nil=>simp [smA] at hsm
     | cons rb1 rb2=>simp at hz
    | nil =>
     cases rb with
     | cons rb1 rb2=>simp [smA] at hsm
     | nil =>
      have ez:vs.size=us.size:=by simp at hlen; omega
      have e0:lx (flA xs) (flA ys)=false:=by rw [← hdec]; simp [flA,lx]
      refine zC ⟨_,rfl,(λ e=>nomatch e),?_⟩;show Q (.bool (decide (vs.size < us.size))) s';have h':Q (.bool (lx (flA xs) (flA ys))) s':=h;rw [e0] at h';rw [ez,zQ (xC _)];exact h'
end
mutual
theorem Ig:∀ (d x y:PyData),sm d x=true->sm d y=true->sm x y=true
 | .int _,x,y,h1,h2=>by cases x <;> simp [sm] at h1; cases y <;> simp [sm] at h2; simp [sm]
 | .tuple xs,x,y,h1,h2=>by cases x <;> simp [sm] at h1; cases y <;> simp [sm] at h2; simp only [sm]; exact Ie _ _ _ h1 h2
 | .none,x,y,h1,h2=>by simp [sm] at h1
 | .bool _,x,y,h1,h2=>by simp [sm] at h1
 | .str _,x,y,h1,h2=>by simp [sm] at h1
 | .list _,x,y,h1,h2=>by simp [sm] at h1
 | .dict _,x,y,h1,h2=>by simp [sm] at h1
theorem Ie:∀ (d x y:List PyData),smA d x=true->smA d y=true->smA x y=true
 | [],x,y,h1,h2=>by cases x <;> simp [smA] at h1; cases y <;> simp [smA] at h2; simp [smA]
 | d :: ds,x,y,h1,h2=>by
  cases x <;> simp [smA] at h1;cases y <;> simp [smA] at h2;simp only [smA,Bool.and_eq_true];exact ⟨Ig _ _ _ h1.1 h2.1,Ie _ _ _ h1.2 h2.2⟩
end
theorem aF (a:LI'):lx a a=false:=zQ (List.lt_irrefl a)
theorem Id (a b c:LI') (h1:lx a b=true) (h2:lx b c=true):lx a c=true:=zM (List.lt_trans (yO h1) (yO h2))
theorem Ic (a b:LI') (h1:lx a b=false) (h2:lx b a=false):a=b:=List.le_antisymm (rN.mp (tO h2)) (rN.mp (tO h1))
theorem Tw (a b c:LI') (h:lx a c=true):lx a b=true\/lx b c=true:=by
 cases h1:lx a b with
 | true=>exact .inl rfl
 | false =>
  refine .inr ?_;cases h2:lx b c with
  | true=>rfl
  | false =>
   have e1:b<=a:=rN.mp (tO h1);have e2:c<=b:=rN.mp (tO h2);exact absurd (yO h) (rN.mpr (List.le_trans e2 e1))
open Classical in
def keyT (h:Heap) (d0:PyData) (v:Value):Option (LI'):=if q:∃ d,tT 4 d=true/\sm d0 d=true/\∃ as,Reads h v d as then some (fl q.choose) else none
theorem Ib {h:Heap} {d0 d:PyData} {v:Value} {as:LA} (t:tT 4 d=true) (z:sm d0 d=true) (r:Reads h v d as):keyT h d0 v=some (fl d):=by
 have q:∃ d,tT 4 d=true/\sm d0 d=true/\∃ as,Reads h v d as:=⟨d,t,z,as,r⟩;unfold keyT;rw [dif_pos q];obtain ⟨t',z',as',r'⟩:=q.choose_spec;rw [sJ _ _ _ _ _ (iA 4 _ (gS 4 _ t')).1 r' r]
theorem Ia {h:Heap} {d0:PyData} {v:Value} {a:LI'} (e:keyT h d0 v=some a):∃ d as,tT 4 d=true/\sm d0 d=true/\Reads h v d as/\a=fl d:=by
 unfold keyT at e
 by_cases q:∃ d,tT 4 d=true/\sm d0 d=true/\∃ as,Reads h v d as
 ·rw [dif_pos q] at e;obtain ⟨t',z',as',r'⟩:=q.choose_spec;exact ⟨_,as',t',z',r',by cases e; rfl⟩
 ·rw [dif_neg q] at e;cases e
def fT (h:Heap) (d0:PyData):PyProof.Rows.KeyKind where
 α:=LI'
 blt:=lx
 irrefl:=aF
 trans:=Id
 negTrans:=Tw
 total:=Ic
 keyOf:=keyT h d0
 dflt:=[]
section
variable {prog:Program} {w:World} {A:Around} {s:Shared}
theorem katT (hu:A.units+16 < cLine) {Q:Bool->Shared->Prop}:∀ (x' y':List PyData) (vs' us':LW) (as' bs':LA) (i:Nat),ReadsAll s.heap vs' x' as'->ReadsAll s.heap us' y' bs'->x'.all (tT 3)=true->y'.all (tT 3)=true->smA x' y'=true->Q (lx (flA x') (flA y')) s->PySem.W.KatLex prog w A false false Q (vs'.zip us') i s
 | [],y',vs',us',as',bs',i,ra,rb,_,_,hs,h=>by
  cases ra;cases y' with
  | cons _ _=>simp [smA] at hs
  | nil =>
   cases rb;refine PySem.W.kat_nil ?_;simpa [flA,lx] using h
 | d :: x',y',vs',us',as',bs',i,ra,rb,ta,tb,hs,h=>by
  cases y' with
  | nil=>simp [smA] at hs
  | cons e y' =>
   cases ra with
   | cons r1 ra' =>
    cases rb with
    | cons r2 rb' =>
     rw [yV,zO] at ta tb;simp only [smA,Bool.and_eq_true] at hs;rw [tQ];refine PySem.W.kat_cons (eqT (n:=3) ⋯ ta.1 tb.1 r1 r2 ⋯ ?_);simp only [flA] at h
     by_cases z:d=e
     ·subst z;rw [zM rfl];rw [aD] at h;exact PySem.W.kat_yes (katT hu x' y' _ _ _ _ (i+1) ra' rb' ta.2 tb.2 hs.2 h)
     ·rw [zQ z];rw [aE _ _ _ _ (cC _ _ hs.1) λ q=>z (cD _ _ hs.1 q)] at h;refine PySem.W.kat_no ?_;show wpAny (model prog w) A (oneLt' false _ _) Q _ s;exact PySem.W.kat_one _ _ (ltT 3 ⋯ ta.1 tb.1 hs.1 r1 r2 ⋯ h)
theorem cmpT (hu:A.units+16 < cLine) {d0:PyData} (hd:∃ l,d0=.tuple l):Cmp prog w A s (fT s.heap d0) (tuples' false):=by
 intro E x y a b Q hx hy h;obtain ⟨l,rfl⟩:=hd;obtain ⟨d,as,t1,z1,r1,rfl⟩:=Ia hx;obtain ⟨e,bs,t2,z2,r2,rfl⟩:=Ia hy;have z:=Ig _ _ _ z1 z2;cases r1 <;> simp only [sm,Bool.false_eq_true] at z1
 case tuple a o vs m xs hg hc hd hr =>
  cases r2 <;> simp only [sm,Bool.false_eq_true] at z2;rename_i b o2 us m2 ys hg2 hc2 hd2 hr2;simp only [tT] at t1 t2;simp only [sm] at z;have hl:vs.size=us.size:=by
   have e1:∀ {h:Heap} {vs:LW} {xs:List PyData} {as:LA},ReadsAll h vs xs as->vs.length=xs.length:=by
    intro h vs xs as r
    induction xs generalizing vs as with
    | nil=>cases r; rfl
    | cons x xs ih=>cases r with | cons r1 r2=>simp [ih r2]
   have e2:∀ {xs ys:List PyData},smA xs ys=true->xs.length=ys.length:=by
    intro xs
    induction xs with
    | nil=>intro ys h; cases ys <;> simp [smA] at h; rfl
    | cons x xs ih=>intro ys h; cases ys <;> simp [smA] at h; simp [ih h.2]
   have:=e1 hr;have:=e1 hr2;have:=e2 z;simp only [Array.length_toList] at *
   omega
  refine PySem.W.kat_lt hg hd hg2 hd2 ?_;rw [zQ ⋯];exact katT hu xs ys _ _ _ _ 0 hr hr2 t1 t2 z h
end
theorem Co {h h':Heap} (hk:∀ b o,h.get? b=some o->o.cls=.type "tuple" -> h'.get? b=some o):∀ (n:Nat) {v:Value} {d:PyData} {as:LA},tT n d=true->Reads h v d as->Reads h' v d as:=by
 intro n
 induction n with
 | zero =>
  intro v d as ht r;cases r <;> simp [tT] at ht;exact .int _ _
 | succ n ih =>
  have all:∀ (xs:List PyData) (vs:LW) (as:LA),xs.all (tT n)=true->ReadsAll h vs xs as->ReadsAll h' vs xs as:=by
   intro xs
   induction xs with
   | nil=>intro vs as _ r; cases r; exact .nil
   | cons d ds ihr =>
    intro vs as ht r;cases r with
    | cons r1 r2 =>
     rw [yV,zO] at ht;exact .cons (ih ht.1 r1) (ihr _ _ ht.2 r2)
  intro v d as ht r;cases r <;> simp only [tT,Bool.false_eq_true] at ht
  case int=>exact .int _ _
  case tuple a o vs k xs hg hc hdd hr=>exact .tuple (hk _ _ hg hc) hc hdd (all _ _ _ ht hr)
theorem Paired.perm {α β:Type} {F:α->β->Prop} {ys ys':List β} (p:ys.Perm ys'):∀ {xs:List α},Paired F xs ys->∃ xs',xs'.Perm xs/\Paired F xs' ys':=by
 induction p with
 | nil=>intro xs h; exact ⟨xs,List.Perm.refl _,h⟩
 | cons x p ih =>
  intro xs h;cases h with
  | @cons a b l1 l2 h1 h2 =>
   obtain ⟨xs',p',h'⟩:=ih h2;exact ⟨a :: xs',p'.cons _,.cons h1 h'⟩
 | swap x y l =>
  intro xs h;cases h with
  | @cons a b l1 l2 h1 h2 =>
   cases h2 with
   | @cons a' b' l1' l2' h1' h2'=>exact ⟨a' :: a :: l1',List.Perm.swap ..,.cons h1' (.cons h1 h2')⟩
 | trans p1 p2 ih1 ih2 =>
  intro xs h;obtain ⟨xs1,q1,h1⟩:=ih1 h;obtain ⟨xs2,q2,h2⟩:=ih2 h1;exact ⟨xs2,q2.trans q1,h2⟩
theorem Paired.mem {α β:Type} {F:α->β->Prop} {xs:List α} {ys:List β} (h:Paired F xs ys):∀ x∈xs,∃ y∈ys,F x y:=by
 induction h with
 | nil=>intro x hx; cases hx
 | cons h1 h2 ih =>
  intro x hx;rcases zL.mp hx with e | hx
  ·subst e; exact ⟨_,.head _,h1⟩
  ·obtain ⟨y,hy,q⟩:=ih x hx; exact ⟨y,.tail _ hy,q⟩
theorem ord_of {κ:PyProof.Rows.KeyKind} {α:Type} {F:α->Value->Prop} {k:α->κ.α} (hF:∀ p v,F p v->κ.keyOf v=some (k p)):∀ (L:List Keyed) (ps:List α),(∀ e∈L,e.1=e.2)->L.Pairwise (le' κ)->Paired F ps (L.map (·.2))->ps.Pairwise λ p q=>κ.blt (k q) (k p)=false
 | [],ps,_,_,h=>by cases h; exact .nil
 | e :: L,ps,he,hs,h=>by
  cases h with
  | @cons p b l1 l2 h1 h2 =>
   rw [tR] at hs;refine .cons (λ q hq=>?_) (ord_of hF L l1 (λ x hx=>he x (.tail _ hx)) hs.2 h2);obtain ⟨v,hv,fv⟩:=Paired.mem h2 q hq;obtain ⟨y,hy,rfl⟩:=zE.mp hv;have l:=hs.1 y hy;have k1:ky κ e=k p:=by unfold ky; rw [he e (.head _),hF _ _ h1]; rfl
   have k2:ky κ y=k q:=by unfold ky; rw [he y (.tail _ hy),hF _ _ fv]; rfl
   have l':κ.blt (ky κ y) (ky κ e)=false:=l;rw [k1,k2] at l';exact l'
structure TV (K:Frag) (H:Hp) (d0:PyData) (p:V × PyData) (v:Value):Prop where
 r:RelV p.1 v
 t:tT 4 p.2=true
 z:sm d0 p.2=true
 d:Dt K H p.1 p.2
theorem TV.vals {K:Frag} {H:Hp} {d0:PyData} {ps:List (V × PyData)} {vs:LW} (h:Paired (TV K H d0) ps vs):Vals (ps.map (·.1)) vs:=by
 induction h with
 | nil=>exact .nil
 | cons h1 _ ih=>exact .cons h1.r ih
theorem Jz {K:Frag} {H:Hp} {d0:PyData}:∀ {ps:List (V × PyData)} {vs:LW},Vals (ps.map (·.1)) vs->(∀ p∈ps,tT 4 p.2=true/\sm d0 p.2=true/\Dt K H p.1 p.2)->Paired (TV K H d0) ps vs
 | [],vs,h,_=>by cases h; exact .nil
 | p :: ps,vs,h,q=>by
  cases h with
  | cons h1 h2=>exact .cons ⟨h1,(q p (.head _)).1,(q p (.head _)).2.1,(q p (.head _)).2.2⟩ (Jz h2 λ x hx=>q x (.tail _ hx))
theorem Cn:∀ {vs:LW} {e:Keyed},e∈vs.zip vs->e.1=e.2
 | [],e,h=>by cases h
 | v :: vs,e,h=>by
  rw [tQ] at h;rcases zL.mp h with h | h
  ·rw [h]
  ·exact Cn h
theorem mV {α β:Type} {F:α->β->Prop} {xs:List α} {ys:List β} (h:Paired F xs ys):xs.length=ys.length:=by
 induction h with
 | nil=>rfl
 | cons _ _ ih=>simp [ih]
theorem Cm {α β:Type} {F:α->β->Prop} {xs:List α} {ys:List β} (h:Paired F xs ys):∀ y∈ys,∃ x∈xs,F x y:=by
 induction h with
 | nil=>intro x hx; cases hx
 | cons h1 h2 ih =>
  intro x hx;rcases zL.mp hx with e | hx
  ·subst e; exact ⟨_,.head _,h1⟩
  ·obtain ⟨y,hy,q⟩:=ih x hx; exact ⟨y,.tail _ hy,q⟩
theorem Tv {l:List Keyed} {n:Nat} (h:l.length=n):seg l 0 n=l:=by
 unfold seg;rw [List.drop_zero,Nat.sub_zero,wP ⋯]
section
variable {X:Cx} {pins:PN} {σ:St} {H:Hp} {s:Shared} {a:Addr} {A:Around} {E:VP} {vs:LW} {ps:List (V × PyData)} {n0:Nat} {R:VP} {d0:PyData} {l0 l1:List PyData}
theorem Tu (hS:fS X.prog X.w vs.length) (hu:A.units+16 < cLine) (I:Inv X pins σ H s) (fa:FpOk X pins H a) (ho:s.heap.get? a=some (seqObj "list" vs.toArray n0)) (hz:vs.length<=sizeLine) (e0:d0=.tuple (.tuple l1 :: l0)) (hp:Paired (TV X.K H d0) ps vs)
  (h:∀ (ps':List (V × PyData)) H' s',Inv X pins σ H' s'->Same H H'->H' a=some (.lst (ps'.map (·.1)))->ps'.Perm ps->ps'.Pairwise (λ p q=>lx (fl q.2) (fl p.2)=false)->R .none s') :
  wpAny (model X.prog X.w) A (Builtin.«list.sort» ⟨[.ref a],[]⟩) (λ fin s'=>∃ v,fin=.done (.ret v)/\R v s') E s:=by
 obtain ⟨f0,f1,f2,f3,f4,f5⟩:=fa;rw [list_sort_plain];have ha:a < s.heap.objs.size:=zP ho;refine zA (listItems_at ho rfl ?_);refine zA (listUpdate_at ho rfl ?_ (by rw [zW]; exact hz) (yY _));obtain ⟨e1,ho1⟩:∃ e1,(s.heap.update a (Obj.mapSeq λ _=>(#[]:Array Value))).get? a=some (seqObj "list" #[] e1):=⟨_,get?_update_seq ho (λ _=>#[])⟩;have s1:=vH s.heap a (Obj.mapSeq λ _=>(#[]:Array Value));have I1:Inv X pins σ H { s with heap:=s.heap.update a (Obj.mapSeq λ _=>(#[]:Array Value)),toks:=s.toks }:=I.turned (λ b o hb q=>(s1.2 b hb).trans q) f0 f1 f3 f4 f5;refine zA (seqEpoch_at ho1 rfl ?_);refine zA (wpAny_newTuple ?_ hz);refine zA (wpAny_newList ?_ (yY _));refine xT ?_;have ho6:(((s.heap.update a (Obj.mapSeq λ _=>(#[]:Array Value))).push (seqObj "tuple" vs.toArray 0)).push (seqObj "list" #[] 0)).get? a=some (seqObj "list" #[] e1):=zD _ (zD _ ho1);have I6:Inv X pins σ H { s with heap:=((s.heap.update a (Obj.mapSeq λ _=>(#[]:Array Value))).push (seqObj "tuple" vs.toArray 0)).push (seqObj "list" #[] 0),toks:=s.toks }:=I1.kept λ b o q=>zD _ (zD _ q);show wpAny (model X.prog X.w) A _ _ E { s with heap:=((s.heap.update a (Obj.mapSeq λ _=>(#[]:Array Value))).push (seqObj "tuple" vs.toArray 0)).push (seqObj "list" #[] 0),toks:=s.toks };generalize ((s.heap.update a (Obj.mapSeq λ _=>(#[]:Array Value))).push (seqObj "tuple" vs.toArray 0)).push (seqObj "list" #[] 0)=h6 at *
 dsimp only;have fin:∀ st':SortSt,(arrOf st').Perm (pairsOf vs)->Srt (fT h6 d0) (arrOf st').toList->R .none { s with heap:=h6.update a (Obj.mapSeq λ _=>(arrOf st').map (·.2)) }:=by
  intro st' pm so;have pl:(arrOf st').toList.Perm (vs.zip vs):=by rw [← pairsOf_toList]; exact pN.mp pm
  have he:∀ e∈(arrOf st').toList,e.1=e.2:=λ e he=>Cn (pl.mem_iff.mp he);have po:vs.Perm ((arrOf st').toList.map (·.2)):=by
   have:=(pl.map (·.2)).symm;rw [List.map_snd_zip (zF _)] at this;exact this
  obtain ⟨ps',pp,hp'⟩:=Paired.perm po hp;have hF:∀ p v,TV X.K H d0 p v->(fT h6 d0).keyOf v=some (fl p.2):=λ p v tv=>by
   obtain ⟨as,r⟩:=tv.d.reads I6 tv.r;exact Ib tv.t tv.z r
  have ord:=ord_of (κ:=fT h6 d0) (k:=λ p:V × PyData=>fl p.2) hF _ ps' he so hp';have lenO:((arrOf st').map (·.2)).toList=(arrOf st').toList.map (·.2):=Array.toList_map ..;generalize (arrOf st').map (·.2)=out at *
  have sb2:=vH h6 a (Obj.mapSeq λ _=>out);obtain ⟨c2,hc2⟩:∃ c2,(h6.update a (Obj.mapSeq λ _=>out)).get? a=some (seqObj "list" (out) c2):=⟨_,get?_update_seq ho6 λ _=>out⟩;generalize h6.update a (Obj.mapSeq λ _=>out)=h7 at *
  refine h ps' (upd H a (.lst (ps'.map (·.1)))) _ ?_ ?_ oZ pp ord
  ·have nit:∀ b u,H b=some u->b≠a:=λ b u e z=>by rw [z,f0] at e; cases e
   refine Inv.step (s:={ s with heap:=h6,toks:=s.toks }) (h':=h7) (H':=upd H a (.lst (ps'.map (·.1)))) (I:=I6) (g':=s.gens) (d':=s.drawn) (t':=s.toks) (ch:=[a]) (λ b hb=>?_) (λ b o _ _ hc e _=>(sb2.2 b (λ z=>hc (by simp [z]))).trans e) (λ b o _ _ hc e _=>⟨o.slots,(sb2.2 b (λ z=>hc (by simp [z]))).trans e⟩)
    (λ b o hc e q=>by rw [nD (λ z=>hc (by simp [z]))]; exact q) (λ b o hc e=>⟨o,(sb2.2 b (λ z=>hc (by simp [z]))).trans e⟩) (λ b xs e=>by rw [nD (nit _ _ e)]; exact e) (λ b o u e=>by rw [nD (nit _ _ e)]; exact e)
    (λ b ps e=>⟨#[],by rw [nD (nit _ _ e),e]; simp⟩) (λ m hm=>?_) (λ b u e=>?_) I6.bare
   ·have e:b=a:=by simpa using hb
    subst e;exact ⟨f3,f1,f4,f5⟩
   ·obtain ⟨o,es,ep,ho,r⟩:=hm;exact ⟨o,es,ep,(sb2.2 _ (Ne.symm f1)).trans ho,r⟩
   ·by_cases hb:b=a
    ·subst hb;rw [oZ] at e;cases e;refine ⟨?_,(arrOf st').toList.map (·.2),c2,TV.vals hp',by rw [hc2,← lenO]⟩;rw [yL,pp.length_eq,mV hp];exact hz
    ·rw [nD hb] at e;refine (I6.hok b u e).stay (λ c v hc q=>(sb2.2 c ?_).trans q) (λ c q=>by rw [nD (nit _ _ q)]; exact q) λ c xs q=>by rw [nD (nit _ _ q)]; exact q
     rcases hc with z | z
     ·rw [z]; exact hb
     ·exact nit c _ z
  ·intro b u q;rw [nD (λ z=>by rw [z,f0] at q; cases q)];exact q
 have hsz:vs.toArray.size=vs.length:=by simp
 by_cases h2:vs.toArray.size < 2
 ·rw [if_pos h2,if_pos h2];refine zA (zC ?_);rw [StateT.run_pure];refine zA (zC ?_);dsimp only;refine zA (seqEpoch_at ho6 rfl ?_);refine zA (listUpdate_at ho6 rfl ?_ (yY _) (by rw [Array.size_map]; show (pairsOf vs).size<=_; rw [pairsOf_size]; omega));simp only [bne_self_eq_false,Bool.false_eq_true,if_false];refine zC ⟨_,rfl,fin (SortSt.mk' general' (vs.toArray.zip vs.toArray) #[] 7 none) (Array.Perm.refl _) ?_⟩;show Srt _ (pairsOf vs).toList;rw [pairsOf_toList]
  match vs,hsz,h2 with
  | [],_,_=>exact .nil
  | [_],_,_=>exact .cons (λ _ h=>nomatch h) .nil
  | _ :: _ :: _,_,h2=>simp at h2; omega
 ·rw [if_neg h2,if_neg h2];have kp:∀ {ps:List (V × PyData)} {vs:LW},Paired (TV X.K H d0) ps vs->∃ fs,PySem.W.KatTups h6 vs fs/\fs.length=vs.length/\∀ v∈fs,∃ b o,v=.ref b/\h6.get? b=some o/\o.cls=.type "tuple" := by
   intro ps vs hp
   induction hp with
   | nil=>exact ⟨[],PySem.W.KatTups.nil,rfl,λ _ h=>nomatch h⟩
   | @cons p v ps vs tv _ ih =>
    obtain ⟨fs,k,l,t⟩:=ih;obtain ⟨as,r⟩:=tv.d.reads I6 tv.r;have z:=tv.z;rw [e0] at z;generalize p.2=dd at *
    cases r <;> simp only [sm,Bool.false_eq_true] at z
    case tuple b o us m xs hg hc hd hr =>
     cases xs with
     | nil=>simp [smA] at z
     | cons x xs =>
      simp only [smA,Bool.and_eq_true] at z;cases hr0:us.toList with
      | nil=>rw [hr0] at hr; cases hr
      | cons u ur =>
       rw [hr0] at hr;cases hr with
       | cons r1 r2 =>
        have z1:=z.1;cases r1 <;> simp only [sm,Bool.false_eq_true] at z1
        case tuple b2 o2 us2 m2 xs2 hg2 hc2 hd2 hr2 =>
         refine ⟨.ref b2 :: fs,PySem.W.KatTups.cons hg hc hd ?_ k,by simp [l],λ v hv=>?_⟩
         ·rw [← yW,hr0]; rfl
         ·rcases zL.mp hv with e | hv
          ·exact ⟨b2,o2,e,hg2,hc2⟩
          ·exact t v hv
  obtain ⟨fs,kt,kl,kc⟩:=kp hp;refine zA (PySem.W.kat_kind (s:={ s with heap:=h6,toks:=s.toks }) (T:=.type "tuple") kt ⋯ (λ v hv=>?_) rfl ?_)
  ·obtain ⟨b,o,rfl,hb,hc⟩:=kc v hv;exact λ A Q E s k q=>tF (T := "tuple") ⟨o,k _ _ hb,hc⟩ q
  have kf:(Value.type "tuple" != Value.type "tuple")=false:=∅
  rw [kf];refine zA (xG (hS (κ:=fT h6 d0) (kd:=tuples' false) (a₀:=pairsOf vs) (st:=SortSt.mk' (tuples' false) (vs.toArray.zip vs.toArray) #[] 7 none)
   (Q:=λ _ st'=>(arrOf st').Perm (pairsOf vs)/\failedOf st'=none/\Up (fT h6 d0) (arrOf st') 0 (pairsOf vs).size) (pairsOf_size _) ⋯ (cmpT (s:={ s with heap:=h6,toks:=s.toks }) hu ⟨_,e0⟩) (λ x hx=>?_) rfl rfl rfl rfl λ st' _ a2 a3 a4=>⟨a3,a2,a4⟩) ?_ λ _ _ e=>e)
  ·rw [pairsOf_toList] at hx;have e:=Cn hx;have hm:x.2∈vs:=(rD (a:=x.1) (b:=x.2) hx).2;obtain ⟨p,_,tv⟩:=Cm hp x.2 hm;obtain ⟨as,r⟩:=tv.d.reads I6 tv.r;exact ⟨fl p.2,by rw [e]; exact Ib tv.t tv.z r⟩
  rintro ⟨⟨⟩,st'⟩ s' ⟨rfl,pm,hf,up⟩;dsimp only;refine zA (seqEpoch_at ho6 rfl ?_);refine zA (listUpdate_at ho6 rfl ?_ (yY _) (by refine yC (sZ ((Array.size_map ..).trans (pm.size_eq.trans (pairsOf_size _)))) ?_; omega));rw [hf];simp only [bne_self_eq_false,Bool.false_eq_true,if_false];refine zC ⟨_,rfl,fin st' pm ?_⟩;have:=Cr up
  rwa [Tv (by rw [zN]; exact pm.size_eq)] at this
end
abbrev Asc (ps:List (V × PyData)):Prop:=ps.Pairwise λ p q=>lx (fl q.2) (fl p.2)=false
def Tt (K:Frag) (N:Nat):List V->Hp->VK->Prop:=λ xs H Q=>∃ (p:Addr) (ps:List (V × PyData)) (l0 l1:List PyData),xs=[.ref p]/\ps.length<=N/\SqL K H p (ps.map (·.1))/\(∀ q∈ps,tT 4 q.2=true/\sm (.tuple (.tuple l1 :: l0)) q.2=true/\Dt K H q.1 q.2) /\
 ∀ q (ps':List (V × PyData)) H',Same H H'->H q=none->H' q=some (.lst (ps'.map (·.1)))->ps'.Perm ps->Asc ps'->Q (.ref q) H'
section
variable {X:Cx} {pins:PN} {σ:St} {H:Hp} {s:Shared} {d0:PyData} {l0 l1:List PyData}
theorem Jy {N:Nat} (hS:∀ n,n<=N->fS X.prog X.w n) (hu:X.A.units+64 < cLine) {ps:List (V × PyData)} {its:LW} {v:Value} {Q:VK} (hz:its.length<=sizeLine) (hN:its.length<=N) (e0:d0=.tuple (.tuple l1 :: l0)) (hp:Paired (TV X.K H d0) ps its)
  (hcol:∀ (Qc:LW->Shared->Prop) (Ec:VP),(∀ s',Inv X pins σ H s'->Qc its s')->wpAny (model X.prog X.w) X.A.in1 (collect v) Qc Ec s)
  (h:∀ q (ps':List (V × PyData)) H',Same H H'->H q=none->H' q=some (.lst (ps'.map (·.1)))->ps'.Perm ps->Asc ps'->Q (.ref q) H') :
  wpAny (model X.prog X.w) X.A (call (.builtin "sorted") [v]) (EP X pins σ Q) X.xe s:=by
 refine Calls.call_function_entry kind_sorted plain_sorted entry_sorted (args_sorted1 _) ?_;unfold Builtin.«sorted»;refine zA (m:=checkCount "sorted" 1 1 _) (zC ?_);refine zA (hcol _ _ λ s' I=>?_);refine zA (wpAny_newList ?_ hz);have hoL:(s'.heap.push (seqObj "list" its.toArray 0)).get? s'.heap.objs.size=some (seqObj "list" its.toArray 0):=zU _ rfl;have hfa:H s'.heap.objs.size=none:=I.hok.fresh (zF _);have fp:=I.fpOk (zF _) hfa;have I2:Inv X pins σ H { s' with heap:=s'.heap.push (seqObj "list" its.toArray 0),toks:=s'.toks }:=I.kept λ b o q=>zD _ q;refine zA (xT (xN slot_list_sort ⟨_,hoL,rfl⟩ entry_list_sort ?body (args_list_sort _)));show wpAny (model X.prog X.w) X.A.in1.in1 (Builtin.«list.sort» ⟨[.ref s'.heap.objs.size],[]⟩) _ _ { s' with heap:=s'.heap.push (seqObj "list" its.toArray 0),toks:=s'.toks };refine Tu (hS _ hN) (A:=X.A.in1.in1) (by show X.A.units+1+1+16 < cLine; omega) I2 fp hoL hz e0 hp λ ps' H' s2 J sm e p o=>?_;exact zC ⟨_,rfl,.ref s'.heap.objs.size,H',J,rfl,h _ ps' H' sm hfa e p o⟩
theorem Ts {N:Nat} (hS:∀ n,n<=N->fS X.prog X.w n) (hu:X.A.units+64 < cLine):kA X (.builtin "sorted") (Tt X.K N):=by
 intro pins s σ H xs us Q I r h;obtain ⟨p,ps,l0,l1,rfl,hN,hq,ht,q⟩:=h;obtain ⟨u,rfl,rx⟩:=jL r;cases rx;obtain ⟨its,rv,pl,hz⟩:=I.list hq;obtain ⟨o,n0,e,c,_,dd⟩:=id pl;have hL:s.heap.IsList p its.toArray:=⟨o,e,c,n0,dd⟩;have hp:=Jz (d0:=.tuple (.tuple l1 :: l0)) rv ht;have hz':its.length<=sizeLine:=by rw [← mV hp]; simpa using hz
 refine Jy hS hu hz' (by rw [← mV hp]; exact hN) rfl hp (λ Qc Ec hk=>collect_list hL (hk _ ?_) hz') q;refine I.kept (h':=(s.heap.push (seqObj "list" #[] 0)).update s.heap.objs.size (Obj.mapSeq (·++its.toArray))) (t':=s.toks) λ b o q=>?_;have hlt:b < s.heap.objs.size:=zP q;rw [Heap.get?_update_ne _ _ _ _ (yA hlt),Heap.get?_push_ne _ _ _ (yA hlt)];exact q
end
def RawD (h:Heap) (d:Addr) (es:Array DictEntry) (ep:Nat):Prop:=∃ o,h.get? d=some o/\o.ExactDict/\o.data=.dict es ep
theorem RawD.at {h h':Heap} {d:Addr} {es:Array DictEntry} {ep:Nat} (x:RawD h d es ep) (e:∀ o,h.get? d=some o->h'.get? d=some o):RawD h' d es ep:=let ⟨o,ho,r⟩:=x; ⟨o,e _ ho,r⟩
section
variable {prog:Program} {w:World} {A:Around} {E:VP} {s:Shared} {d it:Addr} {es:Array DictEntry} {ep i:Nat}
theorem RawD.typeIs (x:RawD s.heap d es ep):s.TypeIs (.ref d) "dict" := let ⟨o,ho,hc,_⟩:=x; ⟨o,ho,hc.1⟩
theorem Tr {Q:VP} (hd:(d == sysModules)=false) (hm:RawD s.heap d es ep)
  (hQ:Q (.ref s.heap.objs.size) { s with heap:=s.heap.push { cls:=.type "dict_keyiterator",data:=.fields #[.ref d,.int 0 0,.int es.size 0,.int ep 0] } }):wpAny (model prog w) A (pyIter (.ref d)) Q E s:=by
 obtain ⟨o,ho,hc,hdat⟩:=id hm;have hT:=hm.typeIs;refine wpAny_pyIter_slot hT oN (xN oN hT PySem.F.entry_dict_iter ?_ (PySem.F.args_dict_iter_1 _));unfold Builtin.«dict.__iter__»;refine zA ?_;unfold Builtin.Dict.dictSlotNone;refine zA (wpAny_notOrdered_dict hT ?_);show wpAny _ _ (pure (Value.ref d)) _ _ s;refine zC ?_;show wpAny _ _ (Builtin.Dict.showsAll d >>= _) _ _ s;unfold Builtin.Dict.showsAll;rw [if_neg (by rw [hd]; exact yG)];refine zA (zC ?_);refine zA (qI ho hdat ?_);refine zA (qU ho hdat ?_);exact zA (xJ (zC ⟨_,rfl,"dict_keyiterator",_,⟨_,zU _ rfl,rfl⟩,PySem.F.slot_dict_keyiterator_next.lookup,hQ⟩))
theorem Tq {Q:Option Value->Shared->Prop} (hit:s.heap.IsKeyIter it d i es.size ep) (hm:RawD s.heap d es ep) (hi:i < es.size)
  (hQ:∀ h',h'.IsKeyIter it d (i+1) es.size ep->Heap.SameBut it s.heap h'->Q (some es[i].key) { s with heap:=h' }):wpAny (model prog w) A (pyNext (.ref it)) Q E s:=by
 obtain ⟨o,ho,hc,hd⟩:=id hit;obtain ⟨od,hod,hcd,hdd⟩:=id hm;unfold pyNext;refine zA (vW (wB (name:=Str.ofString "__next__") hit.typeIs wV
  (xN wV hit.typeIs qC ?_ (rX _))))
 refine zA (zC ?_);refine zA ?_;refine zA ?_
 first | refine zA (vM hit.typeIs (zC ?_)) | refine zA (uD hit.typeIs (zC ?_))
 refine zA (wpAny_fieldsOf ho hd ?_);have hown:Builtin.Dict_items.ownsTuple "dict_keyiterator" = false:=∅
 simp only [hown,Bool.false_eq_true,if_false];show wpAny _ _ (if (Value.ref d == Value.none)=true then _ else _) _ _ s;rw [if_neg (show ¬ ((Value.ref d == Value.none)=true) from yG)];refine zA (zC ?_);refine zA (qI hod hdd ?_);rw [if_neg (by simp)];refine zA (zC ?_);refine zA (qU hod hdd ?_);rw [if_neg (by simp)];refine zC ?_;simp only [show ¬ ((i:Int) < 0) from ⋯,if_false,Int.toNat_natCast,Array.getElem?_eq_getElem hi];refine zA ?_
 first | refine zA (vM hit.typeIs (zC ?_)) | refine zA (uD hit.typeIs (zC ?_))
 refine zA (wpAny_isOneOf_keyiter hit.typeIs ?_);show wpAny _ _ (setField (.ref it) 1 (rawInt ((i:Int)+1)) >>= _) _ _ s;refine zA (rO ho hd (by simp) ?_);have hit':(s.heap.update it (Obj.mapFields (·.setIfInBounds 1 (rawInt ((i:Int)+1))))).IsKeyIter it d (i+1) es.size ep :=
  ⟨_,vY _ ho (Obj.isFreed_of_fields (tP hd _)),(Obj.cls_mapFields ..).trans hc,by rw [tP hd]; simp [rawInt]⟩
 refine zA (xT ?_);refine zA (wpAny_isOneOf_keyiter (s:={ s with heap:=s.heap.update it (Obj.mapFields (·.setIfInBounds 1 (rawInt ((i:Int)+1)))) }) hit'.typeIs ?_);show wpAny _ _ (pure es[i].key) _ _ _;exact zC (zC ⟨_,rfl,zC (hQ _ hit' (vH ..))⟩)
theorem To {Q:Option Value->Shared->Prop} (hh:A.handled=none) (hit:s.heap.IsKeyIter it d es.size es.size ep) (hm:RawD s.heap d es ep)
  (hQ:∀ h',Heap.ExtBut it s.heap h'->Q none { s with heap:=h' }):wpAny (model prog w) A (pyNext (.ref it)) Q E s:=by
 obtain ⟨o,ho,hc,hd⟩:=id hit;obtain ⟨od,hod,hcd,hdd⟩:=id hm;unfold pyNext;refine zA (vW (wB (name:=Str.ofString "__next__") hit.typeIs wV
  (xN wV hit.typeIs qC ?_ (rX _))))
 refine zA (zC ?_);refine zA ?_;refine zA ?_
 first | refine zA (vM hit.typeIs (zC ?_)) | refine zA (uD hit.typeIs (zC ?_))
 refine zA (wpAny_fieldsOf ho hd ?_);have hown:Builtin.Dict_items.ownsTuple "dict_keyiterator" = false:=∅
 simp only [hown,Bool.false_eq_true,if_false];show wpAny _ _ (if (Value.ref d == Value.none)=true then _ else _) _ _ s;rw [if_neg (show ¬ ((Value.ref d == Value.none)=true) from yG)];refine zA (zC ?_);refine zA (qI hod hdd ?_);rw [if_neg (by simp)];refine zA (zC ?_);refine zA (qU hod hdd ?_);rw [if_neg (by simp)];refine zC ?_;simp only [show ¬ ((es.size:Int) < 0) from ⋯,if_false,Int.toNat_natCast,Array.getElem?_eq_none (Nat.le_refl _)];refine zA ?_
 first | refine zA (vM hit.typeIs (zC ?_)) | refine zA (uD hit.typeIs (zC ?_))
 show wpAny _ _ (setField (.ref it) 0 .none >>= _) _ _ s;refine zA (rO ho hd (by simp) ?_);show wpAny _ _ (newExc (.type "StopIteration") [] >>= _) _ _ _;refine zA ?_;simp only [newExc,newTuple];refine zA (xJ ?_ (by size_fits));refine zA (m:=firstArgMember _ _) (wpAny_of_eq (a:=Value.none) (by first | rfl | (simp only [firstArgMember]; rfl)) ?_);refine xJ ?_ (by size_fits);simp only [raiseNew];refine zA (wpAny_handled ?_);rw [show A.in1.handled=none from hh];refine zA (zC (wpAny_throw ?_));refine zA (vI (T := "StopIteration") (b:=true) ⟨_,zU _ rfl,rfl⟩ pH ?_);exact zC (hQ _ (((vH ..).extBut.push _).push _))
theorem Tn (hh:A.handled=none) (I d:Addr) (hne:d≠I) (es:Array DictEntry) (ep:Nat) :
  Walks prog w A I [I,d] [I] es.size (λ i v=>(es[i]?).map (·.key)=some v) (λ i h=>h.IsKeyIter I d i es.size ep/\RawD h d es ep) where
 sub:=λ b hb=>by simp at hb; simp [hb]
 frame:=λ _ _ _ st hk=>⟨st.1.at λ o e=>hk I (by simp) o e,st.2.at λ o e=>hk d (by simp) o e⟩
 item:=λ i s Q E hi st hQ=>by
  refine Tq st.1 st.2 hi λ h' hit' hs'=>?_;exact hQ _ h' s.toks (by simp [hi]) ⟨hit',st.2.at λ o e=>(hs'.2 d hne).trans e⟩ λ b o hb e=>(hs'.2 b (λ h=>hb (by simp [h]))).trans e
 done:=λ s Q E st hQ=>To hh st.1 st.2 λ h' he'=>hQ h' s.toks λ b o hb e=>he' b o (λ h=>hb (by simp [h])) e
 self:=λ _ _ _ _ st hQ=>wpAny_pyIter_keyiter st.1 hQ
theorem Tm:typeLookup (.type "dict") "__len__" = pure (some (.builtin "dict.__len__")):=PySem.F.slot_dict_len.lookup
theorem Tl {Q:LW->Shared->Prop} (hh:A.handled=none) (hd:(d == sysModules)=false) (hm:RawD s.heap d es ep) (hz:es.size<=sizeLine)
  (h:∀ h' tk,(∀ b o,s.heap.get? b=some o->h'.get? b=some o)->Q (es.toList.map (·.key)) { s with heap:=h',toks:=tk }):wpAny (model prog w) A (collect (.ref d)) Q E s:=by
 obtain ⟨o,ho,hc,hdat⟩:=id hm;have hdl:@LT.lt Nat _ d s.heap.objs.size:=zP ho;unfold collect;refine zA (wpAny_runValue (tD PySem.F.entry_proto_collect ?_));rw [uZ PySem.F.plain_proto_collect _];show wpAny _ A.in1 (newList [] >>= λ l=>again (.builtin "list.__iadd__" ⟨[l,.ref d],[]⟩)) _ _ s;refine zA (xJ ?_);refine zC ⟨rZ pY _,tD PySem.F.entry_list_iadd ?_⟩;rw [uZ pY _];have hS₁:(s.heap.push { cls:=.type "list",data:=.seq ([]:LW).toArray }).get? s.heap.objs.size=some { cls:=.type "list",data:=.seq ([]:LW).toArray }:=zU _ rfl;have m1:RawD (s.heap.push { cls:=.type "list",data:=.seq ([]:LW).toArray }) d es ep:=hm.at λ o e=>zD _ e;have k1:∀ b o,s.heap.get? b=some o->(s.heap.push { cls:=.type "list",data:=.seq ([]:LW).toArray }).get? b=some o:=λ b o e=>zD _ e;have z1:(s.heap.push { cls:=.type "list",data:=.seq ([]:LW).toArray }).objs.size=s.heap.objs.size+1:=size_push' _ _;show wpAny _ A.in1 (Builtin.List.listExtendWith (.ref s.heap.objs.size) (.ref d) (.ref s.heap.objs.size)) _ _ { s with heap:=s.heap.push { cls:=.type "list",data:=.seq ([]:LW).toArray } };generalize s.heap.push { cls:=.type "list",data:=.seq ([]:LW).toArray }=h1 at *
 unfold Builtin.List.listExtendWith;refine zA (tF (s:={ s with heap:=h1 }) (T := "dict") (RawD.typeIs (s:={ s with heap:=h1 }) m1) ?_);have e1:Builtin.List.listSameRef (.ref s.heap.objs.size) (.ref d)=false:=by simp only [Builtin.List.listSameRef,beq_eq_false_iff_ne]; exact Ne.symm (yA hdl)
 rw [if_neg (by rw [e1]; decide)];refine zA (Tr (s:={ s with heap:=h1 }) hd m1 ?_);have m2:RawD (h1.push { cls:=.type "dict_keyiterator",data:=.fields #[.ref d,.int 0 0,.int es.size 0,.int ep 0] }) d es ep:=m1.at λ o e=>zD _ e;have i2:(h1.push { cls:=.type "dict_keyiterator",data:=.fields #[.ref d,.int 0 0,.int es.size 0,.int ep 0] }).IsKeyIter h1.objs.size d 0 es.size ep:=⟨_,zU _ rfl,rfl,rfl⟩;have hS₂:(h1.push { cls:=.type "dict_keyiterator",data:=.fields #[.ref d,.int 0 0,.int es.size 0,.int ep 0] }).get? s.heap.objs.size=_:=zD _ hS₁;have k2:∀ b o,h1.get? b=some o->(h1.push { cls:=.type "dict_keyiterator",data:=.fields #[.ref d,.int 0 0,.int es.size 0,.int ep 0] }).get? b=some o:=λ b o e=>zD _ e;generalize h1.push { cls:=.type "dict_keyiterator",data:=.fields #[.ref d,.int 0 0,.int es.size 0,.int ep 0] }=h2 at *
 refine zA (xT ?_);unfold Builtin.List.listLengthHint;refine zA (wpAny_specialOf (s:={ s with heap:=h2 }) (RawD.typeIs (s:={ s with heap:=h2 }) m2) Tm ?_);generalize hid:("dict.__len__" : String)=id0
 (fail_if_success (clear hid id0))
 wp_delta
 rw [show splitId id0=some ("dict","__len__") from by subst hid; decide +kernel];subst hid;refine zA (vI (b:=true) (RawD.typeIs (s:={ s with heap:=h2 }) m2) (by rw [isSubtype_type]; kernel_rfl) ?_);refine zA (tF (s:={ s with heap:=h2 }) (T := "dict") (RawD.typeIs (s:={ s with heap:=h2 }) m2) ?_);refine zC ?_;rw [if_pos ∅];refine zA (wM ?_);refine zA ?_;show wpAny _ A.in1 (updateSeq s.heap.objs.size (·.push .none) >>= λ _=>updateSeq s.heap.objs.size (·.pop)) _ _ _;refine zA (wpAny_updateSeq hS₂ rfl ?_);have hS₃:=vY (Obj.mapSeq (·.push Value.none)) hS₂ rfl;refine wpAny_updateSeq hS₃ rfl ?_;have hS₄:=vY (Obj.mapSeq (·.pop)) hS₃ rfl;have hne:d≠h1.objs.size:=yA (by rw [z1]; exact qJ hdl);have hSn:s.heap.objs.size≠h1.objs.size:=by rw [z1]; exact yA (sL _)
 have hSd:s.heap.objs.size≠d:=Ne.symm (yA hdl);have oth:∀ b o,b≠s.heap.objs.size->h2.get? b=some o->((h2.update s.heap.objs.size (Obj.mapSeq (·.push Value.none))).update s.heap.objs.size (Obj.mapSeq (·.pop))).get? b=some o :=
  λ b o hb e=>(uP _ _ (Ne.symm hb)).trans ((uP _ _ (Ne.symm hb)).trans e)
 have W:=(Tn (prog:=prog) (w:=w) (A:=A.in1) hh h1.objs.size d hne es ep).toS;refine zC ⟨rZ PySem.F.plain_extend_loop _,codeAny_extend_loopS W hz s.heap.objs.size (λ hm=>by rcases zL.mp hm with z | z; exact hSn z; exact hSd (yF.mp z)) _ es.size 0 _ _ _ rfl (yY _)
  ⟨i2.at λ o e=>oth _ _ (Ne.symm hSn) e,m2.at λ o e=>oth _ _ (Ne.symm hSd) e⟩ hS₄ (ItemsOf.nil _) λ s' acc' c' hm hS' hacc=>?_⟩
 show wpAny _ A (load s.heap.objs.size >>= _) _ _ s';refine zA (wpAny_load hS' ?_);have ea:acc'.toList=es.toList.map (·.key):=by
  apply List.ext_getElem?
  intro j;rw [zB,yW,yW];cases hj:acc'[j]? with
  | some v=>exact (hacc.2 j v hj).symm
  | none =>
   have:acc'.size<=j:=Array.getElem?_eq_none_iff.mp hj;rw [Array.getElem?_eq_none (by rw [← hacc.1]; exact this)];rfl
 show wpAny _ _ (pure acc'.toList) Q E s';rw [ea];have es':s'={ s with heap:=s'.heap,toks:=s'.toks }:=by
  obtain ⟨_,g,dr,os,_⟩:=hm;cases s';cases g;cases dr;cases os;rfl
 rw [es'];refine zC (h _ _ λ b o e=>hm.heap b o ?_ (oth b o ?_ (k2 _ _ (k1 _ _ e))))
 ·have hb:@LT.lt Nat _ b s.heap.objs.size:=zP e;intro hm;rcases zL.mp hm with z | z
  ·exact absurd z (yA hb)
  ·rw [yF.mp z,z1] at hb;exact absurd hb (Nat.not_lt.mpr (Nat.le_succ _))
 ·exact yA (zP e)
end
def Tk (K:Frag) (N:Nat):List V->Hp->VK->Prop:=λ xs H Q=>∃ (a:Addr) (kvs:List (PyData × V)) (l0 l1:List PyData),xs=[.ref a]/\kvs.length<=N/\DTr K H a kvs/\(∀ kv∈kvs,sm (.tuple (.tuple l1 :: l0)) kv.1=true) /\
 ∀ q (ps':List (V × PyData)) H',Same H H'->H q=none->H' q=some (.lst (ps'.map (·.1)))->(∀ p∈ps',tT 4 p.2=true/\Dt K H p.1 p.2)->(ps'.map (·.2)).Perm (kvs.map (·.1))->Asc ps'->Q (.ref q) H'
section
variable {X:Cx}
theorem Jx {N:Nat} (hS:∀ n,n<=N->fS X.prog X.w n) (hu:X.A.units+64 < cLine) (hc:X.calm=true):kA X (.builtin "sorted") (Tk X.K N):=by
 intro pins s σ H xs us Q I r h;obtain ⟨a,kvs,l0,l1,rfl,hN,g,hs,q⟩:=h;obtain ⟨u,rfl,rx⟩:=jL r;cases rx;obtain ⟨xs,e,kp,dd⟩:=dP I g;obtain ⟨o,es,ep,h1,h2,h3,h4,_⟩:=id dd;have hlen:=g.len;have raw:RawD s.heap a es ep:=⟨o,h1,h2,h3⟩;have hk:es.toList.map (·.key)=xs.map λ x=>Value.ref x.2.1:=by rw [h4,xE]; rfl
 have pr:∀ {kvs:List (PyData × V)} {xs:List (PyData × Addr × Value)},KP X.K H kvs xs->(∀ kv∈kvs,sm (.tuple (.tuple l1 :: l0)) kv.1=true)->Paired (TV X.K H (.tuple (.tuple l1 :: l0))) (xs.map λ x=>(V.ref x.2.1,x.1)) (xs.map λ x=>Value.ref x.2.1)/\(xs.map (·.1))=kvs.map (·.1):=by
  intro kvs xs kp
  induction kp with
  | nil=>intro _; exact ⟨.nil,rfl⟩
  | @cons p q ps qs hq t ih =>
   intro hs;obtain ⟨i1,i2⟩:=ih λ kv hkv=>hs kv (.tail _ hkv);have z:=hs p (.head _);rw [hq.1] at z;have t1:=hq.2.1.1;have t2:=hq.2.1.2;rw [hq.1] at t1 t2;refine ⟨.cons ⟨rfl,t1,z,t2⟩ i1,?_⟩;rw [zG,zG,i2,hq.1]
 obtain ⟨p1,p2⟩:=pr kp hs;have lx':xs.length=kvs.length:=by have:=xZ List.length p2; simpa using this
 have le:es.size=xs.length:=by have:=xZ List.length h4; simpa using this
 refine Jy hS hu (d0:=.tuple (.tuple l1 :: l0)) (its:=xs.map λ x=>Value.ref x.2.1) (ps:=xs.map λ x=>(V.ref x.2.1,x.1)) (by rw [yL]; omega) (by rw [yL]; omega) rfl p1 (λ Qc Ec hk'=>?_) λ q' ps' H' sm' hn e' pm as=>?_
 ·refine Tl (I.ok.hd hc) g.sys raw ⋯ λ h' tk kk=>?_;rw [hk];exact hk' _ (I.kept (t':=tk) kk)
 ·refine q q' ps' H' sm' hn e' (λ p hp=>?_) ?_ as
  ·obtain ⟨v,_,tv⟩:=Paired.mem p1 p (pm.mem_iff.mp hp);exact ⟨tv.t,tv.d⟩
  ·have:=pm.map (·.2);rw [xE] at this;rw [← p2];exact this
end
open Sem (wp)
theorem Tj:typeLookup (.type "list") (Str.ofString "keys")=pure none:=am_miss_of_fast (by kernel_rfl)
theorem Ti:typeLookup (.type "list") "__getattr__" = pure none:=by rw [typeLookup_type,builtinLookup_eq_fast]; kernel_rfl
section
variable {prog:Program} {w:World} {A:Around} {E:VP} {h:Heap} {g:Array GenState} {d:Drawn} {t:Nat} {os:OsState} {a:Addr} {o:Obj}
theorem Th {tk:Tok} {Q:PySem.Fin->Shared->Prop} (hh:A.handled=none) (hx:h.get? a=some o) (hc:o.cls=.type "list") (hd:o.dict=none) {xs:Array Value} {n:Nat} (hdt:o.data=.seq xs n) (hq:∀ h' tk e,Heap.NewAttrErr h h' e (.ref a) (Str.ofString "keys")->E (.ref e) ⟨h',g,d,tk,os⟩) :
  wpAny (model prog w) A (Builtin.«object.__getattribute__» ⟨[.ref a,.str (Str.ofString "keys") tk],[]⟩) Q E ⟨h,g,d,t,os⟩:=by
 have hT:(⟨h,g,d,t,os⟩:Shared).TypeIs (.ref a) "list" := ⟨_,hx,hc⟩;have f4:=Tj;unfold Builtin.«object.__getattribute__»
 repeat (any_goals (first | assumption | wp_step))
 rw [hdt];dsimp only;unfold instanceDict
 repeat (any_goals (first | assumption | wp_step))
 rw [hc,hd];dsimp only;simp only [Bool.not_false,Bool.true_or,if_true]
 repeat (any_goals (first | assumption | wp_step))
 exact wpAny_raiseAttrError hh hq (attrMsg_fits (nofun) (by size_fits))
theorem Tg {Q:Option Value->Shared->Prop} (hh:A.handled=none) (hx:h.get? a=some o) (hc:o.cls=.type "list") (hd:o.dict=none) {xs:Array Value} {n:Nat} (hdt:o.data=.seq xs n) (hq:∀ h' tk,(∀ b ob,h.get? b=some ob->h'.get? b=some ob)->Q none ⟨h',g,d,tk,os⟩) :
  wpAny (model prog w) A (getAttr? (.ref a) (Str.ofString "keys")) Q E ⟨h,g,d,t,os⟩:=by
 have hT:∀ t,(⟨h,g,d,t,os⟩:Shared).TypeIs (.ref a) "list" := λ t=>⟨_,hx,hc⟩;have hT':(⟨h,g,d,t+1,os⟩:Shared).TypeIs (.ref a) "list" := ⟨_,hx,hc⟩;have f1:=sub_AttributeError;have f3:=PySem.F.slot_list_getattribute.lookup;have f4:=PySem.F.slot_list_getattribute.bind (.ref a);have f5:=Ti;unfold getAttr? getAttrBy?;refine zA (wpAny_mkText ?_);refine zA (vW ?_);unfold getAttrBy
 repeat (any_goals (first | assumption | ((with_reducible show wpAny _ _ (call (Value.builtin "list.__getattribute__") _ _) _ _ _); refine xN PySem.F.slot_list_getattribute (hT _) PySem.F.entry_list_ga (Th hh hx hc hd hdt λ h' tk' e hx=>?_) (PySem.F.args_list_getattribute_2 _ _)) | wp_step))
 obtain ⟨t',u',he⟩:=hx.there
 repeat (any_goals (first | assumption | wp_step))
 exact hq _ _ hx.keeps
end
theorem aG:plainId "dict.update.loop" = true:=nofun
theorem Jw:entryFor table "dict.update.loop" = some Builtin.«dict.update.loop»:=entryFor_of_fast (by kernel_rfl)
structure Ent where
 p:Addr
 k:PyData
 b:Addr
 v:Value
def Ent.ok (h:Heap) (t:Ent):Prop:=(∃ o n,h.get? t.p=some o/\o.cls=.type "tuple" /\ o.data=.seq #[.ref t.b,t.v] n)/\isT h t.k t.b
theorem Ent.up {h h':Heap} {t:Ent} (x:t.ok h) (hk:∀ b o,h.get? b=some o->o.cls=.type "tuple" -> h'.get? b=some o):t.ok h':=by
 obtain ⟨⟨o,n,h1,h2,h3⟩,h4,as,h5⟩:=x;exact ⟨⟨o,n,hk _ _ h1 h2,h2,h3⟩,h4,as,Co hk 4 h4 h5⟩
def putP (xs:List (PyData × Addr × Value)) (t:Ent):List (PyData × Addr × Value):=storedH xs t.k t.b t.v
theorem Tf (xs:List (PyData × Addr × Value)) (k:PyData) (b:Addr) (v:Value):(storedH xs k b v).length<=xs.length+1:=by
 unfold storedH;split <;> simp
section
variable {prog:Program} {w:World} {A:Around} {R:Result->Shared->Prop} {d it l:Addr} {items:Array Value}
theorem Jv (hh:A.handled=none) (hu:A.units+32 < cLine) (hdi:d≠it) (hdl:d≠l) (hli:l≠it) :
  ∀ (rest:List Ent) (i:Nat) (xs:List (PyData × Addr × Value)) (s:Shared),(∀ j,items[i+j]?=rest[j]?.map λ t=>Value.ref t.p)->s.heap.IsListIter it l i->s.heap.IsList l items->s.heap.DictOfH (jA prog w) d xs->(∀ t∈rest,t.ok s.heap)->xs.length+rest.length<=sizeLine ->
  (∀ h' tk,(∀ b o,b≠it->b≠d->s.heap.get? b=some o->h'.get? b=some o)->h'.DictOfH (jA prog w) d (rest.foldl putP xs)->R (.ok (.ret .none)) { s with heap:=h',toks:=tk }) ->
  codeAny (model prog w) A (.builtin "dict.update.loop" ⟨[.ref d,.ref it,.int i 0,.none],[]⟩) R s
 | [],i,xs,s,hj,hit,hl,hd,_,_,hR=>by
  refine tD Jw ?_;rw [uZ aG _];show wpAny _ A.in1 (pyNext (.ref it) >>= _) _ _ s;refine zA (wpAny_pyNext_list_end (i:=i) hh hit hl (by simpa using hj 0) λ h' he=>?_);show wpAny _ _ (Builtin.Dict.addKeywords d [] >>= _) _ _ _;refine zA (zC (zC ?_));obtain ⟨o,es,ep,h1,h2⟩:=hd;exact hR h' s.toks (λ b o hb _ e=>he b o hb e) ⟨o,es,ep,he d o hdi h1,by
   obtain ⟨g1,g2,g3,g4,g5⟩:=h2;refine ⟨g1,g2,g3,λ x hx=>?_,g5⟩;obtain ⟨t,as,r⟩:=g4 x hx;refine ⟨t,as,Co (λ b o e hc=>he b o (λ z=>?_) e) 4 t r⟩;obtain ⟨oi,e1,e2,_⟩:=hit;rw [z,e1] at e;cases e;rw [e2] at hc;simp at hc⟩
 | t :: rest,i,xs,s,hj,hit,hl,hd,hok,hz,hR=>by
  refine tD Jw ?_;rw [uZ aG _];show wpAny _ A.in1 (pyNext (.ref it) >>= _) _ _ s;have h0:items[i]?=some (.ref t.p):=by simpa using hj 0
  refine zA (oK (i:=i) hit hl h0 λ h1 hit1 hs1=>?_);obtain ⟨oi,ei1,ei2,_⟩:=id hit;have kT:∀ b o,s.heap.get? b=some o->o.cls=.type "tuple" -> h1.get? b=some o:=λ b o e hc=>(hs1.2 b (λ z=>by rw [z,ei1] at e; cases e; rw [ei2] at hc; simp at hc)).trans e;have hd1:h1.DictOfH (jA prog w) d xs:=by
   obtain ⟨o,es,ep,g0,g1,g2,g3,g4,g5⟩:=hd;exact ⟨o,es,ep,(hs1.2 d hdi).trans g0,g1,g2,g3,λ x hx=>let ⟨t,as,r⟩:=g4 x hx; ⟨t,as,Co kT 4 t r⟩,g5⟩
  have hl1:h1.IsList l items:=by
   obtain ⟨o,g0,g1⟩:=hl;exact ⟨o,(hs1.2 l hli).trans g0,g1⟩
  have hok1:∀ t'∈t :: rest,t'.ok h1:=λ t' ht'=>Ent.up (hok t' ht') kT;obtain ⟨⟨op,np,p1,p2,p3⟩,pk⟩:=hok1 t (.head _);refine zA (xT ?_);have hz':xs.length<=sizeLine:=by
   have:=hz;simp only [List.length_cons] at this;omega
  refine zA (wpAny_tryCatch ?_);unfold Builtin.Dict.pairItems;refine zA (tF (s:={ s with heap:=h1 }) (T := "tuple") ⟨op,p1,p2⟩ ?_);rw [if_pos ∅];refine zA (wK (s:={ s with heap:=h1 }) p1 p3 (zC ?_));show wpAny _ A.in1 (holding [.ref t.b,t.v] (dictSet d (.ref t.b) t.v)) _ _ _;refine xT ?_;refine wpAny_dictSet_heap (knd:=jA prog w) (s:={ s with heap:=h1 }) (hsz:=hz') (show A.units+1+8 < cLine by omega) pk hd1 λ h2 hd2 hs2=>?_;obtain ⟨oD,esD,epD,d1,d2,d3,_⟩:=id hd1;have kT2:∀ b o,h1.get? b=some o->o.cls=.type "tuple" -> h2.get? b=some o:=λ b o e hc=>(hs2.2 b (λ z=>by rw [z,d1] at e; cases e; rw [d2.1] at hc; simp at hc)).trans e;refine zC ⟨rZ aG _,?_⟩;have eR:(rawInt ((i:Int)+1))=.int ((i+1:Nat):Int) 0:=rfl;rw [eR];refine Jv hh hu hdi hdl hli rest (i+1) (storedH xs t.k t.b t.v) _ (λ j=>?_) ?_ ?_ hd2 (λ t' ht'=>Ent.up (hok1 t' (.tail _ ht')) kT2) ?_ λ h3 tk3 k3 D3=>?_
  ·have:=hj (j+1);rw [List.getElem?_cons_succ] at this;rw [← this];congr 1;omega
  ·obtain ⟨o,g0,g1⟩:=hit1;exact ⟨o,(hs2.2 it (Ne.symm hdi)).trans g0,g1⟩
  ·obtain ⟨o,g0,g1⟩:=hl1;exact ⟨o,(hs2.2 l (Ne.symm hdl)).trans g0,g1⟩
  ·have:=Tf xs t.k t.b t.v;have:=hz;simp only [List.length_cons] at this;omega
  ·exact hR h3 tk3 (λ b o b1 b2 e=>k3 b o b1 b2 ((hs2.2 b b2).trans ((hs1.2 b b1).trans e))) D3
end
section
variable {prog:Program} {w:World} {A:Around} {E:VP} {s:Shared} {l:Addr}
theorem Te {Q:VP} {es:List Ent} {o:Obj} {n:Nat} (hh:A.handled=none) (hu:A.units+48 < cLine) (hl0:s.heap.get? l=some o) (hlc:o.cls=.type "list") (hld:o.dict=none) (hldt:o.data=.seq (es.map λ t=>Value.ref t.p).toArray n) (hok:∀ t∈es,t.ok s.heap) (hz:es.length<=sizeLine)
  (h:∀ h' tk,(∀ b o,s.heap.get? b=some o->h'.get? b=some o)->h'.DictOfH (jA prog w) s.heap.objs.size (es.foldl putP [])->Q (.ref s.heap.objs.size) { s with heap:=h',toks:=tk }) :
  wpAny (model prog w) A (call (.type "dict") [.ref l]) Q E s:=by
 have hll:@LT.lt Nat _ l s.heap.objs.size:=zP hl0;refine callType_codes (Q₁:=λ obj s₁=>obj=.ref s.heap.objs.size/\s₁={ s with heap:=s.heap.push { cls:=.type "dict",data:=.dict #[] } }) PySem.F.kt_called_dict (PySem.F.kt_typeCall_dict_1 _) PySem.F.entry_dict_init (kt_code_dict_new _ ⟨rfl,rfl⟩) ?_;rintro obj s₁ ⟨rfl,rfl⟩;have hnew:(s.heap.push { cls:=.type "dict",data:=.dict #[] }).DictOfH (jA prog w) s.heap.objs.size []:=Heap.DictOfH.new s.heap;have k1:∀ b o,s.heap.get? b=some o->(s.heap.push { cls:=.type "dict",data:=.dict #[] }).get? b=some o:=λ b o e=>zD _ e;have z1:(s.heap.push { cls:=.type "dict",data:=.dict #[] }).objs.size=s.heap.objs.size+1:=size_push' _ _;generalize s.heap.push { cls:=.type "dict",data:=.dict #[] }=h1 at *
 have hT1:=Heap.DictOfH.typeIs (s:={ s with heap:=h1 }) hnew;refine ⟨hT1,PySem.F.args_dict_init_2 _ _,?_⟩;unfold Builtin.«dict.__init__»;refine zA ?_;unfold Builtin.Dict.selfAndRest;refine zA (wpAny_notOrdered_dict hT1 ?_);show wpAny _ _ (pure (s.heap.objs.size,[Value.ref l])) _ _ _;refine zC ?_;show wpAny _ _ (Builtin.Dict.updateFrom "dict.__init__" s.heap.objs.size (.ref l) [] .none) _ _ { s with heap:=h1 };unfold Builtin.Dict.updateFrom;refine zA (tF (s:={ s with heap:=h1 }) (T := "list") ⟨o,k1 _ _ hl0,hlc⟩ ?_);rw [if_pos ∅];refine zA (Tg (A:=A.in1.in1) hh (k1 _ _ hl0) hlc hld hldt λ h2 tk2 k2=>?_);rw [if_pos (by rfl)];refine zA (wM ?_);have hL2:h2.IsList l (es.map λ t=>Value.ref t.p).toArray:=⟨o,k2 _ _ (k1 _ _ hl0),hlc,n,hldt⟩;refine zA (sD (s:={ s with heap:=h2,toks:=tk2 }) hL2 ?_);have z2:s.heap.objs.size+1<=h2.objs.size:=by
  obtain ⟨od,_,_,e,_⟩:=id hnew;exact (show @LT.lt Nat _ s.heap.objs.size h2.objs.size from zP (k2 _ _ e))
 have k3:∀ b o,h2.get? b=some o->(h2.push { cls:=.type "list_iterator",data:=.fields #[.ref l,.int 0 0] }).get? b=some o:=λ b o e=>zD _ e;have i3:(h2.push { cls:=.type "list_iterator",data:=.fields #[.ref l,.int 0 0] }).IsListIter h2.objs.size l 0:=⟨_,zU _ rfl,rfl,rfl⟩;show wpAny _ _ _ _ _ { s with heap:=h2.push { cls:=.type "list_iterator",data:=.fields #[.ref l,.int 0 0] },toks:=tk2 };generalize h2.push { cls:=.type "list_iterator",data:=.fields #[.ref l,.int 0 0] }=h3 at *
 have kk:∀ b o,s.heap.get? b=some o->h3.get? b=some o:=λ b o e=>k3 _ _ (k2 _ _ (k1 _ _ e));refine zA (zC ?_);refine zC ⟨rZ aG _,?_⟩;refine Jv (A:=A.in1) (items:=(es.map λ t=>Value.ref t.p).toArray) hh (by show A.units+1+32 < cLine; omega) (yA (zI (sL _) z2)) (Ne.symm (yA hll)) (yA (zI (qJ hll) z2)) es 0 [] _ (λ j=>by simp) i3
  ⟨o,kk _ _ hl0,hlc,n,hldt⟩ ?_ (λ t ht=>Ent.up (hok t ht) λ b o e _=>kk b o e) (by simpa using hz) λ h4 tk4 k4 D4=>?_
 ·obtain ⟨od,es',ep,e,r⟩:=id hnew;obtain ⟨r1,r2,r3,_,r5⟩:=r;exact ⟨od,es',ep,k3 _ _ (k2 _ _ e),r1,r2,r3,λ x hx=>(nomatch hx),r5⟩
 ·refine ⟨rfl,h h4 tk4 (λ b o e=>?_) D4⟩;have hb:@LT.lt Nat _ b s.heap.objs.size:=zP e;exact k4 b o (yA (zI (qJ hb) z2)) (yA hb) (kk _ _ e)
end
def Td (K:Frag):List V->Hp->VK->Prop:=λ xs H Q=>∃ (l:Addr) (ts:List (Addr × PyData × Addr × V)),xs=[.ref l]/\SqL K H l (ts.map λ t=>V.ref t.1)/\(∀ t∈ts,SqT K H t.1 [.ref t.2.2.1,t.2.2.2]/\tT 4 t.2.1=true/\Dt K H (.ref t.2.2.1) t.2.1)/\(ts.map (·.2.1)).Nodup /\
 ∀ D H',Same H H'->H D=none->DTr K H' D (ts.map λ t=>(t.2.1,t.2.2.2))->Q (.ref D) H'
theorem Tc {kvs:List (PyData × V)} {k:PyData} (h:k ∉ kvs.map (·.1)):vT kvs k=none:=by
 induction kvs with
 | nil=>rfl
 | cons p r ih =>
  rw [zG,zL,not_or] at h;rw [fI (λ e=>h.1 e.symm)];exact ih h.2
section
variable {X:Cx}
theorem Ta (hu:X.A.units+64 < cLine) (hc:X.calm=true):kA X (.type "dict") (Td X.K):=by
 intro pins s σ H xs us Q I r h;obtain ⟨l,ts,rfl,hq,ht,hn,q⟩:=h;obtain ⟨u,rfl,rx⟩:=jL r;cases rx;obtain ⟨its,rv,⟨o,n0,e,c,od,dd⟩,hz⟩:=I.list hq;have mk:∀ (ts:List (Addr × PyData × Addr × V)) (its:LW),Vals (ts.map λ t=>V.ref t.1) its->(∀ t∈ts,SqT X.K H t.1 [.ref t.2.2.1,t.2.2.2]/\tT 4 t.2.1=true/\Dt X.K H (.ref t.2.2.1) t.2.1) ->
   ∃ es:List Ent,its=es.map (λ t=>Value.ref t.p)/\Paired (λ t (e:Ent)=>e.k=t.2.1/\e.b=t.2.2.1/\RelV t.2.2.2 e.v/\e.ok s.heap) ts es:=by
  intro ts
  induction ts with
  | nil=>intro its r _; cases r; exact ⟨[],rfl,.nil⟩
  | cons t ts ih =>
   intro its r ht;cases r with
   | cons r1 r2 =>
    obtain ⟨es,e1,e2⟩:=ih _ r2 λ x hx=>ht x (.tail _ hx);obtain ⟨h1,h2,h3⟩:=ht t (.head _);obtain ⟨it2,rv2,⟨op,g1,g2,gn,g3⟩,_⟩:=I.tuple h1;cases rv2 with
    | cons ra rb =>
     cases rb with
     | cons rb rc =>
      cases rc;cases ra;cases r1;rename_i v2;refine ⟨⟨t.1,t.2.1,t.2.2.1,v2⟩ :: es,by rw [zG,← e1],.cons ⟨rfl,rfl,rb,⟨op,gn,g1,g2,g3⟩,fJ I h2 h3⟩ e2⟩
 obtain ⟨es,e1,e2⟩:=mk ts its rv ht;subst e1;have hlen:ts.length=es.length:=mV e2;refine Te (es:=es) (I.ok.hd hc) ⋯ e c od (by rw [dd]) (λ t ht'=>?_) (by rw [← hlen]; simpa using hz) λ h' tk kk D=>?_
 ·obtain ⟨_,_,z⟩:=Cm e2 t ht';exact z.2.2.2
 have fold:∀ (ts:List (Addr × PyData × Addr × V)) (es:List Ent),Paired (λ t (e:Ent)=>e.k=t.2.1/\e.b=t.2.2.1/\RelV t.2.2.2 e.v/\e.ok s.heap) ts es->(∀ t∈ts,tT 4 t.2.1=true/\Dt X.K H (.ref t.2.2.1) t.2.1)->∀ (kvs:List (PyData × V)) (xs:List (PyData × Addr × Value)),KP X.K H kvs xs->(kvs.map (·.1)++ts.map (·.2.1)).Nodup->KP X.K H (kvs++ts.map λ t=>(t.2.1,t.2.2.2)) (es.foldl putP xs):=by
  intro ts es pr
  induction pr with
  | nil=>intro _ kvs xs kp _; rw [List.map_nil,vV]; exact kp
  | @cons t e ts es he _ ih =>
   intro ht kvs xs kp nd;obtain ⟨h1,h2,h3,_⟩:=he;have st:=kp.put t.2.1 (ht t (.head _)).1 (ht t (.head _)).2 h3;have nk:t.2.1 ∉ kvs.map (·.1):=λ hm=>by
    have:=(sF.mp nd).2.2 _ hm t.2.1 (by simp);exact this rfl
   have ep:pT kvs t.2.1 t.2.2.2=kvs++[(t.2.1,t.2.2.2)]:=by
    unfold pT;rw [Tc nk];rfl
   rw [ep,← h1,← h2] at st;have:=ih (λ x hx=>ht x (.tail _ hx)) _ _ st (by rw [xD,yP]; simpa [h1] using nd);rw [yP] at this;rw [h1] at this;show KP X.K H _ (List.foldl putP (storedH xs e.k e.b e.v) es);rw [h1];exact this
 have kp:=fold ts es e2 (λ t ht'=>(ht t ht').2) [] [] .nil (by simpa using hn);rw [List.nil_append] at kp;obtain ⟨oD,eD,pD,d1,d2,d3,d4,_,d6⟩:=D;have hf:H s.heap.objs.size=none:=I.hok.fresh (zF _);have sm:Same H (upd H s.heap.objs.size (lE s.heap.objs.size (es.foldl putP []))):=Same.new hf;refine ⟨.ref s.heap.objs.size,_,I.laid (a:=s.heap.objs.size) (o:=lE s.heap.objs.size (es.foldl putP [])) (t':=tk) kk (zF _) (bV d1 d2 d3 d4),rfl,?_⟩;refine q _ _ sm hf ⟨by rw [yL]; simpa using hz,wF.mpr (Ne.symm (yA (Bf I))),_,oZ,d6,kp.keeps (nY sm)⟩
end
open Classical in
def rdT (h:Heap) (v:Value):Option PyData:=if q:∃ d,tT 4 d=true/\∃ as,Reads h v d as then some q.choose else none
theorem Ju {h:Heap} {d:PyData} {v:Value} {as:LA} (t:tT 4 d=true) (r:Reads h v d as):rdT h v=some d:=by
 have q:∃ d,tT 4 d=true/\∃ as,Reads h v d as:=⟨d,t,as,r⟩;unfold rdT;rw [dif_pos q];obtain ⟨t',as',r'⟩:=q.choose_spec;rw [sJ _ _ _ _ _ (iA 4 _ (gS 4 _ t')).1 r' r]
def rInD (K:Frag) (neg:Bool):R2:=λ x y H Q=>∃ (p:Addr) (ps:List (V × PyData)) (d:PyData),y=.ref p/\(SqL K H p (ps.map (·.1))\/SqT K H p (ps.map (·.1)))/\(∀ q∈ps,tT 4 q.2=true/\Dt K H q.1 q.2)/\tT 4 d=true/\Dt K H x d/\Q (.bl (if neg=true then !(ps.any λ q=>decide (q.2=d)) else ps.any λ q=>decide (q.2=d))) H
section
variable {X:Cx}
theorem Cl {pins:PN} {σ:St} {H:Hp} {s:Shared} (I:Inv X pins σ H s) (d:PyData):∀ {ps:List (V × PyData)} {us:LW},Vals (ps.map (·.1)) us->(∀ q∈ps,tT 4 q.2=true/\Dt X.K H q.1 q.2)->us.any (λ u=>decide (rdT s.heap u=some d))=ps.any λ q=>decide (q.2=d)
 | [],_,.nil,_=>rfl
 | p :: ps,u :: us,.cons r t,h=>by
  rw [uV,uV,Cl I d t λ q hq=>h q (.tail _ hq)];obtain ⟨as,rd⟩:=(h p (.head _)).2.reads I r;rw [Ju (h p (.head _)).1 rd];congr 1;exact uR.mpr ⟨λ e=>by cases e; rfl,λ e=>by rw [e]⟩
theorem Ck {pins:PN} {σ:St} {H:Hp} {s:Shared} (I:Inv X pins σ H s) {A:Around} (hu:A.units+8 < cLine) {x:V} {v:Value} {d:PyData} (rx:RelV x v) (td:tT 4 d=true) (hd:Dt X.K H x d):∀ {ps:List (V × PyData)} {us:LW},Vals (ps.map (·.1)) us->(∀ q∈ps,tT 4 q.2=true/\Dt X.K H q.1 q.2)->∀ u∈us,SeqAt.EqAt A s u v (decide (rdT s.heap u=some d))
 | [],_,.nil,_=>λ u hu=>by cases hu
 | p :: ps,u :: us,.cons r t,h=>λ u' hu'=>by
  rcases zL.mp hu' with rfl | hu'
  ·obtain ⟨as,rd⟩:=(h p (.head _)).2.reads I r;obtain ⟨bs,rd2⟩:=hd.reads I rx;have e:decide (rdT s.heap u'=some d)=decide (p.2=d):=by
    rw [Ju (h p (.head _)).1 rd];exact uR.mpr ⟨λ e=>by cases e; rfl,λ e=>by rw [e]⟩
   rw [e];intro prog w E Q hQ;exact eqT (n:=4) (zF _) (h p (.head _)).1 td rd rd2 hu hQ
  ·exact Ck I hu rx td hd t (λ q hq=>h q (.tail _ hq)) u' hu'
theorem Cj (hu:X.A.units+64 < cLine):OpR X (compareOp .NotIn) (rInD X.K true):=by
 intro pins s σ H x y v u Q I rx ry h;obtain ⟨p,ps,d,rfl,hq,ht,td,hd,q⟩:=h;cases ry;rcases hq with hq | hq
 ·obtain ⟨its,r,pl,hz⟩:=I.list hq;refine SeqAt.notIn_listAt (λ u=>decide (rdT s.heap u=some d)) pl.isList (λ w hw=>Ck I ?_ rx td hd r ht w (by simpa using hw)) ⟨.bl _,H,I,rfl,?_⟩
  ·show X.A.units+1+8 < cLine;omega
  rw [show its.toArray.any (λ u=>decide (rdT s.heap u=some d))=its.any (λ u=>decide (rdT s.heap u=some d)) by simp,Cl I d r ht];exact q
 ·obtain ⟨its,r,pl,hz⟩:=I.tuple hq;refine SeqAt.notIn_tupleAt (λ u=>decide (rdT s.heap u=some d)) pl (λ w hw=>Ck I ?_ rx td hd r ht w (by simpa using hw)) ⟨.bl _,H,I,rfl,?_⟩
  ·show X.A.units+1+8 < cLine;omega
  rw [show its.toArray.any (λ u=>decide (rdT s.heap u=some d))=its.any (λ u=>decide (rdT s.heap u=some d)) by simp,Cl I d r ht];exact q
end
section
variable {prog:Program} {w:World} {E:VP}
theorem geT:∀ (n:Nat),n<=4->∀ {A:Around} {s:Shared} {v u:Value} {x y:PyData} {as bs:LA} {Q:VP},tT n x=true->tT n y=true->sm x y=true->Reads s.heap v x as->Reads s.heap u y bs->A.units+8+n < cLine->Q (.bool (!lx (fl x) (fl y))) s->wpAny (model prog w) A (richCompare .GtE v u) Q E s:=by
 intro n
 induction n with
 | zero =>
  intro hn A s v u x y as bs Q t1 t2 hs r1 r2 hu h;cases r1 <;> simp [tT] at t1;cases r2 <;> simp [tT] at t2;refine PyProof.Rows.ge_int ?_;simpa [fl,lx,wX,← decide_not,Int.not_lt] using h
 | succ n ih =>
  intro hn A s v u x y as bs Q t1 t2 hs r1 r2 hu h;cases r1 <;> simp only [tT,Bool.false_eq_true] at t1
  case int =>
   cases r2 <;> simp only [sm,Bool.false_eq_true] at hs;refine PyProof.Rows.ge_int ?_;simpa [fl,lx,wX,← decide_not,Int.not_lt] using h
  case tuple a o vs m xs hg hc hd hr =>
   cases r2 <;> simp only [sm,Bool.false_eq_true] at hs;rename_i b o2 us m2 ys hg2 hc2 hd2 hr2;simp only [tT] at t2;have T1:s.TypeIs (.ref a) "tuple" := ⟨o,hg,hc⟩;have T2:s.TypeIs (.ref b) "tuple" := ⟨o2,hg2,hc2⟩;refine pE (op:=.GtE) T1 T2 PySem.F.slot_tuple_ge (xN PySem.F.slot_tuple_ge T1 PySem.F.entry_tuple_ge ?_ (PySem.F.args_tuple_ge_2 _ _)) ⋯;show wpAny _ _ (isInstance (.ref b) (.type "tuple") >>= _) _ _ s;refine zA (vI T2 rF ?_);simp only [Bool.not_true,Bool.false_eq_true,if_false];refine zA (uG hg hd ?_);refine zA (uG hg2 hd2 ?_);refine zA ?_;refine qP _
    (λ rest r s'=>r.1=none/\s'=s/\∃ x' y' vs' us' as' bs',rest=List.zip vs' us'/\ReadsAll s.heap vs' x' as'/\ReadsAll s.heap us' y' bs'/\x'.all (tT n)=true/\y'.all (tT n)=true/\smA x' y'=true/\lx (flA x') (flA y')=lx (flA xs) (flA ys)/\(vs'.length+us.size=us'.length+vs.size))
    _ ?_ ?_ _ _ ⟨rfl,rfl,xs,ys,vs.toList,us.toList,_,_,rfl,hr,hr2,t1,t2,hs,rfl,by simp; omega⟩
   ·rintro ⟨p,q⟩ rest r s' ⟨hq,rfl,x',y',vs',us',as',bs',hz,ra,rb,ta,tb,hsm,hdec,hlen⟩;cases ra with
    | nil=>simp at hz
    | @cons p' vs'' d' x'' a1 as'' r1 ra' =>
     cases rb with
     | nil=>simp [smA] at hsm
     | @cons q' us'' e' y'' b1 bs'' r2 rb' =>
      simp only [List.zip_cons_cons,List.cons.injEq,Prod.mk.injEq] at hz;obtain ⟨⟨rfl,rfl⟩,rfl⟩:=hz;rw [yV,zO] at ta tb;simp only [smA,Bool.and_eq_true] at hsm;refine zA (eqT (n:=n) ⋯ ta.1 tb.1 r1 r2 (by show A.units+1+8 < cLine; omega) ?_)
      by_cases e:d'=e'
      ·subst e;rw [zM rfl];simp only [Bool.not_true,Bool.false_eq_true,if_false];refine zC ⟨rfl,rfl,x'',y'',vs'',us'',_,_,rfl,ra',rb',ta.2,tb.2,hsm.2,?_,by simp at hlen; omega⟩;rw [← hdec];simp only [flA];rw [aD]
      ·rw [zQ e];simp only [Bool.not_false,if_true];have hne:fl d'≠fl e':=λ q=>e (cD _ _ hsm.1 q);simp only [flA] at hdec;rw [aE _ _ _ _ (cC _ _ hsm.1) hne] at hdec;refine zA (wM ?_);refine zA (ih ⋯ ta.1 tb.1 hsm.1 r1 r2 (by show A.units+1+8+n < cLine; omega) ?_);rw [hdec];exact zA (zC (zC (zC ⟨_,rfl,(λ e=>nomatch e),h⟩)))
   ·rintro ⟨r1,r2⟩ s' ⟨hq,rfl,x',y',vs',us',as',bs',hz,ra,rb,ta,tb,hsm,hdec,hlen⟩;simp only at hq;subst hq;cases ra with
    | cons ra1 ra2 =>
     cases rb with
     | nil=>simp [smA] at hsm
     | cons rb1 rb2=>simp at hz
    | nil =>
     cases rb with
     | cons rb1 rb2=>simp [smA] at hsm
     | nil =>
      have ez:vs.size=us.size:=by simp at hlen; omega
      have e0:lx (flA xs) (flA ys)=false:=by rw [← hdec]; simp [flA,lx]
      refine zC ⟨_,rfl,(λ e=>nomatch e),?_⟩;show Q (.bool (decide (vs.size ≥ us.size))) s';have h':Q (.bool (!lx (flA xs) (flA ys))) s':=h;rw [e0] at h';rw [ez,zM (zF _)];exact h'
end
def Jt (K:Frag) (ge:Bool):R2:=λ x y H Q=>∃ d e,tT 4 d=true/\tT 4 e=true/\sm d e=true/\Dt K H x d/\Dt K H y e/\Q (.bl (if ge=true then !lx (fl d) (fl e) else lx (fl d) (fl e))) H
section
variable {X:Cx}
theorem Uz (hu:X.A.units+64 < cLine):OpR X (compareOp .GtE) (Jt X.K true):=by
 intro pins s σ H x y v u Q I rx ry h;obtain ⟨d,e,t1,t2,z,h1,h2,q⟩:=h;obtain ⟨as,r1⟩:=h1.reads I rx;obtain ⟨bs,r2⟩:=h2.reads I ry;exact geT 4 (zF _) t1 t2 z r1 r2 ⋯ ⟨.bl _,H,I,rfl,q⟩
end
structure FunD (K:Frag) (x qual:Str) (st:Stmt) (f:Addr) (fd:FuncData) (ds:LW):Prop where
 ex:∃ (oc:Value) (od:Option Addr) (T:Addr) (kV doc pm:Value) (an:Option Addr) (cdv ct:Value) (osl:Array (Option Value)),
  fd=PySem.W.fnOf x qual (jW st) (kH st) (oV st) (.ref T) kV doc pm an cdv ct/\K.lookup f=some ⟨oc,od,.func fd,osl⟩/\PySem.W.codeIn K cdv qual=true/\∃ (o2:Value) (d2:Option Addr) (n2:Nat) (s2:Array (Option Value)),K.lookup T=some ⟨o2,d2,.seq ds.toArray n2,s2⟩
 kp:PySem.W.keepIn K (.ref f)=true
section
variable {P:Program} {w:World} {K:Frag} {mg:MT} {base:Heap}
theorem FunD.ok {x qual:Str} {st:Stmt} {f:Addr} {fd:FuncData} {ds:LW} {N ps:List Str} {k:Nat} {sp:Sp} (F:FunD K x qual st f fd ds) (S:nL N ps (oV st)) (len:∀ vs H Q E,sp vs H Q E->vs.length=ps.length)
  (hbody:∀ (cdv:Value) (A:Around) (outer:List Env) (s:Shared) (H:Hp) (vs:List V) (Q:VK) (E:XK),Room k (A.deeper (envOfC qual (oV st) s.heap.objs.size f cdv))->sp vs H Q E ->
   ∃ t,PSs (cxOf CX0 P w K mg base N qual (oV st) f cdv A outer s H E).nox (kH st) t/\t { nx:=λ _ H'=>Q .non H',rt:=Q } (jV N vs) H):FnOk P w K mg base CX0 (k+1) f fd ps sp:=by
 obtain ⟨oc,od,T,kV,doc,pm,an,cdv,ct,osl,rfl,lk,hcd,_⟩:=F.ex;refine Bz lk hcd S len λ A outer s H vs Q E hr hsp=>?_;obtain ⟨t,h,q⟩:=hbody cdv A outer s H vs Q E hr hsp;exact ⟨t,h.nox,q⟩
theorem FunD.binds {x qual:Str} {st:Stmt} {f:Addr} {fd:FuncData} {ps:List Str} {ds:LW} (F:FunD K x qual st f fd ds)
  (h:∀ (T:Addr) (kV doc pm:Value) (an:Option Addr) (cdv ct:Value) (us:LW),us.length+ds.length=ps.length->∃ k,bindArgs (PySem.W.fnOf x qual (jW st) (kH st) (oV st) (.ref T) kV doc pm an cdv ct) ⟨us,[]⟩=seqItems? (.ref T) >>= k/\k (some ds.toArray)=pure (ps.zip (us++ds))):nI K fd ps ds:=by
 obtain ⟨oc,od,T,kV,doc,pm,an,cdv,ct,osl,rfl,lk,hcd,o2,d2,n2,s2,lt⟩:=F.ex;intro s us kin hl;obtain ⟨k,e1,e2⟩:=h T kV doc pm an cdv ct us (by simpa using hl);exact BindsTo.of_defaults (T:=T) rfl (kin _ _ lt) rfl e1 e2
theorem FunD.bindsA {x qual:Str} {st:Stmt} {f:Addr} {fd:FuncData} {ps:List Str} {ds:LW} (F:FunD K x qual st f fd ds)
  (h:∀ (T:Addr) (kV doc pm:Value) (an:Option Addr) (cdv ct:Value) (us:LW),us.length=ps.length->∃ k,bindArgs (PySem.W.fnOf x qual (jW st) (kH st) (oV st) (.ref T) kV doc pm an cdv ct) ⟨us,[]⟩=seqItems? (.ref T) >>= k/\k (some ds.toArray)=pure (ps.zip us)):nI K fd ps []:=by
 obtain ⟨oc,od,T,kV,doc,pm,an,cdv,ct,osl,rfl,lk,hcd,o2,d2,n2,s2,lt⟩:=F.ex;intro s us kin hl;rw [vV] at hl ⊢;obtain ⟨k,e1,e2⟩:=h T kV doc pm an cdv ct us hl;exact BindsTo.of_defaults (T:=T) rfl (kin _ _ lt) rfl e1 e2
theorem Uy {x qual:Str} {st:Stmt} {f T:Addr} {oc o2:Value} {od d2 an:Option Addr} {osl s2:Array (Option Value)} {kV doc pm cdv ct:Value} {ds:LW} {n2:Nat} (l:K.lookup f=some ⟨oc,od,.func (PySem.W.fnOf x qual (jW st) (kH st) (oV st) (.ref T) kV doc pm an cdv ct),osl⟩)
  (c:PySem.W.codeIn K cdv qual=true) (k:PySem.W.keepIn K (.ref f)=true) (l2:K.lookup T=some ⟨o2,d2,.seq ds.toArray n2,s2⟩):FunD K x qual st f (PySem.W.fnOf x qual (jW st) (kH st) (oV st) (.ref T) kV doc pm an cdv ct) ds:=⟨⟨oc,od,T,kV,doc,pm,an,cdv,ct,osl,rfl,l,c,o2,d2,n2,s2,l2⟩,k⟩
end
end L2
namespace Cw
open PySem L2
noncomputable abbrev pa':List Str:=["_law_rows","_law_tops","_law_parts","_law_steps","_law_spot"]
noncomputable abbrev pb':List Str:=["_law_found","_law_members","_law_spot"]
noncomputable abbrev pc':List Str:=["_law_kept","_law_members","_law_spot"]
noncomputable abbrev pd':List Str:=["_law_cell","_law_kind","_law_parts"]
noncomputable abbrev pe':List Str:=["_law_cell","_law_base","_law_many"]
noncomputable abbrev pf':List Str:=["_law_cells","_law_frame_here"]
noncomputable abbrev pg':List Str:=["_law_cell","_law_frame_here"]
noncomputable abbrev ph':List Str:=["self","d","makers","most"]
noncomputable abbrev pi':List Str:=["_law_part","_law_number"]
noncomputable abbrev pj':List Str:=["_law_tops","_law_under"]
noncomputable abbrev pk':List Str:=["_law_rows","_law_steps"]
noncomputable abbrev pl':List Str:=["_law_tops","_law_steps"]
noncomputable abbrev pm':List Str:=["_law_one","_law_other"]
noncomputable abbrev pn':List Str:=["_law_rows","_law_tops"]
noncomputable abbrev po':List Str:=["group","spot","other"]
noncomputable abbrev pp':List Str:=["_law_script","_law_k"]
noncomputable abbrev pq':List Str:=["_law_one","_law_spot"]
noncomputable abbrev pr':List Str:=["rows","tops","under"]
noncomputable abbrev pt':List Str:=["_law_cell","_law_d"]
noncomputable abbrev pu':List Str:=["_law_spot","_law_d"]
noncomputable abbrev pv':List Str:=["d","makers","most"]
noncomputable abbrev pw':List Str:=["tops","under"]
noncomputable abbrev px':List Str:=["rows","i","k"]
noncomputable abbrev py':List Str:=["group","spot"]
noncomputable abbrev pz':List Str:=["one","other"]
noncomputable abbrev pA':List Str:=["rows","spot"]
noncomputable abbrev pB':List Str:=["_law_script"]
noncomputable abbrev pC':List Str:=["one","spot"]
noncomputable abbrev pD':List Str:=["d","makers"]
noncomputable abbrev pE':List Str:=["_law_found"]
noncomputable abbrev pF':List Str:=["_law_kind"]
noncomputable abbrev pG':List Str:=["_law_spot"]
noncomputable abbrev pH':List Str:=["_law_some"]
noncomputable abbrev pI':List Str:=["rows"]
noncomputable abbrev pJ':List Str:=["one"]
open PySem.W (nsIn keepIn codeIn findIn fnOf mg_of kitOne)
open PyProof.Rows (mulOk_of_bits)
theorem zqe {α β:Type} {l:List α} {f:α->β}:(l.map f).length=l.length:=yL ..
theorem zqa {α:Type} {l:List α} {i:Nat} {a:α} (h:l[i]?=some a):∃ h:i < l.length,l[i]=a:=zR.mp h
theorem zqb {α:Type} {l:List α} {i:Nat} {a:α} (h:l[i]?=some a):a∈l:=yD h
theorem zqc {α:Type} {l:List α} {i:Nat} {a:α}:l.getD i a=l[i]?.getD a:=tV
theorem zqd {α:Type} {l:List α} {i:Nat} (h:i < l.length):l[i]?=some l[i]:=xO h
open PySem.W (Frag)
abbrev LM:=List (LI')
noncomputable def top (i:Nat):Stmt:=PySem.Challenge.pw_crystalwords_k61_alike_places.main.body.getD i (.Pass ⟨0,0,0,0⟩)
noncomputable abbrev s_11:Stmt:=top 9
noncomputable abbrev N_11:List Str:=["one","other","greater","lesser","remainder"]
noncomputable abbrev s_15:Stmt:=top 11
noncomputable abbrev N_15:List Str:=["tops","under","common","top"]
noncomputable abbrev aH:Stmt:=top 12
noncomputable abbrev N_g:List Str:=["one","under"]
noncomputable abbrev aI:Stmt:=top 13
noncomputable abbrev N_v:List Str:=["one","other","tops"]
noncomputable abbrev aJ:Stmt:=top 14
noncomputable abbrev N_x:List Str:=pJ'
noncomputable abbrev Ci:Stmt:=top 15
noncomputable abbrev N_u:List Str:=pz'
noncomputable abbrev aK:Stmt:=top 17
noncomputable abbrev N_i:List Str:=["size"]
noncomputable abbrev s_1e:Stmt:=top 18
noncomputable abbrev N_1e:List Str:=pz'
noncomputable abbrev s_18:Stmt:=top 19
noncomputable abbrev N_18:List Str:=pI'
noncomputable abbrev s_14:Stmt:=top 20
noncomputable abbrev N_14:List Str:=px'
noncomputable abbrev s_8:Stmt:=top 21
noncomputable abbrev N_8:List Str:=["rows","total","sign","k","number"]
noncomputable abbrev s_10:Stmt:=top 23
noncomputable abbrev N_10:List Str:=pA'
noncomputable abbrev s_1a:Stmt:=top 24
noncomputable abbrev N_1a:List Str:=["rows","tops","under","axes"]
noncomputable abbrev s_19:Stmt:=top 25
noncomputable abbrev N_19:List Str:=["d"]
noncomputable abbrev s_1d:Stmt:=top 26
noncomputable abbrev N_1d:List Str:=pJ'
noncomputable abbrev s_16:Stmt:=top 27
noncomputable abbrev N_16:List Str:=["one","spot","tops"]
noncomputable abbrev s_12:Stmt:=top 28
noncomputable abbrev N_12:List Str:=["one","other","columns","rows"]
noncomputable abbrev s_1b:Stmt:=top 29
noncomputable abbrev N_1b:List Str:=pJ'
noncomputable abbrev s_17:Stmt:=top 31
noncomputable abbrev N_17:List Str:=["group","spot","numbers","number","member","reached"]
noncomputable abbrev Cg:Stmt:=top 32
noncomputable abbrev N_m:List Str:=["group","spot","other","deeds","member","gap"]
noncomputable abbrev s_1f:Stmt:=top 33
noncomputable abbrev N_1f:List Str:=py'
noncomputable abbrev Cf:Stmt:=top 36
noncomputable abbrev N_t:List Str:=["most"]
noncomputable abbrev Ce:Stmt:=top 37
noncomputable abbrev N_r:List Str:=["d","makers","maker"]
noncomputable abbrev s_13:Stmt:=top 38
noncomputable abbrev N_13:List Str:=["d","makers","most","steps","found","words","at","number","step","reached"]
noncomputable abbrev s_0:Stmt:=Gj (top 39) 0
noncomputable abbrev N_0:List Str:=["self","d","makers","most","words"]
noncomputable abbrev s_7:Stmt:=Gj (top 39) 3
noncomputable abbrev N_7:List Str:=["self"]
noncomputable abbrev Cd:Stmt:=top 41
noncomputable abbrev N_a:List Str:=pp'
noncomputable abbrev Cc:Stmt:=top 42
noncomputable abbrev N_j:List Str:=pE'
noncomputable abbrev Cb:Stmt:=top 43
noncomputable abbrev N_e:List Str:=["_law_cell","_law_base","_law_many","_law_some","_law_k"]
noncomputable abbrev Ca:Stmt:=top 44
noncomputable abbrev N_q:List Str:=pi'
noncomputable abbrev s_9:Stmt:=top 45
noncomputable abbrev N_9:List Str:=["_law_tops","_law_under","_law_by","_law_top"]
noncomputable abbrev cE:Stmt:=top 46
noncomputable abbrev N_l:List Str:=pF'
noncomputable abbrev aL:Stmt:=top 47
noncomputable abbrev N_b:List Str:=pm'
noncomputable abbrev aM:Stmt:=top 48
noncomputable abbrev N_y:List Str:=pn'
noncomputable abbrev aN:Stmt:=top 49
noncomputable abbrev N_p:List Str:=["_law_cell","_law_kind","_law_parts","_law_generators","_law_many","_law_rows","_law_k"]
noncomputable abbrev Dz:Stmt:=top 50
noncomputable abbrev N_w:List Str:=["_law_cell","_law_d","_law_i"]
noncomputable abbrev s_1:Stmt:=top 51
noncomputable abbrev N_1:List Str:=["_law_rows","_law_steps","_law_i","_law_j","_law_many"]
noncomputable abbrev s_2:Stmt:=top 52
noncomputable abbrev N_2:List Str:=["_law_tops","_law_steps","_law_i","_law_j","_law_many"]
noncomputable abbrev s_3:Stmt:=top 53
noncomputable abbrev N_3:List Str:=["_law_rows","_law_tops","_law_parts","_law_steps","_law_spot","_law_far","_law_under"]
noncomputable abbrev cF:Stmt:=top 54
noncomputable abbrev N_o:List Str:=["_law_script","_law_cell","_law_kind","_law_generators","_law_most","_law_d","_law_parts","_law_steps","_law_spot"]
noncomputable abbrev Dy:Stmt:=top 55
noncomputable abbrev N_k:List Str:=["_law_cells","_law_frame_here","_law_kind","_law_parts","_law_steps","_law_spot","_law_made","_law_cell","_law_rows","_law_tops"]
noncomputable abbrev s_5:Stmt:=top 56
noncomputable abbrev N_5:List Str:=["_law_one","_law_spot","_law_far","_law_tops"]
noncomputable abbrev aO:Stmt:=top 57
noncomputable abbrev N_f:List Str:=pG'
noncomputable abbrev s_6:Stmt:=top 58
noncomputable abbrev N_6:List Str:=["_law_cell","_law_frame_here","_law_kind","_law_parts","_law_steps","_law_spot","_law_d","_law_small","_law_tops"]
noncomputable abbrev aP:Stmt:=top 59
noncomputable abbrev N_n:List Str:=pH'
noncomputable abbrev Dx:Stmt:=top 60
noncomputable abbrev N_c:List Str:=pu'
noncomputable abbrev aQ:Stmt:=top 61
noncomputable abbrev N_h:List Str:=pH'
noncomputable abbrev s_4:Stmt:=top 62
noncomputable abbrev N_4:List Str:=["_law_found","_law_members","_law_spot","_law_row"]
noncomputable abbrev cG:Stmt:=top 63
noncomputable abbrev N_s:List Str:=["_law_one","_law_spot","_law_reached_here","_law_step_here"]
noncomputable abbrev Dw:Stmt:=top 64
noncomputable abbrev N_d:List Str:=["_law_kept","_law_members","_law_spot","_law_one"]
noncomputable abbrev s_1c:Stmt:=top 65
noncomputable abbrev N_1c:List Str:=["_law_script","_law_frame_here","_law_makers_here","_law_group","_law_members","_law_spot","_law_found","_law_kept","_law_places","_law_cell","_law_one","_law_exact_here","_law_other"]
local macro_rules | `(tactic| walk_at "s")=>`(tactic| exact ⟨rfl,rfl,rfl,by decide +kernel,rfl,by decide +kernel,by decide +kernel⟩)
local macro_rules | `(tactic| walk_at "v")=>`(tactic| (intro _ _ _ _ h; first | (obtain ⟨_,hh,_⟩:=h; subst hh; rfl) | (obtain ⟨_,_,hh,_⟩:=h; subst hh; rfl) | (obtain ⟨_,_,_,hh,_⟩:=h; subst hh; rfl) | (obtain ⟨_,_,_,_,hh,_⟩:=h; subst hh; rfl) | (obtain ⟨_,_,_,_,_,hh,_⟩:=h; subst hh; rfl) | (obtain ⟨_,_,_,_,_,_,hh,_⟩:=h; subst hh; rfl) | (obtain ⟨_,_,_,_,_,_,_,hh,_⟩:=h; subst hh; rfl) | (obtain ⟨_,_,_,_,_,_,_,_,hh,_⟩:=h; subst hh; rfl) | (obtain ⟨_,_,_,_,_,_,_,_,_,hh,_⟩:=h; subst hh; rfl) | (obtain ⟨_,_,_,_,_,_,_,_,_,_,_,_,hh,_⟩:=h; subst hh; rfl)))
theorem sc_11:nL N_11 pz' (oV s_11):=by walk_at "s"
theorem sc_15:nL N_15 pw' (oV s_15):=by walk_at "s"
theorem sc_g:nL N_g pJ' (oV aH):=by walk_at "s"
theorem sc_v:nL N_v pz' (oV aI):=by walk_at "s"
theorem sc_x:nL N_x pJ' (oV aJ):=by walk_at "s"
theorem sc_u:nL N_u pz' (oV Ci):=by walk_at "s"
theorem sc_i:nL N_i ["size"] (oV aK):=by walk_at "s"
theorem sc_1e:nL N_1e pz' (oV s_1e):=by walk_at "s"
theorem sc_18:nL N_18 pI' (oV s_18):=by walk_at "s"
theorem sc_14:nL N_14 px' (oV s_14):=by walk_at "s"
theorem sc_8:nL N_8 pI' (oV s_8):=by walk_at "s"
theorem sc_10:nL N_10 pA' (oV s_10):=by walk_at "s"
theorem sc_1a:nL N_1a pr' (oV s_1a):=by walk_at "s"
theorem sc_19:nL N_19 ["d"] (oV s_19):=by walk_at "s"
theorem sc_1d:nL N_1d pJ' (oV s_1d):=by walk_at "s"
theorem sc_16:nL N_16 pC' (oV s_16):=by walk_at "s"
theorem sc_12:nL N_12 pz' (oV s_12):=by walk_at "s"
theorem sc_1b:nL N_1b pJ' (oV s_1b):=by walk_at "s"
theorem sc_17:nL N_17 py' (oV s_17):=by walk_at "s"
theorem sc_m:nL N_m po' (oV Cg):=by walk_at "s"
theorem sc_1f:nL N_1f py' (oV s_1f):=by walk_at "s"
theorem sc_t:nL N_t ["most"] (oV Cf):=by walk_at "s"
theorem sc_r:nL N_r pD' (oV Ce):=by walk_at "s"
theorem sc_13:nL N_13 pv' (oV s_13):=by walk_at "s"
theorem sc_0:nL N_0 ph' (oV s_0):=by walk_at "s"
theorem sc_7:nL N_7 ["self"] (oV s_7):=by walk_at "s"
theorem sc_a:nL N_a pp' (oV Cd):=by walk_at "s"
theorem sc_j:nL N_j pE' (oV Cc):=by walk_at "s"
theorem sc_e:nL N_e pe' (oV Cb):=by walk_at "s"
theorem sc_q:nL N_q pi' (oV Ca):=by walk_at "s"
theorem sc_9:nL N_9 pj' (oV s_9):=by walk_at "s"
theorem sc_l:nL N_l pF' (oV cE):=by walk_at "s"
theorem sc_b:nL N_b pm' (oV aL):=by walk_at "s"
theorem sc_y:nL N_y pn' (oV aM):=by walk_at "s"
theorem sc_p:nL N_p pd' (oV aN):=by walk_at "s"
theorem sc_w:nL N_w pt' (oV Dz):=by walk_at "s"
theorem sc_1:nL N_1 pk' (oV s_1):=by walk_at "s"
theorem sc_2:nL N_2 pl' (oV s_2):=by walk_at "s"
theorem sc_3:nL N_3 pa' (oV s_3):=by walk_at "s"
theorem sc_o:nL N_o pB' (oV cF):=by walk_at "s"
theorem sc_k:nL N_k pf' (oV Dy):=by walk_at "s"
theorem sc_5:nL N_5 pq' (oV s_5):=by walk_at "s"
theorem sc_f:nL N_f pG' (oV aO):=by walk_at "s"
theorem sc_6:nL N_6 pg' (oV s_6):=by walk_at "s"
theorem sc_n:nL N_n pH' (oV aP):=by walk_at "s"
theorem sc_c:nL N_c pu' (oV Dx):=by walk_at "s"
theorem sc_h:nL N_h pH' (oV aQ):=by walk_at "s"
theorem sc_4:nL N_4 pb' (oV s_4):=by walk_at "s"
theorem sc_s:nL N_s pq' (oV cG):=by walk_at "s"
theorem sc_d:nL N_d pc' (oV Dw):=by walk_at "s"
theorem sc_1c:nL N_1c pB' (oV s_1c):=by walk_at "s"
set_option genInjectivity false in
structure Adr where
 a_11:Addr
 d_11:FuncData
 a_15:Addr
 d_15:FuncData
 a_g:Addr
 d_g:FuncData
 a_v:Addr
 d_v:FuncData
 a_x:Addr
 d_x:FuncData
 a_u:Addr
 d_u:FuncData
 a_i:Addr
 d_i:FuncData
 a_1e:Addr
 d_1e:FuncData
 a_18:Addr
 d_18:FuncData
 a_14:Addr
 d_14:FuncData
 a_8:Addr
 d_8:FuncData
 a_10:Addr
 d_10:FuncData
 a_1a:Addr
 d_1a:FuncData
 a_19:Addr
 d_19:FuncData
 a_1d:Addr
 d_1d:FuncData
 a_16:Addr
 d_16:FuncData
 a_12:Addr
 d_12:FuncData
 a_1b:Addr
 d_1b:FuncData
 a_17:Addr
 d_17:FuncData
 a_m:Addr
 d_m:FuncData
 a_1f:Addr
 d_1f:FuncData
 a_t:Addr
 d_t:FuncData
 a_r:Addr
 d_r:FuncData
 a_13:Addr
 d_13:FuncData
 a_0:Addr
 d_0:FuncData
 a_7:Addr
 d_7:FuncData
 a_a:Addr
 d_a:FuncData
 a_j:Addr
 d_j:FuncData
 a_e:Addr
 d_e:FuncData
 a_q:Addr
 d_q:FuncData
 a_9:Addr
 d_9:FuncData
 a_l:Addr
 d_l:FuncData
 a_b:Addr
 d_b:FuncData
 a_y:Addr
 d_y:FuncData
 a_p:Addr
 d_p:FuncData
 a_w:Addr
 d_w:FuncData
 a_1:Addr
 d_1:FuncData
 a_2:Addr
 d_2:FuncData
 a_3:Addr
 d_3:FuncData
 a_o:Addr
 d_o:FuncData
 a_k:Addr
 d_k:FuncData
 a_5:Addr
 d_5:FuncData
 a_f:Addr
 d_f:FuncData
 a_6:Addr
 d_6:FuncData
 a_n:Addr
 d_n:FuncData
 a_c:Addr
 d_c:FuncData
 a_h:Addr
 d_h:FuncData
 a_4:Addr
 d_4:FuncData
 a_s:Addr
 d_s:FuncData
 a_d:Addr
 d_d:FuncData
 a_1c:Addr
 d_1c:FuncData
 a_1i:Addr
 a_1h:Addr
 a_1g:Addr
 a_1k:Addr
 a_1j:Addr
 a_z:Addr
 k_0:Tok
structure Txt (K:Frag) (mg:MT) (t:Adr):Prop where
 F_11:Fun K "divisor" "divisor" s_11 t.a_11 t.d_11
 m_11:mg "divisor" = some (.ref t.a_11)
 b_11:nI K t.d_11 pz' []
 F_15:Fun K "place" "place" s_15 t.a_15 t.d_15
 m_15:mg "place" = some (.ref t.a_15)
 b_15:nI K t.d_15 pw' []
 F_g:Fun K "rest_place" "rest_place" aH t.a_g t.d_g
 m_g:mg "rest_place" = some (.ref t.a_g)
 b_g:nI K t.d_g pJ' []
 F_v:Fun K "place_sum" "place_sum" aI t.a_v t.d_v
 m_v:mg "place_sum" = some (.ref t.a_v)
 b_v:nI K t.d_v pz' []
 F_x:Fun K "opposite" "opposite" aJ t.a_x t.d_x
 m_x:mg "opposite" = some (.ref t.a_x)
 b_x:nI K t.d_x pJ' []
 F_u:Fun K "place_less" "place_less" Ci t.a_u t.d_u
 m_u:mg "place_less" = some (.ref t.a_u)
 b_u:nI K t.d_u pz' []
 F_i:Fun K "still_rows" "still_rows" aK t.a_i t.d_i
 m_i:mg "still_rows" = some (.ref t.a_i)
 b_i:nI K t.d_i ["size"] []
 F_1e:Fun K "dot" "dot" s_1e t.a_1e t.d_1e
 m_1e:mg "dot" = some (.ref t.a_1e)
 b_1e:nI K t.d_1e pz' []
 F_18:Fun K "turned" "turned" s_18 t.a_18 t.d_18
 m_18:mg "turned" = some (.ref t.a_18)
 b_18:nI K t.d_18 pI' []
 F_14:Fun K "without" "without" s_14 t.a_14 t.d_14
 m_14:mg "without" = some (.ref t.a_14)
 b_14:nI K t.d_14 px' []
 F_8:Fun K "determinant" "determinant" s_8 t.a_8 t.d_8
 m_8:mg "determinant" = some (.ref t.a_8)
 b_8:nI K t.d_8 pI' []
 F_10:Fun K "joined" "joined" s_10 t.a_10 t.d_10
 m_10:mg "joined" = some (.ref t.a_10)
 b_10:nI K t.d_10 pA' []
 F_1a:Fun K "deed" "deed" s_1a t.a_1a t.d_1a
 m_1a:mg "deed" = some (.ref t.a_1a)
 b_1a:nI K t.d_1a pr' []
 F_19:Fun K "still" "still" s_19 t.a_19 t.d_19
 m_19:mg "still" = some (.ref t.a_19)
 b_19:nI K t.d_19 ["d"] []
 F_1d:Fun K "move" "move" s_1d t.a_1d t.d_1d
 m_1d:mg "move" = some (.ref t.a_1d)
 b_1d:nI K t.d_1d pJ' []
 F_16:Fun K "moved" "moved" s_16 t.a_16 t.d_16
 m_16:mg "moved" = some (.ref t.a_16)
 b_16:nI K t.d_16 pC' []
 F_12:Fun K "behind" "behind" s_12 t.a_12 t.d_12
 m_12:mg "behind" = some (.ref t.a_12)
 b_12:nI K t.d_12 pz' []
 F_1b:Fun K "rest" "rest" s_1b t.a_1b t.d_1b
 m_1b:mg "rest" = some (.ref t.a_1b)
 b_1b:nI K t.d_1b pJ' []
 F_17:Fun K "alike" "alike" s_17 t.a_17 t.d_17
 m_17:mg "alike" = some (.ref t.a_17)
 b_17:nI K t.d_17 py' []
 F_m:Fun K "all_leading" "all_leading" Cg t.a_m t.d_m
 m_m:mg "all_leading" = some (.ref t.a_m)
 b_m:nI K t.d_m po' []
 F_1f:Fun K "own" "own" s_1f t.a_1f t.d_1f
 m_1f:mg "own" = some (.ref t.a_1f)
 b_1f:nI K t.d_1f py' []
 F_t:Fun K "check_most" "check_most" Cf t.a_t t.d_t
 m_t:mg "check_most" = some (.ref t.a_t)
 b_t:nI K t.d_t ["most"] []
 F_r:Fun K "check_axes" "check_axes" Ce t.a_r t.d_r
 m_r:mg "check_axes" = some (.ref t.a_r)
 b_r:nI K t.d_r pD' []
 F_13:Fun K "closed" "closed" s_13 t.a_13 t.d_13
 m_13:mg "closed" = some (.ref t.a_13)
 b_13:nI K t.d_13 pv' []
 F_0:FunD K "__init__" "Group.__init__" s_0 t.a_0 t.d_0 [.int 200 t.k_0]
 bd_Group___init__:nI K t.d_0 ph' [.int 200 t.k_0]
 b_0:nI K t.d_0 ph' []
 F_7:Fun K "members" "Group.members" s_7 t.a_7 t.d_7
 b_7:nI K t.d_7 ["self"] []
 F_a:Fun K "_law_cell_at" "_law_cell_at" Cd t.a_a t.d_a
 m_a:mg "_law_cell_at" = some (.ref t.a_a)
 b_a:nI K t.d_a pp' []
 F_j:Fun K "_law_whole" "_law_whole" Cc t.a_j t.d_j
 m_j:mg "_law_whole" = some (.ref t.a_j)
 b_j:nI K t.d_j pE' []
 F_e:Fun K "_law_digits" "_law_digits" Cb t.a_e t.d_e
 m_e:mg "_law_digits" = some (.ref t.a_e)
 b_e:nI K t.d_e pe' []
 F_q:Fun K "_law_shared" "_law_shared" Ca t.a_q t.d_q
 m_q:mg "_law_shared" = some (.ref t.a_q)
 b_q:nI K t.d_q pi' []
 F_9:Fun K "_law_place" "_law_place" s_9 t.a_9 t.d_9
 m_9:mg "_law_place" = some (.ref t.a_9)
 b_9:nI K t.d_9 pj' []
 F_l:Fun K "_law_family" "_law_family" cE t.a_l t.d_l
 m_l:mg "_law_family" = some (.ref t.a_l)
 b_l:nI K t.d_l pF' []
 F_b:Fun K "_law_rows_times" "_law_rows_times" aL t.a_b t.d_b
 m_b:mg "_law_rows_times" = some (.ref t.a_b)
 b_b:nI K t.d_b pm' []
 F_y:Fun K "_law_led" "_law_led" aM t.a_y t.d_y
 m_y:mg "_law_led" = some (.ref t.a_y)
 b_y:nI K t.d_y pn' []
 F_p:Fun K "_law_maker" "_law_maker" aN t.a_p t.d_p
 m_p:mg "_law_maker" = some (.ref t.a_p)
 b_p:nI K t.d_p pd' []
 F_w:Fun K "_law_step" "_law_step" Dz t.a_w t.d_w
 m_w:mg "_law_step" = some (.ref t.a_w)
 b_w:nI K t.d_w pt' []
 F_1:Fun K "_law_rows_there" "_law_rows_there" s_1 t.a_1 t.d_1
 m_1:mg "_law_rows_there" = some (.ref t.a_1)
 b_1:nI K t.d_1 pk' []
 F_2:Fun K "_law_tops_there" "_law_tops_there" s_2 t.a_2 t.d_2
 m_2:mg "_law_tops_there" = some (.ref t.a_2)
 b_2:nI K t.d_2 pl' []
 F_3:Fun K "_law_deed_there" "_law_deed_there" s_3 t.a_3 t.d_3
 m_3:mg "_law_deed_there" = some (.ref t.a_3)
 b_3:nI K t.d_3 pa' []
 F_o:Fun K "_law_frame" "_law_frame" cF t.a_o t.d_o
 m_o:mg "_law_frame" = some (.ref t.a_o)
 b_o:nI K t.d_o pB' []
 F_k:Fun K "_law_makers" "_law_makers" Dy t.a_k t.d_k
 m_k:mg "_law_makers" = some (.ref t.a_k)
 b_k:nI K t.d_k pf' []
 F_5:Fun K "_law_reached" "_law_reached" s_5 t.a_5 t.d_5
 m_5:mg "_law_reached" = some (.ref t.a_5)
 b_5:nI K t.d_5 pq' []
 F_f:Fun K "_law_rest" "_law_rest" aO t.a_f t.d_f
 m_f:mg "_law_rest" = some (.ref t.a_f)
 b_f:nI K t.d_f pG' []
 F_6:Fun K "_law_asked_at" "_law_asked_at" s_6 t.a_6 t.d_6
 m_6:mg "_law_asked_at" = some (.ref t.a_6)
 b_6:nI K t.d_6 pg' []
 F_n:Fun K "_law_numbers" "_law_numbers" aP t.a_n t.d_n
 m_n:mg "_law_numbers" = some (.ref t.a_n)
 b_n:nI K t.d_n pH' []
 F_c:Fun K "_law_is_place" "_law_is_place" Dx t.a_c t.d_c
 m_c:mg "_law_is_place" = some (.ref t.a_c)
 b_c:nI K t.d_c pu' []
 F_h:Fun K "_law_rising" "_law_rising" aQ t.a_h t.d_h
 m_h:mg "_law_rising" = some (.ref t.a_h)
 b_h:nI K t.d_h pH' []
 F_4:Fun K "_law_places_right" "_law_places_right" s_4 t.a_4 t.d_4
 m_4:mg "_law_places_right" = some (.ref t.a_4)
 b_4:nI K t.d_4 pb' []
 F_s:Fun K "_law_exact" "_law_exact" cG t.a_s t.d_s
 m_s:mg "_law_exact" = some (.ref t.a_s)
 b_s:nI K t.d_s pq' []
 F_d:Fun K "_law_own_right" "_law_own_right" Dw t.a_d t.d_d
 m_d:mg "_law_own_right" = some (.ref t.a_d)
 b_d:nI K t.d_d pc' []
 F_1c:Fun K "law" "law" s_1c t.a_1c t.d_1c
 m_1c:mg "law" = some (.ref t.a_1c)
 b_1c:nI K t.d_1c pB' []
 z_any:mg "any" = none
 z_sum:mg "sum" = none
 z_zip:mg "zip" = none
 z_enumerate:mg "enumerate" = none
 z_range:mg "range" = none
 z_len:mg "len" = none
 z_abs:mg "abs" = none
 z_isinstance:mg "isinstance" = none
 z_int:mg "int" = none
 z_bool:mg "bool" = none
 z_list:mg "list" = none
 z_tuple:mg "tuple" = none
 z_sorted:mg "sorted" = none
 z_dict:mg "dict" = none
 m_1i:mg "CrystalError" = some (.ref t.a_1i)
 m_1h:mg "NoPlace" = some (.ref t.a_1h)
 m_1g:mg "NoDeed" = some (.ref t.a_1g)
 m_1k:mg "TooMany" = some (.ref t.a_1k)
 m_1j:mg "NoNumber" = some (.ref t.a_1j)
 m_z:mg "Group" = some (.ref t.a_z)
 g_MOST_MEMBERS:∃ u,mg "MOST_MEMBERS" = some u/\RelV (.int 200) u
 h_a:kitOne K (.type "int") (.type "int")=some true
 h_b:kitOne K (.type "int") (.type "bool")=some false
 h_c:kitOne K (.type "tuple") (.type "tuple")=some true
 h_d:kitOne K (.type "list") (.type "list")=some true
 x_1h:PySem.W.excIn K t.a_1h [.type "ValueError",.type "Exception",.type "BaseException",.type "object"] "ValueError.__new__" = true
 x_1g:PySem.W.excIn K t.a_1g [.type "ValueError",.type "Exception",.type "BaseException",.type "object"] "ValueError.__new__" = true
 cl_z:L2.Cls K t.a_z
 mk_z:L2.Mk K t.a_z t.a_0
 me_7:L2.Meth K t.a_z "members" t.a_7
 h_1:findIn K (.ref t.a_z) "dimension" = some none
 h_9:findIn K (.ref t.a_z) "given" = some none
 h_3:findIn K (.ref t.a_z) "ordered" = some none
 h_2:findIn K (.ref t.a_z) "shortest" = some none
 h_4:findIn K (.ref t.a_z) "numbers" = some none
 bl:∀ (s:Shared) (u:Value),BindsTo s t.d_1c ⟨[u],[]⟩ [("_law_script",u)]
local macro_rules | `(tactic| walk_at "r")=>`(tactic| simp only [tSeq,tAsg,oW,tVar,qVar,tC,tOp,t_E,u_h,u_i,tUn,gN,tB,tIfS,tIf,tAnd,tOr,tNot,Nn,tOrV,Nm,tRet,u_d,Fp,Nj,jF,t_C,nQ,tNil,tCB,tTup,tLst,tPar,Pa,tBM,tBM0,tSl,Bx,By,List.getElem?_cons_zero,List.getElem?_cons_succ,Option.some.injEq,exists_eq_left',exists_eq_left,List.set_cons_zero,List.set_cons_succ,List.cons.injEq,V.int.injEq,V.bl.injEq,V.ref.injEq,and_true,true_and,List.append_nil,ne_eq,exists_and_left,and_assoc,↓reduceIte,Bool.not_true,Bool.not_false,Bool.false_eq_true])
noncomputable def gcdI (a b:Int):Int:=(Int.gcd a b:Int)
noncomputable def absI (u:Int):Int:=if u < 0 then -u else u
noncomputable def gl (u:Int) (ns:LI'):Int:=ns.foldl gcdI (absI u)
theorem Ux (u:Int):0<=absI u:=by unfold absI; split <;> omega
theorem Uw {d u:Int}:d∣absI u ↔ d∣u:=by
 unfold absI;split
 ·exact qR
 ·exact Iff.rfl
theorem Js {d:Int}:∀ (ns:LI') (c:Int),d∣ns.foldl gcdI c ↔ d∣c/\∀ t∈ns,d∣t
 | [],c=>by simp
 | t :: r,c=>by
  rw [wN,Js r];unfold gcdI;rw [Int.dvd_coe_gcd_iff];constructor
  ·rintro ⟨⟨h1,h2⟩,h3⟩;refine ⟨h1,λ x hx=>?_⟩;rcases zL.mp hx with e | e
   ·rw [e]; exact h2
   ·exact h3 x e
  ·rintro ⟨h1,h2⟩;exact ⟨⟨h1,h2 t zS⟩,λ x hx=>h2 x (zK _ hx)⟩
theorem iQ {d u:Int} {ns:LI'}:d∣gl u ns ↔ d∣u/\∀ t∈ns,d∣t:=by
 unfold gl;rw [Js,Uw]
theorem Jr:∀ (ns:LI') (c:Int),0<=c->0<=ns.foldl gcdI c
 | [],_,h=>h
 | t :: r,c,_=>Jr r _ (Int.natCast_nonneg _)
theorem fU (u:Int) (ns:LI'):0<=gl u ns:=Jr ns _ (Ux u)
theorem gl_u (u:Int) (ns:LI'):gl u ns∣u:=(iQ.mp (vP _)).1
theorem cH {u t:Int} {ns:LI'} (h:t∈ns):gl u ns∣t:=(iQ.mp (vP _)).2 t h
theorem aR {u:Int} (ns:LI') (h:u≠0):0 < gl u ns:=by
 have:=fU u ns;rcases Int.lt_or_eq_of_le this with q | q
 ·exact q
 ·obtain ⟨k,e⟩:=gl_u u ns;rw [← q,tJ] at e;exact absurd e h
theorem Jq {u v:Int} {ns ms:LI'} (h:∀ d:Int,(d∣u/\∀ t∈ns,d∣t) ↔ (d∣v/\∀ t∈ms,d∣t)):gl u ns=gl v ms :=
 Int.dvd_antisymm (fU _ _) (fU _ _) (iQ.mpr ((h _).mp (iQ.mp (vP _)))) (iQ.mpr ((h _).mpr (iQ.mp (vP _))))
theorem Uv (u:Int) (ns:LI') (t:Int):gl u (ns++[t])=gcdI (gl u ns) t:=by unfold gl; rw [uL]; rfl
noncomputable def cs (u:Int) (ns:LI'):Int:=if u < 0 then -(gl u ns) else gl u ns
theorem fV {u:Int} (ns:LI') (h:u≠0):cs u ns≠0:=by
 have:=aR ns h;unfold cs;split <;> omega
theorem jQ {u x:Int} {ns:LI'} (h:gl u ns∣x):cs u ns∣x:=by
 unfold cs;split
 ·exact Int.neg_dvd.mpr h
 ·exact h
theorem jR {c x:Int} (hc:c≠0) (h:c∣x):x.fdiv c*c=x:=by
 obtain ⟨k,e⟩:=h;subst e;rw [vO c k,Int.mul_fdiv_cancel _ hc]
theorem aS {u:Int} (ns:LI') (h:u≠0):0 < u.fdiv (cs u ns):=by
 have e:=jR (fV ns h) (jQ (gl_u u ns));have g:=aR ns h;rcases Int.lt_trichotomy (u.fdiv (cs u ns)) 0 with q | q | q
 ·exfalso;unfold cs at e q;split at e
  ·rename_i hu;rw [if_pos hu] at q;have:=Int.mul_nonneg_of_nonpos_of_nonpos (vA q) (show -(gl u ns)<=0 by omega);omega
  ·rename_i hu;rw [if_neg hu] at q;have:=pQ q g;omega
 ·rw [q,tJ] at e;exact absurd e.symm h
 ·exact q
theorem Dv {u:Int} {ns:LI'} (h:u≠0):gl (u.fdiv (cs u ns)) (ns.map λ t=>t.fdiv (cs u ns))=1:=by
 have hc:=fV ns h;have e1:=jR hc (jQ (gl_u u ns));have n:=fU (u.fdiv (cs u ns)) (ns.map λ t=>t.fdiv (cs u ns));have d:=iQ.mp (vP (gl (u.fdiv (cs u ns)) (ns.map λ t=>t.fdiv (cs u ns))));generalize gl (u.fdiv (cs u ns)) (ns.map λ t=>t.fdiv (cs u ns))=g at *
 have key:g*cs u ns∣gl u ns:=by
  refine iQ.mpr ⟨?_,λ t ht=>?_⟩
  ·have:=qX d.1 (vP (cs u ns));rw [e1] at this;exact this
  ·have:=qX (d.2 _ (zE.mpr ⟨t,ht,rfl⟩)) (vP (cs u ns));rw [jR hc (jQ (cH (u:=u) ht))] at this;exact this
 have key2:g*cs u ns∣1*cs u ns:=by
  rw [uW];unfold cs at key ⊢;split at key
  ·rename_i hu;rw [if_pos hu];exact qR.mpr key
  ·rename_i hu;rw [if_neg hu];exact key
 have:g∣1:=qZ hc key2;have:=Int.le_of_dvd ∅ this;rcases (show g=0\/g=1 by omega) with q | q
 ·subst q;have z:=d.1;rw [Int.zero_dvd] at z;rw [z,tJ] at e1;exact absurd e1.symm h
 ·exact q
theorem Jp {u:Int} {ns:LI'} (h:0 < u) (g:gl u ns=1):cs u ns=1:=by
 unfold cs;rw [if_neg ⋯,g]
theorem Uu {u:Int} {ns:LI'} (h:0 < u) (g:gl u ns=1):(ns.map λ t=>t.fdiv (cs u ns))=ns/\u.fdiv (cs u ns)=u:=by
 rw [Jp h g];refine ⟨?_,qH u⟩;rw [show (λ t:Int=>t.fdiv 1)=id from funext λ t=>qH t,List.map_id]
theorem Jo {d u t:Int} (h:d∣u):d∣t.fmod u ↔ d∣t:=by
 rw [qG];have q:d∣u*t.fdiv u:=Int.dvd_mul_of_dvd_left h;constructor
 ·intro z;have:=Int.dvd_add z q
  rwa [Int.sub_add_cancel] at this
 ·intro z;exact Int.dvd_sub z q
theorem Jn (u:Int) (ns:LI'):gl u (ns.map λ t=>t.fmod u)=gl u ns:=by
 refine Jq λ d=>?_;constructor
 ·rintro ⟨h1,h2⟩;exact ⟨h1,λ t ht=>(Jo h1).mp (h2 _ (zE.mpr ⟨t,ht,rfl⟩))⟩
 ·rintro ⟨h1,h2⟩;refine ⟨h1,λ x hx=>?_⟩;obtain ⟨t,ht,e⟩:=zE.mp hx;subst e;exact (Jo h1).mpr (h2 t ht)
theorem Ut {u:Int} (hu:0 < u) (ns:LI'):((ns.map λ t=>t.fmod u).map λ t=>t.fmod u)=ns.map λ t=>t.fmod u:=by
 rw [xE];refine wG λ t _=>?_;show (t.fmod u).fmod u=t.fmod u;rw [xI t (vA hu),xI _ (vA hu)];exact Int.emod_emod_of_dvd t (vP u)
theorem Us {u:Int} (hu:0 < u) (t:Int):(t.fmod u - t).fmod u=0:=by
 rw [xI t (vA hu),xI _ (vA hu)];exact oF (by
  have:=Int.emod_add_mul_ediv t u;exact ⟨-(t / u),by rw [Int.mul_neg]; omega⟩)
theorem Jm (g l:Int):Int.gcd l (Int.fmod g l)=Int.gcd g l:=by
 rw [qG,Int.gcd_sub_mul_left_right,oJ]
theorem Ur (a b:Int):Int.gcd (if a < 0 then -a else a) (if b < 0 then -b else b)=Int.gcd a b:=by
 split <;> split <;> simp
theorem Jl (a:Int):0<=(if a < 0 then -a else a):=by split <;> omega
theorem Uq {g l a b:Int} (h:Int.gcd g l=Int.gcd a b) (hg:0<=g) (z:l=0):g=gcdI a b:=by
 rw [z,Int.gcd_zero_right] at h;unfold gcdI;rw [← h];omega
def Jk:Sp:=λ vs H Q _=>∃ a b,vs=[.int a,.int b]/\Q (.int (gcdI a b)) H
abbrev sp_11:Sp:=Jk
def mB (H:Hp) (p:Addr) (ns:LI') (u:Int):Prop:=∃ q,H p=some (.tup [.ref q,.int u])/\H q=some (.tup (ns.map V.int))
theorem mB.up {H H':Hp} {p:Addr} {ns:LI'} {u:Int} (h:mB H p ns u) (s:Same H H'):mB H' p ns u:=let ⟨q,h1,h2⟩:=h; ⟨q,s _ _ h1,s _ _ h2⟩
def kK (n:Int):Prop:=n.natAbs < 2 ^ 8990
theorem Du {c:Int} (h:kK c) (z:c≠0):c.natAbs.log2 < 9000:=zI ((rM ⋯).mpr h) ∅
theorem Jj {c u:Int} (h:kK u) (z:u≠0) (d:c∣u):kK c:=by
 have:=Int.natAbs_dvd_natAbs.mpr d;have:=Nat.le_of_dvd ⋯ this;unfold kK at *
 omega
noncomputable def redT (u:Int) (ns:LI'):LI':=ns.map λ t=>t.fdiv (cs u ns)
noncomputable def redU (u:Int) (ns:LI'):Int:=u.fdiv (cs u ns)
noncomputable def nM (u:Int) (ns:LI'):LI':=ns.map λ t=>t.fmod u
def sp_15 (K:Frag) (C:Addr):Sp:=λ vs H Q E=>E4 λ (b:Bool) (a:Addr) (ns:LI') (u:Int)=>A6 (vs=[.ref a,.int u]) (SqB b K H a (ns.map V.int)) (ns.length<=100) (kK u) (((u=0\/ns=[])->E (.ref C) none H)) ((u≠0->ns≠[]->∀ p H',Same H H'->mB H' p (redT u ns) (redU u ns)->Q (.ref p) H'))
def sp_g (K:Frag):Sp:=λ vs H Q _=>E3 λ (p:Addr) (ns:LI') (u:Int)=>A5 (vs=[.ref p]) (mB H p ns u) (ns.length<=100) (0 < u) (∀ p' H',Same H H'->mB H' p' (nM u ns) u->Q (.ref p') H')
theorem Ds {α:Type} {ns:List α} {i:Nat} {n:α} (h:ns[i]?=some n):ns.take (i+1)=ns.take i++[n]:=by
 rw [sE,h];rfl
def sp_1e (K:Frag):Sp:=λ vs H Q _=>E6 λ (b1 b2:Bool) (p q:Addr) (ms ns:LI')=>A7 (vs=[.ref p,.ref q]) (SqB b1 K H p (ms.map V.int)) (SqB b2 K H q (ns.map V.int)) (ms.length=ns.length) (ms.length<=1000) ((∀ (i:Nat) m n,ms[i]?=some m->ns[i]?=some n->IntMulOk m n)) (∀ H',Same H H'->Q (.int (dotI ms ns)) H')
def sp_18 (K:Frag):Sp:=λ vs H Q _=>E5 λ (b1 b2:Bool) (a:Addr) (rows:LM) (w:Nat)=>A7 (vs=[.ref a]) (MatB b1 b2 K H a rows) (rows≠[]) ((∀ r∈rows,r.length=w)) (w<=1000) (rows.length<=1000) (∀ r H',H r=none->Same H H'->MatL H' r (bK w rows)->Q (.ref r) H')
noncomputable def iG (i k:Nat) (rows:LM):LM:=(rows.eraseIdx i).map λ r=>r.eraseIdx k
noncomputable def sg (k:Nat):Int:=if k % 2=0 then 1 else -1
noncomputable def altS (f:Nat->Int):Nat->Int
 | 0=>0
 | k+1=>altS f k+sg k*f k
noncomputable def detM:Nat->LM->Int
 | 0,_=>1
 | 1,rows=>(rows.getD 0 []).getD 0 0
 | n+2,rows=>altS (λ k=>(rows.getD 0 []).getD k 0*detM (n+1) (iG 0 k rows)) (n+2)
def Sq (n:Nat) (rows:LM):Prop:=rows.length=n/\∀ r∈rows,r.length=n
def mW (B:Nat) (rows:LM):Prop:=∀ r∈rows,∀ x∈r,x.natAbs < 2 ^ B
theorem Uo (k:Nat):-sg k=sg (k+1):=by
 unfold sg
 by_cases h:k % 2=0
 ·rw [if_pos h,if_neg ⋯]
 ·rw [if_neg h,if_pos ⋯];rfl
theorem Ji (k:Nat):(sg k).natAbs=1:=by unfold sg; split <;> rfl
theorem Sq.minor {n i k:Nat} {rows:LM} (h:Sq (n+1) rows) (hi:i < n+1) (hk:k < n+1):Sq n (iG i k rows):=by
 refine ⟨?_,λ r hr=>?_⟩
 ·unfold iG;rw [zqe,rS,h.1,if_pos hi];rfl
 ·obtain ⟨z,hz,rfl⟩:=zE.mp hr;have hl:=h.2 z (sK hz);rw [rS,hl,if_pos hk];rfl
theorem mW.minor {B i k:Nat} {rows:LM} (h:mW B rows):mW B (iG i k rows):=λ r hr x hx=>by
 obtain ⟨z,hz,rfl⟩:=zE.mp hr;exact h z (sK hz) x (sK hx)
theorem Jh {f:Nat->Int} {M:Nat}:∀ n:Nat,(∀ k < n,(f k).natAbs<=M)->(altS f n).natAbs<=n*M
 | 0,_=>by simp [altS]
 | n+1,h=>by
  have h1:=Jh n λ k hk=>h k ⋯;have h2:=h n ⋯;show (altS f n+sg n*f n).natAbs<=_;have h3:=qM (altS f n) (sg n*f n);rw [yN,Ji,Nat.one_mul] at h3;rw [tG];omega
theorem row0 {n:Nat} {rows:LM} (h:Sq (n+1) rows):rows[0]?=some (rows.getD 0 [])/\rows.getD 0 []∈rows:=by
 have hl:0 < rows.length:=by have:=h.1; omega
 have e:rows.getD 0 []=rows[0]:=by simp [hl]
 rw [e];exact ⟨by simp [hl],vJ hl⟩
theorem Jg {B:Nat}:∀ (n:Nat) (rows:LM),1<=n->n<=4->Sq n rows->mW B rows->(detM n rows).natAbs<=2 ^ (n*(B+2))
 | 0,_,h,_,_,_=>⋯
 | 1,rows,_,_,hs,hb=>by
  have hr:=row0 hs;have hl:0 < (rows.getD 0 []).length:=by rw [hs.2 _ hr.2]; decide
  have:=hb _ hr.2 _ (L2.getD_mem hl);show ((rows.getD 0 []).getD 0 0).natAbs<=_;have:2 ^ B<=2 ^ (1*(B+2)):=yT ∅ ⋯;omega
 | n+2,rows,_,h4,hs,hb=>by
  have hr:=row0 hs;have key:∀ k < n+2,((rows.getD 0 []).getD k 0*detM (n+1) (iG 0 k rows)).natAbs<=2 ^ B*2 ^ ((n+1)*(B+2)):=λ k hk=>by
   have hl:k < (rows.getD 0 []).length:=by rw [hs.2 _ hr.2]; exact hk
   have h1:=hb _ hr.2 _ (L2.getD_mem hl);have h2:=Jg (n+1) (iG 0 k rows) ⋯ ⋯ (hs.minor ⋯ hk) hb.minor;rw [yN];exact wL (xU h1) h2
  have:=Jh (n+2) key;have e:2 ^ ((n+2)*(B+2))=4*(2 ^ B*2 ^ ((n+1)*(B+2))):=by
   rw [← wR,show (4:Nat)=2 ^ 2 from rfl,← wR];congr 1;rw [Nat.add_mul,Nat.add_mul];omega
  show (altS _ (n+2)).natAbs<=_;rw [e];refine yC this (xR _ ⋯)
theorem mF {x:Int} {B:Nat} (h:x.natAbs < 2 ^ B):Builtin.Int.intBits x<=B:=intBits_le_iff.mpr h
def sp_14 (K:Frag):Sp:=λ vs H Q _=>E7 λ (b1 b2:Bool) (a:Addr) (rows:LM) (i k w:Nat)=>A7 (vs=[.ref a,.int i,.int k]) (MatB b1 b2 K H a rows) ((∀ r∈rows,r.length=w)) (k < w) (w<=1000) (rows.length<=1000) (∀ r H',H r=none->Same H H'->MatL H' r (iG i k rows)->Q (.ref r) H')
def sp_8 (K:Frag):Nat->Sp
 | 0=>λ _ _ _ _=>False
 | n+1=>λ vs H Q _=>∃ (b1 b2:Bool) (a:Addr) (rows:LM) (B:Nat),vs=[.ref a]/\MatB b1 b2 K H a rows/\Sq (n+1) rows/\n<=3/\mW B rows/\B<=1000000/\∀ H',Same H H'->Q (.int (detM (n+1) rows)) H'
section
variable {g:TG} {tt:TOx} {fr:List (Str × Nat)} {σ:St} {a:Addr} {H:Hp} {Q:VK} {K:Frag}
theorem Um {b:Bool} {l:Addr} {xs:List V} (P:Nat->List V->Hp->Prop) (ha:H a=none) (hS:SqB b K H l xs) (hz:xs.length<=1000) (h0:P 0 [] (upd H a (.lst [])))
  (hl:∀ i zs H1,P i zs H1->zs.length<=i) (mono:∀ i zs H1 H2,P i zs H1->kO a H1 H2->P i zs H2)
  (he:∀ i x H1 zs,xs[i]?=some x->Same H H1->H1 a=some (.lst zs)->P i zs H1->∀ C:Option V->Hp->Prop,
   (∀ y H2,Same H1 H2->P (i+1) (zs++[y]) H2->C (some y) H2)->(∀ H2,Same H1 H2->P (i+1) zs H2->C none H2)->tt (some (.int i) :: some x :: lG fr σ) H1 C)
  (hd:∀ H1 ys,Same H H1->H1 a=some (.lst ys)->P xs.length ys H1->Q (.ref a) H1) :
  lN (Ite K b l) (gTup K 2 (mL (oW 0) (mL (oW 1) gNil))) tt 2 fr σ a H Q:=by
 refine dI xs.length P ha hz h0 hl mono (λ i H1 hi s=>⟨xs,xs[i],hS.up s,by simp [hi]⟩) (λ H1 s=>⟨xs,hS.up s,rfl⟩) ?_ hd;intro i H1 zs hi s1 ez p os x H3 hos hy C hC1 hC2;obtain ⟨q,x,rfl,hp,rfl,hx⟩:=hy;refine ⟨q,[.int i,x],rfl,SqT.of oZ,rfl,_,[x],rfl,x,[],rfl,rfl,?_⟩;have sn:Same H1 (upd H1 q (.tup [.int i,x])):=Same.new hp
 match os,hos with
 | [o,o'],_ =>
  exact ⟨⟨[some (.int i),some x],rfl,rfl⟩,he i x _ zs (hx xs (hS.up s1)) (s1.trans sn) (sn _ _ ez) (mono _ _ _ _ p sn.x) C (λ y H2 s2 r=>hC1 y H2 (sn.trans s2) r) λ H2 s2 r=>hC2 H2 (sn.trans s2) r⟩
end
theorem SqB.cut {b:Bool} {K:Frag} {H:Hp} {p:Addr} {xs:List V}:SqB b K (upd H p (seqO b xs)) p xs:=by
 cases b
 ·exact SqB.lst oZ
 ·exact SqB.tup oZ
theorem Ul {α:Type} {rows:List α} {i0 t:Nat} {r:α} (e:rows[t]?=some r):(rows.take (t+1)).eraseIdx i0=if t=i0 then (rows.take t).eraseIdx i0 else (rows.take t).eraseIdx i0++[r]:=by
 have ht:t < rows.length:=(zqa e).1;have hl:(rows.take t).length=t:=by rw [xA]; omega
 rw [sE,e];show (rows.take t++[r]).eraseIdx i0=_
 by_cases h:t=i0
 ·rw [if_pos h,uI ⋯,hl,h,tH,tW (l:=rows.take i0) (by rw [xA]; omega)];simp
 ·rw [if_neg h]
  by_cases h2:i0 < t
  ·rw [List.eraseIdx_append_of_lt_length ⋯]
  ·rw [uI ⋯,hl,tW (l:=rows.take t) ⋯];congr 1;rw [tW];simp;omega
theorem Jf {B C:Nat}:∀ (ms ns:LI'),(∀ x∈ms,x.natAbs < 2 ^ B)->(∀ y∈ns,y.natAbs < 2 ^ C)->(dotI ms ns).natAbs<=ms.length*2 ^ (B+C)
 | [],ns,_,_=>by simp [dotI]
 | m :: ms,[],_,_=>by simp [dotI]
 | m :: ms,n :: ns,h1,h2=>by
  have ih:=Jf ms ns (λ x hx=>h1 x (zK _ hx)) (λ y hy=>h2 y (zK _ hy));have e:dotI (m :: ms) (n :: ns)=m*n+dotI ms ns:=by simp [dotI]
  have hm:=h1 m zS;have hn:=h2 n zS;have h3:(m*n).natAbs<=2 ^ (B+C):=by
   rw [yN,wR];exact wL (xU hm) (xU hn)
  have h4:=qM (m*n) (dotI ms ns);rw [e,zX,tG];omega
noncomputable def idM (d:Nat):LM:=(List.range d).map λ i=>(List.range d).map λ k=>if i=k then (1:Int) else 0
def sp_i:Sp:=λ vs H Q _=>E1 λ (n:Nat)=>A3 (vs=[.int n]) (n<=1000) (∀ r H',H r=none->Same H H'->MatL H' r (idM n)->Q (.ref r) H')
def lH (K:Frag) (H:Hp) (p:Addr) (M:LM) (ts:LI') (u:Int):Prop:=∃ pr pt,H p=some (.tup [.ref pr,.ref pt,.int u])/\MatB true true K H pr M/\H pt=some (.tup (ts.map V.int))
theorem lH.up {K:Frag} {H H':Hp} {p:Addr} {M:LM} {ts:LI'} {u:Int} (h:lH K H p M ts u) (s:Same H H'):lH K H' p M ts u:=let ⟨pr,pt,h1,h2,h3⟩:=h; ⟨pr,pt,s _ _ h1,h2.up s,s _ _ h3⟩
def sp_10 (K:Frag):Sp:=λ vs H Q _=>E7 λ (b1 b2:Bool) (a p:Addr) (M:LM) (ts:LI') (u:Int)=>A5 (vs=[.ref a,.ref p]) (MatB b1 b2 K H a M) (mB H p ts u) (M.length<=100) (∀ q H',Same H H'->lH K H' q M ts u->Q (.ref q) H')
def PlS (K:Frag) (H:Hp) (p:Addr) (ns:LI') (u:Int):Prop:=∃ q,SqT K H p [.ref q,.int u]/\SqT K H q (ns.map V.int)
theorem mB.s {K:Frag} {H:Hp} {p:Addr} {ns:LI'} {u:Int} (h:mB H p ns u):PlS K H p ns u:=let ⟨q,h1,h2⟩:=h; ⟨q,SqT.of h1,SqT.of h2⟩
theorem PlS.up {K:Frag} {H H':Hp} {p:Addr} {ns:LI'} {u:Int} (h:PlS K H p ns u) (s:Same H H'):PlS K H' p ns u:=let ⟨q,h1,h2⟩:=h; ⟨q,nY s _ _ h1,nY s _ _ h2⟩
theorem jG {K:Frag} {H:Hp} {p:Addr} {ns:LI'} {u:Int} {Q:VK} (h:PlS K H p ns u) (k:∀ q,SqT K H q (ns.map V.int)->Q (.ref q) H):rIxB K (.ref p) (.int 0) H Q:=let ⟨q,h1,h2⟩:=h; ⟨true,p,_,_,_,rfl,rfl,(h1:SqB true K H p _),rfl,k q h2⟩
theorem iH {K:Frag} {H:Hp} {p:Addr} {ns:LI'} {u:Int} {Q:VK} (h:PlS K H p ns u) (k:Q (.int u) H):rIxB K (.ref p) (.int 1) H Q:=let ⟨q,h1,h2⟩:=h; ⟨true,p,_,_,_,rfl,rfl,(h1:SqB true K H p _),rfl,k⟩
def jH (K:Frag) (H:Hp) (p:Addr) (M:LM) (ts:LI') (u:Int):Prop:=∃ v0 v1,SqT K H p [.ref v0,.ref v1,.int u]/\MatB true true K H v0 M/\SqT K H v1 (ts.map V.int)
theorem jH.up {K:Frag} {H H':Hp} {p:Addr} {M:LM} {ts:LI'} {u:Int} (h:jH K H p M ts u) (s:Same H H'):jH K H' p M ts u:=let ⟨v0,v1,h1,h2,h3⟩:=h; ⟨v0,v1,nY s _ _ h1,h2.up s,nY s _ _ h3⟩
theorem lH.s {K:Frag} {H:Hp} {p:Addr} {M:LM} {ts:LI'} {u:Int} (h:lH K H p M ts u):jH K H p M ts u:=let ⟨v0,v1,h1,h2,h3⟩:=h; ⟨v0,v1,SqT.of h1,h2,SqT.of h3⟩
theorem aU {K:Frag} {H:Hp} {p:Addr} {M:LM} {ts:LI'} {u:Int} {Q:VK} (h:jH K H p M ts u) (q:∀ x,MatB true true K H x M->Q (.ref x) H):rIxB K (.ref p) (.int 0) H Q:=let ⟨x,y,h1,h2,h3⟩:=h; ⟨true,p,_,_,_,rfl,rfl,(h1:SqB true K H p _),rfl,q x h2⟩
theorem Dr {K:Frag} {H:Hp} {p:Addr} {M:LM} {ts:LI'} {u:Int} {Q:VK} (h:jH K H p M ts u) (q:∀ x,SqT K H x (ts.map V.int)->Q (.ref x) H):rIxB K (.ref p) (.int 1) H Q:=let ⟨x,y,h1,h2,h3⟩:=h; ⟨true,p,_,_,_,rfl,rfl,(h1:SqB true K H p _),rfl,q y h3⟩
theorem cI {K:Frag} {H:Hp} {p:Addr} {M:LM} {ts:LI'} {u:Int} {Q:VK} (h:jH K H p M ts u) (q:Q (.int u) H):rIxB K (.ref p) (.int 2) H Q:=let ⟨x,y,h1,h2,h3⟩:=h; ⟨true,p,_,_,_,rfl,rfl,(h1:SqB true K H p _),rfl,q⟩
noncomputable def movT (M:LM) (ts:LI') (u:Int) (ns:LI') (v:Int):LI':=List.zipWith (λ r t=>dotI r ns*u+t*v) M ts
def mK (B:Nat) (ns:LI'):Prop:=∀ x∈ns,x.natAbs < 2 ^ B
structure Fine (d:Nat) (M:LM) (ts:LI') (u:Int):Prop where
 sq:Sq d M
 len:ts.length=d
 pos:0 < u
 bm:mW 200000 M
 bt:mK 200000 ts
 bu:u < 2 ^ 1500
def sp_16 (K:Frag):Sp:=λ vs H Q _=>E8 λ (p q:Addr) (M:LM) (ts ns:LI') (u v:Int) (d:Nat)=>A11 (vs=[.ref p,.ref q]) (jH K H p M ts u) (PlS K H q ns v) (Fine d M ts u) (1<=d) (d<=4) (ns.length=d) (mK 200000 ns) (0 < v) (v < 2 ^ 1500) (∀ r H',Same H H'->mB H' r (redT (u*v) (movT M ts u ns v)) (redU (u*v) (movT M ts u ns v))->Q (.ref r) H')
def sp_12 (K:Frag):Sp:=λ vs H Q _=>E9 λ (p q:Addr) (M N:LM) (ts ns:LI') (u v:Int) (d:Nat)=>A8 (vs=[.ref p,.ref q]) (jH K H p M ts u) (jH K H q N ns v) (Fine d M ts u) (Fine d N ns v) (1<=d) (d<=4) (∀ r H',Same H H'->lH K H' r (mulM d N M) (redT (v*u) (movT N ns v ts u)) (redU (v*u) (movT N ns v ts u))->Q (.ref r) H')
def sp_1b (K:Frag):Sp:=λ vs H Q _=>E4 λ (p:Addr) (M:LM) (ts:LI') (u:Int)=>A6 (vs=[.ref p]) (lH K H p M ts u) (M.length<=100) (ts.length<=100) (0 < u) (∀ r H',Same H H'->lH K H' r M (nM u ts) u->Q (.ref r) H')
theorem fW {u:Int} (h1:0 < u) (h2:u < 2 ^ 1500):u.natAbs < 2 ^ 1500:=by
 have e:((2 ^ 1500:Nat):Int)=(2:Int) ^ 1500:=nofun
 omega
theorem jI {u:Int} {B:Nat} (h:u.natAbs < 2 ^ B) (hB:B<=8990):kK u:=zI h (yT ∅ hB)
theorem Uk {u v:Int} (h1:0 < u) (h2:u < 2 ^ 1500) (h3:0 < v) (h4:v < 2 ^ 1500):kK (u*v)/\0 < u*v:=by
 refine ⟨jI (B:=1500+1500) ?_ ∅,yS h1 h3⟩;rw [yN,wR];exact uA (fW h1 h2) (fW h3 h4)
theorem mW.le {B C:Nat} {M:LM} (h:mW B M) (hc:B<=C):mW C M:=λ r hr x hx=>zI (h r hr x hx) (yT ∅ hc)
section
variable {P:Program} {w:World} {K:Frag} {mg:MT} {base:Heap} {t:Adr}
theorem Dq {ns:LI'} {k:Int} (h0:0<=k) (h1:k < ns.length):atI (ns.map V.int) k=some (.int (ns.getD k.toNat 0)):=by
 obtain ⟨j,rfl⟩:=xQ h0;exact mY (lQ (getD_at ⋯)) rfl
def sp_a (K:Frag):Sp:=λ vs H Q _=>E3 λ (p:Addr) (ns:LI') (k:Int)=>A4 (vs=[.ref p,.int k]) (SqL K H p (ns.map V.int)) (0<=k) (Q (.int (ns.getD k.toNat 0)) H)
def sp_j:Sp:=λ vs H Q _=>∃ i,vs=[.int i]/\Q (.bl true) H
theorem ok_a (T:Txt K mg t):FnOk P w K mg base CX0 1 t.a_a t.d_a pp' (sp_a K):=by
 refine T.F_a.ok sc_a (by walk_at "v") (λ cdv A outer s H vs Q E hr h=>?_)
 ·obtain ⟨p,ns,k,rfl,hS,h0,q⟩:=h;refine ⟨_,(oU (mH (nW eV (pq 1) (nK mC rfl T.z_len (nofun) (oQ (pq 0) oR)) (nS _))
   (oX (nH (oT ix_B (pq 0) (pq 1) (λ _ _=>rfl))))
   mG)
   (oX (nH oS))),?_⟩
  show tSeq _ _ _ [some (.ref p),some (.int k)] H;ext;refine lU (b:=false) hS ?_;ext
  by_cases z:k < ns.length
  ·rw [zM z];exact iteT ⟨false,p,_,_,_,rfl,rfl,hS,Dq h0 z,q⟩
  ·rw [zQ z];refine iteF ?_;have e:ns.getD k.toNat 0=0:=by
    rw [zqc,wW ⋯];rfl
   rw [e] at q;exact q
theorem ok_j (T:Txt K mg t):FnOk P w K mg base CX0 1 t.a_j t.d_j pE' sp_j:=by
 refine T.F_j.ok sc_j (by walk_at "v") (λ cdv A outer s H vs Q E hr h=>?_)
 ·obtain ⟨i,rfl,q⟩:=h;refine ⟨_,(oX (nH (cS (nK iZ rfl T.z_isinstance (nofun) (oQ (pq 0) (oQ (iW (v:=.ty "int") rfl T.z_int (nofun) rfl) oR))) (Af (Nl (nK iZ rfl T.z_isinstance (nofun) (oQ (pq 0) (oQ (iW (v:=.ty "bool") rfl T.z_bool (nofun) rfl) oR)))))))),?_⟩;show tRet _ _ [some (.int i)] H;ext;refine ⟨_,_,_,_,rfl,.ty (.int i),rfl,T.h_a,?_⟩;ext;refine ⟨_,_,_,_,rfl,.ty (.int i),rfl,T.h_b,?_⟩;ext;exact q
theorem Uj {a b:Int} {H:Hp} {Q:VK} {E:XK}:Jk [.int a,.int b] H Q E=Q (.int (gcdI a b)) H:=propext ⟨λ ⟨_,_,e,q⟩=>by cases e; exact q,λ q=>⟨_,_,rfl,q⟩⟩
theorem ok_11 (T:Txt K mg t):FnOk P w K mg base CX0 1 t.a_11 t.d_11 pz' sp_11:=by
 refine T.F_11.ok sc_11 (by walk_at "v") (λ cdv A outer s H vs Q E hr h=>?_)
 ·obtain ⟨a,b,rfl,k⟩:=h;refine ⟨_,(oU (nJ (i:=2) sc_11.nd rfl (Or.inl rfl) (nK cY rfl T.z_abs (nofun) (oQ (pq 0) oR)))
   (oU (nJ (i:=3) sc_11.nd rfl (Or.inl rfl) (nK cY rfl T.z_abs (nofun) (oQ (pq 1) oR)))
   (oU (Ae yR (nW jN (pq 3) oS (nS _))
   (oU (nJ (i:=4) sc_11.nd rfl (Or.inl rfl) (oY lB (pq 2) (pq 3)))
   (oU (nJ (i:=2) sc_11.nd rfl (Or.inl rfl) (pq 3))
   (oX (nJ (i:=3) sc_11.nd rfl (Or.inl rfl) (pq 4))))))
   (oX (nH (pq 2)))))),?_⟩
  show tSeq _ _ _ [some (.int a),some (.int b),none,none,none] H;ext;refine ⟨λ m σ H1=>∃ g l r,σ=[some (.int a),some (.int b),some (.int g),some (.int l),r]/\H1=H/\0<=g/\0<=l/\Int.gcd g l=Int.gcd a b/\m=l.toNat,
   ⟨_,_,_,_,rfl,rfl,Jl a,Jl b,Ur a b,rfl⟩,?_⟩
  rintro m σ H1 ⟨g,l,r,rfl,rfl,hg,hl,e,rfl⟩;ext
  by_cases z:l=0
  ·rw [zM z];refine iteF ?_;rw [Uq e hg z];exact k
  ·rw [zQ z];refine iteT ⟨λ σ' H'=>σ'=[some (.int a),some (.int b),some (.int l),some (.int (g.fmod l)),some (.int (g.fmod l))]/\H'=H1,?_,z,rfl,rfl⟩;rintro σ' H' ⟨rfl,rfl⟩;have l1:=tU g (show 0 < l by omega);have l2:=uO g (show 0 < l by omega);exact ⟨(g.fmod l).toNat,⋯,_,_,_,rfl,rfl,hl,l2,by rw [Jm]; exact e,rfl⟩
theorem ok_15 (T:Txt K mg t):FnOk P w K mg base (CX1 P w) 2 t.a_15 t.d_15 pw' (sp_15 K t.a_1h):=by
 have G_11:=@ok_11 P w K mg base t T;refine T.F_15.okX sc_15 (λ vs H Q E h=>?_) (λ cdv A outer s H vs Q E hr h=>?_)
 ·obtain ⟨b,a,ns,u,rfl,_⟩:=h;rfl
 ·obtain ⟨b,a,ns,u,rfl,hS,hl,su,hE,hQ⟩:=h;refine ⟨_,(oU (mH (nW kY (pq 1) oS (nS _))
   (oX (fF rfl fE rfl T.m_1h T.x_1h wE (oQ fC oR)))
   mG)
   (oU (mH (nW kY (nK mC rfl T.z_len (nofun) (oQ (pq 0) oR)) oS (nS _))
   (oX (fF rfl fE rfl T.m_1h T.x_1h wE (oQ fC oR)))
   mG)
   (oU (nJ (i:=2) sc_15.nd rfl (Or.inr rfl) (nK cY rfl T.z_abs (nofun) (oQ (pq 1) oR)))
   (oU (PS.nox (kG yR rfl (mJ (pq 0)) (mD (i:=3) sc_15.nd rfl (Or.inl rfl))
   (oX (nJ (i:=2) sc_15.nd rfl (Or.inr rfl) (nB G_11 hr.mo rfl T.m_11 T.F_11.kp T.b_11 .nil nC (oQ (pq 2) (oQ (pq 3) oR)))))))
   (oU (mH (nW eV (pq 1) oS (nS _))
   (oX (nJ (i:=2) sc_15.nd rfl (Or.inr rfl) (eP eQ (pq 2))))
   mG)
   (oX (nH (mZ (oQ (lJ jZ rfl T.z_tuple (nofun) (oQ (mE (xs:=["top"]) (fr:=[("common",2)]) (g:=(oW 0)) (tt:=(tEl (tOp (rI jM λ i j=>.int (i.fdiv j)) (tVar 0) (tVar 1)))) (nR (sc:=oV s_15) (N:=N_15) rfl rfl (nofun)) rfl (mJ (pq 0)) (λ _ _ _ hE1=>(nU (N:=["top","common"]) (i:=0) hE1 rfl (nofun))) (λ _ _ _ hE1=>(nT (oY kN (pv 0) (pv 1))))) oR)) (oQ (oY kN (pq 1) (pq 2)) oR)))))))))),?_⟩
  show tSeq _ _ _ [some (.ref a),some (.int u),none,none] H;refine st λ N1 e1=>?_;simp only [iO];ext;refine ite2 (λ z=>⟨∅,hE (.inl (yO z))⟩) (λ z=>?_);have hu:u≠0:=λ q=>z (zM q);subst e1;refine st λ N1 e1=>?_;simp only [iO];ext;refine lU hS ?_;ext;refine ite2 (λ z=>⟨∅,hE (.inr ?_)⟩) (λ z=>?_)
  ·have:=yO z;exact qT ⋯
  have hne:ns≠[]:=λ q=>z (zM (by rw [q]; rfl));subst e1;refine st λ N1 e1=>?_;ext;subst e1;refine st λ N1 e1=>kI λ B eB=>?_;simp only [iSeq];ext;refine ⟨b,⟨_,hS⟩,?_⟩;refine iB (g:=oW 3) (tb:=B) (λ i σ H1=>∃ v3,σ=[some (.ref a),some (.int u),some (.int (gl u (ns.take i))),v3]/\H1=H) ⟨_,rfl,rfl⟩ (λ i σ H1 _ ⟨_,_,e⟩=>e ▸ hS) ?_ ?_
  ·rintro i x σ H1 hi ⟨v3,rfl,rfl⟩;obtain ⟨n,hn,rfl⟩:=lP hi;subst eB;ext;simp only [Uj];rw [Ds hn,Uv]
   first | trivial | exact ⟨_,rfl,rfl⟩
  ·rintro σ H1 ⟨v3,rfl,rfl⟩;rw [zqe,uC];subst e1;refine st λ N2 e2=>?_;have key2:N2 [some (.ref a),some (.int u),some (.int (cs u ns)),v3] H1:=by
    subst e2;have sc1:kK (cs u ns):=Jj su hu (jQ (gl_u u ns));have hd:∀ x,jM x (cs u ns):=λ x=>⟨fV ns hu,Du sc1 (fV ns hu)⟩;ext;refine nV λ B eB=>?_;simp only [iSeq];ext;refine ⟨b,⟨_,hS⟩,λ a1 ha1=>lC (λ j y _=>∃ n,ns[j]?=some n/\y=.int (n.fdiv (cs u ns))) ha1 hS (by rw [zqe]; omega) (λ _ _ _ _ r _=>r) ?_ ?_⟩
    ·intro i x H2 zs hx _ _ Q' hQ';obtain ⟨n,hn,rfl⟩:=lP hx;subst eB;show tOp _ _ _ [some (.int n),some (.int (cs u ns))] H2 Q';ext;exact ⟨hd n,hQ' _ H2 (Same.refl _) ⟨n,hn,rfl⟩⟩
    ·intro H2 ys s1 e1 hly hr2;have ey:ys=(redT u ns).map V.int:=by
      unfold redT;rw [xE];exact mS (by simpa using hly) hr2
     subst ey;refine ⟨a1,_,rfl,.inl ⟨SqL.of e1,λ l hl1=>?_⟩⟩;ext;refine ⟨hd u,(by show 2<=sizeLine; decide),λ p hp=>hQ hu hne p _ ((s1.trans (Same.new hl1)).trans (Same.new hp)) ⟨l,oZ,?_⟩⟩;rw [nD (mX oZ hp)];exact oZ
   ext;unfold cs at key2;refine ite2 (λ z=>?_) (λ z=>?_)
   ·rw [if_pos (yO z)] at key2;exact key2
   ·rw [if_neg (λ q=>z (zM q))] at key2;exact key2
theorem gZ {H:Hp} {p:Addr} {ns:LI'} {u:Int} {Q:VK} (h:mB H p ns u) (q:∀ x,H x=some (.tup (ns.map V.int))->Q (.ref x) H):rIxB K (.ref p) (.int 0) H Q:=let ⟨x,h1,h2⟩:=h; ⟨true,p,_,_,_,rfl,rfl,SqB.tup h1,rfl,q x h2⟩
theorem gF {H:Hp} {p:Addr} {ns:LI'} {u:Int} {Q:VK} (h:mB H p ns u) (q:Q (.int u) H):rIxB K (.ref p) (.int 1) H Q:=let ⟨x,h1,h2⟩:=h; ⟨true,p,_,_,_,rfl,rfl,SqB.tup h1,rfl,q⟩
theorem ok_g (T:Txt K mg t):FnOk P w K mg base CX0 1 t.a_g t.d_g pJ' (sp_g K):=by
 refine T.F_g.ok sc_g (by walk_at "v") (λ cdv A outer s H vs Q E hr h=>?_)
 ·obtain ⟨p,ns,u,rfl,hP,hl,hu,hQ⟩:=h;refine ⟨_,(oU (nJ (i:=1) sc_g.nd rfl (Or.inr rfl) (oT ix_B (pq 0) oS (λ _ _=>rfl)))
   (oX (nH (mZ (oQ (lJ jZ rfl T.z_tuple (nofun) (oQ (mE (xs:=["top"]) (fr:=[("under",1)]) (g:=(oW 0)) (tt:=(tEl (tOp (rI (λ _ j=>j≠0) λ i j=>.int (i.fmod j)) (tVar 0) (tVar 1)))) (nR (sc:=oV aH) (N:=N_g) rfl rfl (nofun)) rfl (mJ (oT ix_B (pq 0) oS (λ _ _=>rfl))) (λ _ _ _ hE1=>(nU (N:=["top","under"]) (i:=0) hE1 rfl (nofun))) (λ _ _ _ hE1=>(nT (oY lB (pv 0) (pv 1))))) oR)) (oQ (pq 1) oR)))))),?_⟩
  show tSeq _ _ _ [some (.ref p),none] H;refine st λ N1 e1=>?_;ext;refine gF hP ?_;subst e1;ext;refine nV λ B eB=>?_;simp only [iSeq];ext;refine gZ hP λ x hx=>⟨true,x,rfl,⟨_,SqB.tup hx⟩,λ a1 ha1=>lC (λ j y _=>∃ n,ns[j]?=some n/\y=.int (n.fmod u)) ha1 (SqB.tup hx) (by rw [zqe]; omega) (λ _ _ _ _ r _=>r) ?_ ?_⟩
  ·intro i x H1 zs hx _ _ Q' hQ';obtain ⟨n,hn,rfl⟩:=lP hx;subst eB;show tOp _ _ _ [some (.int n),some (.int u)] H1 Q';ext;exact ⟨⋯,hQ' _ H1 (Same.refl _) ⟨n,hn,rfl⟩⟩
  ·intro H1 ys s1 e1 hly hr2;have ey:ys=(nM u ns).map V.int:=by
    unfold nM;rw [xE];exact mS (by simpa using hly) hr2
   subst ey;refine ⟨a1,_,rfl,.inl ⟨SqL.of e1,λ l hl1=>?_⟩⟩;refine ⟨(by show 2<=sizeLine; decide),λ p' hp'=>hQ p' _ ((s1.trans (Same.new hl1)).trans (Same.new hp')) ⟨l,oZ,?_⟩⟩;rw [nD (mX oZ hp')];exact oZ
theorem ok_1e (T:Txt K mg t):FnOk P w K mg base CX0 1 t.a_1e t.d_1e pz' (sp_1e K):=by
 refine T.F_1e.ok sc_1e (by walk_at "v") (λ cdv A outer s H vs Q E hr h=>?_)
 ·obtain ⟨b1,b2,p,q,ms,ns,rfl,h1,h2,hl,hz,hm,hQ⟩:=h;refine ⟨_,(oX (nH (nK (Bm rfl) rfl T.z_sum (nofun) (oQ (mE (xs:=["left","right"]) (fr:=[]) (g:=(gTup K 2 (mL (oW 0) (mL (oW 1) gNil)))) (tt:=(tEl (tOp (rI (λ i j=>IntMulOk i j) λ i j=>.int (i*j)) (tVar 0) (tVar 1)))) (nR (sc:=oV s_1e) (N:=N_1e) rfl rfl (nofun)) rfl (Bn rfl T.z_zip (oQ (pq 0) (oQ (pq 1) oR))) (λ _ _ _ hE1=>(kF rfl (mI (nU (N:=["left","right"]) (i:=0) hE1 rfl (nofun)) (mI (nU (N:=["left","right"]) (i:=1) hE1 rfl (nofun)) kE)))) (λ _ _ _ hE1=>(nT (oY mP (pv 0) (pv 1))))) oR)))),?_⟩;show tRet _ _ [some (.ref p),some (.ref q)] H;ext;refine nV λ B eB=>?_;simp only [iZip];ext;refine ⟨b1,⟨_,h1⟩,b2,⟨_,h2⟩,λ a ha=>?_⟩;refine Bl (λ j y _=>∃ m n,ms[j]?=some m/\ns[j]?=some n/\y=.int (m*n)) ha h1 h2 (by simpa using hl) (by simpa using hz) (λ _ _ _ _ r _=>r) ?_ ?_
  ·intro i x y H1 zs ex ey s1 ez Q' hQ';obtain ⟨m,em,rfl⟩:=lP ex;obtain ⟨n,en,rfl⟩:=lP ey;subst eB;show tOp _ _ _ [some (.int m),some (.int n)] H1 Q';ext;exact ⟨hm i m n em en,hQ' _ _ (Same.refl _) ⟨m,n,em,en,rfl⟩⟩
  ·intro H1 zs s1 ez hlz hr';have ey:zs=(List.zipWith (·*·) ms ns).map V.int:=by
    refine mS (by simp at hlz ⊢; omega) λ j y e=>?_;obtain ⟨m,n,em,en,rfl⟩:=hr' j y e;exact ⟨m*n,by rw [yH,em,en],rfl⟩
   subst ey;exact ⟨_,rfl,_,SqL.of ez,hQ H1 s1⟩
theorem ok_18 (T:Txt K mg t):FnOk P w K mg base CX0 1 t.a_18 t.d_18 pI' (sp_18 K):=by
 refine T.F_18.ok sc_18 (by walk_at "v") (λ cdv A outer s H vs Q E hr h=>?_)
 ·obtain ⟨b1,b2,a,rows,w,rfl,hM,hne,hw,hw1,hl1,hQ⟩:=h;refine ⟨_,(oX (nH (mE (xs:=["k"]) (fr:=[("rows",0)]) (g:=(oW 0)) (tt:=(tEl (lO (iSeq K (tVar 1)) (oW 0) (tEl (tOp (rIxB K) (tVar 0) (tVar 1))) 1 [("k",0)]))) (nR (sc:=oV s_18) (N:=N_18) rfl rfl (nofun)) rfl (lM rfl T.z_range (oQ (nK mC rfl T.z_len (nofun) (oQ (oT ix_B (pq 0) oS (λ _ _=>rfl)) oR)) oR)) (λ _ _ _ hE1=>(hZ (N:=["k","rows"]) (i:=0) hE1 rfl (nofun) rfl)) (λ _ _ _ hE1=>(nT (mE (xs:=["row"]) (fr:=[("k",0)]) (g:=(oW 0)) (tt:=(tEl (tOp (rIxB K) (tVar 0) (tVar 1)))) (nR (N:=["k","rows"]) hE1 rfl (nofun)) rfl (mJ (pv 1)) (λ _ _ _ hE2=>(nU (N:=["row","k"]) (i:=0) hE2 rfl (nofun))) (λ _ _ _ hE2=>(nT (oT ix_B (pv 0) (pv 1) (λ _ _=>rfl)))))))))),?_⟩;show tRet _ _ [some (.ref a)] H;ext;refine nV λ B eB=>?_;simp only [mU];ext;obtain ⟨r0,e0⟩:∃ r0,rows[0]?=some r0:=by cases rows with | nil=>exact absurd rfl hne | cons r _=>exact ⟨r,rfl⟩
  have w0:r0.length=w:=hw r0 (zqb e0);obtain ⟨ps,p,k1,k2,k3,k4⟩:=hM.row e0;refine ⟨b1,a,_,0,_,rfl,rfl,k1,mY k2 rfl,b2,p,_,rfl,k4,?_⟩;rw [zqe,w0];refine ⟨_,rfl,⋯,⋯,λ a1 ha1=>?_⟩;rw [zV];refine lY (RowR a1 λ k=>colI k rows) ha1 hw1 (RowR.mono (a:=a1)) ?_ ?_
  ·intro i H1 zs hi s1 ez Q' hQ';subst eB;show lO _ _ _ _ _ [some (.int (0+(i:Int))),some (.ref a)] H1 Q';refine nV λ B eB=>?_;simp only [iSeq];ext;obtain ⟨xs,x1,x2,x3⟩:=(hM.up s1).walk;refine ⟨b1,⟨_,x1⟩,λ a2 ha2=>?_⟩;refine lC (λ j y _=>∃ r,rows[j]?=some r/\y=.int (r.getD i 0)) ha2 x1 ⋯ (λ _ _ _ _ r _=>r) ?_ ?_
   ·intro j x H2 zs2 ex s2 ez2 Q2 hQ2;obtain ⟨p,r,rfl,er,hp⟩:=x3 j x ex;subst eB;show tOp _ _ _ [some (.ref p),some (.int (0+(i:Int)))] H2 Q2;ext;have hri:i < r.length:=by rw [hw r (zqb er)]; exact hi
    exact ⟨b2,p,_,_,_,rfl,rfl,hp.up s2,mY (lQ (getD_at hri)) ⋯,hQ2 _ _ (Same.refl _) ⟨r,er,rfl⟩⟩
   ·intro H2 ys s2 e2 hly hr2;have ey:ys=(colI i rows).map V.int:=by
     refine mS (by simp [colI]; omega) λ j y e=>?_;obtain ⟨r,er,rfl⟩:=hr2 j y e;exact ⟨r.getD i 0,by unfold colI; rw [zB,er]; rfl,rfl⟩
    subst ey;exact hQ' _ _ s2 ⟨a2,rfl,Ne.symm (mX ez ha2),e2⟩
  ·intro H1 ys s1 e1 hly hr1;have:=MatL.of e1 hr1;rw [hly] at this;exact hQ a1 H1 ha1 s1 this
theorem ok_14 (T:Txt K mg t):FnOk P w K mg base CX0 1 t.a_14 t.d_14 px' (sp_14 K):=by
 refine T.F_14.ok sc_14 (by walk_at "v") (λ cdv A outer s H vs Q E hr h=>?_)
 ·obtain ⟨b1,b2,a,rows,i0,k,w,rfl,hM,hw,hk,hw1,hl1,hQ⟩:=h;refine ⟨_,(oX (nH (mE (xs:=["at","row"]) (fr:=[("i",1),("k",2)]) (g:=(gTup K 2 (mL (oW 0) (mL (oW 1) gNil)))) (tt:=(jP (gN (tOp (rI0 λ i j=>.bl (!decide (i=j))) (tVar 0) (tVar 2))) (tOp rCat (tCB (dG K) (nQ (tSl (rSlB K) (tVar 1) By (Bx (tVar 3))) tNil)) (tCB (dG K) (nQ (tSl (rSlB K) (tVar 1) (Bx (tOp (rI0 λ i j=>.int (i+j)) (tVar 3) (tC (.int 1)))) By) tNil))))) (nR (sc:=oV s_14) (N:=N_14) rfl rfl (nofun)) rfl (dF rfl T.z_enumerate (oQ (pq 0) oR)) (λ _ _ _ hE1=>(kF rfl (mI (nU (N:=["at","row","i","k"]) (i:=0) hE1 rfl (nofun)) (mI (nU (N:=["at","row","i","k"]) (i:=1) hE1 rfl (nofun)) kE)))) (λ _ _ _ hE1=>(Bp (nW jN (pv 0) (pv 2) (nS _)) (oY Gm (lJ gQ rfl T.z_list (nofun) (oQ (eX sl_B (pv 1) Gx (iX (pv 3))) oR)) (lJ gQ rfl T.z_list (nofun) (oQ (eX sl_B (pv 1) (iX (oY lF (pv 3) oS)) Gx) oR)))))))),?_⟩;show tRet _ _ [some (.ref a),some (.int i0),some (.int k)] H;ext;refine Bi λ C0 B0 eC eB=>?_;simp only [fH];ext;obtain ⟨xs,x1,x2,x3⟩:=hM.walk;refine ⟨b1,⟨_,x1⟩,λ a1 ha1=>?_⟩;refine Um (λ t zs H1=>kJ a1 H1 zs (((rows.take t).eraseIdx i0).map λ (r:LI')=>r.eraseIdx k)) ha1 x1 ⋯ kJ.nil ?_ (λ _ _ _ _ r s=>r.mono s) ?_ ?_
  ·intro i zs H1 p;rw [p.len,zqe,rS];have:=List.length_take_le i rows;split <;> omega
  ·intro i x H1 zs ex s1 ez p C hC1 hC2;obtain ⟨q0,r,rfl,er,hp⟩:=x3 i x ex;have hrw:r.length=w:=hw r (zqb er);replace hp:=hp.up s1;rw [Ul er] at hC1 hC2;subst eC eB;show jP _ _ [some (.int i),some (.ref q0),some (.int i0),some (.int k)] H1 C;simp only [jP];ext
   by_cases z:i=i0
   ·subst z;rw [if_pos rfl] at hC2;rw [zM rfl];exact hC2 H1 (Same.refl _) p
   ·rw [if_neg z] at hC1;rw [zQ (show ¬ (i:Int)=i0 by omega)];refine iteT ?_;refine ⟨b2,q0,_,rfl,hp,λ _=>by rw [zqe,HT.sIx_none,HT.sIx_nat]; omega,λ q1 hq1=>?_⟩;have sq1:SqB b2 K (upd H1 q1 (seqO b2 (cutV (r.map V.int) none (some (k:Int))))) q1 (cutV (r.map V.int) none (some (k:Int))):=SqB.cut;have s2:Same H1 (upd H1 q1 (seqO b2 (cutV (r.map V.int) none (some (k:Int))))):=Same.new hq1;generalize upd H1 q1 _=H2 at sq1 s2;rw [Rv ⋯] at sq1;refine ⟨b2,q1,_,rfl,sq1,λ q2 hq2=>?_⟩;have e2:(upd H2 q2 (.lst ((r.take k).map V.int))) q2=some (.lst ((r.take k).map V.int)):=oZ;have s3:Same H2 (upd H2 q2 (.lst ((r.take k).map V.int))):=Same.new hq2;generalize upd H2 q2 _=H3 at e2 s3;refine ⟨b2,q0,_,rfl,(hp.up s2).up s3,λ _=>by rw [zqe,HT.sIx_none,show (k:Int)+1=((k+1:Nat):Int) by omega,HT.sIx_nat]; omega,λ q3 hq3=>?_⟩;have sq3:SqB b2 K (upd H3 q3 (seqO b2 (cutV (r.map V.int) (some ((k:Int)+1)) none))) q3 (cutV (r.map V.int) (some ((k:Int)+1)) none):=SqB.cut;have s4:Same H3 (upd H3 q3 (seqO b2 (cutV (r.map V.int) (some ((k:Int)+1)) none))):=Same.new hq3;generalize upd H3 q3 _=H4 at sq3 s4;rw [show (k:Int)+1=((k+1:Nat):Int) by omega,Ru ⋯] at sq3;refine ⟨b2,q3,_,rfl,sq3,λ q4 hq4=>?_⟩;have s5:Same H4 (upd H4 q4 (.lst ((r.drop (k+1)).map V.int))):=Same.new hq4;have e4:(upd H4 q4 (.lst ((r.drop (k+1)).map V.int))) q4=some (.lst ((r.drop (k+1)).map V.int)):=oZ;generalize upd H4 q4 _=H5 at e4 s5;refine ⟨q2,q4,_,_,rfl,rfl,s5 _ _ (s4 _ _ e2),e4,by rw [zqe,zqe,xA,uS]; exact xU (eZ ⋯),λ q5 hq5=>?_⟩;have s15:Same H1 (upd H5 q5 (.lst ((r.take k).map V.int++(r.drop (k+1)).map V.int))):=(((s2.trans s3).trans s4).trans s5).trans (Same.new hq5);refine hC1 _ _ s15 ?_;rw [xD];refine (p.mono s15.x).snoc (λ e=>?_) ?_
    ·subst e;rw [s5 _ _ (s4 _ _ (s3 _ _ (s2 _ _ ez)))] at hq5;cases hq5
    ·rw [oZ]; dsimp only; rw [List.eraseIdx_eq_take_drop_succ,xD]
  ·intro H1 ys s1 e1 p;rw [x2,uC] at p;exact hQ a1 H1 ha1 s1 (kJ.mat e1 p)
theorem ok_8 (T:Txt K mg t):∀ n:Nat,FnOk P w K mg base CX0 (n+1) t.a_8 t.d_8 pI' (sp_8 K n)
 | 0=>⟨λ _ _ _ _ h=>h.elim,λ _ _ _ _ _ _ _ _ _ _ _ _ _ h=>h.elim⟩
 | n+1=>by
  have G_8:FnOk P w K mg base CX0 (n+1) t.a_8 t.d_8 pI' (sp_8 K n):=ok_8 T n;have G_14:=@ok_14 P w K mg base t T;refine T.F_8.ok sc_8 (by walk_at "v") (λ cdv A outer s H vs Q E hr h=>?_)
  ·obtain ⟨b1,b2,a,rows,B,rfl,hM,hs,hn,hb,hB,hQ⟩:=h;refine ⟨_,(oU (mH (nW kY (nK mC rfl T.z_len (nofun) (oQ (pq 0) oR)) oS (nS _))
   (oX (nH (oT ix_B (oT ix_B (pq 0) oS (λ _ _=>rfl)) oS (λ _ _=>rfl))))
   mG)
   (oU (nJ (i:=1) sc_8.nd rfl (Or.inl rfl) oS)
   (oU (nJ (i:=2) sc_8.nd rfl (Or.inl rfl) oS)
   (oU (kG yR rfl (dF rfl T.z_enumerate (oQ (oT ix_B (pq 0) oS (λ _ _=>rfl)) oR)) (kF rfl (mI (mD (i:=3) sc_8.nd rfl (Or.inl rfl)) (mI (mD (i:=4) sc_8.nd rfl (Or.inl rfl)) kE)))
   (oU (mH (nW jN (pq 4) oS (nS _))
   (oX (Fo (i:=1) sc_8.nd rfl (Or.inl rfl) (oY mP (oY mP (pq 2) (pq 4)) (nB G_8 hr.mo rfl T.m_8 T.F_8.kp T.b_8 .nil nC (oQ (nB G_14 hr.mo rfl T.m_14 T.F_14.kp T.b_14 .nil nC (oQ (pq 0) (oQ oS (oQ (pq 3) oR)))) oR))) Fn))
   mG)
   (oX (nJ (i:=2) sc_8.nd rfl (Or.inl rfl) (eP eQ (pq 2))))))
   (oX (nH (pq 1))))))),?_⟩
   show tSeq _ _ _ [some (.ref a),none,none,none,none] H;obtain ⟨e0,m0⟩:=row0 hs;have hl0:(rows.getD 0 []).length=n+1:=hs.2 _ m0;refine st λ N1 e1=>?_;ext;refine gC hM ?_;ext;rw [hs.1]
   by_cases z:n=0
   ·subst z;rw [zM (by rfl)];exact iteT (bN hM e0 (getD_at (k:=0) ⋯) rfl rfl (hQ H (Same.refl _)))
   ·rw [zQ (show ¬ ((n+1:Nat):Int)=1 by omega)];refine iteF ?_;obtain ⟨n,rfl⟩:∃ m,n=m+1:=⟨n - 1,⋯⟩;subst e1;refine st λ N1 e1=>?_;ext;subst e1;refine st λ N1 e1=>?_;ext;subst e1;refine st λ N1 e1=>kI λ B0 eB=>?_;simp only [fH];ext;refine Rw hM e0 rfl λ p hp=>⟨b2,_,rfl,⟨_,hp⟩,?_⟩;generalize hf:(λ k=>(rows.getD 0 []).getD k 0*detM (n+1) (iG 0 k rows))=f;refine Bh (nx:=N1) (rt:=Q) (λ k σ H1=>∃ v3 v4,σ=[some (.ref a),some (.int (altS f k)),some (.int (sg k)),v3,v4]/\Same H H1) ⟨_,_,rfl,Same.refl _⟩ (λ _ _ _ _ ⟨_,_,_,s1⟩=>hp.up s1) ?_ ?_
    ·rintro k x q σ H1 ex ⟨v3,v4,rfl,s1⟩ hq;obtain ⟨x,ex',rfl⟩:=lP ex;have hk:k < n+2:=by have:=(zqa ex').1; omega
     refine ⟨q,[.int k,.int x],rfl,SqT.of oZ,rfl,_,_,rfl,_,_,rfl,rfl,?_⟩;replace s1:=s1.trans (Same.new (o:=.tup [.int k,.int x]) hq);generalize upd H1 q (.tup [.int k,.int x])=H2 at s1;subst eB;show tSeq _ _ _ [some (.ref a),some (.int (altS f k)),some (.int (sg k)),some (.int k),some (.int x)] H2;refine st λ N2 e2=>?_;have key:∀ H3 (tot:Int),Same H H3->tot=altS f (k+1)->N2 [some (.ref a),some (.int tot),some (.int (sg k)),some (.int k),some (.int x)] H3:=by
      intro H3 tot s3 et;subst e2 et;ext;rw [Uo];exact ⟨rfl,s3⟩
     ext;have hx0:(rows.getD 0 []).getD k 0=x:=Rx ex';have hfk:f k=x*detM (n+1) (iG 0 k rows):=by rw [← hf]; dsimp only; rw [hx0]
     have hsm:=hs.minor (i:=0) (k:=k) ⋯ hk;have hbm:mW B (iG 0 k rows):=hb.minor
     by_cases zx:x=0
     ·rw [zM zx];refine iteF (key H2 _ s1 ?_);show _=altS f k+sg k*f k;rw [hfk,zx];simp
     ·rw [zQ zx];refine iteT ?_;simp only [tAug,ipI];ext;refine ⟨vL (by unfold sg; split <;> decide),b1,b2,a,rows,0,k,_,rfl,hM.up s1,hs.2,hk,⋯,by rw [hs.1]; omega,λ r H3 _ s3 hR=>?_⟩;refine ⟨false,false,r,_,B,rfl,hR.b,hsm,⋯,hbm,hB,λ H4 s4=>?_⟩;ext;have hxb:=hb _ m0 x (by rw [← hx0]; exact L2.getD_mem ⋯);have hdb:=Jg (n+1) _ ⋯ ⋯ hsm hbm;refine ⟨yU (m:=B+1) (n:=(n+1)*(B+2)+1) (mF ?_) (mF ?_) ?_,?_⟩
      ·rw [yN,Ji,Nat.one_mul,oH]; omega
      ·rw [oH]; have:=wZ ((n+1)*(B+2)); omega
      ·have:(n+1)*(B+2)<=4*1000002:=wL ⋯ ⋯;omega
      ·refine key H4 _ ((s1.trans s3).trans s4) ?_;show _=altS f k+sg k*f k;rw [hfk,Int.mul_assoc]
    ·rintro σ H1 ⟨v3,v4,rfl,s1⟩;subst e1;ext;rw [zqe,hl0];have:altS f (n+2)=detM (n+2) rows:=by rw [← hf]; rfl
     rw [this];exact hQ H1 s1
theorem ok_i (T:Txt K mg t):FnOk P w K mg base CX0 1 t.a_i t.d_i ["size"] sp_i:=by
 refine T.F_i.ok sc_i (by walk_at "v") (λ cdv A outer s H vs Q E hr h=>?_)
 ·obtain ⟨n,rfl,hn,hQ⟩:=h;refine ⟨_,(oX (nH (mE (xs:=["i"]) (fr:=[("size",0)]) (g:=(oW 0)) (tt:=(tEl (lO (mU (nQ (tVar 1) tNil)) (oW 0) (tEl (tIf (gN (tOp (rI0 λ i j=>.bl (decide (i=j))) (tVar 1) (tVar 0))) (tC (.int 1)) (tC (.int 0)))) 1 [("i",0)]))) (nR (sc:=oV aK) (N:=N_i) rfl rfl (nofun)) rfl (lM rfl T.z_range (oQ (pq 0) oR)) (λ _ _ _ hE1=>(hZ (N:=["i","size"]) (i:=0) hE1 rfl (nofun) rfl)) (λ _ _ _ hE1=>(nT (mE (xs:=["k"]) (fr:=[("i",0)]) (g:=(oW 0)) (tt:=(tEl (tIf (gN (tOp (rI0 λ i j=>.bl (decide (i=j))) (tVar 1) (tVar 0))) (tC (.int 1)) (tC (.int 0))))) (nR (N:=["i","size"]) hE1 rfl (nofun)) rfl (lM rfl T.z_range (oQ (pv 1) oR)) (λ _ _ _ hE2=>(nU (N:=["k","i"]) (i:=0) hE2 rfl (nofun))) (λ _ _ _ hE2=>(nT (Nk (nW kY (pv 1) (pv 0) (nS _)) oS oS))))))))),?_⟩;show tRet _ _ [some (.int n)] H;ext;refine nV λ B eB=>?_;simp only [mU];ext;refine ⟨⋯,⋯,λ m0 hm0=>?_⟩;rw [zV];refine lY (RowR m0 λ i=>(List.range n).map λ k=>if i=k then (1:Int) else 0) hm0 hn (RowR.mono (a:=m0)) ?_ ?_
  ·intro i H2 zs hi s2 ez Q' hQ';subst eB;show lO _ _ _ _ _ [some (.int (0+(i:Int))),some (.int n)] H2 Q';refine nV λ B eB=>?_;simp only [mU];ext;refine ⟨⋯,⋯,λ a2 ha2=>?_⟩;rw [zV];refine lY (λ k y _=>k < n/\y=.int (if i=k then 1 else 0)) ha2 hn (λ _ _ _ _ r _=>r) ?_ ?_
   ·intro k H3 zs3 hk s3 ez3 Q2 hQ2;subst eB;show tIf _ _ _ [some (.int (0+(k:Int))),some (.int (0+(i:Int)))] H3 Q2;ext
    by_cases z:i=k
    ·rw [zM ⋯];exact iteT (hQ2 _ _ (Same.refl _) ⟨hk,by rw [if_pos z]⟩)
    ·rw [zQ ⋯];exact iteF (hQ2 _ _ (Same.refl _) ⟨hk,by rw [if_neg z]⟩)
   ·intro H3 ys s3 e3 hly hr3;have ey:ys=((List.range n).map λ k=>if i=k then (1:Int) else 0).map V.int:=by
     refine mS (by simpa using hly) λ j y e=>?_;obtain ⟨hj,rfl⟩:=hr3 j y e;exact ⟨_,by rw [zB,xP hj]; rfl,rfl⟩
    subst ey;exact hQ' _ _ s3 ⟨a2,rfl,Ne.symm (mX ez ha2),e3⟩
  ·intro H2 ys s2 e2 hly hr2;have hM0:=MatL.of e2 hr2;rw [hly] at hM0;exact hQ m0 H2 hm0 s2 hM0
theorem Je {H:Hp} {p:Addr} {M:LM} {ts:LI'} {u:Int} {Q:VK} (h:lH K H p M ts u) (q:∀ x,MatB true true K H x M->Q (.ref x) H):rIxB K (.ref p) (.int 0) H Q:=let ⟨x,y,h1,h2,h3⟩:=h; ⟨true,p,_,_,_,rfl,rfl,SqB.tup h1,rfl,q x h2⟩
theorem Ui {H:Hp} {p:Addr} {M:LM} {ts:LI'} {u:Int} {Q:VK} (h:lH K H p M ts u) (q:∀ x,H x=some (.tup (ts.map V.int))->Q (.ref x) H):rIxB K (.ref p) (.int 1) H Q:=let ⟨x,y,h1,h2,h3⟩:=h; ⟨true,p,_,_,_,rfl,rfl,SqB.tup h1,rfl,q y h3⟩
theorem Uh {H:Hp} {p:Addr} {M:LM} {ts:LI'} {u:Int} {Q:VK} (h:lH K H p M ts u) (q:Q (.int u) H):rIxB K (.ref p) (.int 2) H Q:=let ⟨x,y,h1,h2,h3⟩:=h; ⟨true,p,_,_,_,rfl,rfl,SqB.tup h1,rfl,q⟩
theorem Jd {H:Hp} {a a1:Addr} {M:LM} {σ:St} {Q:VK} {b1 b2:Bool} (hM:MatB b1 b2 K H a M) (hl:M.length<=1000) (ha1:H a1=none)
  (hQ:∀ H1 zs,Same H H1->H1 a1=some (.lst zs)->(∀ l,H1 l=none->MatB true true K (upd H1 l (.tup zs)) l M)->Q (.ref a1) H1):lN (Its K b1 a) (oW 0) (tEl (tCB (dH K) (nQ (tVar 0) tNil))) 1 [] σ a1 H Q:=by
 cases b2 with
 | false =>
  refine Rt hM hl ha1 λ H1 s1 hT=>?_;obtain ⟨zs,hz,_⟩:=id hT;refine hQ H1 _ s1 hz λ l hl1=>?_;obtain ⟨zs',hz',hB⟩:=hT.tuple (K:=K) hl1;rw [hz] at hz';cases hz';exact hB
 | true =>
  obtain ⟨xs,x1,x2,x3⟩:=hM.walk;refine lC (λ j y _=>∃ p r,y=.ref p/\M[j]?=some r/\SqB true K H p (r.map V.int)) ha1 x1 ⋯ (λ _ _ _ _ r _=>r) ?_ ?_
  ·intro i x H1 zs ex s1 ez Q' hQ';obtain ⟨p,r,rfl,er,hp⟩:=x3 i x ex;exact ⟨_,rfl,p,_,rfl,.inr ⟨hp.up s1,hQ' _ _ (Same.refl _) ⟨p,r,rfl,er,hp⟩⟩⟩
  ·intro H1 ys s1 e1 hly hr1;have hps:∃ ps:LA,ys=ps.map V.ref:=by
    clear e1 hly;have:∀ (zs:List V),(∀ (j:Nat) y,zs[j]?=some y->∃ p:Addr,y=.ref p)->∃ ps:LA,zs=ps.map V.ref:=by
     intro zs
     induction zs with
     | nil=>intro _; exact ⟨[],rfl⟩
     | cons z r ih =>
      intro hz;obtain ⟨p,e⟩:=hz 0 z rfl;obtain ⟨ps,e2⟩:=ih λ j y q=>hz (j+1) y (by simpa using q);exact ⟨p :: ps,by rw [e,e2]; rfl⟩
    exact this ys λ j y e=>let ⟨p,r,e1,_⟩:=hr1 j y e; ⟨p,e1⟩
   obtain ⟨ps,rfl⟩:=hps;refine hQ H1 _ s1 e1 λ l hl1=>⟨ps,SqB.tup oZ,by simp at hly; omega,λ i p r e2 e3=>?_⟩;obtain ⟨p',r',e4,e5,e6⟩:=hr1 i (.ref p) (by simp [e2]);cases e4;rw [e3] at e5;cases e5;exact e6.up (s1.trans (Same.new hl1))
theorem ok_10 (T:Txt K mg t):FnOk P w K mg base CX0 1 t.a_10 t.d_10 pA' (sp_10 K):=by
 refine T.F_10.ok sc_10 (by walk_at "v") (λ cdv A outer s H vs Q E hr h=>?_)
 ·obtain ⟨b1,b2,a,p,M,ts,u,rfl,hM,hP,hl,hQ⟩:=h;refine ⟨_,(oX (nH (mZ (oQ (lJ jZ rfl T.z_tuple (nofun) (oQ (mE (xs:=["row"]) (fr:=[]) (g:=(oW 0)) (tt:=(tEl (tCB (dH K) (nQ (tVar 0) tNil)))) (nR (sc:=oV s_10) (N:=N_10) rfl rfl (nofun)) rfl (mJ (pq 0)) (λ _ _ _ hE1=>(nU (N:=["row"]) (i:=0) hE1 rfl (nofun))) (λ _ _ _ hE1=>(nT (lJ jZ rfl T.z_tuple (nofun) (oQ (pv 0) oR))))) oR)) (oQ (oT ix_B (pq 1) oS (λ _ _=>rfl)) (oQ (oT ix_B (pq 1) oS (λ _ _=>rfl)) oR)))))),?_⟩;show tRet _ _ [some (.ref a),some (.ref p)] H;ext;refine nV λ B eB=>?_;simp only [iSeq];ext;obtain ⟨xs,x1,_⟩:=hM.walk;refine ⟨b1,⟨_,x1⟩,λ a1 ha1=>?_⟩;subst eB;refine Jd hM ⋯ ha1 λ H1 zs s1 hz hB=>?_;refine ⟨a1,_,rfl,.inl ⟨SqL.of hz,λ l hl1=>?_⟩⟩;have s2:Same H (upd H1 l (.tup zs)):=s1.trans (Same.new hl1);replace hB:=hB l hl1;generalize upd H1 l (.tup zs)=H2 at s2 hB;refine gZ (hP.up s2) λ x hx=>gF (hP.up s2) ⟨(by show 3<=sizeLine; decide),λ q hq=>hQ q _ (s2.trans (Same.new hq)) ⟨l,x,oZ,hB.up (Same.new hq),Same.new hq _ _ hx⟩⟩
theorem ok_1b (T:Txt K mg t):FnOk P w K mg base CX0 2 t.a_1b t.d_1b pJ' (sp_1b K):=by
 have G_10:=@ok_10 P w K mg base t T;have G_g:=@ok_g P w K mg base t T;refine T.F_1b.ok sc_1b (by walk_at "v") (λ cdv A outer s H vs Q E hr h=>?_)
 ·obtain ⟨p,M,ts,u,rfl,hD,hl,hl2,hu,hQ⟩:=h;refine ⟨_,(oX (nH (nB G_10 hr.mo rfl T.m_10 T.F_10.kp T.b_10 .nil nC (oQ (oT ix_B (pq 0) oS (λ _ _=>rfl)) (oQ (nB G_g hr.mo rfl T.m_g T.F_g.kp T.b_g .nil nC (oQ (mZ (oQ (oT ix_B (pq 0) oS (λ _ _=>rfl)) (oQ (oT ix_B (pq 0) oS (λ _ _=>rfl)) oR))) oR)) oR))))),?_⟩;show tRet _ _ [some (.ref p)] H;ext;refine Je hD λ x hx=>Ui hD λ y hy=>Uh hD ⟨(by show 2<=sizeLine; decide),λ l hl1=>?_⟩;have s1:Same H (upd H l (.tup [.ref y,.int u])):=Same.new hl1;refine ⟨l,ts,u,rfl,⟨y,oZ,s1 _ _ hy⟩,hl2,hu,λ p' H2 s2 hP=>?_⟩;exact ⟨true,true,x,p',M,_,u,rfl,hx.up (s1.trans s2),hP,hl,λ q H3 s3 hq=>hQ q H3 ((s1.trans s2).trans s3) hq⟩
theorem ok_16 (T:Txt K mg t):FnOk P w K mg base CX0 3 t.a_16 t.d_16 pC' (sp_16 K):=by
 have G_1e:=@ok_1e P w K mg base t T;have G_15:=@ok_15 P w K mg base t T;refine T.F_16.ok sc_16 (by walk_at "v") (λ cdv A outer s H vs Q E hr h=>?_)
 ·obtain ⟨p,q,M,ts,ns,u,v,d,rfl,hD,hP,fi,hd1,hd4,hnl,bn,hv,hv2,hQ⟩:=h;refine ⟨_,(oU (jX (i:=2) (xs:=["row","top"]) (fr:=[("one",0),("spot",1)]) (g:=(gTup K 2 (mL (oW 0) (mL (oW 1) gNil)))) (tt:=(tEl (tOp (rI0 λ i j=>.int (i+j)) (tOp (rI (λ i j=>IntMulOk i j) λ i j=>.int (i*j)) (jF (sp_1e K) [] E0 (nQ (tVar 0) (nQ (tOp (rIxB K) (tVar 3) (tC (.int 0))) tNil))) (tOp (rIxB K) (tVar 2) (tC (.int 2)))) (tOp (rI (λ i j=>IntMulOk i j) λ i j=>.int (i*j)) (tVar 1) (tOp (rIxB K) (tVar 3) (tC (.int 1))))))) (nR (sc:=oV s_16) (N:=N_16) rfl rfl (nofun)) rfl sc_16.nd rfl rfl (Bn rfl T.z_zip (oQ (oT ix_B (pq 0) oS (λ _ _=>rfl)) (oQ (oT ix_B (pq 0) oS (λ _ _=>rfl)) oR))) (λ _ _ _ hE1=>(kF rfl (mI (nU (N:=["row","top","one","spot"]) (i:=0) hE1 rfl (nofun)) (mI (nU (N:=["row","top","one","spot"]) (i:=1) hE1 rfl (nofun)) kE)))) (λ _ _ _ hE1=>(nT (oY lF (oY mP (nB G_1e hr.mo rfl T.m_1e T.F_1e.kp T.b_1e .nil nC (oQ (pv 0) (oQ (oT ix_B (pv 3) oS (λ _ _=>rfl)) oR))) (oT ix_B (pv 2) oS (λ _ _=>rfl))) (oY mP (pv 1) (oT ix_B (pv 3) oS (λ _ _=>rfl)))))))
   (oX (nH (nB G_15 hr.mo rfl T.m_15 T.F_15.kp T.b_15 .nil dA (oQ (pq 2) (oQ (oY mP (oT ix_B (pq 0) oS (λ _ _=>rfl)) (oT ix_B (pq 1) oS (λ _ _=>rfl))) oR)))))),?_⟩
  show tSeq _ _ _ [some (.ref p),some (.ref q),none] H;refine st λ N1 e1=>?_;ext;refine nV λ B eB=>?_;simp only [iZip];ext;refine aU hD λ x hx=>Dr hD λ y hy=>?_;obtain ⟨xs,x1,x2,x3⟩:=hx.walk;refine ⟨true,true,x,rfl,y,rfl,⟨_,x1⟩,⟨_,(hy:SqB true K H y _)⟩,λ a1 ha1=>?_⟩;have hraw:∀ (i:Nat) (r:LI') (tt:Int),M[i]?=some r->ts[i]?=some tt->(movT M ts u ns v)[i]?=some (dotI r ns*u+tt*v):=λ i r tt e1 e2=>by
   unfold movT;rw [yH,e1,e2]
  refine Bl (λ j z _=>∃ n,(movT M ts u ns v)[j]?=some n/\z=.int n) ha1 x1 ((hy:SqB true K H y _)) (by rw [x2,fi.sq.1,zqe,fi.len]) (by rw [x2,fi.sq.1]; omega) (λ _ _ _ _ r _=>r) ?_ ?_
  ·intro i zr zt H1 zs er et s1 ez Q' hQ';obtain ⟨pr,r,rfl,er2,hp⟩:=x3 i zr er;obtain ⟨tt,et2,rfl⟩:=lP et;have hrl:r.length=d:=fi.sq.2 r (zqb er2);have br:=fi.bm r (zqb er2);subst eB;show tOp _ _ _ [some (.ref pr),some (.int tt),some (.ref p),some (.ref q)] H1 Q';ext;refine jG (hP.up s1) λ z hz=>?_;refine ⟨true,true,pr,z,r,ns,rfl,hp.up s1,(hz:SqB true K H1 z _),⋯,⋯,λ i2 m n e1 e2=>yU (mF (br m (zqb e1))) (mF (bn n (zqb e2))) ∅,λ H2 s2=>?_⟩;refine cI (hD.up (s1.trans s2)) ?_;ext;have hda:=Jf r ns br bn;have hdb:(dotI r ns).natAbs < 2 ^ 400010:=by
    have:r.length*2 ^ (200000+200000)<=4*2 ^ (200000+200000):=xR _ ⋯;have e:(2:Nat) ^ 400010=1024*2 ^ (200000+200000):=by rw [show (400010:Nat)=10+(200000+200000) from rfl,wR]
    have:=wZ (200000+200000);omega
   refine ⟨yU (mF hdb) (mF (fW fi.pos fi.bu)) ∅,?_⟩;refine iH (hP.up (s1.trans s2)) ?_;ext;refine ⟨yU (mF (fi.bt tt (zqb et2))) (mF (fW hv hv2)) ∅,?_⟩;exact hQ' _ _ s2 ⟨_,hraw i r tt er2 et2,rfl⟩
  ·intro H1 zs s1 ez1 hlz hr1;have hml:(movT M ts u ns v).length=d:=by unfold movT; rw [yI,fi.sq.1,fi.len]; omega
   have ey:zs=(movT M ts u ns v).map V.int:=mS (by rw [hlz,x2,fi.sq.1,hml]) hr1;subst ey;subst e1;ext;refine cI (hD.up s1) ?_;refine iH (hP.up s1) ?_;ext;have hsp:=Uk fi.pos fi.bu hv hv2;refine ⟨yU (mF (fW fi.pos fi.bu)) (mF (fW hv hv2)) ∅,?_⟩;refine ⟨false,a1,_,_,rfl,SqB.lst ez1,⋯,hsp.1,λ z=>?_,λ _ _ r H2 s2 hR=>hQ r H2 (s1.trans s2) hR⟩;rcases z with z | z
   ·omega
   ·rw [z] at hml; simp at hml; omega
theorem ok_12 (T:Txt K mg t):FnOk P w K mg base CX0 4 t.a_12 t.d_12 pz' (sp_12 K):=by
 have G_1e:=@ok_1e P w K mg base t T;have G_18:=@ok_18 P w K mg base t T;have G_16:=@ok_16 P w K mg base t T;have G_10:=@ok_10 P w K mg base t T;refine T.F_12.ok sc_12 (by walk_at "v") (λ cdv A outer s H vs Q E hr h=>?_)
 ·obtain ⟨p,q,M,N,ts,ns,u,v,d,rfl,hD,hE,f1,f2,hd1,hd4,hQ⟩:=h;refine ⟨_,(oU (nJ (i:=2) sc_12.nd rfl (Or.inr rfl) (nB G_18 hr.mo rfl T.m_18 T.F_18.kp T.b_18 .nil nC (oQ (oT ix_B (pq 0) oS (λ _ _=>rfl)) oR)))
   (oU (jX (i:=3) (xs:=["row"]) (fr:=[("columns",2)]) (g:=(oW 0)) (tt:=(tEl (lO (iSeq K (tVar 1)) (oW 0) (tEl (jF (sp_1e K) [] E0 (nQ (tVar 1) (nQ (tVar 0) tNil)))) 1 [("row",0)]))) (nR (sc:=oV s_12) (N:=N_12) rfl rfl (nofun)) rfl sc_12.nd rfl rfl (mJ (oT ix_B (pq 1) oS (λ _ _=>rfl))) (λ _ _ _ hE1=>(hZ (N:=["row","columns"]) (i:=0) hE1 rfl (nofun) rfl)) (λ _ _ _ hE1=>(nT (mE (xs:=["column"]) (fr:=[("row",0)]) (g:=(oW 0)) (tt:=(tEl (jF (sp_1e K) [] E0 (nQ (tVar 1) (nQ (tVar 0) tNil))))) (nR (N:=["row","columns"]) hE1 rfl (nofun)) rfl (mJ (pv 1)) (λ _ _ _ hE2=>(nU (N:=["column","row"]) (i:=0) hE2 rfl (nofun))) (λ _ _ _ hE2=>(nT (nB G_1e hr.mo rfl T.m_1e T.F_1e.kp T.b_1e .nil nC (oQ (pv 1) (oQ (pv 0) oR)))))))))
   (oX (nH (nB G_10 hr.mo rfl T.m_10 T.F_10.kp T.b_10 .nil nC (oQ (pq 3) (oQ (nB G_16 hr.mo rfl T.m_16 T.F_16.kp T.b_16 .nil nC (oQ (pq 1) (oQ (mZ (oQ (oT ix_B (pq 0) oS (λ _ _=>rfl)) (oQ (oT ix_B (pq 0) oS (λ _ _=>rfl)) oR))) oR))) oR))))))),?_⟩
  show tSeq _ _ _ [some (.ref p),some (.ref q),none,none] H;refine st λ N1 e1=>?_;ext;have hne:M≠[]:=λ z=>by have:=f1.sq.1; rw [z] at this; simp at this; omega
  refine aU hD λ x hx=>⟨true,true,x,M,d,rfl,hx,hne,f1.sq.2,⋯,by rw [f1.sq.1]; omega,λ c H1 hc s1 hC=>?_⟩;subst e1;refine st λ N1 e1=>?_;ext;refine nV λ B eB=>?_;simp only [iSeq];ext;refine aU (hE.up s1) λ y hy=>?_;obtain ⟨xs,x1,x2,x3⟩:=hy.walk;refine ⟨true,y,rfl,⟨_,x1⟩,λ a1 ha1=>?_⟩;refine lC (RowR a1 λ j=>(List.range d).map λ k=>dotI (N.getD j []) (colI k M)) ha1 x1 (by rw [x2,f2.sq.1]; omega) (RowR.mono (a:=a1)) ?_ ?_
  ·intro i x H2 zs ex s2 ez Q' hQ';obtain ⟨pr,r,rfl,er,hp⟩:=x3 i x ex;have erD:N.getD i []=r:=by rw [zqc,er]; rfl
   have hrl:r.length=d:=f2.sq.2 r (zqb er);have br:=f2.bm r (zqb er);subst eB;show lO _ _ _ _ _ [some (.ref pr),some (.ref c)] H2 Q';refine nV λ B eB=>?_;simp only [iSeq];ext;obtain ⟨zs2,z1,z2,z3⟩:=((hC.up s2).b (K:=K)).walk;refine ⟨false,⟨_,z1⟩,λ a2 ha2=>?_⟩;have hlen:(bK d M).length=d:=by simp [bK]
   refine lC (λ j y _=>y=.int (dotI r (colI j M))/\j < d) ha2 z1 ⋯ (λ _ _ _ _ r _=>r) ?_ ?_
   ·intro j y H3 zs3 ey s3 ez3 Q2 hQ2;obtain ⟨q2,col,rfl,ec,hq⟩:=z3 j y ey;have hj:j < d:=by have:=(zqa ec).1; omega
    have ecol:col=colI j M:=by
     unfold bK at ec;rw [zB,xP hj] at ec;exact (zT ec).symm
    subst eB ecol;show jF _ _ _ _ [some (.ref q2),some (.ref pr)] H3 Q2;ext;refine ⟨true,false,pr,q2,r,colI j M,rfl,(hp.up s2).up s3,hq.up s3,by simp [colI,hrl,f1.sq.1],⋯,λ i2 m n e1 e2=>?_,λ H4 s4=>hQ2 _ _ s4 ⟨rfl,hj⟩⟩;unfold colI at e2;rw [zB] at e2;cases eb:M[i2]? with
    | none=>rw [eb] at e2; cases e2
    | some rb =>
     rw [eb] at e2;have e2':rb.getD j 0=n:=zT e2;subst e2';have hrb:=zqb eb;exact yU (mF (br m (zqb e1))) (mF (f1.bm rb hrb _ (L2.getD_mem (by rw [f1.sq.2 rb hrb]; exact hj)))) ∅
   ·intro H3 ys s3 e3 hly hr3;have ey:ys=((List.range d).map λ k=>dotI r (colI k M)).map V.int:=by
     refine mS (by simp; omega) λ j y e=>?_;obtain ⟨rfl,hj⟩:=hr3 j y e;exact ⟨_,by rw [zB,xP hj]; rfl,rfl⟩
    subst ey;exact hQ' _ _ s3 ⟨a2,rfl,Ne.symm (mX ez ha2),by dsimp only; rw [erD]; exact e3⟩
  ·intro H2 ys s2 e2 hly hr2;have hR:=MatL.of e2 hr2;have e:(List.range ys.length).map (λ j=>(List.range d).map λ k=>dotI (N.getD j []) (colI k M))=mulM d N M:=by
    rw [hly,x2];unfold mulM;refine vK (by simp) λ i h1 h2=>?_;simp at h1;simp [h1]
   rw [e] at hR;have s02:=s1.trans s2;subst e1;ext;refine Dr (hD.up s02) λ z hz=>cI (hD.up s02) ⟨(by show 2<=sizeLine; decide),λ l hl1=>?_⟩;have s3:Same H2 (upd H2 l (.tup [.ref z,.int u])):=Same.new hl1;refine ⟨q,l,N,ns,ts,v,u,d,rfl,(hE.up s02).up s3,⟨z,SqT.of oZ,nY s3 _ _ hz⟩,f2,hd1,hd4,f1.len,f1.bt,f1.pos,f1.bu,λ r H4 s4 hP=>?_⟩;exact ⟨false,false,a1,r,_,_,_,rfl,((hR.up s3).up s4).b,hP,by simp [mulM,f2.sq.1]; omega,λ q' H5 s5 hq=>hQ q' H5 (((s02.trans s3).trans s4).trans s5) hq⟩
def Dp (rows:LM) (tops:LI') (u:Int):Prop:=(rows.length=2\/rows.length=3)/\(∀ r∈rows,r.length=rows.length)/\tops.length=rows.length/\u≠0/\(detM rows.length rows=1\/detM rows.length rows=-1)
def sp_1a (K:Frag) (C:Addr):Sp:=λ vs H Q E=>E9 λ (b1 b2 b3:Bool) (a p:Addr) (rows:LM) (tops:LI') (u:Int) (B:Nat)=>A10 (vs=[.ref a,.ref p,.int u]) (MatB b1 b2 K H a rows) (SqB b3 K H p (tops.map V.int)) (rows.length<=100) (tops.length<=100) (mW B rows) (B<=1000000) (kK u) ((¬ Dp rows tops u->∀ H',Same H H'->E (.ref C) none H')) ((Dp rows tops u->∀ q H',Same H H'->lH K H' q rows (redT u tops) (redU u tops)->Q (.ref q) H'))
theorem inV2 (L x y:Int):inV (.int L) [.int x,.int y]=decide (L=x\/L=y):=by
 have e:inV (.int L) [.int x,.int y]=(eqV (.int x) (.int L) || (eqV (.int y) (.int L) || false)):=rfl;have f:∀ a b:Int,eqV (.int a) (.int b)=decide (a=b):=λ a b=>by
  first | rfl | (unfold eqV; rfl) | (simp only [eqV]; by_cases h:a=b <;> simp [h])
 rw [e,f,f,Bool.or_false]
 by_cases h1:x=L
 ·rw [zM h1,zM (p:=L=x\/L=y) (Or.inl h1.symm)]; rfl
 ·rw [zQ h1]
  by_cases h2:y=L
  ·rw [zM h2,zM (p:=L=x\/L=y) (Or.inr h2.symm)]; rfl
  ·rw [zQ h2,zQ (p:=L=x\/L=y) ⋯]; rfl
theorem Ug {H:Hp} {Q:VK} {E:XK} {b1 b2:Bool} {a:Addr} {rows:LM} {n B:Nat} (h1:1<=n) (h3:n<=4) (hM:MatB b1 b2 K H a rows) (sq:Sq n rows) (hb:mW B rows) (hB:B<=1000000) (q:∀ H',Same H H'->Q (.int (detM n rows)) H'):sp_8 K n [.ref a] H Q E:=by
 match n,h1,h3,sq,q with
 | m+1,_,h3,sq,q=>exact ⟨b1,b2,a,rows,B,rfl,hM,sq,⋯,hb,hB,q⟩
theorem ok_1a (T:Txt K mg t):FnOk P w K mg base (CX1 P w) 6 t.a_1a t.d_1a pr' (sp_1a K t.a_1g):=by
 have G_15:=@ok_15 P w K mg base t T;have G_10:=@ok_10 P w K mg base t T;refine T.F_1a.okX sc_1a (λ vs H Q E h=>?_) (λ cdv A outer s H vs Q E hr h=>?_)
 ·obtain ⟨b1,b2,b3,a,p,rows,tops,u,B,rfl,_⟩:=h;rfl
 ·obtain ⟨b1,b2,b3,a,p,rows,tops,u,B,rfl,hM,hS,hl1,hl2,hB,hB1,su,hE,hQ⟩:=h;obtain ⟨n,hn3,hn⟩:∃ n:Nat,n<=3/\((rows.length=2\/rows.length=3)->n=rows.length):=by
   by_cases z:rows.length=2\/rows.length=3
   ·exact ⟨rows.length,⋯,λ _=>rfl⟩
   ·exact ⟨0,⋯,λ h=>absurd h z⟩
  have G_8:FnOk P w K mg base CX0 (n+1) t.a_8 t.d_8 pI' (sp_8 K n):=ok_8 T n;refine ⟨_,(oU (nJ (i:=3) sc_1a.nd rfl (Or.inr rfl) (nK mC rfl T.z_len (nofun) (oQ (pq 0) oR)))
   (oU (mH (nW Bt (pq 3) (mZ (oQ oS (oQ oS oR))) rfl)
   (oX (fF rfl fE rfl T.m_1g T.x_1g wE (oQ fC oR)))
   mG)
   (oU (mH (PW.pt (kL (kD (nK (Rl rfl) rfl T.z_any (nofun) (oQ (mE (xs:=["row"]) (fr:=[("axes",3)]) (g:=(oW 0)) (tt:=(tEl (tOp (rI0 λ i j=>.bl (!decide (i=j))) (tCB (jY K) (nQ (tVar 0) tNil)) (tVar 1)))) (nR (sc:=oV s_1a) (N:=N_1a) rfl rfl (nofun)) rfl (mJ (pq 0)) (λ _ _ _ hE1=>(nU (N:=["row","axes"]) (i:=0) hE1 rfl (nofun))) (λ _ _ _ hE1=>(nT (jU jN (nK mC rfl T.z_len (nofun) (oQ (pv 0) oR)) (pv 1) (nS _))))) oR))) (iL (nW jN (nK mC rfl T.z_len (nofun) (oQ (pq 1) oR)) (pq 3) (nS _)))))
   (oX (fF rfl fE rfl T.m_1g T.x_1g wE (oQ fC oR)))
   mG)
   (oU (mH (nW kY (pq 2) oS (nS _))
   (oX (fF rfl fE rfl T.m_1g T.x_1g wE (oQ fC oR)))
   mG)
   (oU (mH (nW Bt (nB G_8 hr.mo rfl T.m_8 T.F_8.kp T.b_8 .nil nC (oQ (pq 0) oR)) (mZ (oQ oS (oQ (eP eQ oS) oR))) rfl)
   (oX (fF rfl fE rfl T.m_1g T.x_1g wE (oQ fC oR)))
   mG)
   (oX (nH (nB G_10 hr.mo rfl T.m_10 T.F_10.kp T.b_10 .nil nC (oQ (pq 0) (oQ (nB G_15 hr.mo rfl T.m_15 T.F_15.kp T.b_15 .nil dA (oQ (pq 1) (oQ (pq 2) oR))) oR)))))))))),?_⟩
  show tSeq _ _ _ [some (.ref a),some (.ref p),some (.int u),none] H;refine st λ N1 e1=>?_;ext;refine gC hM ?_;subst e1;refine st λ N1 e1=>?_;simp only [iO];ext;refine ⟨by show 2<=sizeLine; decide,λ p1 hp1=>?_⟩;have s1:Same H (upd H p1 (.tup [.int 2,.int 3])):=Same.new hp1;refine ⟨p1,_,rfl,.inr (SqT.of oZ),rfl,rfl,_,rfl,?_⟩;generalize upd H p1 (.tup [.int 2,.int 3])=H1 at s1;rw [inV2]
  by_cases hax:rows.length=2\/rows.length=3
  case neg =>
   rw [zQ ⋯];refine iteT ?_;simp only [iO];ext;exact ⟨∅,hE (λ g=>hax g.1) _ s1⟩
  rw [zM ⋯];refine iteF ?_;replace hn:=hn hax;subst hn;subst e1;refine st λ N1 e1=>?_;ext;refine nV λ C eC=>?_;simp only [iSeq];ext;obtain ⟨xs,x1,x2,x3⟩:=(hM.up s1).walk;refine ⟨b1,⟨_,x1⟩,λ a1 ha1=>?_⟩;refine lC (λ j y _=>∃ r,rows[j]?=some r/\y=.bl (!decide (r.length=rows.length))) ha1 x1 ⋯ (λ _ _ _ _ r _=>r) ?_ ?_
  ·intro i x H2 zs ex s2 ez Q' hQ';obtain ⟨pr,rr,rfl,er,hp⟩:=x3 i x ex;subst eC;show tOp _ _ _ [some (.ref pr),some (.int rows.length)] H2 Q';ext;refine lU (hp.up s2) ?_
   try ext
   refine hQ' _ _ (Same.refl _) ⟨rr,er,?_⟩
   by_cases z:rr.length=rows.length
   ·rw [zM z,zM ⋯]
   ·rw [zQ z,zQ ⋯]
  ·intro H2 ys s2 e2 hly hr2;have ey:ys=(rows.map λ r=>!decide (r.length=rows.length)).map V.bl:=by
    rw [xE];exact mS ⋯ hr2
   subst ey;refine ⟨a1,rfl,_,SqL.of e2,?_⟩
   try ext
   have s02:=s1.trans s2
   by_cases hsq:∀ r∈rows,r.length=rows.length
   case neg =>
    have hany:(rows.map λ r=>!decide (r.length=rows.length)).any id=true:=by
     rw [sU];obtain ⟨r,hr⟩:=Classical.not_forall.mp hsq;obtain ⟨hr1,hr2⟩:=Classical.not_imp.mp hr;exact ⟨true,zE.mpr ⟨r,hr1,by rw [zQ hr2]; rfl⟩,rfl⟩
    rw [hany];refine iteT ?_;simp only [iO];ext;exact ⟨∅,hE (λ g=>hsq g.2.1) _ s02⟩
   have hany:(rows.map λ r=>!decide (r.length=rows.length)).any id=false:=by
    rw [List.any_eq_false];intro b hb;obtain ⟨r,hr,rfl⟩:=zE.mp hb;rw [zM (hsq r hr)]
    decide
   rw [hany];refine iteF ?_;refine lU (hS.up s02) ?_
   try ext
   by_cases htl:tops.length=rows.length
   case neg =>
    rw [zQ ⋯];refine iteT ?_;simp only [iO];ext;exact ⟨∅,hE (λ g=>htl g.2.2.1) _ s02⟩
   rw [zM ⋯];refine iteF ?_;subst e1;refine st λ N1 e1=>?_;simp only [iO];ext;refine ite2 (λ z=>⟨∅,hE (λ g=>g.2.2.2.1 (yO z)) _ s02⟩) (λ z=>?_);have hu:u≠0:=λ q=>z (zM q);subst e1;refine st λ N1 e1=>?_;ext;refine Ug ⋯ ⋯ (hM.up s02) ⟨rfl,hsq⟩ hB hB1 λ H3 s3=>?_
   try ext
   refine ⟨by show 2<=sizeLine; decide,λ p2 hp2=>?_⟩;have s4:Same H3 (upd H3 p2 (.tup [.int 1,.int (-1)])):=Same.new hp2;refine ⟨p2,_,rfl,.inr (SqT.of oZ),rfl,rfl,_,rfl,?_⟩;generalize upd H3 p2 (.tup [.int 1,.int (-1)])=H4 at s4;have s04:=(s02.trans s3).trans s4;rw [inV2]
   by_cases hdt:detM rows.length rows=1\/detM rows.length rows=-1
   case neg =>
    rw [zQ hdt];refine iteT ?_;simp only [iO];ext;exact ⟨∅,hE (λ g=>hdt g.2.2.2.2) _ s04⟩
   rw [zM hdt];refine iteF ?_;subst e1;ext;refine ⟨b3,p,tops,u,rfl,hS.up s04,hl2,su,λ z=>?_,λ _ _ sp H5 s5 hP=>⟨b1,b2,a,sp,rows,_,_,rfl,hM.up (s04.trans s5),hP,hl1,λ q H6 s6 hq=>hQ ⟨hax,hsq,htl,hu,hdt⟩ q H6 ((s04.trans s5).trans s6) hq⟩⟩;rcases z with z | z
   ·exact absurd z hu
   ·rw [z] at htl;simp at htl;omega
def sp_19 (K:Frag):Sp:=λ vs H Q _=>E1 λ (d:Nat)=>A3 (vs=[.int d]) ((d=2\/d=3)) (∀ q H',Same H H'->lH K H' q (idM d) (List.replicate d 0) 1->Q (.ref q) H')
theorem Do (ns:LI'):gl 1 ns=1:=Int.eq_one_of_dvd_one (fU 1 ns) (gl_u 1 ns)
theorem Jc {d:Nat} (hd:d=2\/d=3):Dp (idM d) (List.replicate d 0) 1/\mW 1 (idM d):=by
 rcases hd with rfl | rfl
 ·exact ⟨⟨.inl rfl,∅,∅,∅,.inl ∅⟩,by intro r hr x hx; revert r x; decide⟩
 ·exact ⟨⟨.inr rfl,∅,∅,∅,.inl ∅⟩,by intro r hr x hx; revert r x; decide⟩
theorem Uf:kK 1:=jI (B:=1) ∅ ∅
theorem ok_19 (T:Txt K mg t):FnOk P w K mg base CX0 8 t.a_19 t.d_19 ["d"] (sp_19 K):=by
 have G_1a:=@ok_1a P w K mg base t T;have G_i:=@ok_i P w K mg base t T;refine T.F_19.ok sc_19 (by walk_at "v") (λ cdv A outer s H vs Q E hr h=>?_)
 ·obtain ⟨d,rfl,hd,hQ⟩:=h;refine ⟨_,(oX (nH (nB G_1a hr.mo rfl T.m_1a T.F_1a.kp T.b_1a .nil dA (oQ (nB G_i hr.mo rfl T.m_i T.F_i.kp T.b_i .nil nC (oQ (pq 0) oR)) (oQ (oY Pf (kX (oQ oS oR)) (pq 0)) (oQ oS oR)))))),?_⟩;show tRet _ _ [some (.int d)] H;ext;refine ⟨d,rfl,⋯,λ r H1 _ s1 hR=>?_⟩
  try ext
  refine ⟨by show 1<=sizeLine; decide,λ l hl=>?_⟩;have s2:Same H1 (upd H1 l (.lst [.int 0])):=Same.new hl;have el:(upd H1 l (.lst [.int 0])) l=some (.lst [.int 0]):=oZ;generalize upd H1 l (.lst [.int 0])=H2 at s2 el;refine ⟨l,d,_,rfl,rfl,el,⋯,⋯,?_,λ l2 hl2=>?_⟩
  ·rw [zV];show 1*d<=sizeLine;have:3<=sizeLine:=∅
   omega
  have s3:Same H2 (upd H2 l2 (.lst (List.replicate (d:Int).toNat [V.int 0]).flatten)):=Same.new hl2;have e3:(upd H2 l2 (.lst (List.replicate (d:Int).toNat [V.int 0]).flatten)) l2=some (.lst ((List.replicate d (0:Int)).map V.int)):=by
   rw [oZ,zV];rcases hd with rfl | rfl <;> rfl
  generalize upd H2 l2 (.lst (List.replicate (d:Int).toNat [V.int 0]).flatten)=H3 at s3 e3;obtain ⟨g,gb⟩:=Jc hd;have hrs:=Uu (u:=1) ∅ (Do (List.replicate d 0));have e1:redT 1 (List.replicate d 0)=List.replicate d 0:=hrs.1;have e2:redU 1 (List.replicate d 0)=1:=hrs.2;refine ⟨false,false,false,r,l2,idM d,List.replicate d 0,1,1,rfl,((hR.up s2).up s3).b,SqB.lst e3,by simp [idM]; omega,by simp; omega,gb,∅,Uf,λ n=>absurd g n,λ _ q H4 s4 hq=>?_⟩;rw [e1,e2] at hq;exact hQ q H4 ((s1.trans (s2.trans s3)).trans s4) hq
def sp_1d (K:Frag):Sp:=λ vs H Q _=>E4 λ (p:Addr) (ts:LI') (u:Int) (d:Nat)=>A7 (vs=[.ref p]) (mB H p ts u) (ts.length=d) ((d=2\/d=3)) (u≠0) (kK u) (∀ q H',Same H H'->lH K H' q (idM d) (redT u ts) (redU u ts)->Q (.ref q) H')
theorem ok_1d (T:Txt K mg t):FnOk P w K mg base CX0 8 t.a_1d t.d_1d pJ' (sp_1d K):=by
 have G_1a:=@ok_1a P w K mg base t T;have G_i:=@ok_i P w K mg base t T;refine T.F_1d.ok sc_1d (by walk_at "v") (λ cdv A outer s H vs Q E hr h=>?_)
 ·obtain ⟨p,ts,u,d,rfl,hP,hl,hd,hu,su,hQ⟩:=h;refine ⟨_,(oX (nH (nB G_1a hr.mo rfl T.m_1a T.F_1a.kp T.b_1a .nil dA (oQ (nB G_i hr.mo rfl T.m_i T.F_i.kp T.b_i .nil nC (oQ (nK mC rfl T.z_len (nofun) (oQ (oT ix_B (pq 0) oS (λ _ _=>rfl)) oR)) oR)) (oQ (oT ix_B (pq 0) oS (λ _ _=>rfl)) (oQ (oT ix_B (pq 0) oS (λ _ _=>rfl)) oR)))))),?_⟩;show tRet _ _ [some (.ref p)] H;ext;refine gZ hP λ x hx=>lU (b:=true) (SqB.tup hx) ?_
  try ext
  rw [hl];refine ⟨d,rfl,⋯,λ r H1 _ s1 hR=>?_⟩
  try ext
  refine gZ (hP.up s1) λ x2 hx2=>gF (hP.up s1) ?_;obtain ⟨g,gb⟩:=Jc hd;refine ⟨false,false,true,r,x2,idM d,ts,u,1,rfl,hR.b,SqB.tup hx2,by simp [idM]; omega,⋯,gb,∅,su,λ n=>absurd ⟨g.1,g.2.1,by simp [idM,hl],hu,g.2.2.2.2⟩ n,λ _ q H4 s4 hq=>hQ q H4 (s1.trans s4) hq⟩
noncomputable def fY (M:LM) (ts:LI') (u:Int):PyData:=.tuple [matD true true M,kZ true ts,.int u]
theorem Ue {M N:LM} {ts ns:LI'} {u v:Int}:fY M ts u=fY N ns v ↔ (M=N/\ts=ns/\u=v):=by
 unfold fY;simp only [PyData.tuple.injEq,List.cons.injEq,PyData.int.injEq,and_true,Rz,Bj]
theorem Jb (M:LM) (ts:LI') (u:Int):iT 3 (fY M ts u)=true:=by
 show ([matD true true M,kZ true ts,.int u].all (iT 2))=true;simp only [List.all_cons,List.all_nil,Ry true true 0 M,gR true 1 ts,Bool.and_true,Bool.true_and];rfl
theorem Dt.deed {K:Frag} {H:Hp} {p:Addr} {M:LM} {ts:LI'} {u:Int} (h:lH K H p M ts u):Dt K H (.ref p) (fY M ts u):=by
 obtain ⟨pr,pt,h1,h2,h3⟩:=h;exact .tup (SqT.of h1) (.cons (Dt.matB h2) (.cons (Dt.intsB (SqB.tup h3)) (.cons (.int u) .nil)))
abbrev Dd:=LM × List Int × Int
noncomputable def dat (x:Dd):PyData:=fY x.1 x.2.1 x.2.2
theorem aV {x y:Dd}:dat x=dat y ↔ x=y:=by
 obtain ⟨M,ts,u⟩:=x;obtain ⟨N,ns,v⟩:=y;unfold dat;rw [Ue];simp
theorem fZ {n:Nat} {ds:List PyData}:tT (n+1) (.tuple ds)=ds.all (tT n):=rfl
theorem mT (x:Dd):tT 4 (dat x)=true:=by
 obtain ⟨M,ts,u⟩:=x;have hi:∀ (n:Nat) (l:LI'),(l.map PyData.int).all (tT n)=true:=λ n l=>by
  rw [wI];intro d hd;obtain ⟨i,_,rfl⟩:=zE.mp hd;cases n <;> rfl
 show tT 4 (.tuple [.tuple (M.map λ r=>.tuple (r.map PyData.int)),.tuple (ts.map PyData.int),.int u])=true;rw [fZ,yV,yV,yV,fZ,fZ,hi];have:(M.map λ r=>PyData.tuple (r.map PyData.int)).all (tT 2)=true:=by
  rw [wI];intro d hd;obtain ⟨r,_,rfl⟩:=zE.mp hd;rw [fZ];exact hi 1 r
 rw [this];rfl
def DdAt (K:Frag) (H:Hp) (p:Addr) (x:Dd):Prop:=lH K H p x.1 x.2.1 x.2.2
theorem DdAt.up {K:Frag} {H H':Hp} {p:Addr} {x:Dd} (h:DdAt K H p x) (s:Same H H'):DdAt K H' p x:=lH.up h s
theorem DdAt.dt {K:Frag} {H:Hp} {p:Addr} {x:Dd} (h:DdAt K H p x):Dt K H (.ref p) (dat x):=Dt.deed h
noncomputable def nO (x:Dd):Dd:=(x.1,nM x.2.2 x.2.1,x.2.2)
noncomputable def behD (d:Nat) (x s:Dd):Dd:=(mulM d s.1 x.1,redT (s.2.2*x.2.2) (movT s.1 s.2.1 s.2.2 x.2.1 x.2.2),redU (s.2.2*x.2.2) (movT s.1 s.2.1 s.2.2 x.2.1 x.2.2))
noncomputable def nE (d:Nat) (x s:Dd):Dd:=nO (behD d x s)
noncomputable def nP (d:Nat):Dd:=(idM d,List.replicate d 0,1)
abbrev Tb:=List (Dd × List Nat)
noncomputable def nxt (d:Nat) (x:Dd) (w:List Nat) (tb:Tb) (ks:Dd × Nat):Tb:=if nE d x ks.1∈tb.map (·.1) then tb else tb++[(nE d x ks.1,w++[ks.2])]
noncomputable def kQ (d:Nat) (ss:List Dd) (tb:Tb) (i:Nat):Tb:=match tb[i]? with
 | none=>tb
 | some xw=>ss.zipIdx.foldl (nxt d xw.1 xw.2) tb
noncomputable def mO (d:Nat) (ss:List Dd):Nat->Nat->Tb->Tb
 | 0,_,tb=>tb
 | n+1,i,tb=>if i < tb.length then mO d ss n (i+1) (kQ d ss tb i) else tb
theorem Ud (d:Nat) (x:Dd) (w:List Nat) (tb:Tb) (ks:Dd × Nat):∃ r,nxt d x w tb ks=tb++r:=by
 unfold nxt;split
 ·exact ⟨[],by simp⟩
 ·exact ⟨_,rfl⟩
theorem cJ (d:Nat) (x:Dd) (w:List Nat):∀ (l:List (Dd × Nat)) (tb:Tb),∃ r,l.foldl (nxt d x w) tb=tb++r
 | [],tb=>⟨[],by simp⟩
 | k :: l,tb=>by
  obtain ⟨r1,e1⟩:=Ud d x w tb k;obtain ⟨r2,e2⟩:=cJ d x w l (nxt d x w tb k);exact ⟨r1++r2,by rw [wN,e2,e1,yP]⟩
theorem Ja (d:Nat) (ss:List Dd) (tb:Tb) (i:Nat):∃ r,kQ d ss tb i=tb++r:=by
 unfold kQ;split
 ·exact ⟨[],by simp⟩
 ·exact cJ ..
theorem aW (d:Nat) (ss:List Dd):∀ (n i:Nat) (tb:Tb),∃ r,mO d ss n i tb=tb++r
 | 0,i,tb=>⟨[],by simp [mO]⟩
 | n+1,i,tb=>by
  unfold mO;split
  ·obtain ⟨r1,e1⟩:=Ja d ss tb i;obtain ⟨r2,e2⟩:=aW d ss n (i+1) (kQ d ss tb i);exact ⟨r1++r2,by rw [e2,e1,yP]⟩
  ·exact ⟨[],by simp⟩
def lR (d:Nat) (x:Dd):Prop:=Fine d x.1 x.2.1 x.2.2
def TbAt (H:Hp) (tb:Tb) (kvs:List (PyData × V)):Prop:=Paired (λ (x:Dd × List Nat) (kv:PyData × V)=>kv.1=dat x.1/\∃ p,kv.2=.ref p/\H p=some (.lst (x.2.map λ n=>V.int (n:Nat)))) tb kvs
def sp_13 (K:Frag):Sp:=λ vs H Q _=>E8 λ (b:Bool) (d:Nat) (a:Addr) (ps:LA) (ms:List Dd) (most:Nat) (G:Dd->Prop) (N:Nat)=>A14 (vs=[.int d,.ref a,.int most]) ((d=2\/d=3)) (SqB b K H a (ps.map V.ref)) (Paired (DdAt K H) ps ms) (ms.length<=100) ((∀ s∈ms,lR d s)) ((∀ s∈ms,lR d (nO s))) ((∀ x,G x->lR d x)) (G (nP d)) ((∀ x s,G x->s∈ms->G (nE d x (nO s)))) (most<=200) ((mO d (ms.map nO) N 0 [(nP d,[])]).length<=most) ((mO d (ms.map nO) N 0 [(nP d,[])]).length<=N) (∀ w kvs H',Same H H'->H w=none->DTr K H' w kvs->TbAt H' (mO d (ms.map nO) N 0 [(nP d,[])]) kvs->Q (.ref w) H')
def sp_t:Sp:=λ vs H Q _=>E1 λ (n:Nat)=>A4 (vs=[.int n]) (1<=n) (n<=200) (Q .non H)
def sp_r (K:Frag):Sp:=λ vs H Q _=>E5 λ (b:Bool) (d:Nat) (a:Addr) (ps:LA) (ms:List Dd)=>A6 (vs=[.int d,.ref a]) ((d=2\/d=3)) (SqB b K H a (ps.map V.ref)) (Paired (DdAt K H) ps ms) ((∀ s∈ms,s.1.length=d)) (∀ H',Same H H'->Q .non H')
theorem Dm {prog:Program} {w:World}:∀ n,n<=200->fS prog w n:=λ n _=>Tx n
theorem Dk {K:Frag} {H:Hp} {a b:Addr} {kvs:List (PyData × V)} {k:PyData} {v:V} {Q:VK} (g:DTr K H a kvs) (t:tT 4 k=true) (d:Dt K H (.ref b) k) (e:vT kvs k=some v) (q:Q v H):bU K (.ref a) (.ref b) H Q:=⟨a,kvs,b,k,v,rfl,rfl,g,t,d,e,q⟩
theorem Kz {K:Frag} {H:Hp} {a b:Addr} {kvs:List (PyData × V)} {k:PyData} {neg:Bool} {Q:VK} (g:DTr K H a kvs) (t:tT 4 k=true) (d:Dt K H (.ref b) k) (q:Q (.bl (if neg=true then !(vT kvs k).isSome else (vT kvs k).isSome)) H):rInT K neg (.ref b) (.ref a) H Q:=⟨a,kvs,b,k,rfl,rfl,g,t,d,q⟩
theorem jS {α β:Type} {f:α->β} {l:List α} {i:Nat} {y:β} (h:(l.map f)[i]?=some y):∃ x,l[i]?=some x/\y=f x:=by
 rw [zB] at h;cases hx:l[i]? with
 | none=>rw [hx] at h; cases h
 | some x=>rw [hx] at h; exact ⟨x,rfl,(zT h).symm⟩
structure TK (K:Frag) (H H':Hp):Prop where
 k:∀ b xs,H b=some (.tup xs)->H' b=some (.tup xs)
 t:∀ b xs,SqT K H b xs->SqT K H' b xs
theorem TK.trans {K:Frag} {H H1 H2:Hp} (a:TK K H H1) (b:TK K H1 H2):TK K H H2:=⟨λ c xs e=>b.k _ _ (a.k _ _ e),λ c xs e=>b.t _ _ (a.t _ _ e)⟩
theorem TK.off {K:Frag} {H H':Hp} {a:Addr} {o:HO} (e:H a=some o) (hn:∀ xs,o≠.tup xs) (hf:∀ ob u,o≠.frz ob u) (h:∀ c,c≠a->H' c=H c):TK K H H':=by
 have k:∀ b xs,H b=some (.tup xs)->H' b=some (.tup xs):=λ b xs q=>by
  rw [h b λ z=>hn xs (by rw [z,e] at q; exact zT q)]; exact q
 refine ⟨k,λ b xs q=>?_⟩;rcases q with (q | ⟨ob,q⟩) | q
 ·exact .inl (.inl (k _ _ q))
 ·exact .inl (.inr ⟨ob,by rw [h b λ z=>hf _ _ (by rw [z,e] at q; exact zT q)]; exact q⟩)
 ·exact .inr q
theorem MatB.tk {K:Frag} {H H':Hp} {a:Addr} {M:LM} (h:MatB true true K H a M) (s:TK K H H'):MatB true true K H' a M:=let ⟨ps,h1,h2,h3⟩:=h; ⟨ps,s.t _ _ h1,h2,λ i p r e1 e2=>s.t _ _ (h3 i p r e1 e2)⟩
theorem DdAt.tk {K:Frag} {H H':Hp} {p:Addr} {x:Dd} (h:DdAt K H p x) (s:TK K H H'):DdAt K H' p x:=let ⟨pr,pt,h1,h2,h3⟩:=h; ⟨pr,pt,s.k _ _ h1,MatB.tk h2 s,s.k _ _ h3⟩
theorem DTr.tk {K:Frag} {H H':Hp} {a:Addr} {kvs:List (PyData × V)} (h:DTr K H a kvs) (s:TK K H H') (e:H' a=H a):DTr K H' a kvs:=by
 obtain ⟨l,y,xs,ea,n,r⟩:=h;exact ⟨l,y,xs,e.trans ea,n,r.keeps s.t⟩
structure CI (K:Frag) (H0:Hp) (qs:LA) (ss:List Dd) (as af aw:Addr) (tb:Tb) (H:Hp):Prop where
 s:∀ b o,H0 b=some o->H b=some o
 st:H as=some (.lst (qs.map V.ref))/\Paired (DdAt K H) qs ss
 fo:∃ fs,H af=some (.lst (fs.map V.ref))/\Paired (λ p (x:Dd × List Nat)=>DdAt K H p x.1) fs tb
 wo:∃ kvs,DTr K H aw kvs/\Paired (λ (x:Dd × List Nat) (kv:PyData × V)=>kv.1=dat x.1/\∃ p,kv.2=.ref p/\p≠af/\H p=some (.lst (x.2.map λ n=>V.int (n:Nat)))) tb kvs
 n1:H0 as=none
 n2:H0 af=none
 n3:H0 aw=none
 x1:as≠af
theorem CI.up {K:Frag} {H0 H H':Hp} {qs:LA} {ss:List Dd} {as af aw:Addr} {tb:Tb} (h:CI K H0 qs ss as af aw tb H) (s:Same H H'):CI K H0 qs ss as af aw tb H':=by
 obtain ⟨a1,⟨b1,b2⟩,⟨fs,c1,c2⟩,⟨kvs,d1,d2⟩,n1,n2,n3,x1⟩:=h;exact ⟨λ b o e=>s _ _ (a1 _ _ e),⟨s _ _ b1,Paired.mapP b2 λ _ _ z=>z.up s⟩,⟨fs,s _ _ c1,Paired.mapP c2 λ _ _ z=>z.up s⟩,⟨kvs,d1.up s,Paired.mapP d2 λ _ _ z=>let ⟨z1,p,z2,z3,z4⟩:=z; ⟨z1,p,z2,z3,s _ _ z4⟩⟩,n1,n2,n3,x1⟩
theorem Ky {H:Hp} {af:Addr} {x:Dd}:∀ {tb:Tb} {kvs:List (PyData × V)},Paired (λ (x:Dd × List Nat) (kv:PyData × V)=>kv.1=dat x.1/\∃ p,kv.2=.ref p/\p≠af/\H p=some (.lst (x.2.map λ n=>V.int (n:Nat)))) tb kvs ->
  (x ∉ tb.map (·.1)/\vT kvs (dat x)=none)\/∃ w p,(x,w)∈tb/\vT kvs (dat x)=some (.ref p)/\p≠af/\H p=some (.lst (w.map λ n=>V.int (n:Nat))):=by
 intro tb kvs h
 induction h with
 | nil=>exact .inl ⟨by simp,rfl⟩
 | @cons y kv tb kvs hy _ ih =>
  obtain ⟨e1,p,e2,e3,e4⟩:=hy
  by_cases z:y.1=x
  ·refine .inr ⟨y.2,p,by rw [← z]; exact .head _,?_,e3,e4⟩;rw [dO (by rw [e1,z]),e2]
  ·have ne:¬ kv.1=dat x:=λ q=>z (aV.mp (e1.symm.trans q));rw [fI ne];rcases ih with ⟨i1,i2⟩ | ⟨w,p,i1,i2⟩
   ·exact .inl ⟨by rw [zG,zL,not_or]; exact ⟨λ q=>z q.symm,i1⟩,i2⟩
   ·exact .inr ⟨w,p,.tail _ i1,i2⟩
theorem Kx {d:Nat} {x:Dd} {w:List Nat} {tb:Tb} {ks:Dd × Nat} (h:(tb.map (·.1)).Nodup):((nxt d x w tb ks).map (·.1)).Nodup:=by
 unfold nxt;split
 ·exact h
 ·next q =>
  rw [xD,sF];refine ⟨h,by simp,λ y hy z hz=>?_⟩;simp only [List.map_cons,List.map_nil,List.mem_singleton] at hz;rw [hz];exact λ e=>q (e ▸ hy)
theorem Kw {d:Nat} {x:Dd} {w:List Nat}:∀ (l:List (Dd × Nat)) (tb:Tb),(tb.map (·.1)).Nodup->((l.foldl (nxt d x w) tb).map (·.1)).Nodup
 | [],_,h=>h
 | k :: l,tb,h=>Kw l _ (Kx h)
theorem Kv {d:Nat} {x:Dd} {w:List Nat} {tb:Tb} {ks:Dd × Nat} {G:Dd->Prop} (h:∀ y∈tb,G y.1) (hs:G (nE d x ks.1)):∀ y∈nxt d x w tb ks,G y.1:=by
 unfold nxt;split
 ·exact h
 ·intro y hy;rcases xB.mp hy with hy | hy
  ·exact h y hy
  ·rw [yF.mp hy]; exact hs
theorem Uc {tb:Tb} (h:(tb.map (·.1)).Nodup) {i:Nat} {x:Dd} {w w':List Nat} (e:tb[i]?=some (x,w)) (m:(x,w')∈tb):w=w':=by
 obtain ⟨j,hj⟩:=xS m;have e1:(tb.map (·.1))[i]?=some x:=by rw [zB,e]; rfl
 have e2:(tb.map (·.1))[j]?=some x:=by rw [zB,hj]; rfl
 have hi:i < (tb.map (·.1)).length:=(zqa e1).1;have:i=j:=(List.getElem?_inj hi h).mp (e1.trans e2.symm);subst this;rw [e] at hj;cases hj;rfl
theorem Ub {d:Nat} {ss:List Dd} {n i:Nat} {tb:Tb} (h:tb.length<=i):mO d ss n i tb=tb:=by
 cases n with
 | zero=>rfl
 | succ n=>unfold mO; rw [if_neg ⋯]
theorem Ua {d:Nat} {ss:List Dd} {n i:Nat} {tb:Tb} (h:i < tb.length) (hn:0 < n):mO d ss n i tb=mO d ss (n - 1) (i+1) (kQ d ss tb i):=by
 obtain ⟨m,rfl⟩:∃ m,n=m+1:=⟨n - 1,⋯⟩;show (if i < tb.length then _ else _)=_;rw [if_pos h];rfl
theorem Vz {d:Nat} {ss:List Dd} {tb:Tb} {i:Nat} {x:Dd} {w:List Nat} (e:tb[i]?=some (x,w)):kQ d ss tb i=ss.zipIdx.foldl (nxt d x w) tb:=by
 unfold kQ;rw [e]
noncomputable def part (d:Nat) (x:Dd) (w:List Nat) (ss:List Dd) (tb:Tb) (i:Nat):Tb:=(ss.zipIdx.take i).foldl (nxt d x w) tb
theorem aX {d:Nat} {x s:Dd} {w:List Nat} {ss:List Dd} {tb:Tb} {i:Nat} (e:ss[i]?=some s):part d x w ss tb (i+1)=nxt d x w (part d x w ss tb i) (s,i):=by
 unfold part;rw [sE,rT,e,uL];simp
theorem Vy {d:Nat} {x:Dd} {w:List Nat} {ss:List Dd} {tb:Tb}:part d x w ss tb ss.length=ss.zipIdx.foldl (nxt d x w) tb:=by
 unfold part;rw [wP (by simp)]
theorem Vx {d:Nat} {x:Dd} {w:List Nat} {ss:List Dd} {tb:Tb} (i:Nat):∃ r,part d x w ss tb i=tb++r:=cJ ..
theorem Ku {d:Nat} {x:Dd} {w:List Nat} {ss:List Dd} {tb:Tb} (i:Nat):(part d x w ss tb i).length<=(ss.zipIdx.foldl (nxt d x w) tb).length:=by
 have e:ss.zipIdx.foldl (nxt d x w) tb=(ss.zipIdx.drop i).foldl (nxt d x w) (part d x w ss tb i):=by
  unfold part;rw [← uL,xX]
 obtain ⟨r,er⟩:=cJ d x w (ss.zipIdx.drop i) (part d x w ss tb i);rw [e,er,yB];omega
def ND (tb:Tb):Prop:=(tb.map (·.1)).Nodup/\∀ y∈tb,y.2.length < tb.length
theorem Vw {d:Nat} {x:Dd} {w:List Nat} {tb:Tb} {ks:Dd × Nat} (h:ND tb) (hm:(x,w)∈tb):ND (nxt d x w tb ks):=by
 refine ⟨Kx h.1,?_⟩;have hw:=h.2 _ hm;unfold nxt;split
 ·exact h.2
 ·intro y hy;rw [yB];rcases xB.mp hy with hy | hy
  ·have:=h.2 y hy;simp only [List.length_cons,List.length_nil];omega
  ·rw [yF.mp hy];simp only [List.length_append,List.length_cons,List.length_nil];have hw':w.length < tb.length:=hw;omega
theorem ok_t (T:Txt K mg t):FnOk P w K mg base CX0 2 t.a_t t.d_t ["most"] sp_t:=by
 refine T.F_t.ok sc_t (by walk_at "v") (λ cdv A outer s H vs Q E hr h=>?_)
 ·obtain ⟨n,rfl,h1,h2,hQ⟩:=h;refine ⟨_,(oX (mH (PW.pt (kL (nW eV (pq 0) oS (nS _)) (iL (nW cW (pq 0) (Rr (v:=(.int 200)) rfl T.g_MOST_MEMBERS) (nS _)))))
   (oX cT)
   mG)),?_⟩
  show tIfS _ _ _ _ [some (.int n)] H;ext;rw [zQ (show ¬ (n:Int) < 1 by omega),zQ (show ¬ (200:Int) < n by omega)];refine iteF (iteF ?_);exact hQ
theorem kC {α β:Type} {F:α->β->Prop} {xs:List α} {ys:List β} (h:Paired F xs ys):∀ {i:Nat} {x:α},xs[i]?=some x->∃ y,ys[i]?=some y/\F x y:=by
 induction h with
 | nil=>intro i x e; simp at e
 | cons h1 _ ih =>
  intro i x e;cases i with
  | zero=>cases e; exact ⟨_,rfl,h1⟩
  | succ i=>exact ih (by simpa using e)
theorem ok_r (T:Txt K mg t):FnOk P w K mg base CX0 2 t.a_r t.d_r pD' (sp_r K):=by
 refine T.F_r.ok sc_r (by walk_at "v") (λ cdv A outer s H vs Q E hr h=>?_)
 ·obtain ⟨b,d,a,ps,ms,rfl,hd,hS,hp,hl,hQ⟩:=h;refine ⟨_,(oU (mH (nW Bt (pq 0) (mZ (oQ oS (oQ oS oR))) rfl)
   (oX cT)
   mG)
   (oX (kG yR rfl (mJ (pq 1)) (mD (i:=2) sc_r.nd rfl (Or.inl rfl))
   (oX (mH (nW jN (nK mC rfl T.z_len (nofun) (oQ (oT ix_B (pq 2) oS (λ _ _=>rfl)) oR)) (pq 0) (nS _))
   (oX cT)
   mG))))),?_⟩
  show tSeq _ _ _ [some (.int d),some (.ref a),none] H;refine st λ N1 e1=>?_;ext;refine ⟨by show 2<=sizeLine; decide,λ p1 hp1=>?_⟩;have s1:Same H (upd H p1 (.tup [.int 2,.int 3])):=Same.new hp1;refine ⟨p1,_,rfl,.inr (SqT.of oZ),rfl,rfl,_,rfl,?_⟩;generalize upd H p1 (.tup [.int 2,.int 3])=H1 at s1;rw [inV2,zM ⋯];refine iteF ?_;subst e1;refine kI λ B eB=>?_;simp only [iSeq];ext;refine ⟨b,⟨_,hS.up s1⟩,?_⟩;refine iB (g:=oW 2) (tb:=B) (nx:=λ _ H'=>Q .non H') (rt:=Q) (λ i σ H2=>∃ v,σ=[some (.int d),some (.ref a),v]/\Same H H2) ⟨_,rfl,s1⟩ (λ i σ H2 _ ⟨_,_,s2⟩=>hS.up s2) ?_ ?_
  ·rintro i x σ H2 ex ⟨v,rfl,s2⟩;rw [zB] at ex;cases hp':ps[i]? with
   | none=>rw [hp'] at ex; cases ex
   | some q =>
    rw [hp'] at ex;cases ex;obtain ⟨m,em,hm⟩:=kC hp hp';subst eB;show tIfS _ _ _ _ [some (.int d),some (.ref a),some (.ref q)] H2;ext;refine Je (DdAt.up hm s2) λ x hx=>gC hx ?_
    try ext
    rw [hl m (zqb em),zM rfl];refine iteF ?_;exact s2
  ·rintro σ H2 ⟨v,rfl,s2⟩;exact hQ H2 s2
noncomputable def offH (a:Addr) (H:Hp):Hp:=λ b=>if b=a then none else H b
theorem Vv {a:Addr} {H:Hp}:Same (offH a H) H:=λ b o e=>by
 unfold offH at e
 by_cases z:b=a
 ·rw [if_pos z] at e; cases e
 ·rw [if_neg z] at e; exact e
theorem Vu {a:Addr} {H1 H2:Hp} (s:kO a H1 H2):Same (offH a H1) (offH a H2):=λ b o e=>by
 unfold offH at e ⊢
 by_cases z:b=a
 ·rw [if_pos z] at e; cases e
 ·rw [if_neg z] at e ⊢; exact s _ _ z e
theorem Vt {K:Frag} {a:Addr} {H:Hp} {xs:List V} (e:H a=some (.lst xs)):TK K H (offH a H):=TK.off e (λ _ z=>by cases z) (λ _ _ z=>by cases z) λ c hc=>by unfold offH; rw [if_neg hc]
def DdR (K:Frag) (a:Addr) (ms:List Dd) (j:Nat) (y:V) (H:Hp):Prop:=∃ q m,y=.ref q/\ms[j]?=some m/\DdAt K (offH a H) q m
theorem DdR.mono {K:Frag} {a:Addr} {ms:List Dd} (i:Nat) (y:V) (H1 H2:Hp) (h:DdR K a ms i y H1) (s:kO a H1 H2):DdR K a ms i y H2:=let ⟨q,m,e,em,d⟩:=h; ⟨q,m,e,em,d.up (Vu s)⟩
theorem Kt {K:Frag} {a:Addr} {H:Hp}:∀ {ms:List Dd} {ys:List V},ys.length=ms.length->(∀ j y,ys[j]?=some y->DdR K a ms j y H)->∃ qs:LA,ys=qs.map V.ref/\Paired (DdAt K H) qs ms
 | [],[],_,_=>⟨[],rfl,.nil⟩
 | m :: ms,y :: ys,hl,h=>by
  obtain ⟨q,m',e,em,d⟩:=h 0 y rfl;cases em;obtain ⟨qs,e2,p2⟩:=Kt (K:=K) (a:=a) (H:=H) (ms:=ms) (ys:=ys) (by simpa using hl) λ j y' ej=>by
   obtain ⟨q,m',e,em,d⟩:=h (j+1) y' (by simpa using ej);exact ⟨q,m',e,by simpa using em,d⟩
  exact ⟨q :: qs,by rw [e,e2]; rfl,.cons (d.up Vv) p2⟩
theorem cK {H:Hp} {p:Addr} {x:V} {xs:List V} {i:Nat} {I:Int} {Q:VK} (e:H p=some (.lst xs)) (ei:xs[i]?=some x) (hi:I=i) (q:Q x H):rIxB K (.ref p) (.int I) H Q:=⟨false,p,_,_,_,rfl,rfl,SqB.lst e,mY ei hi,q⟩
theorem tyL {H:Hp} {p:Addr} {xs:List V} (e:H p=some (.lst xs)):tyV K "list" (.ref p) H:=.inl ⟨rfl,xs,.inl (.inl e)⟩
def CPv (K:Frag) (H0:Hp) (G:Dd->Prop) (qs:LA) (ss:List Dd) (a as af aw:Addr) (d i most:Nat) (f:Nat->Tb) (k:Nat) (σ:St) (H:Hp):Prop :=
 ∃ v7 v8 v9,σ=[some (.int d),some (.ref a),some (.int most),some (.ref as),some (.ref af),some (.ref aw),some (.int i),v7,v8,v9]/\CI K H0 qs ss as af aw (f k) H/\ND (f k)/\(∀ y∈f k,G y.1)
theorem ok_13 (T:Txt K mg t):FnOk P w K mg base CX0 10 t.a_13 t.d_13 pv' (sp_13 K):=by
 have G_1b:=@ok_1b P w K mg base t T;have G_19:=@ok_19 P w K mg base t T;have G_12:=@ok_12 P w K mg base t T;refine T.F_13.ok sc_13 (by walk_at "v") (λ cdv A outer s H vs Q E hr h=>?_)
 ·have hu:=hr.units;obtain ⟨b,d,a,ps,ms,most,G,N,rfl,hd,hS,hp,hm,hf1,hf2,hG,hG0,hGs,h200,hlen,hN,hQ⟩:=h;refine ⟨_,(oU (jX (i:=3) (xs:=["maker"]) (fr:=[]) (g:=(oW 0)) (tt:=(tEl (jF (sp_1b K) [] E0 (nQ (tVar 0) tNil)))) (nR (sc:=oV s_13) (N:=N_13) rfl rfl (nofun)) rfl sc_13.nd rfl rfl (mJ (pq 1)) (λ _ _ _ hE1=>(nU (N:=["maker"]) (i:=0) hE1 rfl (nofun))) (λ _ _ _ hE1=>(nT (nB G_1b hr.mo rfl T.m_1b T.F_1b.kp T.b_1b .nil nC (oQ (pv 0) oR)))))
   (oU (nJ (i:=4) sc_13.nd rfl (Or.inl rfl) (kX (oQ (nB G_19 hr.mo rfl T.m_19 T.F_19.kp T.b_19 .nil nC (oQ (pq 0) oR)) oR)))
   (oU (nJ (i:=5) sc_13.nd rfl (Or.inr rfl) (Rb hu (oT ix_B (pq 4) oS (λ _ _=>rfl)) (kX oR)))
   (oU (nJ (i:=6) sc_13.nd rfl (Or.inl rfl) oS)
   (oU (Ae yR (nW eV (pq 6) (nK mC rfl T.z_len (nofun) (oQ (pq 4) oR)) (nS _))
   (oU (kG yR rfl (dF rfl T.z_enumerate (oQ (pq 3) oR)) (kF rfl (mI (mD (i:=7) sc_13.nd rfl (Or.inl rfl)) (mI (mD (i:=8) sc_13.nd rfl (Or.inl rfl)) kE)))
   (oU (nJ (i:=9) sc_13.nd rfl (Or.inl rfl) (nB G_1b hr.mo rfl T.m_1b T.F_1b.kp T.b_1b .nil nC (oQ (nB G_12 hr.mo rfl T.m_12 T.F_12.kp T.b_12 .nil nC (oQ (oT ix_B (pq 4) (pq 6) (λ _ _=>rfl)) (oQ (pq 8) oR))) oR)))
   (oU (mH (nW (Hc hu) (pq 9) (pq 5) rfl)
   (oU (iN (oY Gm (oT (ix_T hu) (pq 5) (oT ix_B (pq 4) (pq 6) (λ _ _=>rfl)) (λ _ _=>rfl)) (kX (oQ (pq 7) oR))) (cU (pq 5) (pq 9) (Hb hu)))
   (oX (iM (eY wC vE vD fD (pq 4) (oQ (pq 9) oR)))))
   mG)
   (oX (mH (nW cW (nK mC rfl T.z_len (nofun) (oQ (pq 4) oR)) (pq 2) (nS _))
   (oX cT)
   mG)))))
   (oX (Fo (i:=6) sc_13.nd rfl (Or.inl rfl) oS Fn))))
   (oX (nH (pq 5)))))))),?_⟩
  show tSeq _ _ _ [some (.int d),some (.ref a),some (.int most),none,none,none,none,none,none,none] H;have hpl:ps.length=ms.length:=mV hp;refine st λ N1 e1=>?_;ext;refine nV λ B eB=>?_;simp only [iSeq];ext;refine ⟨b,⟨_,hS⟩,λ as has=>?_⟩;refine lC (DdR K as (ms.map nO)) has hS (by rw [zqe]; omega) DdR.mono ?_ ?_
  ·intro i x H1 zs ex s1 ez Q' hQ';obtain ⟨q,hp',rfl⟩:=jS ex;obtain ⟨m,em,hdm⟩:=kC hp hp';have fm:=hf1 m (zqb em);subst eB;show jF _ _ _ _ [some (.ref q)] H1 Q';ext;refine ⟨q,m.1,m.2.1,m.2.2,rfl,DdAt.up hdm s1,by rw [fm.sq.1]; omega,by rw [fm.len]; omega,fm.pos,λ r H2 s2 hr2=>?_⟩;refine hQ' _ _ s2 ⟨r,nO m,rfl,by rw [zB,em]; rfl,?_⟩;exact DdAt.tk (show DdAt K H2 r (nO m) from hr2) (Vt (s2 _ _ ez))
  ·intro H1 ys s1 e1' hl1 hr1;obtain ⟨qs,rfl,hqs⟩:=Kt (by rw [hl1,zqe,zqe]; omega) hr1;subst e1;refine st λ N1 e1=>?_;ext;refine ⟨d,rfl,hd,λ q0 H2 s2 hq0=>⟨by show 1<=sizeLine; decide,λ af haf=>?_⟩⟩;have s3:Same H2 (upd H2 af (.lst [.ref q0])):=Same.new haf;have ef:(upd H2 af (.lst [.ref q0])) af=some (.lst [.ref q0]):=oZ;generalize upd H2 af (.lst [.ref q0])=H3 at *
   have hq3:DdAt K H3 q0 (nP d):=DdAt.up hq0 s3;have es3:=s3 _ _ (s2 _ _ e1');have hqs3:=Paired.mapP hqs λ _ _ z=>z.up (s2.trans s3);have s03:=(s1.trans s2).trans s3;have hfa:H af=none:=by
    cases z:H af with
    | none=>rfl
    | some o=>rw [s2 _ _ (s1 _ _ z)] at haf; cases haf
   have xsf:as≠af:=λ z=>by rw [z] at e1'; rw [s2 _ _ e1'] at haf; cases haf
   subst e1;refine st λ N1 e1=>?_;simp only [Ix];ext;intro aw haw;have s4:Same H3 (upd H3 aw (lE aw [])):=Same.new haw;have ew:(upd H3 aw (lE aw [])) aw=some (lE aw []):=oZ;have hwa:H aw=none:=by
    cases z:H aw with
    | none=>rfl
    | some o=>rw [s03 _ _ z] at haw; cases haw
   generalize upd H3 aw (lE aw [])=H4 at *;ext;refine cK (i:=0) (s4 _ _ ef) rfl rfl ?_;refine ⟨yY _,λ p0 hp0=>?_⟩;have s5:Same H4 (upd H4 p0 (.lst [])):=Same.new hp0;have ep:(upd H4 p0 (.lst [])) p0=some (.lst []):=oZ;have xp:p0≠af:=λ z=>by rw [z,s4 _ _ ef] at hp0; cases hp0
   have xw:p0≠aw:=λ z=>by rw [z,ew] at hp0; cases hp0
   generalize upd H4 p0 (.lst [])=H5 at *;refine ⟨q0,rfl,dat (nP d),mT _,(DdAt.up hq3 (s4.trans s5)).dt,s5 _ _ ew,λ H6 h6 hD=>?_⟩;have xaw:∀ b o,H b=some o->b≠aw:=λ b o e z=>by rw [z,hwa] at e; cases e
   have tk6:TK K H5 H6:=TK.off (s5 _ _ ew) (λ _ z=>by cases z) (λ _ _ z=>by cases z) h6;have asw:as≠aw:=λ z=>by rw [z] at es3; rw [es3] at haw; cases haw
   have afw:af≠aw:=λ z=>by rw [z] at ef; rw [ef] at haw; cases haw
   have ci:CI K H qs (ms.map nO) as af aw [(nP d,[])] H6:=⟨λ b o e=>by rw [h6 b (xaw b o e)]; exact s5 _ _ (s4 _ _ (s03 _ _ e)),⟨by rw [h6 _ asw]; exact s5 _ _ (s4 _ _ es3),Paired.mapP hqs3 λ _ _ z=>DdAt.tk (z.up (s4.trans s5)) tk6⟩,
    ⟨[q0],by rw [h6 _ afw]; exact s5 _ _ (s4 _ _ ef),.cons (DdAt.tk (DdAt.up hq3 (s4.trans s5)) tk6) .nil⟩,⟨_,hD,.cons ⟨rfl,p0,rfl,xp,by rw [h6 _ xw]; exact ep⟩ .nil⟩,has,hfa,hwa,xsf⟩
   clear hD tk6 ep xp xw hp0 s5 ew s4 haw hqs3 es3 hq3 ef s3 haf hq0 s2 hqs hr1 hl1 e1' s1 s03 afw asw xaw h6;subst e1;refine st λ N1 e1=>?_;ext;subst e1;refine st λ N1 e1=>Ga λ B eB=>?_;refine ⟨λ m σ H'=>∃ (i:Nat) (tb:Tb) (v7 v8 v9:Option V),σ=[some (.int d),some (.ref a),some (.int most),some (.ref as),some (.ref af),some (.ref aw),some (.int i),v7,v8,v9]/\CI K H qs (ms.map nO) as af aw tb H'/\mO d (ms.map nO) (N - i) i tb=mO d (ms.map nO) N 0 [(nP d,[])]/\ND tb/\(∀ y∈tb,G y.1)/\m=N - i,
    ⟨N,0,_,none,none,none,rfl,ci,rfl,⟨by simp,λ y hy=>by rw [List.mem_singleton.mp hy]; exact Nat.zero_lt_one⟩,λ y hy=>by rw [yF.mp hy]; exact hG0,rfl⟩,?_⟩
   clear ci;rintro m σ H7 ⟨i,tb,v7,v8,v9,rfl,ci,hc,nd,gd,rfl⟩;ext;obtain ⟨fs,f1,f2⟩:=ci.fo;have fl:fs.length=tb.length:=mV f2;refine ⟨false,af,_,rfl,SqB.lst f1,?_⟩
   try ext
   rw [zqe,fl]
   by_cases hi:i < tb.length
   case neg =>
    rw [zQ ⋯];refine iteF ?_;subst e1;ext;rw [Ub ⋯] at hc;obtain ⟨kvs,d1,d2⟩:=ci.wo;refine hQ aw kvs H7 ci.s ci.n3 d1 ?_;rw [← hc];exact Paired.mapP d2 λ _ _ z=>let ⟨z1,p,z2,_,z4⟩:=z; ⟨z1,p,z2,z4⟩
   rw [zM (show (i:Int) < tb.length by omega)];obtain ⟨⟨x,wd⟩,ex⟩:∃ xw,tb[i]?=some xw:=⟨_,zqd hi⟩;have preF:=aW d (ms.map nO) (N - i) i tb;have hNi:0 < N - i:=by
    obtain ⟨r,er⟩:=preF;rw [hc] at er;rw [er,yB] at hN;omega
   rw [Ua hi hNi,Vz ex] at hc;have leF:((ms.map nO).zipIdx.foldl (nxt d x wd) tb).length<=most:=by
    obtain ⟨r,er⟩:=aW d (ms.map nO) (N - i - 1) (i+1) ((ms.map nO).zipIdx.foldl (nxt d x wd) tb);rw [hc] at er;rw [er,yB] at hlen;omega
   refine iteT ⟨λ σ' H'=>∃ (tb':Tb) (v7 v8 v9:Option V),σ'=[some (.int d),some (.ref a),some (.int most),some (.ref as),some (.ref af),some (.ref aw),some (.int (i+1:Nat)),v7,v8,v9]/\CI K H qs (ms.map nO) as af aw tb' H'/\mO d (ms.map nO) (N - (i+1)) (i+1) tb'=mO d (ms.map nO) N 0 [(nP d,[])]/\ND tb'/\(∀ y∈tb',G y.1),?_,?_⟩
   ·rintro σ' H' ⟨tb',v7,v8,v9,rfl,k1,k2,k3,k4⟩;exact ⟨N - (i+1),⋯,i+1,tb',v7,v8,v9,rfl,k1,k2,k3,k4,rfl⟩
   subst eB;refine st λ N2 e2=>kI λ B eB=>?_;simp only [fH];ext;refine ⟨false,⟨_,SqB.lst ci.st.1⟩,?_⟩;refine Bh (g:=gTup K 2 (mL (oW 7) (mL (oW 8) gNil))) (tb:=B) (CPv K H G qs (ms.map nO) a as af aw d i most (part d x wd (ms.map nO) tb))
    ⟨_,_,_,rfl,ci,nd,gd⟩ (λ k σ H' _ ⟨_,_,_,_,c,_⟩=>SqB.lst c.st.1) ?_ ?_
   ·rintro k y p σ H8 ey ⟨v7,v8,v9,rfl,c8,nd8,gd8⟩ hp8;obtain ⟨q,hq',rfl⟩:=jS ey;obtain ⟨sd,esd,_⟩:=kC c8.st.2 hq';have sp:=Same.new (o:=.tup [.int (k:Int),.ref q]) hp8;refine ⟨p,[.int k,.ref q],rfl,SqT.of oZ,rfl,_,[.ref q],rfl,_,[],rfl,rfl,?_⟩;have c9:=c8.up sp;generalize upd H8 p (.tup [.int (k:Int),.ref q])=H9 at *
    clear c8;obtain ⟨r0,er0⟩:=Vx (d:=d) (x:=x) (w:=wd) (ss:=ms.map nO) (tb:=tb) k;have exk:(part d x wd (ms.map nO) tb k)[i]?=some (x,wd):=by rw [er0,yK hi]; exact ex
    have lek:=Ku (d:=d) (x:=x) (w:=wd) (ss:=ms.map nO) (tb:=tb) k;have lek1:=Ku (d:=d) (x:=x) (w:=wd) (ss:=ms.map nO) (tb:=tb) (k+1);have hnx:∀ v7 v8 v9 H',CI K H qs (ms.map nO) as af aw (nxt d x wd (part d x wd (ms.map nO) tb k) (sd,k)) H'->G (nE d x sd)->CPv K H G qs (ms.map nO) a as af aw d i most (part d x wd (ms.map nO) tb) (k+1) [some (.int d),some (.ref a),some (.int most),some (.ref as),some (.ref af),some (.ref aw),some (.int i),v7,v8,v9] H':=λ v7 v8 v9 H' c gs=>⟨v7,v8,v9,rfl,by rw [aX esd]; exact c,by rw [aX esd]; exact Vw nd8 (zqb exk),by rw [aX esd]; exact Kv gd8 gs⟩;rw [aX esd] at lek1;generalize CPv K H G qs (ms.map nO) a as af aw d i most (part d x wd (ms.map nO) tb) (k+1)=NX at *
    generalize part d x wd (ms.map nO) tb k=tk at *;obtain ⟨md,hmd,emd⟩:∃ m∈ms,nO m=sd:=by
     have:=zqb esd;obtain ⟨m,hm1,hm2⟩:=zE.mp this;exact ⟨m,hm1,hm2⟩
    have gx:G x:=gd8 _ (zqb exk);have gs:G (nE d x sd):=by rw [← emd]; exact hGs x md gx hmd
    have fx:=hG x gx;have fs':lR d sd:=by rw [← emd]; exact hf2 md hmd
    have fst:=hG _ gs;subst eB;show tSeq _ _ _ [some (.int d),some (.ref a),some (.int most),some (.ref as),some (.ref af),some (.ref aw),some (.int i),some (.int k),some (.ref q),v9] H9;refine st λ N3 e3=>?_;ext;obtain ⟨fs2,g1,g2⟩:=c9.fo;obtain ⟨fp,efp⟩:∃ fp,fs2[i]?=some fp:=⟨_,zqd (by rw [mV g2]; exact (zqa exk).1)⟩;obtain ⟨xw',exw',hfp⟩:=kC g2 efp;rw [exk] at exw';cases exw';obtain ⟨sd',esd',hqd⟩:=kC c9.st.2 hq';rw [esd] at esd';cases esd';refine cK (i:=i) g1 (by rw [zB,efp]; rfl) rfl ?_;refine ⟨fp,q,x.1,sd.1,x.2.1,sd.2.1,x.2.2,sd.2.2,d,rfl,lH.s hfp,lH.s hqd,fx,fs',⋯,⋯,λ r1 H10 s10 hr1=>?_⟩;have hr1':DdAt K H10 r1 (behD d x sd):=hr1;refine ⟨r1,_,_,_,rfl,hr1',?_,?_,fst.pos,λ r2 H11 s11 hr2=>?_⟩
    ·have:=fst.sq.1;show (mulM d sd.1 x.1).length<=100;have:(mulM d sd.1 x.1).length=d:=this;omega
    ·have:=fst.len;have e:(nM (behD d x sd).2.2 (behD d x sd).2.1).length=(behD d x sd).2.1.length:=by unfold nM; simp
     have:(nM (behD d x sd).2.2 (behD d x sd).2.1).length=d:=this;omega
    have hr2':DdAt K H11 r2 (nE d x sd):=hr2;have c11:=c9.up (s10.trans s11);subst e3;show tSeq _ _ _ [some (.int d),some (.ref a),some (.int most),some (.ref as),some (.ref af),some (.ref aw),some (.int i),some (.int k),some (.ref q),some (.ref r2)] H11;refine st λ N4 e4=>?_;have key:∀ H',CI K H qs (ms.map nO) as af aw (nxt d x wd tk (sd,k)) H'->N4 [some (.int d),some (.ref a),some (.int most),some (.ref as),some (.ref af),some (.ref aw),some (.int i),some (.int k),some (.ref q),some (.ref r2)] H':=by
     intro H' c';subst e4;ext;obtain ⟨fs3,g3,g4⟩:=c'.fo;refine ⟨false,af,_,rfl,SqB.lst g3,?_⟩
     try ext
     rw [zqe,mV g4,zQ ⋯];refine iteF ?_;exact hnx _ _ _ H' c' gs
    ext;obtain ⟨kvs,d1,d2⟩:=c11.wo;refine Kz d1 (mT _) hr2'.dt ?_;rcases Ky (x:=nE d x sd) d2 with ⟨z1,z2⟩ | ⟨wd',pw,z1,z2,z3,z4⟩
    case inr =>
     rw [z2]
     try ext
     refine key H11 ?_;have en:nxt d x wd tk (sd,k)=tk:=if_pos (zE.mpr ⟨_,z1,rfl⟩);rw [en];exact c11
    rw [z2]
    try ext
    rw [if_pos (by rfl)];obtain ⟨fs4,g5,g6⟩:=c11.fo;obtain ⟨fq,efq⟩:∃ fq,fs4[i]?=some fq:=⟨_,zqd (by rw [mV g6]; exact (zqa exk).1)⟩;obtain ⟨xw2,exw2,hfq⟩:=kC g6 efq;rw [exk] at exw2;cases exw2;refine cK (i:=i) g5 (by rw [zB,efq]; rfl) rfl ?_;rcases Ky (x:=x) d2 with ⟨y1,_⟩ | ⟨wd',pw,y1,y2,y3,y4⟩
    ·exact absurd (zE.mpr ⟨_,zqb exk,rfl⟩) y1
    have ewd:=Uc nd8.1 exk y1;subst ewd;have hwl:wd.length < tk.length:=nd8.2 _ (zqb exk);have klen:tk.length=kvs.length:=mV d2;have hsz:1000<=sizeLine:=∅
    refine Dk d1 (mT _) (DdAt.dt hfq) y2 ?_;refine ⟨by show 1<=sizeLine; decide,λ p1 hp1=>?_⟩;have s12:Same H11 (upd H11 p1 (.lst [.int k])):=Same.new hp1;have ep1:(upd H11 p1 (.lst [.int k])) p1=some (.lst [.int k]):=oZ;generalize upd H11 p1 (.lst [.int k])=H12 at *
    refine ⟨pw,p1,_,_,rfl,rfl,s12 _ _ y4,ep1,by rw [zqe]; show wd.length+1<=sizeLine; omega,λ p2 hp2=>?_⟩;have s13:Same H12 (upd H12 p2 (.lst ((wd.map λ n=>V.int (n:Nat))++[.int k]))):=Same.new hp2;have ep2:(upd H12 p2 (.lst ((wd.map λ n=>V.int (n:Nat))++[.int k]))) p2=some (.lst ((wd.map λ n=>V.int (n:Nat))++[.int k])):=oZ;have c13:=c11.up (s12.trans s13);have hp2f:p2≠af:=λ z=>by rw [z,s12 _ _ g5] at hp2; cases hp2
    generalize upd H12 p2 (.lst ((wd.map λ n=>V.int (n:Nat))++[.int k]))=H13 at *;have t13:=s12.trans s13;have d13:=d1.up t13;have d213:=Paired.mapP d2 λ _ _ z=>(let ⟨z1,p,z2,z3,z4⟩:=z; ⟨z1,p,z2,z3,t13 _ _ z4⟩:_/\∃ p,_/\p≠af/\H13 p=_);have r13:=DdAt.up hr2' t13;have g513:=t13 _ _ g5;have g613:=Paired.mapP g6 λ _ _ z=>DdAt.up z t13;simp only [gSub];ext;have en:nxt d x wd tk (sd,k)=tk++[(nE d x sd,wd++[k])]:=if_neg z1;have pn:pT kvs (dat (nE d x sd)) (.ref p2)=kvs++[(dat (nE d x sd),.ref p2)]:=by
     unfold pT;rw [z2];rfl
    obtain ⟨xsd,edw,_,_⟩:=d13.ex;have afw:af≠aw:=λ z=>by rw [z,edw] at g513; cases g513
    have asw:as≠aw:=λ z=>by have:=c13.st.1; rw [z,edw] at this; cases this
    refine ⟨aw,kvs,r2,dat (nE d x sd),rfl,rfl,d13,mT _,r13.dt,⋯,λ H14 _ k14 D14=>?_⟩;rw [pn] at D14;have D14':DTr K H14 aw (kvs++[(dat (nE d x sd),V.ref p2)]):=D14;have tk1:TK K H13 H14:=TK.off edw (λ _ z=>by cases z) (λ _ _ z=>by cases z) k14;have e14:H14 af=some (.lst (fs4.map V.ref)):=by rw [k14 af afw]; exact g513
    refine ⟨tyL e14,af,_,_,rfl,rfl,e14,by rw [zqe,mV g6]; omega,key _ ?_⟩;rw [en];have k15:∀ c,c≠af->upd H14 af (.lst (fs4.map V.ref++[.ref r2])) c=H14 c:=λ c hc=>nD hc;have e15:upd H14 af (.lst (fs4.map V.ref++[.ref r2])) af=some (.lst (fs4.map V.ref++[.ref r2])):=oZ;generalize upd H14 af (.lst (fs4.map V.ref++[.ref r2]))=H15 at *
    have tk2:TK K H14 H15:=TK.off e14 (λ _ z=>by cases z) (λ _ _ z=>by cases z) k15;have tk3:=tk1.trans tk2;have hlw:∀ p xs,H13 p=some (.lst xs)->p≠aw:=λ p xs e z=>by rw [z,edw] at e; cases e
    refine ⟨λ b o e=>?_,⟨?_,Paired.mapP c13.st.2 λ _ _ z=>DdAt.tk z tk3⟩,⟨fs4++[r2],by rw [e15]; simp,rL (Paired.mapP g613 λ _ _ z=>DdAt.tk z tk3) (DdAt.tk r13 tk3)⟩,⟨kvs++[(dat (nE d x sd),V.ref p2)],DTr.tk D14' tk2 (k15 aw (Ne.symm afw)),rL (Paired.mapP d213 λ _ _ z=>?_) ⟨rfl,p2,rfl,hp2f,?_⟩⟩,c13.n1,c13.n2,c13.n3,c13.x1⟩
    ·have b1:b≠af:=λ z=>by rw [z,c13.n2] at e; cases e
     have b2:b≠aw:=λ z=>by rw [z,c13.n3] at e; cases e
     rw [k15 b b1,k14 b b2];exact c13.s b o e
    ·rw [k15 as c13.x1,k14 as asw];exact c13.st.1
    ·obtain ⟨w1,p,w2,w3,w4⟩:=z;refine ⟨w1,p,w2,w3,?_⟩;rw [k15 p w3,k14 p (hlw _ _ w4)];exact w4
    ·rw [k15 p2 hp2f,k14 p2 (hlw _ _ ep2),ep2];simp
   ·rintro σ H8 ⟨v7,v8,v9,rfl,c8,nd8,gd8⟩;have hql:(qs.map V.ref).length=(ms.map nO).length:=by rw [zqe]; exact mV c8.st.2
    rw [hql,Vy] at c8 nd8 gd8;subst e2;refine ⟨.int i,rfl,?_⟩;unfold tC ipI;refine ⟨i,1,rfl,rfl,?_⟩;refine ⟨_,v7,v8,v9,rfl,c8,?_,nd8,gd8⟩;rw [show N - (i+1)=N - i - 1 by omega];exact hc
theorem aY:∀ {l l':LI'},l.length=l'.length->smA (l.map PyData.int) (l'.map PyData.int)=true
 | [],[],_=>rfl
 | _ :: l,_ :: l',h=>by
  show (sm (.int _) (.int _) && smA (l.map PyData.int) (l'.map PyData.int))=true;rw [aY (by simpa using h)];rfl
theorem Ks {d:Nat}:∀ {M M':LM},M.length=M'.length->(∀ r∈M,r.length=d)->(∀ r∈M',r.length=d)->smA (M.map λ r=>PyData.tuple (r.map PyData.int)) (M'.map λ r=>PyData.tuple (r.map PyData.int))=true
 | [],[],_,_,_=>rfl
 | r :: M,r' :: M',h,h1,h2=>by
  show (smA (r.map PyData.int) (r'.map PyData.int) && smA (M.map λ r=>PyData.tuple (r.map PyData.int)) (M'.map λ r=>PyData.tuple (r.map PyData.int)))=true;rw [aY ((h1 r (.head _)).trans (h2 r' (.head _)).symm),Ks (by simpa using h) (λ x hx=>h1 x (.tail _ hx)) λ x hx=>h2 x (.tail _ hx)];rfl
theorem aZ {d:Nat} {x y:Dd} (h1:lR d x) (h2:lR d y):sm (dat x) (dat y)=true:=by
 show (smA (x.1.map λ r=>PyData.tuple (r.map PyData.int)) (y.1.map λ r=>PyData.tuple (r.map PyData.int)) && (smA (x.2.1.map PyData.int) (y.2.1.map PyData.int) && (sm (.int _) (.int _) && true)))=true;rw [Ks (h1.sq.1.trans h2.sq.1.symm) h1.sq.2 h2.sq.2,aY (h1.len.trans h2.len.symm)];rfl
noncomputable def Vs (d:Nat) (lg lo ls ln:Addr):List (Str × V):=[(Str.ofString "dimension",.int d),(Str.ofString "given",.ref lg),(Str.ofString "ordered",.ref lo),(Str.ofString "shortest",.ref ls),(Str.ofString "numbers",.ref ln)]
noncomputable abbrev fG1 (d:Nat):List (Str × V):=[(Str.ofString "dimension",.int d)]
noncomputable abbrev fG2 (d:Nat) (lg:Addr):List (Str × V):=[(Str.ofString "dimension",.int d),(Str.ofString "given",.ref lg)]
noncomputable abbrev fG3 (d:Nat) (lg lo:Addr):List (Str × V):=[(Str.ofString "dimension",.int d),(Str.ofString "given",.ref lg),(Str.ofString "ordered",.ref lo)]
noncomputable abbrev fG4 (d:Nat) (lg lo ls:Addr):List (Str × V):=[(Str.ofString "dimension",.int d),(Str.ofString "given",.ref lg),(Str.ofString "ordered",.ref lo),(Str.ofString "shortest",.ref ls)]
noncomputable abbrev fG5 (d:Nat) (lg lo ls ln:Addr):List (Str × V):=[(Str.ofString "dimension",.int d),(Str.ofString "given",.ref lg),(Str.ofString "ordered",.ref lo),(Str.ofString "shortest",.ref ls),(Str.ofString "numbers",.ref ln)]
noncomputable def numT (srt:Tb) (n:Nat):List (PyData × V):=(srt.zipIdx n).map λ p=>(dat p.1.1,V.int ((p.2:Nat):Int))
structure GrpF (K:Frag) (t:Adr) (H:Hp) (g:Addr) (d:Nat) (ms:List Dd) (srt:Tb):Prop where
 ex:∃ dx lg lo ls ln,H g=some (.ins t.a_z dx (Vs d lg lo ls ln))/\(∃ gs:LA,H lg=some (.lst (gs.map V.ref))/\Paired (DdAt K H) gs ms) /\
  (∃ os:LA,H lo=some (.lst (os.map V.ref))/\Paired (λ p x=>Dt K H (.ref p) (dat x.1)) os srt) /\
  (∃ ws:LA,H ls=some (.lst (ws.map V.ref))/\Paired (λ p (x:Dd × List Nat)=>H p=some (.lst (x.2.map λ n=>V.int (n:Nat)))) ws srt)/\DTr K H ln (numT srt 0)
def Vr (K:Frag) (t:Adr):Sp:=λ vs H Q _=>E9 λ (b:Bool) (d:Nat) (a x dx:Addr) (ps:LA) (ms:List Dd) (G:Dd->Prop) (N:Nat)=>A16 (vs=[.ref x,.int d,.ref a,.int 200]) (H x=some (.ins t.a_z dx [])) ((d=2\/d=3)) (SqB b K H a (ps.map V.ref)) (Paired (DdAt K H) ps ms) (ms.length<=100) ((∀ s∈ms,lR d s)) ((∀ s∈ms,lR d (nO s))) ((∀ x,G x->lR d x)) (G (nP d)) ((∀ x s,G x->s∈ms->G (nE d x (nO s)))) ((mO d (ms.map nO) N 0 [(nP d,[])]).length<=200) ((mO d (ms.map nO) N 0 [(nP d,[])]).length<=N) ((∀ y∈mO d (ms.map nO) N 0 [(nP d,[])],lR d y.1)) (((mO d (ms.map nO) N 0 [(nP d,[])]).map (·.1)).Nodup) (∀ srt H',(∀ b o,b≠x->H b=some o->H' b=some o)->GrpF K t H' x d ms srt->srt.Perm (mO d (ms.map nO) N 0 [(nP d,[])])->srt.Pairwise (λ p q=>lx (fl (dat q.1)) (fl (dat p.1))=false)->Q .non H')
theorem Az {α β:Type} {f:α->β}:∀ {l:List β} {tb:List α},l.Perm (tb.map f)->∃ srt:List α,srt.Perm tb/\srt.map f=l
 | [],tb,h=>by
  have:=h.length_eq;rw [zqe] at this;exact ⟨[],by rw [List.length_eq_zero_iff.mp this.symm],rfl⟩
 | b :: l,tb,h=>by
  obtain ⟨a,ha,e⟩:=zE.mp (h.mem_iff.mp (zS));obtain ⟨s,r,rfl⟩:=List.append_of_mem ha;have h2:(b :: l).Perm (b :: (s++r).map f):=by
   refine h.trans ?_;rw [xD,zG,e,xD];exact List.perm_middle
  obtain ⟨srt,p,q⟩:=Az (List.Perm.cons_inv h2);exact ⟨a :: srt,(List.Perm.cons a p).trans List.perm_middle.symm,by rw [zG,e,q]⟩
def KX (x:Addr) (H H':Hp):Prop:=∀ b o,b≠x->H b=some o->H' b=some o
theorem KX.same {x:Addr} {H H':Hp} (s:Same H H'):KX x H H':=λ b o _ e=>s b o e
theorem KX.put {x:Addr} {H:Hp} {o:HO}:KX x H (upd H x o):=λ b o' hb e=>by rw [nD hb]; exact e
theorem KX.trans {x:Addr} {H H1 H2:Hp} (a:KX x H H1) (b:KX x H1 H2):KX x H H2:=λ c o hc e=>b c o hc (a c o hc e)
theorem KX.tk {K:Frag} {x C dx:Addr} {fs:List (Str × V)} {H H':Hp} (k:KX x H H') (e:H x=some (.ins C dx fs)):TK K H H':=by
 have hk:∀ b xs,H b=some (.tup xs)->H' b=some (.tup xs):=λ b xs q=>k b _ (λ z=>by rw [z,e] at q; cases q) q;refine ⟨hk,λ b xs q=>?_⟩;rcases q with (q | ⟨ob,q⟩) | q
 ·exact .inl (.inl (hk _ _ q))
 ·exact .inl (.inr ⟨ob,k b _ (λ z=>by rw [z,e] at q; cases q) q⟩)
 ·exact .inr q
theorem Vq {H:Hp} {x:Dd} {w:List Nat} {p:Addr}:∀ {tb:Tb} {kvs:List (PyData × V)},TbAt H tb kvs->(tb.map (·.1)).Nodup->(x,w)∈tb->vT kvs (dat x)=some (.ref p)->H p=some (.lst (w.map λ n=>V.int (n:Nat))):=by
 intro tb kvs h
 induction h with
 | nil=>intro _ hm; cases hm
 | @cons y kv tb kvs hy _ ih =>
  intro nd hm e;obtain ⟨e1,q,e2,e3⟩:=hy;rw [zG,xM] at nd;rcases zL.mp hm with hm | hm
  ·rw [← hm] at e1 e3;rw [dO e1,e2] at e;cases e;exact e3
  ·have ne:¬ kv.1=dat x:=λ q=>nd.1 (by rw [aV.mp (e1.symm.trans q)]; exact zE.mpr ⟨_,hm,rfl⟩);rw [fI ne] at e;exact ih nd.2 hm e
theorem Vp {K:Frag} {H:Hp} {C x dx a:Addr} {fs:List (Str × V)} {o:HO} {b:Bool} {xs:List V} (e:H x=some (.ins C dx fs)) (h:SqB b K H a xs):SqB b K (upd H x o) a xs:=by
 cases b with
 | false =>
  rcases (show SqL K H a xs from h) with (h | ⟨ob,h⟩) | h
  ·exact (.inl (.inl (by rw [nD (λ z=>by rw [z,e] at h; cases h)]; exact h)):SqL K (upd H x o) a xs)
  ·exact (.inl (.inr ⟨ob,by rw [nD (λ z=>by rw [z,e] at h; cases h)]; exact h⟩):SqL K (upd H x o) a xs)
  ·exact (.inr h:SqL K (upd H x o) a xs)
 | true =>
  rcases (show SqT K H a xs from h) with (h | ⟨ob,h⟩) | h
  ·exact (.inl (.inl (by rw [nD (λ z=>by rw [z,e] at h; cases h)]; exact h)):SqT K (upd H x o) a xs)
  ·exact (.inl (.inr ⟨ob,by rw [nD (λ z=>by rw [z,e] at h; cases h)]; exact h⟩):SqT K (upd H x o) a xs)
  ·exact (.inr h:SqT K (upd H x o) a xs)
theorem Dj {H:Hp} {v:V} {ds:List PyData} (h:Dt K H v (.tuple ds)):∃ q,v=V.ref q:=by
 cases h;exact ⟨_,rfl⟩
theorem Di {H:Hp} {σ:St} {i:Nat} {C x dx:Addr} {fs:List (Str × V)} {f:Str} {v:V} {Q:VK} (hσ:σ[i]?=some (some (V.ref x))) (e:H x=some (.ins C dx fs)) (c:Cls K C) (n:gO K C f) (l:fs.lookup f=some v) (q:Q v H):tFld K (tVar i) f σ H Q:=⟨_,hσ,x,C,dx,fs,v,rfl,e,c,n,l,q⟩
theorem Vo {H:Hp}:∀ {tb:Tb} {kvs:List (PyData × V)},TbAt H tb kvs->∀ y∈tb,∃ p,vT kvs (dat y.1)=some (V.ref p):=by
 intro tb kvs h
 induction h with
 | nil=>intro y hy; cases hy
 | @cons z kv tb kvs hz _ ih =>
  intro y hy;obtain ⟨e1,p,e2,_⟩:=hz
  by_cases q:kv.1=dat y.1
  ·exact ⟨p,by rw [dO q,e2]⟩
  ·rw [fI q];rcases zL.mp hy with hy | hy
   ·exact absurd (by rw [e1,hy]) q
   ·exact ih y hy
theorem Kr {K:Frag} {H:Hp}:∀ {ps:List (V × PyData)} {zs:List V} {n:Nat},zs.length=ps.length->(∀ p∈ps,tT 4 p.2=true/\Dt K H p.1 p.2/\∃ q,p.1=V.ref q)->(∀ j y,zs[j]?=some y->∃ p m,y=V.ref p/\ps[j]?=some m/\H p=some (.tup [m.1,.int ((n+j:Nat):Int)])) ->
  ∃ ts:List (Addr × PyData × Addr × V),zs=ts.map (λ t=>V.ref t.1)/\(ts.map (·.2.1)=ps.map (·.2)/\ts.map (λ t=>(t.2.1,t.2.2.2))=(ps.zipIdx n).map λ p=>(p.1.2,V.int ((p.2:Nat):Int)))/\∀ t∈ts,SqT K H t.1 [.ref t.2.2.1,t.2.2.2]/\tT 4 t.2.1=true/\Dt K H (.ref t.2.2.1) t.2.1
 | [],[],_,_,_,_=>⟨[],rfl,⟨rfl,rfl⟩,λ _ h=>nomatch h⟩
 | p :: ps,z :: zs,n,hl,hp,hz=>by
  obtain ⟨a,m,e1,e2,e3⟩:=hz 0 z rfl;cases e2;obtain ⟨h1,h2,q,eq⟩:=hp p (.head _);obtain ⟨ts,i1,⟨i2,i2'⟩,i3⟩:=Kr (K:=K) (H:=H) (ps:=ps) (zs:=zs) (n:=n+1) (by simpa using hl) (λ x hx=>hp x (.tail _ hx)) λ j y ej=>by
   obtain ⟨p',m',f1,f2,f3⟩:=hz (j+1) y (by simpa using ej);exact ⟨p',m',f1,by simpa using f2,by rw [f3,show n+(j+1)=n+1+j by omega]⟩
  rw [eq] at e3 h2;refine ⟨(a,p.2,q,.int ((n+0:Nat):Int)) :: ts,by rw [e1,i1]; rfl,⟨by rw [zG,zG,i2],by rw [zG,uB,zG,i2']; rfl⟩,λ t ht=>?_⟩;rcases zL.mp ht with ht | ht
  ·rw [ht]; exact ⟨SqT.of e3,h1,h2⟩
  ·exact i3 t ht
theorem ord_of {K:Frag} {H:Hp}:∀ {ps:List (V × PyData)} {srt:Tb},(srt.map λ y=>dat y.1)=ps.map (·.2)->(∀ p∈ps,Dt K H p.1 p.2/\(∃ q,p.1=V.ref q))->∃ os:LA,ps.map (·.1)=os.map V.ref/\Paired (λ p (x:Dd × List Nat)=>Dt K H (.ref p) (dat x.1)) os srt
 | [],[],_,_=>⟨[],rfl,.nil⟩
 | [],_ :: _,h,_=>by simp at h
 | _ :: _,[],h,_=>by simp at h
 | p :: ps,y :: srt,e,h=>by
  rw [zG,zG,yE] at e;obtain ⟨os,e1,e3⟩:=ord_of (ps:=ps) (srt:=srt) e.2 λ x hx=>h x (.tail _ hx);obtain ⟨h1,q,eq⟩:=h p (.head _);rw [eq,← e.1] at h1;exact ⟨q :: os,by rw [zG,zG,e1,eq],.cons h1 e3⟩
theorem Kq {H:Hp} {kvs:List (PyData × V)}:∀ {srt:Tb} {ys:List V},ys.length=srt.length->(∀ (j:Nat) y,ys[j]?=some y->∃ p m,y=V.ref p/\srt[j]?=some m/\vT kvs (dat m.1)=some (V.ref p)) ->
  (∀ m∈srt,∀ p,vT kvs (dat m.1)=some (V.ref p)->H p=some (.lst (m.2.map λ n=>V.int (n:Nat))))->∃ ws:LA,ys=ws.map V.ref/\Paired (λ p (x:Dd × List Nat)=>H p=some (.lst (x.2.map λ n=>V.int (n:Nat)))) ws srt
 | [],[],_,_,_=>⟨[],rfl,.nil⟩
 | m :: srt,y :: ys,hl,h,hw=>by
  obtain ⟨p,m',e1,e2,e3⟩:=h 0 y rfl;cases e2;obtain ⟨ws,w1,w2⟩:=Kq (srt:=srt) (ys:=ys) (by simpa using hl) (λ j y' ej=>by
   obtain ⟨p,m',f1,f2,f3⟩:=h (j+1) y' (by simpa using ej);exact ⟨p,m',f1,by simpa using f2,f3⟩) λ m' hm' p' e=>hw m' (.tail _ hm') p' e
  exact ⟨p :: ws,by rw [e1,w1]; rfl,.cons (hw m (.head _) p e3) w2⟩
theorem Ko:∀ {srt:Tb} {ps:List (V × PyData)},(srt.map λ y=>dat y.1)=ps.map (·.2)->∀ n,((srt.zipIdx n).map λ p=>(dat p.1.1,V.int ((p.2:Nat):Int)))=(ps.zipIdx n).map λ p=>(p.1.2,V.int ((p.2:Nat):Int))
 | [],[],_,_=>rfl
 | [],_ :: _,h,_=>by simp at h
 | _ :: _,[],h,_=>by simp at h
 | y :: srt,p :: ps,e,n=>by
  rw [zG,zG,yE] at e;rw [uB,uB,zG,zG,Ko e.2 (n+1),e.1]
structure GI (K:Frag) (H0:Hp) (C x dx wd:Addr) (fs:List (Str × V)) (tb:Tb) (kvs:List (PyData × V)) (H:Hp):Prop where
 hx:H x=some (.ins C dx fs)
 s:∀ b o,b≠x->H0 b=some o->H b=some o
 D:DTr K H wd kvs
 T:TbAt H tb kvs
theorem GI.up {K:Frag} {H0 H H':Hp} {C x dx wd:Addr} {fs:List (Str × V)} {tb:Tb} {kvs:List (PyData × V)} (h:GI K H0 C x dx wd fs tb kvs H) (s:Same H H'):GI K H0 C x dx wd fs tb kvs H' :=
 ⟨s _ _ h.hx,λ b o hb e=>s _ _ (h.s b o hb e),h.D.up s,Paired.mapP h.T λ _ _ z=>let ⟨z1,p,z2,z3⟩:=z; ⟨z1,p,z2,s _ _ z3⟩⟩
theorem Ay {K:Frag} {H:Hp} {C x dx:Addr} {fs fs':List (Str × V)} (e:H x=some (.ins C dx fs)):TK K H (upd H x (.ins C dx fs')):=TK.off e (λ _ z=>by cases z) (λ _ _ z=>by cases z) λ _ hc=>nD hc
theorem GI.put {K:Frag} {H0 H:Hp} {C x dx wd:Addr} {fs:List (Str × V)} {tb:Tb} {kvs:List (PyData × V)} (h:GI K H0 C x dx wd fs tb kvs H) (fs':List (Str × V)):GI K H0 C x dx wd fs' tb kvs (upd H x (.ins C dx fs')):=by
 have xw:wd≠x:=λ z=>by
  obtain ⟨_,_,xs,e,_⟩:=h.D;rw [z,h.hx] at e;cases e
 refine ⟨oZ,λ b o hb e=>?_,DTr.tk h.D (Ay h.hx) (nD xw),Paired.mapP h.T λ _ _ z=>?_⟩
 ·rw [nD hb]; exact h.s b o hb e
 ·obtain ⟨z1,p,z2,z3⟩:=z;have:p≠x:=λ q=>by rw [q,h.hx] at z3; cases z3
  exact ⟨z1,p,z2,by rw [nD this]; exact z3⟩
theorem ok_0 (T:Txt K mg t):FnOk P w K mg base CX0 12 t.a_0 t.d_0 ph' (Vr K t):=by
 have G_t:=@ok_t P w K mg base t T;have G_r:=@ok_r P w K mg base t T;have G_13:=@ok_13 P w K mg base t T;refine T.F_0.ok sc_0 (by walk_at "v") (λ cdv A outer s H vs Q E hr h=>?_)
 ·have hu:=hr.units;obtain ⟨b,d,a,x,dx,ps,ms,G,N,rfl,hx,hd,hS,hp,hm,hf1,hf2,hG,hG0,hGs,h63,hN,hfin,hnd,hQ⟩:=h;refine ⟨_,(oU (iM (nB G_t hr.mo rfl T.m_t T.F_t.kp T.b_t .nil nC (oQ (pv 3) oR)))
   (oU (iM (nB G_r hr.mo rfl T.m_r T.F_r.kp T.b_r .nil nC (oQ (pv 1) (oQ (pv 2) oR))))
   (oU (nJ (i:=4) sc_0.nd rfl (Or.inr rfl) (nB G_13 hr.mo rfl T.m_13 T.F_13.kp T.b_13 .nil nC (oQ (pv 1) (oQ (pv 2) (oQ (pv 3) oR)))))
   (oU (eW (pv 0) (pv 1) rfl)
   (oU (eW (pv 0) (lJ gQ rfl T.z_list (nofun) (oQ (pv 2) oR)) rfl)
   (oU (eW (pv 0) (nK (Jx (N:=200) Dm hu rfl) rfl T.z_sorted (nofun) (oQ (pv 4) oR)) rfl)
   (oU (eW (pv 0) (mE (xs:=["member"]) (fr:=[("words",4)]) (g:=(oW 0)) (tt:=(tEl (tOp (bU K) (tVar 1) (tVar 0)))) (nR (sc:=oV s_0) (N:=N_0) rfl rfl (nofun)) rfl (mJ (Ab (pv 0) rfl)) (λ _ _ _ hE1=>(nU (N:=["member","words"]) (i:=0) hE1 rfl (nofun))) (λ _ _ _ hE1=>(nT (oT (ix_T hu) (pv 1) (pv 0) (λ _ _=>rfl))))) rfl)
   (oX (eW (pv 0) (lJ (Ta hu rfl) rfl T.z_dict (nofun) (oQ (mE (xs:=["number","member"]) (fr:=[]) (g:=(gTup K 2 (mL (oW 0) (mL (oW 1) gNil)))) (tt:=(tEl (tTup (nQ (tVar 1) (nQ (tVar 0) tNil))))) (nR (sc:=oV s_0) (N:=N_0) rfl rfl (nofun)) rfl (dF rfl T.z_enumerate (oQ (Ab (pv 0) rfl) oR)) (λ _ _ _ hE1=>(kF rfl (mI (nU (N:=["number","member"]) (i:=0) hE1 rfl (nofun)) (mI (nU (N:=["number","member"]) (i:=1) hE1 rfl (nofun)) kE)))) (λ _ _ _ hE1=>(nT (mZ (oQ (pv 1) (oQ (pv 0) oR)))))) oR)) rfl))))))))),?_⟩
  show tSeq _ _ _ [some (.ref x),some (.int d),some (.ref a),some (.int 200),none] H;refine st λ N1 e1=>?_;ext;refine ⟨200,rfl,∅,∅,?_⟩;subst e1;refine st λ N1 e1=>?_;ext;refine ⟨b,d,a,ps,ms,rfl,hd,hS,hp,λ s hs=>(hf1 s hs).sq.1,λ H1 s1=>?_⟩;subst e1;refine st λ N1 e1=>?_;ext;refine ⟨b,d,a,ps,ms,200,G,N,rfl,hd,hS.up s1,Paired.mapP hp λ _ _ z=>z.up s1,hm,hf1,hf2,hG,hG0,hGs,zF _,⋯,hN,λ wd kvs H2 s2 hw hD hT=>?_⟩;generalize mO d (ms.map nO) N 0 [(nP d,[])]=tb at *
  have s02:=s1.trans s2;have hx2:=s02 _ _ hx;subst e1;refine st λ N1 e1=>?_;simp only [sFld];ext;have g2:GI K H t.a_z x dx wd [] tb kvs H2:=⟨hx2,λ b o _ e=>s02 _ _ e,hD,hT⟩;refine ⟨_,_,_,hx2,T.cl_z,T.h_1,∅,?_⟩;have g3:=g2.put (fG1 d);have sq3:SqB b K (upd H2 x (.ins t.a_z dx (fG1 d))) a (ps.map V.ref):=Vp hx2 (hS.up s02);show N1 _ (upd H2 x (.ins t.a_z dx (fG1 d)));generalize upd H2 x (.ins t.a_z dx (fG1 d))=H3 at *
  clear g2;subst e1;refine st λ N1 e1=>?_;simp only [sFld];ext;refine ⟨b,a,_,rfl,sq3,λ lg hlg=>?_⟩;have s4:Same H3 (upd H3 lg (.lst (ps.map V.ref))):=Same.new hlg;have elg:(upd H3 lg (.lst (ps.map V.ref))) lg=some (.lst (ps.map V.ref)):=oZ;have xlg:lg≠x:=λ z=>by rw [z,g3.hx] at hlg; cases hlg
  have g4:=g3.up s4;generalize upd H3 lg (.lst (ps.map V.ref))=H4 at *
  refine ⟨_,_,_,g4.hx,T.cl_z,T.h_9,by show 1 < 1000; decide,?_⟩;have g5:=g4.put (fG2 d lg);have kx5:KX x H4 (upd H4 x (.ins t.a_z dx (fG2 d lg))):=KX.put;show N1 _ (upd H4 x (.ins t.a_z dx (fG2 d lg)));generalize upd H4 x (.ins t.a_z dx (fG2 d lg))=H5 at *
  subst e1;refine st λ N1 e1=>?_;simp only [sFld];ext;have kl:tb.length=kvs.length:=mV g5.T;have kkey:∀ kv∈kvs,∃ y∈tb,kv.1=dat y.1:=λ kv hkv=>by
   obtain ⟨y,hy,z⟩:=Cm g5.T kv hkv;exact ⟨y,hy,z.1⟩
  have fst:=hG _ hG0;refine ⟨wd,kvs,[.tuple ((List.replicate d (0:Int)).map PyData.int),.int 1],(idM d).map (λ r=>PyData.tuple (r.map PyData.int)),rfl,⋯,g5.D,λ kv hkv=>?_,λ lo ps' H6 s6 hlo elo hps pm asc=>?_⟩
  ·obtain ⟨y,hy,e⟩:=kkey kv hkv;rw [e];exact aZ fst (hfin y hy)
  have g6:=g5.up s6;have kx6:=kx5.trans (KX.same s6);refine ⟨_,_,_,g6.hx,T.cl_z,T.h_3,by show 2 < 1000; decide,?_⟩;have pl:ps'.length<=200:=by
   have:=pm.length_eq;rw [zqe,zqe] at this;omega
  have elo6:=elo;have g7:=g6.put (fG3 d lg lo);have xlo:lo≠x:=λ z=>by rw [z,g6.hx] at elo; cases elo
  have kx7:KX x H4 (upd H6 x (.ins t.a_z dx (fG3 d lg lo))):=kx6.trans KX.put;have elo7:(upd H6 x (.ins t.a_z dx (fG3 d lg lo))) lo=some (.lst (ps'.map (·.1))):=by rw [nD xlo]; exact elo
  have hps7:∀ p∈ps',tT 4 p.2=true/\Dt K (upd H6 x (.ins t.a_z dx (fG3 d lg lo))) p.1 p.2:=λ p hp'=>⟨(hps p hp').1,nZ (Ay g6.hx).t 4 (hps p hp').1 (nZ (nY s6) 4 (hps p hp').1 (hps p hp').2)⟩;show N1 _ (upd H6 x (.ins t.a_z dx (fG3 d lg lo)));generalize upd H6 x (.ins t.a_z dx (fG3 d lg lo))=H7 at *
  -- every member is a reference to one of the dict's keys
  have mem:∀ p∈ps',∃ y∈tb,p.2=dat y.1:=λ p hp'=>by
   have:p.2∈kvs.map (·.1):=pm.mem_iff.mp (zE.mpr ⟨p,hp',rfl⟩);obtain ⟨kv,hkv,e⟩:=zE.mp this;obtain ⟨y,hy,e2⟩:=kkey kv hkv;exact ⟨y,hy,by rw [← e,e2]⟩
  have kf:kvs.map (·.1)=tb.map λ y=>dat y.1:=by
   have:∀ {H':Hp} {tb:Tb} {kvs:List (PyData × V)},TbAt H' tb kvs->kvs.map (·.1)=tb.map λ y=>dat y.1:=by
    intro H' tb kvs h
    induction h with
    | nil=>rfl
    | cons hz _ ih=>rw [zG,zG,ih,hz.1]
   exact this g7.T
  obtain ⟨srt,ps1,ps2⟩:=Az (f:=λ y:Dd × List Nat=>dat y.1) (l:=ps'.map (·.2)) (tb:=tb) (by rw [← kf]; exact pm);have psl:srt.length=ps'.length:=by have:=xZ List.length ps2; simpa using this
  have isref:∀ p∈ps',∃ q,p.1=V.ref q:=λ p hp'=>by
   obtain ⟨y,_,e⟩:=mem p hp';have hD':=(hps7 p hp').2;rw [e] at hD';exact Dj hD'
  subst e1;refine st λ N1 e1=>?_;simp only [sFld];refine nV λ B eB=>?_;simp only [iSeq];refine Di rfl g7.hx T.cl_z T.h_3 rfl ?_;refine ⟨false,lo,rfl,⟨_,SqB.lst elo7⟩,λ ls hls=>?_⟩;refine lC (λ j y _=>∃ (p:Addr) (m:Dd × List Nat),y=V.ref p/\srt[j]?=some m/\vT kvs (dat m.1)=some (V.ref p)) hls (SqB.lst elo7) (by rw [zqe]; omega) (λ _ _ _ _ h _=>h) ?_ ?_
  ·intro i y H8 zs ey s8 ez Q' hQ';obtain ⟨p,hp',rfl⟩:=jS ey;have hm':=zqb hp';obtain ⟨q,eq⟩:=isref p hm';obtain ⟨yy,hyy,ey2⟩:=mem p hm';obtain ⟨t1,t2⟩:=hps7 p hm';subst eB;show tOp _ _ _ [some p.1,some (.ref wd)] H8 Q';ext;rw [eq] at t2 ⊢;have g8:=g7.up s8;obtain ⟨p2,ep2⟩:=Vo g8.T yy hyy;rw [← ey2] at ep2;refine Dk g8.D t1 (nZ (nY s8) 4 t1 t2) ep2 ?_;have hsm:∃ m,srt[i]?=some m/\dat m.1=p.2:=by
    have e:=xZ (λ l=>l[i]?) ps2;simp only [List.getElem?_map,hp',Option.map_some] at e;cases hm2:srt[i]? with
    | none=>rw [hm2] at e; cases e
    | some m=>rw [hm2] at e; exact ⟨m,rfl,zT e⟩
   obtain ⟨m,em,edm⟩:=hsm;exact hQ' _ _ (Same.refl _) ⟨p2,m,rfl,em,by rw [edm]; exact ep2⟩
  ·intro H8 ys s8 e8 hl8 hr8;have g8:=g7.up s8;have xls:ls≠x:=λ z=>by rw [z,g7.hx] at hls; cases hls
   have kx8:=kx7.trans (KX.same s8);have kx9:KX x H4 (upd H8 x (.ins t.a_z dx (fG4 d lg lo ls))):=kx8.trans KX.put;have els9:(upd H8 x (.ins t.a_z dx (fG4 d lg lo ls))) ls=some (.lst ys):=by rw [nD xls]; exact e8
   refine ⟨.ref x,rfl,x,_,_,_,rfl,g8.hx,T.cl_z,T.h_2,by show 3 < 1000; decide,?_⟩;have g9:=g8.put (fG4 d lg lo ls);have elo9:(upd H8 x (.ins t.a_z dx (fG4 d lg lo ls))) lo=some (.lst (ps'.map (·.1))):=by rw [nD xlo]; exact s8 _ _ elo7
   have hps9:∀ p∈ps',tT 4 p.2=true/\Dt K (upd H8 x (.ins t.a_z dx (fG4 d lg lo ls))) p.1 p.2:=λ p hp'=>⟨(hps7 p hp').1,nZ (Ay g8.hx).t 4 (hps7 p hp').1 (nZ (nY s8) 4 (hps7 p hp').1 (hps7 p hp').2)⟩;show N1 _ (upd H8 x (.ins t.a_z dx (fG4 d lg lo ls)));generalize upd H8 x (.ins t.a_z dx (fG4 d lg lo ls))=H9 at *
   subst e1;simp only [sFld];ext;refine nV λ B eB=>?_;simp only [fH];ext;refine Di rfl g9.hx T.cl_z T.h_3 rfl ?_;refine ⟨false,lo,rfl,⟨_,SqB.lst elo9⟩,λ lp hlp=>?_⟩;refine Qa (λ j y H=>∃ p m,y=V.ref p/\p≠lp/\ps'[j]?=some m/\H p=some (.tup [m.1,.int (j:Int)])) hlp (SqB.lst elo9) (by rw [zqe]; omega) (λ _ _ _ _ ⟨p,m,e,n,em,h⟩ sx=>⟨p,m,e,n,em,sx _ _ n h⟩) ?_ ?_
   ·intro i y H10 zs ey s10 ez Q' hQ';obtain ⟨p,hp',rfl⟩:=jS ey;subst eB;show tTup _ [some (.int i),some p.1] H10 Q';ext;refine ⟨by show 2<=sizeLine; decide,λ q hq=>?_⟩;refine hQ' _ _ (Same.new hq) ⟨q,p,rfl,(λ z=>by rw [z,ez] at hq; cases hq),hp',oZ⟩
   ·intro H10 zs s10 e10 hlz hz;obtain ⟨ts,i1,⟨i2,i2'⟩,i3⟩:=Kr (K:=K) (H:=H10) (ps:=ps') (zs:=zs) (n:=0) (by rw [hlz,zqe]) (λ p hp'=>⟨(hps9 p hp').1,nZ (nY s10) 4 (hps9 p hp').1 (hps9 p hp').2,isref p hp'⟩) λ j y ej=>by
     obtain ⟨p,m,f1,_,f2,f3⟩:=hz j y ej;exact ⟨p,m,f1,f2,by rw [wO]; exact f3⟩
    have g10:=g9.up s10;have nds:(ps'.map (·.2)).Nodup:=pm.nodup_iff.mpr (by
     rw [kf,show (tb.map λ y=>dat y.1)=(tb.map (·.1)).map dat by rw [xE]; rfl];exact List.Pairwise.map dat (λ a b h e=>h (aV.mp e)) hnd)
    refine ⟨lp,ts,rfl,by rw [← i1]; exact .inl (.inl e10),i3,by rw [i2]; exact nds,λ ln H11 s11 _ hDn=>?_⟩;have g11:=g10.up s11;refine ⟨_,_,_,g11.hx,T.cl_z,T.h_4,by show 4 < 1000; decide,?_⟩;have t11:=s10.trans s11;have tkx:=Ay (K:=K) (fs':=(fG5 d lg lo ls ln)) g11.hx;have g12:=g11.put (fG5 d lg lo ls ln);show Q .non (upd H11 x (.ins t.a_z dx (fG5 d lg lo ls ln)));have kxl:KX x H11 (upd H11 x (.ins t.a_z dx (fG5 d lg lo ls ln))):=KX.put;have els12:(upd H11 x (.ins t.a_z dx (fG5 d lg lo ls ln))) ls=some (.lst ys):=by rw [nD xls]; exact t11 _ _ els9
    have xln:ln≠x:=λ z=>by
     obtain ⟨_,_,xs,e,_⟩:=hDn;rw [z,g11.hx] at e;cases e
    have hDn12:=DTr.tk hDn tkx (nD xln);have elo12:(upd H11 x (.ins t.a_z dx (fG5 d lg lo ls ln))) lo=some (.lst (ps'.map (·.1))):=by rw [nD xlo]; exact t11 _ _ elo9
    generalize upd H11 x (.ins t.a_z dx (fG5 d lg lo ls ln))=H12 at *;have kx12:KX x H4 H12:=((kx9.trans (KX.same t11)).trans kxl);have tk12:TK K H H12:=KX.tk (λ b o hb e=>g12.s b o hb e) hx;refine hQ srt H12 g12.s ⟨dx,lg,lo,ls,ln,g12.hx,⟨ps,kx12 _ _ xlg elg,Paired.mapP hp λ _ _ z=>DdAt.tk z tk12⟩,?_,?_,?_⟩ ps1 ?_
    ·obtain ⟨os,j1,j3⟩:=ord_of (K:=K) (H:=H12) (ps:=ps') (srt:=srt) ps2 λ p hp'=>⟨nZ tkx.t 4 (hps9 p hp').1 (nZ (nY t11) 4 (hps9 p hp').1 (hps9 p hp').2),isref p hp'⟩;exact ⟨os,by rw [elo12,j1],j3⟩
    ·obtain ⟨ws,w1,w2⟩:=Kq (H:=H12) (srt:=srt) (kvs:=kvs) (ys:=ys) (by rw [hl8,zqe,psl]) hr8 λ m hm p e=>Vq (x:=m.1) (w:=m.2) g12.T hnd (ps1.mem_iff.mp hm) e;exact ⟨ws,by rw [← w1]; exact els12,w2⟩
    ·have e2:numT srt 0=ts.map λ t=>(t.2.1,t.2.2.2):=by
      rw [i2'];unfold numT;exact Ko ps2 0
     rw [e2];exact hDn12
    ·have a2:(ps'.map (·.2)).Pairwise λ p q=>lx (fl q) (fl p)=false:=wD.mpr asc;rw [← ps2] at a2;exact wD.mp a2
theorem GrpF.up {H H':Hp} {g:Addr} {d:Nat} {ms:List Dd} {srt:Tb} (h:GrpF K t H g d ms srt) (s:Same H H'):GrpF K t H' g d ms srt:=by
 obtain ⟨dx,lg,lo,ls,ln,h1,⟨gs,h2,h3⟩,⟨os,h4,h5⟩,⟨ws,h6,h7⟩,h8⟩:=h;exact ⟨dx,lg,lo,ls,ln,s _ _ h1,⟨gs,s _ _ h2,Paired.mapP h3 λ _ _ z=>z.up s⟩,⟨os,s _ _ h4,Paired.mapP h5 λ _ x z=>nZ (nY s) 4 (mT x.1) z⟩,⟨ws,s _ _ h6,Paired.mapP h7 λ _ _ z=>s _ _ z⟩,h8.up s⟩
def sp_7 (K:Frag) (t:Adr):Sp:=λ vs H Q _=>E4 λ (g:Addr) (d:Nat) (ms:List Dd) (srt:Tb)=>A3 (vs=[.ref g]) (GrpF K t H g d ms srt) (∀ l os H',Same H H'->H l=none->H' l=some (.lst (os.map V.ref))->Paired (λ p x=>Dt K H' (.ref p) (dat x.1)) os srt->Q (.ref l) H')
theorem ok_7 (T:Txt K mg t):FnOk P w K mg base CX0 2 t.a_7 t.d_7 ["self"] (sp_7 K t):=by
 refine T.F_7.ok sc_7 (by walk_at "v") (λ cdv A outer s H vs Q E hr h=>?_)
 ·obtain ⟨g,d,ms,srt,rfl,⟨dx,lg,lo,ls,ln,h1,_,⟨os,h4,h5⟩,_⟩,hQ⟩:=h;refine ⟨_,(oX (nH (lJ gQ rfl T.z_list (nofun) (oQ (Ab (pv 0) rfl) oR)))),?_⟩;show tRet _ _ [some (.ref g)] H;simp only [tRet,tCB,nQ,tNil];refine Di rfl h1 T.cl_z T.h_3 rfl ?_;refine ⟨false,lo,_,rfl,SqB.lst h4,λ l hl=>?_⟩;exact hQ l os _ (Same.new hl) hl oZ (Paired.mapP h5 λ _ x z=>nZ (nY (Same.new hl)) 4 (mT x.1) z)
theorem sq1 {rows:LM} (h:Sq 1 rows):∃ a,rows=[[a]]:=by
 obtain ⟨hl,hr⟩:=h
 match rows,hl with
 | [r],_ =>
  have:=hr r (by simp)
  match r,this with
  | [a],_=>exact ⟨a,rfl⟩
theorem len2 {r:LI'} (h:r.length=2):∃ a b,r=[a,b]:=by match r,h with | [a,b],_=>exact ⟨a,b,rfl⟩
theorem len3 {r:LI'} (h:r.length=3):∃ a b c,r=[a,b,c]:=by match r,h with | [a,b,c],_=>exact ⟨a,b,c,rfl⟩
theorem len4 {r:LI'} (h:r.length=4):∃ a b c d,r=[a,b,c,d]:=by match r,h with | [a,b,c,d],_=>exact ⟨a,b,c,d,rfl⟩
theorem sq2 {rows:LM} (h:Sq 2 rows):∃ a b c d,rows=[[a,b],[c,d]]:=by
 obtain ⟨hl,hr⟩:=h
 match rows,hl with
 | [r,s],_ =>
  obtain ⟨a,b,rfl⟩:=len2 (hr r (by simp));obtain ⟨c,d,rfl⟩:=len2 (hr s (by simp));exact ⟨a,b,c,d,rfl⟩
theorem sq3 {rows:LM} (h:Sq 3 rows):∃ a b c d e f g i j,rows=[[a,b,c],[d,e,f],[g,i,j]]:=by
 obtain ⟨hl,hr⟩:=h
 match rows,hl with
 | [r,s,t],_ =>
  obtain ⟨a,b,c,rfl⟩:=len3 (hr r (by simp));obtain ⟨d,e,f,rfl⟩:=len3 (hr s (by simp));obtain ⟨g,i,j,rfl⟩:=len3 (hr t (by simp));exact ⟨a,b,c,d,e,f,g,i,j,rfl⟩
theorem sq4 {rows:LM} (h:Sq 4 rows):∃ a b c d e f g i j k l m n o p q,rows=[[a,b,c,d],[e,f,g,i],[j,k,l,m],[n,o,p,q]]:=by
 obtain ⟨hl,hr⟩:=h
 match rows,hl with
 | [r,s,t,u],_ =>
  obtain ⟨a,b,c,d,rfl⟩:=len4 (hr r (by simp));obtain ⟨e,f,g,i,rfl⟩:=len4 (hr s (by simp));obtain ⟨j,k,l,m,rfl⟩:=len4 (hr t (by simp));obtain ⟨n,o,p,q,rfl⟩:=len4 (hr u (by simp));exact ⟨a,b,c,d,e,f,g,i,j,k,l,m,n,o,p,q,rfl⟩
theorem id2:idM 2=[[1,0],[0,1]]:=nofun
theorem id3:idM 3=[[1,0,0],[0,1,0],[0,0,1]]:=nofun
theorem Vn (a b v:Int) (hv:0 < v):gcdI (a*v) (b*v)=gcdI a b*v:=by
 unfold gcdI;rw [Int.gcd_mul_right];have:((v.natAbs:Nat):Int)=v:=⋯
 rw [Int.natCast_mul,this]
theorem Kn {u v:Int} (hv:0 < v) (ts:LI'):gl (u*v) (ts.map (·*v))=gl u ts*v:=by
 have h0:∀ (ts:LI') (a:Int),(ts.map (·*v)).foldl gcdI (a*v)=ts.foldl gcdI a*v:=by
  intro ts
  induction ts with
  | nil=>intro a; rfl
  | cons t r ih=>intro a; rw [zG,wN,wN,Vn _ _ _ hv,ih]
 unfold gl;have:absI (u*v)=absI u*v:=by
  unfold absI;rcases Int.lt_or_le u 0 with l | l
  ·have h2:u*v < 0:=pQ l hv;rw [if_pos l,if_pos h2,Int.neg_mul]
  ·have h2:0<=u*v:=Int.mul_nonneg l (vA hv);rw [if_neg ⋯,if_neg ⋯]
 rw [this,h0]
def Cong (u:Int) (xs ys:LI'):Prop:=xs.length=ys.length/\∀ (i:Nat) (x y:Int),xs[i]?=some x->ys[i]?=some y->u∣x - y
theorem Dh {u x y:Int} (hu:0 < u) (h:u∣x - y):x.fmod u=y.fmod u:=by
 rw [xI _ (vA hu),xI _ (vA hu)];exact Int.emod_eq_emod_iff_emod_sub_eq_zero.mpr (oF h)
theorem Cong.rest {u:Int} (hu:0 < u) (ns:LI'):Cong u ns (nM u ns):=by
 refine ⟨by simp [nM],λ i x y e1 e2=>?_⟩;unfold nM at e2;rw [zB,e1] at e2;cases zT e2;have:=Us hu x;have h2:=xI (x.fmod u - x) (vA hu);rw [h2] at this;have h3:=Int.dvd_of_emod_eq_zero this;have:=qR.mpr h3
 rwa [Int.neg_sub] at this
theorem Cong.gl {u:Int} {xs ys:LI'} (h:Cong u xs ys):Cw.gl u xs=Cw.gl u ys:=by
 have half:∀ {xs ys:LI'} {d:Int},Cong u xs ys->d∣u->(∀ t∈xs,d∣t)->∀ t∈ys,d∣t:=λ {xs ys d} h hd hx t ht=>by
  obtain ⟨i,hi,e⟩:=xV ht;have hix:i < xs.length:=by rw [h.1]; exact hi
  have h1:=h.2 i xs[i] t (by simp [hix]) (by simp [hi,e]);have h2:=hx _ (vJ hix);have h3:=Int.dvd_sub h2 (Int.dvd_trans hd h1)
  rwa [show xs[i] - (xs[i] - t)=t by omega] at h3
 have sym:Cong u ys xs:=⟨h.1.symm,λ i x y e1 e2=>by
  have:=qR.mpr (h.2 i y x e2 e1)
  rwa [Int.neg_sub] at this⟩
 exact Jq λ d=>⟨λ ⟨h1,h2⟩=>⟨h1,half h h1 h2⟩,λ ⟨h1,h2⟩=>⟨h1,half sym h1 h2⟩⟩
theorem Cong.red {u:Int} {xs ys:LI'} (hu:0 < u) (h:Cong u xs ys):redU u xs=redU u ys/\nM (redU u xs) (redT u xs)=nM (redU u ys) (redT u ys):=by
 have hg:=h.gl;have hc:cs u xs=cs u ys:=by unfold cs; rw [hg]
 have hne:=fV xs (show u≠0 by omega);have hU:redU u xs=redU u ys:=by unfold redU; rw [hc]
 refine ⟨hU,?_⟩;have hpos:0 < redU u xs:=aS xs ⋯;have eU:redU u xs*cs u xs=u:=jR hne (jQ (gl_u u xs));rw [← hU];unfold nM redT;refine vK (by simp [h.1]) λ i h1 h2=>?_;simp at h1 h2;simp only [List.getElem_map];have hx:=h.2 i xs[i] ys[i] (by simp [h1]) (by simp [h2]);have key:∀ x y:Int,u∣x - y->cs u xs∣x->cs u ys∣y->redU u xs∣x.fdiv (cs u xs) - y.fdiv (cs u ys):=λ x y hxy d1 d2=>by
  have e1:x.fdiv (cs u xs)*cs u xs=x:=jR hne d1;rw [← hc] at d2 ⊢;have e2:y.fdiv (cs u xs)*cs u xs=y:=jR hne d2;refine qZ hne ?_;rw [eU,Int.sub_mul,e1,e2];exact hxy
 exact Dh hpos (key _ _ hx (jQ (cH (vJ h1))) (jQ (cH (vJ h2))))
theorem Dg {u:Int}:∀ (r ts ts':LI'),Cong u ts ts'->u∣dotI r ts - dotI r ts'
 | [],ts,ts',_=>by simp [dotI]
 | x :: r,[],ts',h=>by
  have:ts'=[]:=qT h.1.symm;subst this;simp [dotI]
 | x :: r,t :: ts,[],h=>by have:=h.1; simp at this
 | x :: r,t :: ts,t' :: ts',h=>by
  have ih:=Dg r ts ts' ⟨by have:=h.1; simpa using this,λ i a b e1 e2=>h.2 (i+1) a b (by simpa using e1) (by simpa using e2)⟩;have h0:=h.2 0 t t' rfl rfl;have e1:dotI (x :: r) (t :: ts)=x*t+dotI r ts:=by simp [dotI]
  have e2:dotI (x :: r) (t' :: ts')=x*t'+dotI r ts':=by simp [dotI]
  rw [e1,e2,show x*t+dotI r ts - (x*t'+dotI r ts')=x*(t - t')+(dotI r ts - dotI r ts') by rw [Int.mul_sub]; omega];exact Int.dvd_add (Int.dvd_mul_of_dvd_right h0) ih
theorem Km {N:LM} {ns ts ns' ts':LI'} {v u:Int} (h1:Cong v ns ns') (h2:Cong u ts ts'):Cong (v*u) (movT N ns v ts u) (movT N ns' v ts' u):=by
 refine ⟨by unfold movT; rw [yI,yI,h1.1],λ i x y e1 e2=>?_⟩;unfold movT at e1 e2;rw [yH] at e1 e2;cases en:N[i]? with
 | none=>rw [en] at e1; cases e1
 | some r =>
  rw [en] at e1 e2;cases e3:ns[i]? with
  | none=>rw [e3] at e1; cases e1
  | some n =>
   cases e4:ns'[i]? with
   | none=>rw [e4] at e2; cases e2
   | some n' =>
    rw [e3] at e1;rw [e4] at e2;cases zT e1;cases zT e2;obtain ⟨k,hk⟩:=Dg r ts ts' h2;obtain ⟨m,hm⟩:=h1.2 i n n' e3 e4;refine ⟨k+m,?_⟩;have a1:dotI r ts=dotI r ts'+u*k:=⋯
    have a2:n=n'+v*m:=⋯
    rw [a1,a2];grind
theorem Cong.rest_eq {u:Int} {xs ys:LI'} (hu:0 < u) (h:Cong u xs ys):nM u xs=nM u ys:=by
 unfold nM;refine vK (by simp [h.1]) λ i h1 h2=>?_;simp at h1 h2;simp only [List.getElem_map];exact Dh hu (h.2 i xs[i] ys[i] (by simp [h1]) (by simp [h2]))
theorem Sq.mul {n:Nat} {A B:LM} (hA:Sq n A):Sq n (mulM n A B):=by
 refine ⟨by simp [mulM,hA.1],λ r hr=>?_⟩;obtain ⟨z,_,rfl⟩:=zE.mp hr;simp
theorem iI {d:Nat}:Sq d (idM d):=⟨by simp [idM],λ r hr=>by
 obtain ⟨i,_,rfl⟩:=zE.mp hr;simp⟩
theorem mul2 (a b c d a' b' c' d':Int):mulM 2 [[a,b],[c,d]] [[a',b'],[c',d']]=[[a*a'+b*c',a*b'+b*d'],[c*a'+d*c',c*b'+d*d']]:=by simp [mulM,dotI,colI,List.range,List.range.loop]
theorem mul3 (a b c d e f g i j a' b' c' d' e' f' g' i' j':Int):mulM 3 [[a,b,c],[d,e,f],[g,i,j]] [[a',b',c'],[d',e',f'],[g',i',j']]=[[a*a'+(b*d'+c*g'),a*b'+(b*e'+c*i'),a*c'+(b*f'+c*j')],[d*a'+(e*d'+f*g'),d*b'+(e*e'+f*i'),d*c'+(e*f'+f*j')],[g*a'+(i*d'+j*g'),g*b'+(i*e'+j*i'),g*c'+(i*f'+j*j')]]:=by
 simp [mulM,dotI,colI,List.range,List.range.loop]
theorem mul_assoc {d:Nat} (hd:d=2\/d=3) {A B C:LM} (hA:Sq d A) (hB:Sq d B) (hC:Sq d C):mulM d (mulM d A B) C=mulM d A (mulM d B C):=by
 rcases hd with e | e <;> subst e
 ·obtain ⟨a,b,c,d,rfl⟩:=sq2 hA;obtain ⟨a',b',c',d',rfl⟩:=sq2 hB;obtain ⟨a2,b2,c2,d2,rfl⟩:=sq2 hC;simp only [mul2,List.cons.injEq,and_true];refine ⟨⟨?_,?_⟩,?_,?_⟩ <;> grind
 ·obtain ⟨a,b,c,d,e,f,g,i,j,rfl⟩:=sq3 hA;obtain ⟨a',b',c',d',e',f',g',i',j',rfl⟩:=sq3 hB;obtain ⟨a2,b2,c2,d2,e2,f2,g2,i2,j2,rfl⟩:=sq3 hC;simp only [mul3,List.cons.injEq,and_true];refine ⟨⟨?_,?_,?_⟩,⟨?_,?_,?_⟩,?_,?_,?_⟩ <;> grind
theorem jC {d:Nat} (hd:d=2\/d=3) {A:LM} (hA:Sq d A):mulM d (idM d) A=A/\mulM d A (idM d)=A:=by
 rcases hd with e | e <;> subst e
 ·obtain ⟨a,b,c,d,rfl⟩:=sq2 hA;rw [id2,mul2,mul2];simp
 ·obtain ⟨a,b,c,d,e,f,g,i,j,rfl⟩:=sq3 hA;rw [id3,mul3,mul3];simp
theorem v2 {v:LI'} (h:v.length=2):∃ x y,v=[x,y]:=len2 h
theorem v3 {v:LI'} (h:v.length=3):∃ x y z,v=[x,y,z]:=len3 h
noncomputable def mv (M:LM) (v:LI'):LI':=M.map λ r=>dotI r v
noncomputable def va (v w:LI'):LI':=List.zipWith (·+·) v w
theorem lI {d:Nat} {A:LM} {v:LI'} (h:Sq d A):(mv A v).length=d:=by unfold mv; rw [zqe]; exact h.1
theorem mv2 (a b c e x y:Int):mv [[a,b],[c,e]] [x,y]=[a*x+b*y,c*x+e*y]:=by simp [mv,dotI]
theorem mv3 (a b c a' b' c' a'' b'' c'' x y z:Int):mv [[a,b,c],[a',b',c'],[a'',b'',c'']] [x,y,z]=[a*x+(b*y+c*z),a'*x+(b'*y+c'*z),a''*x+(b''*y+c''*z)]:=by simp [mv,dotI]
theorem va2 (a b c e:Int):va [a,b] [c,e]=[a+c,b+e]:=rfl
theorem va3 (a b c x y z:Int):va [a,b,c] [x,y,z]=[a+x,b+y,c+z]:=rfl
theorem cL {d:Nat} (hd:d=2\/d=3) {A B:LM} (hA:Sq d A) (hB:Sq d B) {v:LI'} (hv:v.length=d):mv (mulM d A B) v=mv A (mv B v):=by
 rcases hd with rfl | rfl
 ·obtain ⟨a,b,c,e,rfl⟩:=sq2 hA;obtain ⟨a',b',c',e',rfl⟩:=sq2 hB;obtain ⟨x,y,rfl⟩:=v2 hv;rw [mul2,mv2,mv2,mv2];simp only [List.cons.injEq,and_true];refine ⟨?_,?_⟩ <;> grind
 ·obtain ⟨a1,a2,a3,a4,a5,a6,a7,a8,a9,rfl⟩:=sq3 hA;obtain ⟨b1,b2,b3,b4,b5,b6,b7,b8,b9,rfl⟩:=sq3 hB;obtain ⟨x,y,z,rfl⟩:=v3 hv;rw [mul3,mv3,mv3,mv3];simp only [List.cons.injEq,and_true];refine ⟨?_,?_,?_⟩ <;> grind
theorem Kl {d:Nat} (hd:d=2\/d=3) {A:LM} (hA:Sq d A) {v w:LI'} (hv:v.length=d) (hw:w.length=d):mv A (va v w)=va (mv A v) (mv A w):=by
 rcases hd with rfl | rfl
 ·obtain ⟨a,b,c,e,rfl⟩:=sq2 hA;obtain ⟨x,y,rfl⟩:=v2 hv;obtain ⟨x',y',rfl⟩:=v2 hw;rw [va2,mv2,mv2,mv2,va2];simp only [List.cons.injEq,and_true];refine ⟨?_,?_⟩ <;> grind
 ·obtain ⟨a1,a2,a3,a4,a5,a6,a7,a8,a9,rfl⟩:=sq3 hA;obtain ⟨x,y,z,rfl⟩:=v3 hv;obtain ⟨x',y',z',rfl⟩:=v3 hw;rw [va3,mv3,mv3,mv3,va3];simp only [List.cons.injEq,and_true];refine ⟨?_,?_,?_⟩ <;> grind
theorem Ax {d:Nat} (hd:d=2\/d=3) {v:LI'} (hv:v.length=d):mv (idM d) v=v:=by
 rcases hd with rfl | rfl
 ·obtain ⟨x,y,rfl⟩:=v2 hv;rw [id2,mv2]; simp
 ·obtain ⟨x,y,z,rfl⟩:=v3 hv;rw [id3,mv3]; simp
noncomputable def smul (k:Int) (T:LI'):LI':=T.map λ t=>k*t
theorem jD {k:Int} {T:LI'}:(smul k T).length=T.length:=by unfold smul; rw [zqe]
theorem Kk (c a b:Int):smul c [a,b]=[c*a,c*b]:=rfl
theorem Kj (c a b e:Int):smul c [a,b,e]=[c*a,c*b,c*e]:=rfl
theorem cM {d:Nat} (hd:d=2\/d=3) {A:LM} (hA:Sq d A) {v:LI'} (hv:v.length=d) (c:Int):mv A (smul c v)=smul c (mv A v):=by
 rcases hd with rfl | rfl
 ·obtain ⟨a,b,c,e,rfl⟩:=sq2 hA;obtain ⟨x,y,rfl⟩:=v2 hv;rw [Kk,mv2,mv2,Kk];simp only [List.cons.injEq,and_true];refine ⟨?_,?_⟩ <;> grind
 ·obtain ⟨a1,a2,a3,a4,a5,a6,a7,a8,a9,rfl⟩:=sq3 hA;obtain ⟨x,y,z,rfl⟩:=v3 hv;rw [Kj,mv3,mv3,Kj];simp only [List.cons.injEq,and_true];refine ⟨?_,?_,?_⟩ <;> grind
structure Chg (d:Nat) (P P':LM):Prop where
 p:Sq d P
 q:Sq d P'
 l:mulM d P' P=idM d
 r:mulM d P P'=idM d
theorem Chg.id {d:Nat} (hd:d=2\/d=3):Chg d (idM d) (idM d):=⟨iI,iI,(jC hd iI).1,(jC hd iI).1⟩
theorem Chg.then {d:Nat} (hd:d=2\/d=3) {P P' R R':LM} (h:Chg d P P') (g:Chg d R R'):Chg d (mulM d R P) (mulM d P' R'):=by
 refine ⟨g.p.mul,h.q.mul,?_,?_⟩
 ·rw [mul_assoc hd h.q g.q g.p.mul,← mul_assoc hd g.q g.p h.p,g.l,(jC hd h.p).1,h.l]
 ·rw [mul_assoc hd g.p h.p h.q.mul,← mul_assoc hd h.p h.q g.q,h.r,(jC hd g.q).1,g.r]
noncomputable def cjM (d:Nat) (P P' M:LM):LM:=mulM d (mulM d P M) P'
theorem gG {d:Nat} {P P':LM} (h:Chg d P P') (M:LM):Sq d (cjM d P P' M):=h.p.mul.mul
theorem Vm {d:Nat} (hd:d=2\/d=3) {P P' R R' M:LM} (h:Chg d P P') (g:Chg d R R') (hM:Sq d M):cjM d R R' (cjM d P P' M)=cjM d (mulM d R P) (mulM d P' R') M:=by
 unfold cjM;rw [mul_assoc hd g.p h.p hM,← mul_assoc hd (g.p.mul) h.q g.q,mul_assoc hd g.p (h.p.mul) h.q]
theorem Vl {d:Nat} (hd:d=2\/d=3) {P P' M:LM} (h:Chg d P P') (hM:Sq d M) {v:LI'} (hv:v.length=d):mv (cjM d P P' M) (mv P v)=mv P (mv M v):=by
 unfold cjM;rw [← cL hd (h.p.mul.mul) h.p hv,mul_assoc hd h.p.mul h.q h.p,h.l,(jC hd h.p.mul).2,cL hd h.p hM hv]
noncomputable def vs (v w:LI'):LI':=List.zipWith (· - ·) v w
theorem vs2 (a b c e:Int):vs [a,b] [c,e]=[a - c,b - e]:=rfl
theorem vs3 (a b c x y z:Int):vs [a,b,c] [x,y,z]=[a - x,b - y,c - z]:=rfl
theorem Df {d:Nat} {v w:LI'} (hv:v.length=d) (hw:w.length=d):(va v w).length=d:=by unfold va; rw [yI,hv,hw,vN]
theorem Vk {d:Nat} {v w:LI'} (hv:v.length=d) (hw:w.length=d):(vs v w).length=d:=by unfold vs; rw [yI,hv,hw,vN]
theorem Vj {d:Nat} (hd:d=2\/d=3) {A:LM} (hA:Sq d A) {v w:LI'} (hv:v.length=d) (hw:w.length=d):mv A (vs v w)=vs (mv A v) (mv A w):=by
 rcases hd with rfl | rfl
 ·obtain ⟨a,b,c,e,rfl⟩:=sq2 hA;obtain ⟨x,y,rfl⟩:=v2 hv;obtain ⟨p,q,rfl⟩:=v2 hw;rw [vs2,mv2,mv2,mv2,vs2];congr 1
  ·grind
  ·congr 1; grind
 ·obtain ⟨a,b,c,a',b',c',a'',b'',c'',rfl⟩:=sq3 hA;obtain ⟨x,y,z,rfl⟩:=v3 hv;obtain ⟨p,q,r,rfl⟩:=v3 hw;rw [vs3,mv3,mv3,mv3,vs3];congr 1
  ·grind
  ·congr 1
   ·grind
   ·congr 1; grind
noncomputable def cjT (d:Nat) (P P' M:LM) (ts S:LI'):LI':=vs (va (mv P ts) S) (mv (cjM d P P' M) S)
theorem De {d:Nat} {P P' M:LM} (h:Chg d P P') {ts S:LI'} (hS:S.length=d):(cjT d P P' M ts S).length=d:=Vk (Df (lI h.p) hS) (lI h.p.mul.mul)
theorem Ki {d:Nat} (hd:d=2\/d=3) {P P' A B:LM} (h:Chg d P P') (hA:Sq d A) (hB:Sq d B):mulM d (cjM d P P' B) (cjM d P P' A)=cjM d P P' (mulM d B A):=by
 unfold cjM;rw [mul_assoc hd h.p.mul h.q h.p.mul.mul,mul_assoc hd h.p hA h.q,← mul_assoc hd h.q h.p hA.mul,h.l,(jC hd hA.mul).1,← mul_assoc hd h.p.mul hA h.q,mul_assoc hd h.p hB hA]
noncomputable def stM (d i j:Nat) (m:Int):LM:=(List.range d).map λ a=>(List.range d).map λ b=>if a=b then 1 else if a=i/\b=j then m else 0
noncomputable def vst (i j:Nat) (m:Int) (v:LI'):LI':=v.set i (v.getD i 0+m*v.getD j 0)
noncomputable def mixR (d:Nat) (x y:LI') (m:Int):LI':=(List.range d).map λ k=>x.getD k 0+m*y.getD k 0
noncomputable def colR (d i j:Nat) (m:Int) (row:LI'):LI':=(List.range d).map λ k=>row.getD k 0 - (if k=j then 1 else 0)*m*row.getD i 0
noncomputable def kS (d i j:Nat) (m:Int) (A:LM):LM:=(A.set i (mixR d (A.getD i []) (A.getD j []) m)).map (colR d i j m)
theorem gH {d i j:Nat} {m:Int}:Sq d (stM d i j m):=⟨by simp [stM],λ r hr=>by
 obtain ⟨a,_,rfl⟩:=zE.mp hr;simp⟩
theorem st3 {i j:Nat} {m:Int} {F:Int->LM} (e:∀ m,stM 3 i j m=F m) (h1:∀ m:Int,mulM 3 (F (-m)) (F m)=idM 3) (h2:∀ x y z:Int,mv (F m) [x,y,z]=vst i j m [x,y,z]) (h3:∀ a b c d e f g h k:Int,kS 3 i j m [[a,b,c],[d,e,f],[g,h,k]]=mulM 3 (mulM 3 (F m) [[a,b,c],[d,e,f],[g,h,k]]) (F (-m))) :
  Chg 3 (stM 3 i j m) (stM 3 i j (-m))/\(∀ v:LI',v.length=3->mv (stM 3 i j m) v=vst i j m v)/\∀ A,Sq 3 A->kS 3 i j m A=cjM 3 (stM 3 i j m) (stM 3 i j (-m)) A:=by
 refine ⟨⟨gH,gH,by rw [e,e]; exact h1 m,?_⟩,λ v hv=>?_,λ A hA=>?_⟩
 ·have:=h1 (-m);rw [Int.neg_neg] at this;rw [e,e]; exact this
 ·obtain ⟨x,y,z,rfl⟩:=v3 hv;rw [e]; exact h2 x y z
 ·obtain ⟨a,b,c,d,e',f,g,h,k,rfl⟩:=sq3 hA;unfold cjM;rw [e,e]; exact h3 ..
theorem Dc {d i j:Nat} {m:Int} (hd:d=2\/d=3) (hi:i < d) (hj:j < d) (hij:i≠j):Chg d (stM d i j m) (stM d i j (-m))/\(∀ v:LI',v.length=d->mv (stM d i j m) v=vst i j m v)/\∀ A,Sq d A->kS d i j m A=cjM d (stM d i j m) (stM d i j (-m)) A:=by
 rcases hd with e | e <;> subst e
 ·rcases (show (i=0/\j=1)\/(i=1/\j=0) by omega) with ⟨e1,e2⟩ | ⟨e1,e2⟩ <;> subst e1 e2
  ·have e:∀ m:Int,stM 2 0 1 m=[[1,m],[0,1]]:=λ m=>rfl;refine ⟨⟨gH,gH,by rw [e,e,mul2,id2]; simp; omega,by rw [e,e,mul2,id2]; simp; omega⟩,λ v hv=>?_,λ A hA=>?_⟩
   ·obtain ⟨x,y,rfl⟩:=v2 hv;rw [e,mv2]; simp [vst]
   ·obtain ⟨a,b,c,d,rfl⟩:=sq2 hA;unfold cjM;rw [e,e,mul2,mul2];simp [kS,mixR,colR,List.range,List.range.loop];grind
  ·have e:∀ m:Int,stM 2 1 0 m=[[1,0],[m,1]]:=λ m=>rfl;refine ⟨⟨gH,gH,by rw [e,e,mul2,id2]; simp; omega,by rw [e,e,mul2,id2]; simp; omega⟩,λ v hv=>?_,λ A hA=>?_⟩
   ·obtain ⟨x,y,rfl⟩:=v2 hv;rw [e,mv2]; simp [vst]; omega
   ·obtain ⟨a,b,c,d,rfl⟩:=sq2 hA;unfold cjM;rw [e,e,mul2,mul2];simp [kS,mixR,colR,List.range,List.range.loop];grind
 ·rcases (show (i=0/\j=1)\/(i=0/\j=2)\/(i=1/\j=0)\/(i=1/\j=2)\/(i=2/\j=0)\/(i=2/\j=1) by omega) with ⟨e1,e2⟩ | ⟨e1,e2⟩ | ⟨e1,e2⟩ | ⟨e1,e2⟩ | ⟨e1,e2⟩ | ⟨e1,e2⟩ <;> subst e1 e2
  ·exact st3 (F:=λ m=>[[1,m,0],[0,1,0],[0,0,1]]) (λ _=>rfl) (λ _=>by rw [mul3,id3]; simp; try omega) (λ _ _ _=>by rw [mv3]; simp [vst]; try omega) λ _ _ _ _ _ _ _ _ _=>by rw [mul3,mul3]; simp [kS,mixR,colR,List.range,List.range.loop]; grind
  ·exact st3 (F:=λ m=>[[1,0,m],[0,1,0],[0,0,1]]) (λ _=>rfl) (λ _=>by rw [mul3,id3]; simp; try omega) (λ _ _ _=>by rw [mv3]; simp [vst]; try omega) λ _ _ _ _ _ _ _ _ _=>by rw [mul3,mul3]; simp [kS,mixR,colR,List.range,List.range.loop]; grind
  ·exact st3 (F:=λ m=>[[1,0,0],[m,1,0],[0,0,1]]) (λ _=>rfl) (λ _=>by rw [mul3,id3]; simp; try omega) (λ _ _ _=>by rw [mv3]; simp [vst]; try omega) λ _ _ _ _ _ _ _ _ _=>by rw [mul3,mul3]; simp [kS,mixR,colR,List.range,List.range.loop]; grind
  ·exact st3 (F:=λ m=>[[1,0,0],[0,1,m],[0,0,1]]) (λ _=>rfl) (λ _=>by rw [mul3,id3]; simp; try omega) (λ _ _ _=>by rw [mv3]; simp [vst]; try omega) λ _ _ _ _ _ _ _ _ _=>by rw [mul3,mul3]; simp [kS,mixR,colR,List.range,List.range.loop]; grind
  ·exact st3 (F:=λ m=>[[1,0,0],[0,1,0],[m,0,1]]) (λ _=>rfl) (λ _=>by rw [mul3,id3]; simp; try omega) (λ _ _ _=>by rw [mv3]; simp [vst]; try omega) λ _ _ _ _ _ _ _ _ _=>by rw [mul3,mul3]; simp [kS,mixR,colR,List.range,List.range.loop]; grind
  ·exact st3 (F:=λ m=>[[1,0,0],[0,1,0],[0,m,1]]) (λ _=>rfl) (λ _=>by rw [mul3,id3]; simp; try omega) (λ _ _ _=>by rw [mv3]; simp [vst]; try omega) λ _ _ _ _ _ _ _ _ _=>by rw [mul3,mul3]; simp [kS,mixR,colR,List.range,List.range.loop]; grind
structure Stp where
 i:Nat
 j:Nat
 m:Int
structure Stp.Ok (d:Nat) (s:Stp):Prop where
 hi:s.i < d
 hj:s.j < d
 ne:s.i≠s.j
 m2:s.m.natAbs<=2
noncomputable def chP (d:Nat):List Stp->LM
 | []=>idM d
 | s :: L=>mulM d (stM d s.i s.j s.m) (chP d L)
noncomputable def chQ (d:Nat):List Stp->LM
 | []=>idM d
 | s :: L=>mulM d (chQ d L) (stM d s.i s.j (-s.m))
theorem jJ {d:Nat} (hd:d=2\/d=3):∀ {L:List Stp},(∀ s∈L,s.Ok d)->Chg d (chP d L) (chQ d L)
 | [],_=>Chg.id hd
 | s :: L,h=>by
  have o:=h s (zS ..);exact (jJ hd λ z hz=>h z (zK _ hz)).then hd (Dc hd o.hi o.hj o.ne).1
theorem Vi {d:Nat} (hd:d=2\/d=3) {L:List Stp} (h:∀ s∈L,s.Ok d) {s:Stp} (o:s.Ok d) {A:LM} (hA:Sq d A):kS d s.i s.j s.m (cjM d (chP d L) (chQ d L) A)=cjM d (chP d (s :: L)) (chQ d (s :: L)) A:=by
 have g:=(Dc (m:=s.m) hd o.hi o.hj o.ne);rw [g.2.2 _ (gG (jJ hd h) A),Vm hd (jJ hd h) g.1 hA];rfl
theorem Vh {d:Nat} (hd:d=2\/d=3) {L:List Stp} (h:∀ s∈L,s.Ok d) {s:Stp} (o:s.Ok d) {v:LI'} (hv:v.length=d):vst s.i s.j s.m (mv (chP d L) v)=mv (chP d (s :: L)) v:=by
 have g:=(Dc (m:=s.m) hd o.hi o.hj o.ne);have c:=jJ hd h;rw [← g.2.1 _ (lI c.p),← cL hd gH c.p hv];rfl
theorem Kh {d:Nat} (hd:d=2\/d=3) {A:LM} (hA:Sq d A) {v:LI'} (hv:v.length=d):cjM d (chP d []) (chQ d []) A=A/\mv (chP d []) v=v:=by
 refine ⟨?_,Ax hd hv⟩;unfold chP chQ cjM;rw [(jC hd hA).1,(jC hd hA).2]
def LeM (N:Nat) (A:LM):Prop:=∀ r∈A,∀ z∈r,z.natAbs<=N
theorem Kg {d i j:Nat} {m:Int} {N:Nat} (h:m.natAbs<=N) (hN:1<=N):LeM N (stM d i j m):=λ r hr z hz=>by
 obtain ⟨a,_,rfl⟩:=zE.mp hr;obtain ⟨b,_,rfl⟩:=zE.mp hz;split
 ·exact hN
 ·split
  ·exact h
  ·omega
theorem Db {A B:Nat}:∀ (r ns:LI'),(∀ z∈r,z.natAbs<=A)->(∀ z∈ns,z.natAbs<=B)->(dotI r ns).natAbs<=r.length*(A*B)
 | [],ns,_,_=>by simp [dotI]
 | _ :: _,[],_,_=>by simp [dotI]
 | a :: r,b :: ns,h1,h2=>by
  have ih:=Db r ns (λ z hz=>h1 z (zK _ hz)) λ z hz=>h2 z (zK _ hz);unfold dotI at ih ⊢;rw [yZ,wS,zX,tG];have e1:(a*b).natAbs<=A*B:=by rw [yN]; exact wL (h1 a zS) (h2 b zS)
  have e2:=qM (a*b) (List.zipWith (λ x1 x2=>x1*x2) r ns).sum;omega
theorem Vg {N:Nat} {A:LM} (h:LeM N A) (k:Nat):∀ z∈colI k A,z.natAbs<=N:=λ z hz=>by
 unfold colI at hz;obtain ⟨r,hr,rfl⟩:=zE.mp hz;rw [zqc];cases e:r[k]? with
 | none=>exact yY _
 | some y=>exact h r hr y (zqb e)
theorem Aw {d A B:Nat} {M N:LM} (sM:Sq d M) (hM:LeM A M) (hN:LeM B N):LeM (d*(A*B)) (mulM d M N):=λ r hr z hz=>by
 obtain ⟨x,hx,rfl⟩:=zE.mp hr;obtain ⟨k,_,rfl⟩:=zE.mp hz;have:=Db x (colI k N) (hM x hx) (Vg hN k);rw [sM.2 x hx] at this;exact this
theorem Kf {c:Int}:∀ {r v:LI'},dotI r (smul c v)=c*dotI r v
 | [],v=>by simp [dotI]
 | _ :: _,[]=>by simp [dotI,smul]
 | a :: r,x :: v=>by
  have:=Kf (c:=c) (r:=r) (v:=v);unfold dotI smul at this ⊢;simp only [List.map_cons,List.zipWith_cons_cons,List.sum_cons];rw [this];grind
noncomputable def canD (M:LM) (ts:LI') (U:Int):Dd:=(M,nM (redU U ts) (redT U ts),redU U ts)
theorem Da {M:LM} {ts ts':LI'} {U:Int} (hU:0 < U) (h:Cong U ts ts'):canD M ts U=canD M ts' U:=by
 obtain ⟨h1,h2⟩:=h.red hU;unfold canD;rw [h1,← h1,h2,h1]
theorem Av {U:Int} {ts:LI'} (hU:0 < U):cs U ts=gl U ts/\0 < cs U ts:=by
 have:=aR ts (show U≠0 by omega);unfold cs;rw [if_neg ⋯];exact ⟨rfl,this⟩
theorem eA {U:Int} {ts:LI'} (hU:0 < U):∃ c,0 < c/\ts=smul c (redT U ts)/\U=c*redU U ts/\0 < redU U ts:=by
 obtain ⟨h1,h2⟩:=Av (ts:=ts) hU;refine ⟨cs U ts,h2,?_,?_,aS ts ⋯⟩
 ·unfold smul redT;rw [xE]
  conv=>lhs; rw [← List.map_id ts]
  refine wG λ t ht=>?_;show t=cs U ts*t.fdiv (cs U ts);rw [vO];exact (jR ⋯ (jQ (cH ht))).symm
 ·rw [vO];exact (jR ⋯ (jQ (gl_u U ts))).symm
theorem Ez {U k:Int} {ts:LI'} (hU:0 < U) (hk:0 < k):redT (k*U) (smul k ts)=redT U ts/\redU (k*U) (smul k ts)=redU U ts:=by
 have hkU:0 < k*U:=yS hk hU;have hg:cs (k*U) (smul k ts)=k*cs U ts:=by
  rw [(Av hkU).1,(Av hU).1,vO k U,vO k (gl U ts),← Kn hk];unfold smul;congr 1;exact wG λ t _=>vO k t
 have hc:=(Av (ts:=ts) hU).2;refine ⟨?_,?_⟩
 ·unfold redT;rw [hg];unfold smul;rw [xE];exact wG λ t ht=>by
   show (k*t).fdiv (k*cs U ts)=_;exact oE _ _ hk
 ·unfold redU;rw [hg];exact oE _ _ hk
theorem Au {M:LM} {U k:Int} {ts:LI'} (hU:0 < U) (hk:0 < k):canD M (smul k ts) (k*U)=canD M ts U:=by
 obtain ⟨h1,h2⟩:=Ez (ts:=ts) hU hk;unfold canD;rw [h1,h2]
theorem Ke {N:LM} {ns ts:LI'} {c e u v:Int}:movT N (smul e ns) (e*v) (smul c ts) (c*u)=smul (e*c) (movT N ns v ts u):=by
 unfold movT
 induction N generalizing ns with
 | nil=>rfl
 | cons r N ih =>
  cases ns with
  | nil=>rfl
  | cons n ns =>
   have:=ih (ns:=ns);unfold smul at this ⊢;rw [zG,yZ,yZ,zG,this];have hd:=Kf (c:=c) (r:=r) (v:=ts);unfold smul at hd;rw [hd];congr 1;grind
theorem iR {d:Nat} {M N:LM} {ts ns:LI'} {U V:Int} (hU:0 < U) (hV:0 < V):nE d (canD M ts U) (canD N ns V)=canD (mulM d N M) (movT N ns V ts U) (V*U):=by
 obtain ⟨c,hc,e1,e2,hu⟩:=eA (ts:=ts) hU;obtain ⟨e,he,e3,e4,hv⟩:=eA (ts:=ns) hV;have k1:canD (mulM d N M) (movT N ns V ts U) (V*U)=canD (mulM d N M) (movT N (redT V ns) (redU V ns) (redT U ts) (redU U ts)) (redU V ns*redU U ts):=by
  have hh:V*U=(e*c)*(redU V ns*redU U ts):=by
   conv=>lhs; rw [e2,e4]
   grind
  have hm:movT N ns V ts U=smul (e*c) (movT N (redT V ns) (redU V ns) (redT U ts) (redU U ts)):=by
   rw [← Ke,← e1,← e2,← e3,← e4]
  rw [hh,hm,Au (yS hv hu) (yS he hc)]
 rw [k1];exact Da (yS hv hu) (Km (Cong.rest hv _) (Cong.rest hu _)) |>.symm
noncomputable def frD (d:Nat) (P P':LM) (s:LI') (su p:Int) (R:LM) (t:LI'):Dd:=canD (cjM d P P' R) (cjT d P P' R (smul su t) (smul p s)) (p*su)
theorem Vf {d:Nat} (hd:d=2\/d=3) {A B C D S:LI'} (hA:A.length=d) (hB:B.length=d) (hC:C.length=d) (hD:D.length=d) (hS:S.length=d):va (vs (va A B) C) (vs (va D S) B)=vs (va (va A D) S) C:=by
 rcases hd with rfl | rfl
 ·obtain ⟨a,a',rfl⟩:=v2 hA;obtain ⟨b,b',rfl⟩:=v2 hB;obtain ⟨c,c',rfl⟩:=v2 hC;obtain ⟨e,e',rfl⟩:=v2 hD;obtain ⟨f,f',rfl⟩:=v2 hS;simp only [va2,vs2,List.cons.injEq,and_true];omega
 ·obtain ⟨a,a',a2,rfl⟩:=v3 hA;obtain ⟨b,b',b2,rfl⟩:=v3 hB;obtain ⟨c,c',c2,rfl⟩:=v3 hC;obtain ⟨e,e',e2,rfl⟩:=v3 hD;obtain ⟨f,f',f2,rfl⟩:=v3 hS;simp only [va3,vs3,List.cons.injEq,and_true];omega
theorem Ve {N:LM} {ns ts:LI'} {U:Int}:movT N ns U ts U=smul U (va (mv N ts) ns):=by
 unfold movT va mv
 induction N generalizing ns with
 | nil=>rfl
 | cons r N ih =>
  cases ns with
  | nil=>rfl
  | cons n ns =>
   have:=ih (ns:=ns);unfold smul at this ⊢;rw [yZ,zG,yZ,zG,this];congr 1;grind
theorem Kd {c:Int}:∀ {v w:LI'},smul c (va v w)=va (smul c v) (smul c w)
 | [],_=>by simp [smul,va]
 | _ :: _,[]=>by simp [smul,va]
 | a :: v,b :: w=>by
  have:=Kd (c:=c) (v:=v) (w:=w);unfold smul va at this ⊢;simp only [List.map_cons,List.zipWith_cons_cons];rw [this,Int.mul_add]
theorem fr_step {d:Nat} (hd:d=2\/d=3) {P P':LM} (h:Chg d P P') {s:LI'} (hs:s.length=d) {su p:Int} (hu:0 < su) (hp:0 < p) {R1 R2:LM} (h1:Sq d R1) (h2:Sq d R2) {t1 t2:LI'} (l1:t1.length=d) (l2:t2.length=d) :
  nE d (frD d P P' s su p R1 t1) (frD d P P' s su p R2 t2)=frD d P P' s su p (mulM d R2 R1) (va (mv R2 t1) t2):=by
 have hU:0 < p*su:=yS hp hu;have lS:(smul p s).length=d:=by rw [jD]; exact hs
 have la:(smul su t1).length=d:=by rw [jD]; exact l1
 have lb:(smul su t2).length=d:=by rw [jD]; exact l2
 have s1:=gG h R1;have s2:=gG h R2;unfold frD;rw [iR hU hU,Ve,Au hU hU,Ki hd h h1 h2];congr 1;unfold cjT;rw [Vj hd s2 (Df (lI h.p) lS) (lI s1),Kl hd s2 (lI h.p) lS,Vl hd h h2 la,Vf hd (lI h.p) (lI s2) (lI s2) (lI h.p) lS,← cL hd s2 s1 lS,Ki hd h h1 h2,Kd,Kl hd h.p (by rw [jD]; exact lI h2) lb,cM hd h2 l1]
theorem Vd {u:Int} {a a' b b':LI'} (h1:Cong u a a') (h2:Cong u b b'):Cong u (va a b) (va a' b'):=by
 refine ⟨by unfold va; rw [yI,yI,h1.1,h2.1],λ i x y ex ey=>?_⟩;unfold va at ex ey;rw [yH] at ex ey;cases ea:a[i]? <;> cases eb:b[i]? <;> simp [ea,eb] at ex;cases ea':a'[i]? <;> cases eb':b'[i]? <;> simp [ea',eb'] at ey;rename_i p q p' q';have g1:=h1.2 i _ _ ea ea';have g2:=h2.2 i _ _ eb eb';rw [← ex,← ey,show p+q - (p'+q')=(p - p')+(q - q') by omega];exact Int.dvd_add g1 g2
theorem Vc {u:Int} {a a' b b':LI'} (h1:Cong u a a') (h2:Cong u b b'):Cong u (vs a b) (vs a' b'):=by
 refine ⟨by unfold vs; rw [yI,yI,h1.1,h2.1],λ i x y ex ey=>?_⟩;unfold vs at ex ey;rw [yH] at ex ey;cases ea:a[i]? <;> cases eb:b[i]? <;> simp [ea,eb] at ex;cases ea':a'[i]? <;> cases eb':b'[i]? <;> simp [ea',eb'] at ey;rename_i p q p' q';have g1:=h1.2 i _ _ ea ea';have g2:=h2.2 i _ _ eb eb';rw [← ex,← ey,show p - q - (p' - q')=(p - p') - (q - q') by omega];exact Int.dvd_sub g1 g2
theorem Ey {u:Int} (a:LI'):Cong u a a:=⟨rfl,λ i x y ex ey=>by rw [ex] at ey; cases ey; rw [Int.sub_self]; exact Int.dvd_zero u⟩
theorem Vb {u:Int} {M:LM} {a a':LI'} (h:Cong u a a'):Cong u (mv M a) (mv M a'):=by
 refine ⟨by unfold mv; rw [zqe,zqe],λ i x y ex ey=>?_⟩;unfold mv at ex ey;rw [zB] at ex ey;cases e:M[i]? <;> simp [e] at ex ey;rw [← ex,← ey];exact Dg _ _ _ h
theorem Va {u c:Int} {a a':LI'} (h:Cong u a a'):Cong (u*c) (smul c a) (smul c a'):=by
 refine ⟨by rw [jD,jD,h.1],λ i x y ex ey=>?_⟩;unfold smul at ex ey;rw [zB] at ex ey;cases e:a[i]? <;> simp [e] at ex;cases e':a'[i]? <;> simp [e'] at ey;rw [← ex,← ey,← Int.mul_sub,vO c];exact qX (h.2 i _ _ e e') (vP c)
theorem Wz {d:Nat} {P P':LM} {s:LI'} {su p:Int} (hu:0 < su) (hp:0 < p) {R:LM} {t t':LI'} (h:Cong p t t'):frD d P P' s su p R t=frD d P P' s su p R t' :=
 Da (yS hp hu) (Vc (Vd (Vb (Va h)) (Ey _)) (Ey _))
theorem At {α:Type}:∀ {l L:List α},l.Nodup->(∀ x∈l,x∈L)->l.length<=L.length
 | [],L,_,_=>yY _
 | a :: l,L,nd,h=>by
  obtain ⟨s,t,e⟩:=List.append_of_mem (h a zS);have nd':=xM.mp nd;have:=At (L:=s++t) nd'.2 λ x hx=>by
   have hm:=h x (zK _ hx);rw [e] at hm;rcases xB.mp hm with hm | hm
   ·exact vC _ hm
   ·rcases zL.mp hm with rfl | hm
    ·exact absurd hx nd'.1
    ·exact yM _ hm
  rw [e];simp only [List.length_append,List.length_cons] at this ⊢;omega
theorem Kc {d:Nat} {x:Dd} {w:List Nat} {G:Dd->Prop}:∀ (l:List (Dd × Nat)) (tb:Tb),(∀ k∈l,G (nE d x k.1))->(∀ y∈tb,G y.1)->∀ y∈l.foldl (nxt d x w) tb,G y.1
 | [],_,_,h=>h
 | k :: l,tb,hs,h=>Kc l _ (λ k' hk=>hs k' (zK _ hk)) (Kv h (hs k zS))
theorem Kb {ss:List Dd} {k:Dd × Nat} (h:k∈ss.zipIdx):k.1∈ss/\ss[k.2]?=some k.1:=by
 obtain ⟨i,hi⟩:=xS h;rw [rT] at hi;cases e:ss[i]? with
 | none=>rw [e] at hi; cases hi
 | some s =>
  rw [e] at hi;cases hi;exact ⟨zqb e,by simpa using e⟩
theorem Wy {d:Nat} {ss:List Dd} {G:Dd->Prop} (hs:∀ x,G x->∀ s∈ss,G (nE d x s)) {tb:Tb} {i:Nat} (h:∀ y∈tb,G y.1):∀ y∈kQ d ss tb i,G y.1:=by
 unfold kQ;cases e:tb[i]? with
 | none=>exact h
 | some xw=>exact Kc _ _ (λ k hk=>hs _ (h _ (zqb e)) _ (Kb hk).1) h
theorem Ka {d:Nat} {ss:List Dd} {G:Dd->Prop} (hs:∀ x,G x->∀ s∈ss,G (nE d x s)):∀ (n i:Nat) (tb:Tb),(∀ y∈tb,G y.1)->∀ y∈mO d ss n i tb,G y.1
 | 0,_,_,h=>h
 | n+1,i,tb,h=>by
  unfold mO;split
  ·exact Ka hs n (i+1) _ (Wy hs h)
  ·exact h
theorem Wx {d:Nat} {ss:List Dd} {tb:Tb} {i:Nat} (h:(tb.map (·.1)).Nodup):((kQ d ss tb i).map (·.1)).Nodup:=by
 unfold kQ;split
 ·exact h
 ·exact Kw _ _ h
theorem Lz {d:Nat} {ss:List Dd}:∀ (n i:Nat) (tb:Tb),(tb.map (·.1)).Nodup->((mO d ss n i tb).map (·.1)).Nodup
 | 0,_,_,h=>h
 | n+1,i,tb,h=>by
  unfold mO;split
  ·exact Lz n (i+1) _ (Wx h)
  ·exact h
noncomputable abbrev tab (d:Nat) (ss:List Dd) (N:Nat):Tb:=mO d ss N 0 [(nP d,[])]
theorem cN {d:Nat} {ss:List Dd} {N:Nat}:((tab d ss N).map (·.1)).Nodup:=Lz N 0 _ (by simp)
theorem Ly {d:Nat} {ss:List Dd} {N:Nat} {G:Dd->Prop} (h0:G (nP d)) (hs:∀ x,G x->∀ s∈ss,G (nE d x s)):∀ y∈tab d ss N,G y.1:=Ka hs N 0 _ λ y hy=>by rw [yF.mp hy]; exact h0
theorem Ww {d:Nat} {ss:List Dd} {N:Nat} {G:Dd->Prop} {L:List Dd} (h0:G (nP d)) (hs:∀ x,G x->∀ s∈ss,G (nE d x s)) (hL:∀ x,G x->x∈L):(tab d ss N).length<=L.length:=by
 rw [← zqe (f:=(·.1))];exact At cN λ x hx=>by
  obtain ⟨y,hy,rfl⟩:=zE.mp hx;exact hL _ (Ly h0 hs y hy)
theorem Lx {d:Nat} {x:Dd} {w:List Nat}:∀ (l:List (Dd × Nat)) (tb:Tb),∀ k∈l,nE d x k.1∈(l.foldl (nxt d x w) tb).map (·.1)
 | k :: l,tb,k',hk=>by
  rw [wN];rcases zL.mp hk with rfl | hk
  ·have h:nE d x k'.1∈(nxt d x w tb k').map (·.1):=by
    unfold nxt;split
    ·assumption
    ·simp
   obtain ⟨r,e⟩:=cJ d x w l (nxt d x w tb k');rw [e,xD];exact vC _ h
  ·exact Lx l _ k' hk
theorem Wv {d:Nat} {ss:List Dd} {tb:Tb} {i:Nat} {xw:Dd × List Nat} (e:tb[i]?=some xw) {s:Dd} (hs:s∈ss):nE d xw.1 s∈(kQ d ss tb i).map (·.1):=by
 unfold kQ;rw [e];obtain ⟨j,hj⟩:=xS hs;exact Lx ss.zipIdx tb (s,j) (zqb (i:=j) (by rw [rT,hj]; simp))
theorem Lw {d:Nat} {ss:List Dd}:∀ (n i:Nat) (tb:Tb),(∀ j,j < i->∀ xw,tb[j]?=some xw->∀ s∈ss,nE d xw.1 s∈tb.map (·.1))->(mO d ss n i tb).length<=n+i->∀ xw∈mO d ss n i tb,∀ s∈ss,nE d xw.1 s∈(mO d ss n i tb).map (·.1)
 | 0,i,tb,h,hl=>λ xw hx s hs=>by
  obtain ⟨j,hj⟩:=xS hx;have:=(zqa hj).1;unfold mO at hl this hj ⊢;exact h j ⋯ _ hj s hs
 | n+1,i,tb,h,hl=>by
  unfold mO at hl ⊢;split
  ·next q =>
   rw [if_pos q] at hl;obtain ⟨r,er⟩:=Ja d ss tb i;refine Lw n (i+1) _ (λ j hj xw e s hs=>?_) ⋯;rcases uJ j i with l | l
   ·rw [er,yK ⋯] at e;rw [er,xD];exact vC _ (h j l xw e s hs)
   ·have:j=i:=⋯
    subst this;rw [er,yK ⋯] at e;exact Wv e hs
  ·next q =>
   intro xw hx s hs;obtain ⟨j,hj⟩:=xS hx;have:=(zqa hj).1;exact h j ⋯ _ hj s hs
theorem Wu {d:Nat} {ss:List Dd} {N:Nat} (h:(tab d ss N).length<=N):∀ xw∈tab d ss N,∀ s∈ss,nE d xw.1 s∈(tab d ss N).map (·.1):=Lw N 0 _ (λ j hj=>absurd hj (qW j)) h
theorem Lv {d:Nat} {ss:List Dd} {N:Nat}:(nP d,[])∈tab d ss N:=by
 obtain ⟨r,e⟩:=aW d ss N 0 [(nP d,[])];unfold tab;rw [e];simp
noncomputable def As (d:Nat) (ss:List Dd) (w:List Nat):Dd:=w.foldl (λ x k=>nE d x (ss.getD k (nP d))) (nP d)
def WdOk (d:Nat) (ss:List Dd) (y:Dd × List Nat):Prop:=y.1=As d ss y.2/\∀ k∈y.2,k < ss.length
theorem Lu {d:Nat} {ss:List Dd} {x:Dd} {w:List Nat} (hx:WdOk d ss (x,w)):∀ (l:List (Dd × Nat)) (tb:Tb),(∀ k∈l,ss[k.2]?=some k.1)->(∀ y∈tb,WdOk d ss y)->∀ y∈l.foldl (nxt d x w) tb,WdOk d ss y
 | [],_,_,h=>h
 | k :: l,tb,hl,h=>by
  refine Lu hx l _ (λ k' hk=>hl k' (zK _ hk)) λ y hy=>?_;unfold nxt at hy;split at hy
  ·exact h y hy
  ·rcases xB.mp hy with hy | hy
   ·exact h y hy
   ·rw [yF.mp hy];have e:=hl k zS;refine ⟨?_,λ j hj=>?_⟩
    ·show nE d x k.1=As d ss (w++[k.2]);unfold As;rw [uL,wN,List.foldl_nil];show _=nE d (As d ss w) _;rw [← hx.1,zqc,e];rfl
    ·rcases xB.mp hj with hj | hj
     ·exact hx.2 j hj
     ·rw [yF.mp hj];exact (zqa e).1
theorem Ls {d:Nat} {ss:List Dd}:∀ (n i:Nat) (tb:Tb),(∀ y∈tb,WdOk d ss y)->∀ y∈mO d ss n i tb,WdOk d ss y
 | 0,_,_,h=>h
 | n+1,i,tb,h=>by
  unfold mO;split
  ·refine Ls n (i+1) _ ?_;unfold kQ;cases e:tb[i]? with
   | none=>exact h
   | some xw=>exact Lu (h _ (zqb e)) _ _ (λ k hk=>(Kb hk).2) h
  ·exact h
theorem Ws {d:Nat} {ss:List Dd} {N:Nat}:∀ y∈tab d ss N,WdOk d ss y:=Ls N 0 _ λ y hy=>by rw [yF.mp hy]; exact ⟨rfl,λ k hk=>by cases hk⟩
theorem fms (x y:Int) (h:0 < y):0<=x.fmod y/\x.fmod y < y:=⟨uO x h,tU x h⟩
theorem mK.le {B C:Nat} {ts:LI'} (h:mK B ts) (hc:B<=C):mK C ts:=λ x hx=>zI (h x hx) (yT ∅ hc)
def gI (H:Hp) (l:Addr) (L:List Stp):Prop:=∃ ps:LA,H l=some (.lst (ps.map V.ref))/\ps.length=L.length/\∀ (k:Nat) p s,ps[k]?=some p->L[k]?=some s->H p=some (.tup [.int s.i,.int s.j,.int s.m])
theorem gI.up {H H':Hp} {l:Addr} {L:List Stp} (h:gI H l L) (s:Same H H'):gI H' l L:=by
 obtain ⟨ps,h1,h2,h3⟩:=h;exact ⟨ps,s _ _ h1,h2,λ k p x e1 e2=>s _ _ (h3 k p x e1 e2)⟩
def sp_e:Sp:=λ vs H Q _=>E3 λ (c b:Int) (m:Nat)=>A5 (vs=[.int c,.int b,.int m]) (1<=b) (b<=1000) (m<=40) (∀ r H' (ns:LI'),Same H H'->H r=none->H' r=some (.lst (ns.map V.int))->ns.length=m->(∀ x∈ns,0<=x/\x < b)->Q (.ref r) H')
def sp_q:Sp:=λ vs H Q _=>E2 λ (a b:Int)=>A3 (vs=[.int a,.int b]) (0<=a) (Q (.int (gcdI a b)) H)
def sp_9 (K:Frag):Sp:=λ vs H Q _=>E4 λ (b:Bool) (a:Addr) (ns:LI') (u:Int)=>A6 (vs=[.ref a,.int u]) (SqB b K H a (ns.map V.int)) (ns.length<=100) (0 < u) (kK u) (∀ p H',Same H H'->mB H' p (redT u ns) (redU u ns)->Q (.ref p) H')
def sp_y (K:Frag):Sp:=λ vs H Q _=>E8 λ (b1 b2 b3:Bool) (a l:Addr) (A:LM) (ns:LI') (d:Nat)=>A9 (vs=[.ref a,.ref l]) (MatB b1 b2 K H a A) (SqB b3 K H l (ns.map V.int)) (Sq d A) ((d=2\/d=3)) (ns.length=d) (mW 1700 A) (mK 9000000 ns) (∀ r H',Same H H'->H r=none->H' r=some (.lst ((mv A ns).map V.int))->Q (.ref r) H')
def sp_w:Sp:=λ vs H Q _=>E2 λ (c:Int) (d:Nat)=>A3 (vs=[.int c,.int d]) ((d=2\/d=3)) (∀ r H' (s:Stp),Same H H'->H' r=some (.tup [.int s.i,.int s.j,.int s.m])->s.Ok d->Q (.ref r) H')
def sp_2 (K:Frag):Sp:=λ vs H Q _=>E7 λ (b:Bool) (a l:Addr) (ns:LI') (L:List Stp) (d C:Nat)=>A10 (vs=[.ref a,.ref l]) (SqB b K H a (ns.map V.int)) (gI H l L) (ns.length=d) ((d=2\/d=3)) ((∀ s∈L,s.Ok d)) (L.length<=40) (mK C ns) (C<=9000000) (∀ r H',Same H H'->H r=none->H' r=some (.lst ((mv (chP d L.reverse) ns).map V.int))->mK (C+2*L.length) (mv (chP d L.reverse) ns)->Q (.ref r) H')
def sp_1 (K:Frag):Sp:=λ vs H Q _=>E8 λ (b1 b2:Bool) (a l:Addr) (A:LM) (L:List Stp) (d B:Nat)=>A10 (vs=[.ref a,.ref l]) (MatB b1 b2 K H a A) (gI H l L) (Sq d A) ((d=2\/d=3)) ((∀ s∈L,s.Ok d)) (L.length<=40) (mW B A) (B<=1000) (∀ r H',Same H H'->MatL H' r (cjM d (chP d L.reverse) (chQ d L.reverse) A)->mW (B+4*L.length) (cjM d (chP d L.reverse) (chQ d L.reverse) A)->Q (.ref r) H')
def sp_b (K:Frag):Sp:=λ vs H Q _=>E9 λ (b1 b2 b3 b4:Bool) (a b:Addr) (A B:LM) (d:Nat)=>A9 (vs=[.ref a,.ref b]) (MatB b1 b2 K H a A) (MatB b3 b4 K H b B) (Sq d A) (Sq d B) ((d=2\/d=3)) (mW 1000 A) (mW 1000 B) (∀ r H',Same H H'->MatL H' r (mulM d A B)->Q (.ref r) H')
def sp_f (K:Frag):Sp:=λ vs H Q _=>E3 λ (p:Addr) (ns:LI') (u:Int)=>A5 (vs=[.ref p]) (PlS K H p ns u) (ns.length<=100) (0 < u) (∀ p' H',Same H H'->mB H' p' (nM u ns) u->Q (.ref p') H')
theorem Wr (a b:Int):gcdI (b.fmod a) a=gcdI a b:=by
 unfold gcdI;have:=Jm b a;rw [oJ,this,oJ]
theorem Wq {u:Int} (hu:0 < u) (ns:LI') {i:Nat} {n:Int} (h:ns[i]?=some n):gl u (ns.take (i+1))=gcdI (gl u (ns.take i)) n:=by
 unfold gl;rw [Ds h,uL];rfl
theorem ok_q (T:Txt K mg t):FnOk P w K mg base CX0 1 t.a_q t.d_q pi' sp_q:=by
 refine T.F_q.ok sc_q (by walk_at "v") (λ cdv A outer s H vs Q E hr h=>?_)
 ·obtain ⟨a,b,rfl,sa,hQ⟩:=h;refine ⟨_,(oU (Ae yR (nW jN (pq 0) oS (nS _))
   (oX (Nh (i:=0) (j:=1) rfl sc_q.nd rfl rfl ∅ rfl rfl (oQ (oY lB (pq 1) (pq 0)) (oQ (pq 0) oR)) rfl)))
   (oX (nH (nK cY rfl T.z_abs (nofun) (oQ (pq 1) oR))))),?_⟩
  show tSeq _ _ _ [some (.int a),some (.int b)] H;refine st λ N1 e1=>Ga λ B eB=>?_;refine ⟨λ m σ H1=>∃ x y,σ=[some (.int x),some (.int y)]/\H1=H/\gcdI x y=gcdI a b/\0<=x/\m=x.natAbs,⟨_,a,b,rfl,rfl,rfl,sa,rfl⟩,?_⟩;rintro m σ H1 ⟨x,y,rfl,rfl,e,hx0,rfl⟩;ext
  by_cases z:x=0
  ·rw [zM z];refine iteF ?_;subst e1;ext;have e2:(if y < 0 then -y else y)=gcdI a b:=by
    rw [← e,z];unfold gcdI;rw [Int.gcd_zero_left];split <;> omega
   rw [e2];exact hQ
  ·rw [zQ z];refine iteT ⟨λ σ' H'=>σ'=[some (.int (y.fmod x)),some (.int x)]/\H'=H1,?_,?_⟩
   ·rintro σ' H' ⟨rfl,rfl⟩;have h1:=uO y (show 0 < x by omega);have h2:=tU y (show 0 < x by omega);exact ⟨(y.fmod x).natAbs,⋯,_,_,rfl,rfl,by rw [Wr]; exact e,h1,rfl⟩
   ·subst eB;ext;exact z
theorem ok_9 (T:Txt K mg t):FnOk P w K mg base CX0 2 t.a_9 t.d_9 pj' (sp_9 K):=by
 have G_q:=@ok_q P w K mg base t T;refine T.F_9.ok sc_9 (by walk_at "v") (λ cdv A outer s H vs Q E hr h=>?_)
 ·obtain ⟨b,a,ns,u,rfl,hS,hl,hu,su,hQ⟩:=h;refine ⟨_,(oU (nJ (i:=2) sc_9.nd rfl (Or.inr rfl) (pq 1))
   (oU (kG yR rfl (mJ (pq 0)) (mD (i:=3) sc_9.nd rfl (Or.inl rfl))
   (oX (nJ (i:=2) sc_9.nd rfl (Or.inr rfl) (nB G_q hr.mo rfl T.m_q T.F_q.kp T.b_q .nil nC (oQ (pq 2) (oQ (pq 3) oR))))))
   (oX (nH (mZ (oQ (lJ jZ rfl T.z_tuple (nofun) (oQ (mE (xs:=["_law_top"]) (fr:=[("_law_by",2)]) (g:=(oW 0)) (tt:=(tEl (tOp (rI jM λ i j=>.int (i.fdiv j)) (tVar 0) (tVar 1)))) (nR (sc:=oV s_9) (N:=N_9) rfl rfl (nofun)) rfl (mJ (pq 0)) (λ _ _ _ hE1=>(nU (N:=["_law_top","_law_by"]) (i:=0) hE1 rfl (nofun))) (λ _ _ _ hE1=>(nT (oY kN (pv 0) (pv 1))))) oR)) (oQ (oY kN (pq 1) (pq 2)) oR))))))),?_⟩
  show tSeq _ _ _ [some (.ref a),some (.int u),none,none] H;have g0:gl u []=u:=by unfold gl absI; rw [if_neg ⋯]; rfl
  refine st λ N1 e1=>?_;ext;subst e1;refine st λ N1 e1=>kI λ B eB=>?_;simp only [iSeq];ext;refine ⟨b,⟨_,hS⟩,?_⟩;refine iB (b:=b) (g:=oW 3) (tb:=B) (λ i σ H1=>∃ v3,σ=[some (.ref a),some (.int u),some (.int (gl u (ns.take i))),v3]/\H1=H) ⟨none,by rw [tK,g0],rfl⟩ (λ i σ H1 _ ⟨_,_,e⟩=>e ▸ hS) ?_ ?_
  ·rintro i x σ H1 ex ⟨v3,rfl,rfl⟩;obtain ⟨n,en,rfl⟩:=lP ex;subst eB;show tAsg _ _ _ [some (.ref a),some (.int u),some (.int (gl u (ns.take i))),some (.int n)] H1;ext;refine ⟨_,_,rfl,fU _ _,?_⟩;rw [Wq hu ns en];exact ⟨rfl,rfl⟩
  ·rintro σ H1 ⟨v3,rfl,rfl⟩;rw [zqe,uC];have gp:=aR ns (show u≠0 by omega);have ec:cs u ns=gl u ns:=by unfold cs; rw [if_neg ⋯]
   have cd:∀ x,jM x (gl u ns):=λ x=>⟨⋯,Du (Jj su ⋯ (gl_u u ns)) ⋯⟩;subst e1;ext;refine nV λ B2 eB2=>?_;simp only [iSeq];ext;refine ⟨b,⟨_,hS⟩,λ a1 ha1=>?_⟩;refine lC (λ j y _=>∃ n,ns[j]?=some n/\y=.int (n.fdiv (gl u ns))) ha1 hS (by rw [zqe]; omega) (λ _ _ _ _ r _=>r) ?_ ?_
   ·intro i x H3 zs ex s3 ez Q' hQ';obtain ⟨n,en,rfl⟩:=lP ex;subst eB2;show tOp _ _ _ [some (.int n),some (.int (gl u ns))] H3 Q';ext;exact ⟨cd _,hQ' _ _ (Same.refl _) ⟨n,en,rfl⟩⟩
   ·intro H3 zs s3 ez hlz hR;have ez2:zs=(redT u ns).map V.int:=by
     unfold redT;rw [xE,ec];exact mS (by simpa using hlz) hR
    subst ez2;refine ⟨a1,_,rfl,.inl ⟨SqL.of ez,λ q hq=>⟨cd _,by show 2<=sizeLine; decide,λ p hp=>hQ p _ (s3.trans ((Same.new hq).trans (Same.new hp))) ⟨q,?_,(Same.new hp) _ _ oZ⟩⟩⟩⟩;rw [oZ];unfold redU;rw [ec]
theorem ok_y (T:Txt K mg t):FnOk P w K mg base CX0 1 t.a_y t.d_y pn' (sp_y K):=by
 refine T.F_y.ok sc_y (by walk_at "v") (λ cdv A outer s H vs Q E hr h=>?_)
 ·obtain ⟨b1,b2,b3,a,l,MA,ns,d,rfl,hA,hS,sA,hd,hl,bA,bn,hQ⟩:=h;refine ⟨_,(oX (nH (mE (xs:=["_law_row"]) (fr:=[("_law_tops",1)]) (g:=(oW 0)) (tt:=(tEl (tCB (λ xs H Q=>∃ (p:Addr) (ns:LI'),xs=[.ref p]/\SqL K H p (ns.map V.int)/\Q (.int ns.sum) H) (nQ (lO (mU (nQ (tCB (jY K) (nQ (tVar 0) tNil)) tNil)) (oW 0) (tEl (tOp (rI (λ i j=>IntMulOk i j) λ i j=>.int (i*j)) (tOp (rIxB K) (tVar 1) (tVar 0)) (tOp (rIxB K) (tVar 2) (tVar 0)))) 1 [("_law_row",0),("_law_tops",1)]) tNil)))) (nR (sc:=oV aM) (N:=N_y) rfl rfl (nofun)) rfl (mJ (pq 0)) (λ _ _ _ hE1=>(hZ (N:=["_law_row","_law_tops"]) (i:=0) hE1 rfl (nofun) rfl)) (λ _ _ _ hE1=>(nT (nK (Bm rfl) rfl T.z_sum (nofun) (oQ (mE (xs:=["_law_k"]) (fr:=[("_law_row",0),("_law_tops",1)]) (g:=(oW 0)) (tt:=(tEl (tOp (rI (λ i j=>IntMulOk i j) λ i j=>.int (i*j)) (tOp (rIxB K) (tVar 1) (tVar 0)) (tOp (rIxB K) (tVar 2) (tVar 0))))) (nR (N:=["_law_row","_law_tops"]) hE1 rfl (nofun)) rfl (lM rfl T.z_range (oQ (nK mC rfl T.z_len (nofun) (oQ (pv 0) oR)) oR)) (λ _ _ _ hE2=>(nU (N:=["_law_k","_law_row","_law_tops"]) (i:=0) hE2 rfl (nofun))) (λ _ _ _ hE2=>(nT (oY mP (oT ix_B (pv 1) (pv 0) (λ _ _=>rfl)) (oT ix_B (pv 2) (pv 0) (λ _ _=>rfl)))))) oR))))))),?_⟩;show tRet _ _ [some (.ref a),some (.ref l)] H;ext;refine nV λ B eB=>?_;simp only [iSeq];ext;obtain ⟨xs,x1,x2,x3⟩:=hA.walk;refine ⟨b1,⟨_,x1⟩,λ a1 ha1=>?_⟩;refine lC (λ j y _=>∃ r,MA[j]?=some r/\y=.int (dotI r ns)) ha1 x1 (by rw [x2,sA.1]; omega) (λ _ _ _ _ r _=>r) ?_ ?_
  ·intro i x H2 zs ex s2 ez Q' hQ';obtain ⟨p,r,rfl,er,hp⟩:=x3 i x ex;have hrl:r.length=d:=sA.2 r (zqb er);subst eB;show tCB _ _ [some (.ref p),some (.ref l)] H2 Q';ext;refine nV λ B0 eB=>?_;simp only [mU];ext;refine lU (hp.up s2) ⟨_,rfl,⋯,⋯,λ a2 ha2=>?_⟩;rw [zV,hrl];refine lY (λ k y _=>∃ x,(List.zipWith (·*·) r ns)[k]?=some x/\y=.int x) ha2 ⋯ (λ _ _ _ _ r _=>r) ?_ ?_
   ·intro k H3 zs3 hk s3 ez3 Q2 hQ2;have hkr:k < r.length:=⋯
    have hkn:k < ns.length:=⋯
    subst eB;show tOp _ _ _ [some (.int (0+(k:Int))),some (.ref p),some (.ref l)] H3 Q2;ext;refine ⟨b2,p,_,_,_,rfl,rfl,(hp.up s2).up s3,mY (lQ (getD_at hkr)) ⋯,?_⟩;refine ⟨b3,l,_,_,_,rfl,rfl,(hS.up s2).up s3,mY (lQ (getD_at hkn)) ⋯,?_⟩
    try ext
    refine ⟨yU (mF (bA r (zqb er) _ (L2.getD_mem hkr))) (mF (bn _ (L2.getD_mem hkn))) ∅,hQ2 _ _ (Same.refl _) ⟨_,?_,rfl⟩⟩;rw [yH,L2.getD_at hkr,L2.getD_at hkn]
   ·intro H3 ys s3 e3 hly hr3;have ey:ys=(List.zipWith (·*·) r ns).map V.int:=by
     refine mS (by simp; omega) λ k y e=>?_;obtain ⟨x,ex,rfl⟩:=hr3 k y e;exact ⟨x,ex,rfl⟩
    subst ey;exact ⟨a2,rfl,_,SqL.of e3,hQ' _ _ s3 ⟨r,er,rfl⟩⟩
  ·intro H2 ys s2 e2 hly hr2;have ey:ys=(mv MA ns).map V.int:=by
    unfold mv;rw [xE];exact mS ⋯ hr2
   subst ey;exact hQ a1 H2 s2 ha1 e2
theorem ok_w (T:Txt K mg t):FnOk P w K mg base CX0 1 t.a_w t.d_w pt' sp_w:=by
 refine T.F_w.ok sc_w (by walk_at "v") (λ cdv A outer s H vs Q E hr h=>?_)
 ·obtain ⟨c,d,rfl,hd,hQ⟩:=h;refine ⟨_,(oU (nJ (i:=2) sc_w.nd rfl (Or.inl rfl) (oY lB (pq 0) (pq 1)))
   (oX (nH (mZ (oQ (pq 2) (oQ (oY lB (oY lF (oY lF (pq 2) oS) (oY lB (oY kN (pq 0) (pq 1)) (oY jT (pq 1) oS))) (pq 1)) (oQ (oY jT (oY lB (oY lF (oY kN (pq 0) (oY mP (pq 1) (oY jT (pq 1) oS))) oS) oS) oS) oR))))))),?_⟩
  show tSeq _ _ _ [some (.int c),some (.int d),none] H;have dv:∀ x y:Int,y≠0->y.natAbs < 1073741824->jM x y:=λ x y h1 h2=>⟨h1,zI ((rM ⋯).mpr (show y.natAbs < 2 ^ 30 from h2)) ∅⟩;refine st λ N1 e1=>?_;ext;refine ⟨⋯,?_⟩;have fi:=fms c d ⋯;obtain ⟨i,ei⟩:=xQ fi.1;rw [ei] at fi ⊢;subst e1;ext;refine ⟨dv c d ⋯ ⋯,⋯,⋯,?_⟩;have fj0:=fms (c.fdiv d) ((d:Int) - 1) ⋯;have fj:=fms ((i:Int)+1+(c.fdiv d).fmod ((d:Int) - 1)) d ⋯;have hij:(i:Int)≠((i:Int)+1+(c.fdiv d).fmod ((d:Int) - 1)).fmod d:=by
   generalize (c.fdiv d).fmod ((d:Int) - 1)=z at fj0 fj;rw [xI _ ⋯] at fj ⊢;rcases hd with e | e <;> subst e <;> omega
  generalize ((i:Int)+1+(c.fdiv d).fmod ((d:Int) - 1)).fmod d=jz at fj hij;obtain ⟨j,ej⟩:=xQ fj.1;subst ej;have hdd:(d:Int)*((d:Int) - 1)≠0/\((d:Int)*((d:Int) - 1)).natAbs < 1073741824:=by rcases hd with e | e <;> subst e <;> decide
  refine ⟨vL (wJ ⋯ ⋯),dv c _ hdd.1 hdd.2,∅,?_⟩;have fq:=fms (c.fdiv ((d:Int)*((d:Int) - 1))+2) 5 ∅;refine ⟨by show 3<=sizeLine; decide,λ p hp=>hQ p _ ⟨i,j,_⟩ (Same.new hp) oZ ⟨by show i < d; omega,by show j < d; omega,λ e=>hij (by rw [show i=j from e]),by show ((c.fdiv ((d:Int)*((d:Int) - 1))+2).fmod 5 - 2).natAbs<=2; omega⟩⟩
theorem Lr {n k:Nat} (h:k < n):ixN n (k:Int)=some k:=by
 unfold ixN;rw [if_pos ⋯,if_pos ⋯];simp
theorem fA {B:Nat} {v:LI'} (h:∀ z∈v,z.natAbs < 2 ^ B) (k:Nat):(v.getD k 0).natAbs < 2 ^ B:=by
 by_cases hk:k < v.length
 ·exact h _ (L2.getD_mem hk)
 ·rw [zqc,wW ⋯]; exact wZ B
theorem Ex {x y m:Int} {B:Nat} (hx:x.natAbs < 2 ^ B) (hy:y.natAbs < 2 ^ B) (hm:m.natAbs<=2):(x+m*y).natAbs < 2 ^ (B+2):=by
 have h1:=qM x (m*y);have h2:=xR y.natAbs hm;rw [← yN] at h2;rw [wR,tI];refine vR h1 ?_;generalize x.natAbs=a at *
 generalize y.natAbs=b at *;generalize (m*y).natAbs=c at *
 generalize 2 ^ B=d at *;clear h1;omega
theorem Wp {i j c:Nat} {m:Int} {v:LI'} (h:mK c v) (hm:m.natAbs<=2):mK (c+2) (vst i j m v):=λ x hx=>by
 rcases tX hx with h1 | h1
 ·exact zI (h x h1) (yT ∅ ⋯)
 ·rw [h1];exact Ex (fA h i) (fA h j) hm
theorem Lq {L:List Stp} {k:Nat} {s:Stp} (h:L[k]?=some s):(L.take (k+1)).reverse=s :: (L.take k).reverse:=by
 obtain ⟨hk,rfl⟩:=zqa h;rw [List.take_succ_eq_append_getElem hk,List.reverse_append];rfl
theorem ok_2 (T:Txt K mg t):FnOk P w K mg base CX0 1 t.a_2 t.d_2 pl' (sp_2 K):=by
 refine T.F_2.ok sc_2 (by walk_at "v") (λ cdv A outer s H vs Q E hr h=>?_)
 ·obtain ⟨b,a,l,ns,L,d,C,rfl,hS,hL,nl,hd,ok,l4,bC,hC,hQ⟩:=h;obtain ⟨ps,hp1,hp2,hp3⟩:=hL;refine ⟨_,(oU (nJ (i:=0) sc_2.nd rfl (Or.inl rfl) (lJ gQ rfl T.z_list (nofun) (oQ (pq 0) oR)))
   (oU (kG yR rfl (mJ (pq 1)) (kF rfl (mI (mD (i:=2) sc_2.nd rfl (Or.inl rfl)) (mI (mD (i:=3) sc_2.nd rfl (Or.inl rfl)) (mI (mD (i:=4) sc_2.nd rfl (Or.inl rfl)) kE))))
   (oX (iN (oY lF (oT ix_B (pq 0) (pq 2) (λ _ _=>rfl)) (oY mP (pq 4) (oT ix_B (pq 0) (pq 3) (λ _ _=>rfl)))) (cU (pq 0) (pq 2) Gs))))
   (oX (nH (pq 0))))),?_⟩
  show tSeq _ _ _ [some (.ref a),some (.ref l),none,none,none] H;refine st λ N1 e1=>?_;ext;refine ⟨b,a,_,rfl,hS,λ r hr0=>?_⟩;have s1:Same H (upd H r (.lst (ns.map V.int))):=Same.new hr0;have er:(upd H r (.lst (ns.map V.int))) r=some (.lst (ns.map V.int)):=oZ;generalize upd H r (.lst (ns.map V.int))=H1 at s1 er;subst e1;refine st λ N1 e1=>kI λ B eB=>?_;simp only [iSeq];ext;refine ⟨false,⟨_,SqB.lst (s1 _ _ hp1)⟩,?_⟩;have ez:mv (chP d []) ns=ns:=Ax hd nl;refine iB (g:=gTup K 3 (mL (oW 2) (mL (oW 3) (mL (oW 4) gNil)))) (tb:=B) (xs:=ps.map V.ref) (λ k σ H3=>∃ v4 v5 v6,σ=[some (.ref r),some (.ref l),v4,v5,v6]/\Same H H3/\H3 r=some (.lst ((mv (chP d (L.take k).reverse) ns).map V.int))/\mK (C+2*k) (mv (chP d (L.take k).reverse) ns)) ⟨none,none,none,rfl,s1,by rw [tK,sQ,ez]; exact er,by rw [tK,sQ,ez]; exact bC⟩ ?_ ?_ ?_
  ·rintro k σ H3 _ ⟨v4,v5,v6,rfl,s3,_,_⟩;exact SqB.lst (s3 _ _ hp1)
  ·rintro k x σ H3 ex ⟨v4,v5,v6,rfl,s3,er3,b3⟩;rw [zB] at ex;cases ep:ps[k]? with
   | none=>rw [ep] at ex; cases ex
   | some p =>
   rw [ep] at ex;cases ex;have hk:k < L.length:=by rw [← hp2]; exact (zqa ep).1
   have eL:L[k]?=some L[k]:=zqd hk;generalize L[k]=q at eL;have okq:=ok q (zqb eL);have okT:∀ s∈(L.take k).reverse,s.Ok d:=λ s hs=>ok s (rR (wH.mp hs));have hq:=s3 _ _ (hp3 k p q ep eL);have cl:(mv (chP d (L.take k).reverse) ns).length=d:=lI (jJ hd okT).p;have nx:=Vh hd okT okq nl;rw [← Lq eL] at nx;unfold vst at nx;rw [← nx];generalize mv (chP d (L.take k).reverse) ns=v at er3 b3 cl;refine ⟨p,_,rfl,SqT.of hq,rfl,?_⟩;simp only [mL,gNil,oW];subst eB;have hi:=okq.hi;have hj:=okq.hj;refine ⟨_,_,rfl,_,_,rfl,_,_,rfl,rfl,?_⟩;show tAsg _ _ _ [some (.ref r),some (.ref l),some (.int q.i),some (.int q.j),some (.int q.m)] H3;simp only [tAsg,gSub,Bw];ext;refine ⟨false,r,_,_,_,rfl,rfl,SqB.lst er3,Dq ⋯ ⋯,?_⟩;refine ⟨false,r,_,_,_,rfl,rfl,SqB.lst er3,Dq ⋯ ⋯,?_⟩;rw [zV,zV];refine ⟨_,_,rfl,rfl,vL (wJ (by have:=okq.m2; omega) (by have:=okq.m2; omega)),?_⟩;refine ⟨_,_,rfl,rfl,_,er3,q.i,Lr (by rw [zqe]; omega),Same.over hr0 s3,?_,?_⟩
   ·rw [oZ,List.map_set]
   ·exact Wp (i:=q.i) (j:=q.j) b3 okq.m2
  ·rintro σ H3 ⟨v4,v5,v6,rfl,s3,er3,b3⟩;subst e1;ext;rw [zqe,hp2,uC] at er3 b3;exact hQ r H3 s3 hr0 er3 b3
theorem ok_e (T:Txt K mg t):FnOk P w K mg base CX0 1 t.a_e t.d_e pe' sp_e:=by
 refine T.F_e.ok sc_e (by walk_at "v") (λ cdv A outer s H vs Q E hr h=>?_)
 ·obtain ⟨c,b,m,rfl,hb,hb2,hm,hQ⟩:=h;refine ⟨_,(oU (nJ (i:=3) sc_e.nd rfl (Or.inl rfl) (kX oR))
   (oU (kG yR rfl (lM rfl T.z_range (oQ (pq 2) oR)) (mD (i:=4) sc_e.nd rfl (Or.inl rfl))
   (oU (iM (eY wC vE vD fD (pq 3) (oQ (oY lB (pq 0) (pq 1)) oR)))
   (oX (nJ (i:=0) sc_e.nd rfl (Or.inl rfl) (oY kN (pq 0) (pq 1))))))
   (oX (nH (pq 3))))),?_⟩
  show tSeq _ _ _ [some (.int c),some (.int b),some (.int m),none,none] H;have dv:∀ x,jM x b:=λ x=>⟨⋯,zI ((rM ⋯).mpr (show b.natAbs < 2 ^ 30 by omega)) ∅⟩;refine st λ N1 e1=>?_;ext;refine ⟨by show 0<=sizeLine; decide,λ r hr0=>?_⟩;have s1:Same H (upd H r (.lst [])):=Same.new hr0;have er:(upd H r (.lst [])) r=some (.lst ([]:List V)):=oZ;generalize upd H r (.lst [])=H1 at s1 er;subst e1;refine st λ N1 e1=>kI λ B eB=>?_;simp only [mU];ext;refine ⟨⋯,⋯,?_⟩;rw [zV];refine Ho (g:=oW 4) (tb:=B) (λ k σ H2=>∃ (x:Int) (ns:LI') (v:Option V),σ=[some (.int x),some (.int b),some (.int m),some (.ref r),v]/\Same H H2/\H2 r=some (.lst (ns.map V.int))/\ns.length=k/\∀ y∈ns,0<=y/\y < b) ⟨c,[],none,rfl,s1,er,rfl,λ _ h=>by cases h⟩ ?_ ?_
  ·rintro k σ H2 hk ⟨x,ns,v,rfl,s2,e2,nl,nb⟩;subst eB;show tSeq _ _ _ [some (.int x),some (.int b),some (.int m),some (.ref r),some (.int (0+(k:Int)))] H2;refine st λ N2 e3=>?_;ext;refine ⟨.inl ⟨rfl,_,SqL.of e2⟩,⋯,r,_,_,rfl,rfl,e2,by rw [zqe]; exact yC (show ns.length+1<=1000 by omega) ∅,?_⟩;subst e3;ext;refine ⟨dv x,Same.over hr0 s2,ns++[x.fmod b],by rw [oZ,xD]; rfl,by rw [yB,nl]; rfl,λ y hy=>?_⟩;rcases xB.mp hy with hy | hy
   ·exact nb y hy
   ·rw [yF.mp hy];exact fms x b ⋯
  ·rintro σ H2 ⟨x,ns,v,rfl,s2,e2,nl,nb⟩;subst e1;ext;exact hQ r H2 ns s2 hr0 e2 nl nb
theorem ok_b (T:Txt K mg t):FnOk P w K mg base CX0 1 t.a_b t.d_b pm' (sp_b K):=by
 refine T.F_b.ok sc_b (by walk_at "v") (λ cdv A outer s H vs Q E hr h=>?_)
 ·obtain ⟨b1,b2,b3,b4,a,b,MA,MB,d,rfl,hA,hB,sA,sB,hd,bA,bB,hQ⟩:=h;refine ⟨_,(oX (nH (mE (xs:=["_law_row"]) (fr:=[("_law_other",1)]) (g:=(oW 0)) (tt:=(tEl (lO (mU (nQ (tCB (jY K) (nQ (tVar 0) tNil)) tNil)) (oW 0) (tEl (tCB (λ xs H Q=>∃ (p:Addr) (ns:LI'),xs=[.ref p]/\SqL K H p (ns.map V.int)/\Q (.int ns.sum) H) (nQ (lO (mU (nQ (tCB (jY K) (nQ (tVar 1) tNil)) tNil)) (oW 0) (tEl (tOp (rI (λ i j=>IntMulOk i j) λ i j=>.int (i*j)) (tOp (rIxB K) (tVar 2) (tVar 0)) (tOp (rIxB K) (tOp (rIxB K) (tVar 3) (tVar 0)) (tVar 1)))) 1 [("_law_j",0),("_law_row",1),("_law_other",2)]) tNil))) 1 [("_law_row",0),("_law_other",1)]))) (nR (sc:=oV aL) (N:=N_b) rfl rfl (nofun)) rfl (mJ (pq 0)) (λ _ _ _ hE1=>(hZ (N:=["_law_row","_law_other"]) (i:=0) hE1 rfl (nofun) rfl)) (λ _ _ _ hE1=>(nT (mE (xs:=["_law_j"]) (fr:=[("_law_row",0),("_law_other",1)]) (g:=(oW 0)) (tt:=(tEl (tCB (λ xs H Q=>∃ (p:Addr) (ns:LI'),xs=[.ref p]/\SqL K H p (ns.map V.int)/\Q (.int ns.sum) H) (nQ (lO (mU (nQ (tCB (jY K) (nQ (tVar 1) tNil)) tNil)) (oW 0) (tEl (tOp (rI (λ i j=>IntMulOk i j) λ i j=>.int (i*j)) (tOp (rIxB K) (tVar 2) (tVar 0)) (tOp (rIxB K) (tOp (rIxB K) (tVar 3) (tVar 0)) (tVar 1)))) 1 [("_law_j",0),("_law_row",1),("_law_other",2)]) tNil)))) (nR (N:=["_law_row","_law_other"]) hE1 rfl (nofun)) rfl (lM rfl T.z_range (oQ (nK mC rfl T.z_len (nofun) (oQ (pv 0) oR)) oR)) (λ _ _ _ hE2=>(hZ (N:=["_law_j","_law_row","_law_other"]) (i:=0) hE2 rfl (nofun) rfl)) (λ _ _ _ hE2=>(nT (nK (Bm rfl) rfl T.z_sum (nofun) (oQ (mE (xs:=["_law_k"]) (fr:=[("_law_j",0),("_law_row",1),("_law_other",2)]) (g:=(oW 0)) (tt:=(tEl (tOp (rI (λ i j=>IntMulOk i j) λ i j=>.int (i*j)) (tOp (rIxB K) (tVar 2) (tVar 0)) (tOp (rIxB K) (tOp (rIxB K) (tVar 3) (tVar 0)) (tVar 1))))) (nR (N:=["_law_j","_law_row","_law_other"]) hE2 rfl (nofun)) rfl (lM rfl T.z_range (oQ (nK mC rfl T.z_len (nofun) (oQ (pv 1) oR)) oR)) (λ _ _ _ hE3=>(nU (N:=["_law_k","_law_j","_law_row","_law_other"]) (i:=0) hE3 rfl (nofun))) (λ _ _ _ hE3=>(nT (oY mP (oT ix_B (pv 2) (pv 0) (λ _ _=>rfl)) (oT ix_B (oT ix_B (pv 3) (pv 0) (λ _ _=>rfl)) (pv 1) (λ _ _=>rfl)))))) oR)))))))))),?_⟩;show tRet _ _ [some (.ref a),some (.ref b)] H;ext;refine nV λ B0 eB=>?_;simp only [iSeq];ext;obtain ⟨xs,x1,x2,x3⟩:=hA.walk;refine ⟨b1,⟨_,x1⟩,λ a1 ha1=>?_⟩;refine lC (RowR a1 λ i=>(List.range d).map λ k=>dotI (MA.getD i []) (colI k MB)) ha1 x1 (by rw [x2,sA.1]; omega) (RowR.mono (a:=a1)) ?_ ?_
  ·intro i x H2 zs ex s2 ez Q' hQ';obtain ⟨p,r,rfl,er,hp⟩:=x3 i x ex;have hrl:r.length=d:=sA.2 r (zqb er);have hp2:=hp.up s2;subst eB;show lO _ _ _ _ _ [some (.ref p),some (.ref b)] H2 Q';refine nV λ B1 eB1=>?_;simp only [mU];ext;refine lU hp2 ⟨_,rfl,⋯,⋯,λ a2 ha2=>?_⟩;rw [zV,hrl];refine lY (λ j y _=>j < d/\y=.int (dotI r (colI j MB))) ha2 ⋯ (λ _ _ _ _ r _=>r) ?_ ?_
   ·intro j H3 zs3 hj s3 ez3 Q2 hQ2;have hp3:=hp2.up s3;subst eB1;show tCB _ _ [some (.int (0+(j:Int))),some (.ref p),some (.ref b)] H3 Q2;ext;refine nV λ B2 eB2=>?_;simp only [mU];ext;refine lU hp3 ⟨_,rfl,⋯,⋯,λ a3 ha3=>?_⟩;rw [zV,hrl];refine lY (λ k y _=>∃ x,(List.zipWith (·*·) r (colI j MB))[k]?=some x/\y=.int x) ha3 ⋯ (λ _ _ _ _ r _=>r) ?_ ?_
    ·intro k H4 zs4 hk s4 ez4 Q3 hQ3;have hkr:k < r.length:=⋯
     have ek:MB[k]?=some (MB.getD k []):=by have:=sB.1; simp [show k < MB.length by omega]
     have hkl:(MB.getD k []).length=d:=sB.2 _ (zqb ek);have bk:=bB _ (zqb ek);subst eB2;show tOp _ _ _ [some (.int (0+(k:Int))),some (.int (0+(j:Int))),some (.ref p),some (.ref b)] H4 Q3;ext;refine ⟨b2,p,_,_,_,rfl,rfl,hp3.up s4,mY (lQ (getD_at hkr)) ⋯,?_⟩;refine bN (((hB.up s2).up s3).up s4) ek (getD_at (k:=j) ⋯) ⋯ ⋯ ?_
     try ext
     refine ⟨yU (mF (bA r (zqb er) _ (L2.getD_mem hkr))) (mF (bk _ (L2.getD_mem ⋯))) ∅,hQ3 _ _ (Same.refl _) ⟨_,?_,rfl⟩⟩;unfold colI;rw [yH,L2.getD_at hkr,zB,ek];rfl
    ·intro H4 ys s4 e4 hly hr4;have ey:ys=(List.zipWith (·*·) r (colI j MB)).map V.int:=by
      refine mS (by have:=sB.1; simp [colI]; omega) λ k y e=>?_;obtain ⟨x,ex,rfl⟩:=hr4 k y e;exact ⟨x,ex,rfl⟩
     subst ey;exact ⟨a3,rfl,_,SqL.of e4,hQ2 _ _ s4 ⟨hj,rfl⟩⟩
   ·intro H3 ys s3 e3 hly hr3;have ey:ys=((List.range d).map λ k=>dotI r (colI k MB)).map V.int:=by
     refine mS (by rw [hly]; simp) λ k y e=>?_;obtain ⟨hk,rfl⟩:=hr3 k y e;exact ⟨_,by rw [zB,xP hk]; rfl,rfl⟩
    subst ey;have e5:MA.getD i []=r:=by rw [zqc,er]; rfl
    exact hQ' _ _ s3 ⟨a2,rfl,Ne.symm (mX ez ha2),by show H3 a2=some (.lst (((List.range d).map λ k=>dotI (MA.getD i []) (colI k MB)).map V.int)); rw [e5]; exact e3⟩
  ·intro H2 ys s2 e2 hly hr2;have hM0:=MatL.of e2 hr2;rw [hly,x2] at hM0;have e6:(List.range MA.length).map (λ i=>(List.range d).map λ k=>dotI (MA.getD i []) (colI k MB))=mulM d MA MB:=by
    unfold mulM;refine vK (by simp) λ i h1 h2=>?_;simp at h1;simp [zqc,h1]
   rw [e6] at hM0;exact hQ a1 H2 s2 hM0
theorem ok_f (T:Txt K mg t):FnOk P w K mg base CX0 1 t.a_f t.d_f pG' (sp_f K):=by
 refine T.F_f.ok sc_f (by walk_at "v") (λ cdv A outer s H vs Q E hr h=>?_)
 ·obtain ⟨p,ns,u,rfl,hP,hl,hu,hQ⟩:=h;refine ⟨_,(oX (nH (mZ (oQ (lJ jZ rfl T.z_tuple (nofun) (oQ (mE (xs:=["_law_top"]) (fr:=[("_law_spot",0)]) (g:=(oW 0)) (tt:=(tEl (tOp (rI (λ _ j=>j≠0) λ i j=>.int (i.fmod j)) (tVar 0) (tOp (rIxB K) (tVar 1) (tC (.int 1)))))) (nR (sc:=oV aO) (N:=N_f) rfl rfl (nofun)) rfl (mJ (oT ix_B (pq 0) oS (λ _ _=>rfl))) (λ _ _ _ hE1=>(nU (N:=["_law_top","_law_spot"]) (i:=0) hE1 rfl (nofun))) (λ _ _ _ hE1=>(nT (oY lB (pv 0) (oT ix_B (pv 1) oS (λ _ _=>rfl)))))) oR)) (oQ (oT ix_B (pq 0) oS (λ _ _=>rfl)) oR))))),?_⟩;show tRet _ _ [some (.ref p)] H;ext;refine nV λ B eB=>?_;simp only [iSeq];ext;refine jG hP λ x hx=>⟨true,x,rfl,⟨_,(hx:SqB true K H x _)⟩,λ a1 ha1=>lC (λ j y _=>∃ n,ns[j]?=some n/\y=.int (n.fmod u)) ha1 (hx:SqB true K H x _) (by rw [zqe]; omega) (λ _ _ _ _ r _=>r) ?_ ?_⟩
  ·intro i x H1 zs hx s1 _ Q' hQ';obtain ⟨n,hn,rfl⟩:=lP hx;subst eB;show tOp _ _ _ [some (.int n),some (.ref p)] H1 Q';ext;refine iH (hP.up s1) ?_
   try ext
   exact ⟨⋯,hQ' _ H1 (Same.refl _) ⟨n,hn,rfl⟩⟩
  ·intro H1 ys s1 e1 hly hr2;have ey:ys=(nM u ns).map V.int:=by
    unfold nM;rw [xE];exact mS (by simpa using hly) hr2
   subst ey;refine ⟨a1,_,rfl,.inl ⟨SqL.of e1,λ l hl1=>?_⟩⟩;refine iH ((hP.up s1).up (Same.new hl1)) ?_;refine ⟨(by show 2<=sizeLine; decide),λ p' hp'=>hQ p' _ ((s1.trans (Same.new hl1)).trans (Same.new hp')) ⟨l,oZ,?_⟩⟩;rw [nD (mX oZ hp')];exact oZ
noncomputable def sumT (xs:LI') (u:Int) (ys:LI') (v:Int):LI':=List.zipWith (λ m n=>m*v+n*u) xs ys
def sp_x (K:Frag):Sp:=λ vs H Q _=>E3 λ (p:Addr) (ns:LI') (u:Int)=>A4 (vs=[.ref p]) (mB H p ns u) (ns.length<=100) (∀ r H',Same H H'->mB H' r (ns.map (-·)) u->Q (.ref r) H')
def sp_v (K:Frag):Sp:=λ vs H Q _=>E7 λ (p q:Addr) (xs ys:LI') (u v:Int) (d:Nat)=>A13 (vs=[.ref p,.ref q]) (mB H p xs u) (mB H q ys v) (xs.length=d) (ys.length=d) ((d=2\/d=3)) (mK 2100 xs) (mK 2100 ys) (0 < u) (u < 2 ^ 400) (0 < v) (v < 2 ^ 400) (∀ r H',Same H H'->mB H' r (redT (u*v) (sumT xs u ys v)) (redU (u*v) (sumT xs u ys v))->Q (.ref r) H')
def sp_u (K:Frag):Sp:=λ vs H Q _=>E7 λ (p q:Addr) (xs ys:LI') (u v:Int) (d:Nat)=>A13 (vs=[.ref p,.ref q]) (mB H p xs u) (mB H q ys v) (xs.length=d) (ys.length=d) ((d=2\/d=3)) (mK 2100 xs) (mK 2100 ys) (0 < u) (u < 2 ^ 400) (0 < v) (v < 2 ^ 400) (∀ r H',Same H H'->mB H' r (redT (u*v) (sumT xs u (ys.map (-·)) v)) (redU (u*v) (sumT xs u (ys.map (-·)) v))->Q (.ref r) H')
theorem mB.upS {H H':Hp} {p:Addr} {ns:LI'} {u:Int} (h:mB H p ns u) (s:Same H H'):mB H' p ns u:=let ⟨q,h1,h2⟩:=h; ⟨q,s _ _ h1,s _ _ h2⟩
theorem ok_x (T:Txt K mg t):FnOk P w K mg base CX0 1 t.a_x t.d_x pJ' (sp_x K):=by
 refine T.F_x.ok sc_x (by walk_at "v") (λ cdv A outer s H vs Q E hr h=>?_)
 ·obtain ⟨p,ns,u,rfl,hx,hl,hQ⟩:=h;refine ⟨_,(oX (nH (mZ (oQ (lJ jZ rfl T.z_tuple (nofun) (oQ (mE (xs:=["top"]) (fr:=[]) (g:=(oW 0)) (tt:=(tEl (tUn (rU λ i=>.int (-i)) (tVar 0)))) (nR (sc:=oV aJ) (N:=N_x) rfl rfl (nofun)) rfl (mJ (oT ix_B (pq 0) oS (λ _ _=>rfl))) (λ _ _ _ hE1=>(nU (N:=["top"]) (i:=0) hE1 rfl (nofun))) (λ _ _ _ hE1=>(nT (eP eQ (pv 0))))) oR)) (oQ (oT ix_B (pq 0) oS (λ _ _=>rfl)) oR))))),?_⟩;show tRet _ _ [some (.ref p)] H
  try ext
  refine nV λ B eB=>?_;simp only [iSeq]
  try ext
  refine gZ hx λ x1 hx1=>⟨true,x1,rfl,⟨_,SqB.tup hx1⟩,λ a1 ha1=>lC (λ j y _=>∃ n,ns[j]?=some n/\y=.int (-n)) ha1 (SqB.tup hx1) (by rw [zqe]; omega) (λ _ _ _ _ r _=>r) ?_ ?_⟩
  ·intro i v H1 zs hv _ _ Q' hQ';obtain ⟨n,hn,rfl⟩:=lP hv;subst eB;show tUn _ _ [some (.int n)] H1 Q'
   try ext
   exact hQ' _ H1 (Same.refl _) ⟨n,hn,rfl⟩
  ·intro H1 ys s1 e1 hly hr2;have ey:ys=(ns.map (-·)).map V.int:=by
    rw [xE];exact mS (by simpa using hly) hr2
   subst ey;refine ⟨a1,_,rfl,.inl ⟨SqL.of e1,λ l hl1=>?_⟩⟩
   try ext
   have s2:Same H1 (upd H1 l (.tup ((ns.map (-·)).map V.int))):=Same.new hl1;refine gF (hx.upS (s1.trans s2)) ?_;refine ⟨(by show 2<=sizeLine; decide),λ p' hp'=>hQ p' _ ((s1.trans s2).trans (Same.new hp')) ⟨l,oZ,?_⟩⟩;rw [nD (mX oZ hp')];exact oZ
theorem ok_v (T:Txt K mg t):FnOk P w K mg base CX0 3 t.a_v t.d_v pz' (sp_v K):=by
 have G_15:=@ok_15 P w K mg base t T;refine T.F_v.ok sc_v (by walk_at "v") (λ cdv A outer s H vs Q E hr h=>?_)
 ·obtain ⟨p,q,xs,ys,u,v,d,rfl,hx,hy,lx,ly,hd,bx,byy,u0,u1,v0,v1,hQ⟩:=h;refine ⟨_,(oU (jX (i:=2) (xs:=["left","right"]) (fr:=[("one",0),("other",1)]) (g:=(gTup K 2 (mL (oW 0) (mL (oW 1) gNil)))) (tt:=(tEl (tOp (rI0 λ i j=>.int (i+j)) (tOp (rI (λ i j=>IntMulOk i j) λ i j=>.int (i*j)) (tVar 0) (tOp (rIxB K) (tVar 3) (tC (.int 1)))) (tOp (rI (λ i j=>IntMulOk i j) λ i j=>.int (i*j)) (tVar 1) (tOp (rIxB K) (tVar 2) (tC (.int 1))))))) (nR (sc:=oV aI) (N:=N_v) rfl rfl (nofun)) rfl sc_v.nd rfl rfl (Bn rfl T.z_zip (oQ (oT ix_B (pq 0) oS (λ _ _=>rfl)) (oQ (oT ix_B (pq 1) oS (λ _ _=>rfl)) oR))) (λ _ _ _ hE1=>(kF rfl (mI (nU (N:=["left","right","one","other"]) (i:=0) hE1 rfl (nofun)) (mI (nU (N:=["left","right","one","other"]) (i:=1) hE1 rfl (nofun)) kE)))) (λ _ _ _ hE1=>(nT (oY lF (oY mP (pv 0) (oT ix_B (pv 3) oS (λ _ _=>rfl))) (oY mP (pv 1) (oT ix_B (pv 2) oS (λ _ _=>rfl)))))))
   (oX (nH (nB G_15 hr.mo rfl T.m_15 T.F_15.kp T.b_15 .nil dA (oQ (pq 2) (oQ (oY mP (oT ix_B (pq 0) oS (λ _ _=>rfl)) (oT ix_B (pq 1) oS (λ _ _=>rfl))) oR)))))),?_⟩
  show tSeq _ _ _ [some (.ref p),some (.ref q),none] H;have nu:u.natAbs < 2 ^ 400:=⋯
  have nv:v.natAbs < 2 ^ 400:=⋯
  refine st λ N1 e1=>?_
  try ext
  refine nV λ B eB=>?_;simp only [iZip]
  try ext
  refine gZ hx λ x1 hx1=>?_
  try ext
  refine gZ hy λ y1 hy1=>?_
  try ext
  have hX:SqB true K H x1 (xs.map V.int):=SqB.tup hx1;have hY:SqB true K H y1 (ys.map V.int):=SqB.tup hy1;refine ⟨true,⟨_,hX⟩,true,⟨_,hY⟩,λ a ha=>?_⟩;refine Bl (λ j z _=>∃ m n,xs[j]?=some m/\ys[j]?=some n/\z=.int (m*v+n*u)) ha hX hY (by simp [lx,ly]) (by simp [lx]; omega) (λ _ _ _ _ r _=>r) ?_ ?_
  ·intro i v1 v2 H1 zs ex ey s1 ez Q' hQ';obtain ⟨m,em,rfl⟩:=lP ex;obtain ⟨n,en,rfl⟩:=lP ey;subst eB;show tOp _ _ _ [some (.int m),some (.int n),some (.ref p),some (.ref q)] H1 Q'
   try ext
   refine gF (hy.upS s1) ?_
   try ext
   refine ⟨yU (mF (bx m (zqb em))) (mF nv) ∅,gF (hx.upS s1) ?_⟩
   try ext
   exact ⟨yU (mF (byy n (zqb en))) (mF nu) ∅,hQ' _ _ (Same.refl _) ⟨m,n,em,en,rfl⟩⟩
  ·intro H1 zs s1 ez hlz hr';have ey:zs=(sumT xs u ys v).map V.int:=by
    unfold sumT;refine mS (by simp at hlz ⊢; omega) λ j z e=>?_;obtain ⟨m,n,em,en,rfl⟩:=hr' j z e;exact ⟨_,by rw [yH,em,en],rfl⟩
   subst ey;subst e1
   try ext
   refine gF (hx.upS s1) ?_
   try ext
   refine gF (hy.upS s1) ?_
   try ext
   have hu:0 < u*v:=yS u0 v0;have hl:(sumT xs u ys v).length=d:=by unfold sumT; rw [yI,lx,ly,vN]
   have sm:kK (u*v):=jI (B:=800) (by rw [yN]; exact zI (uA nu nv) (by rw [← wR]; exact zF _)) ∅;refine ⟨yU (mF nu) (mF nv) ∅,?_⟩;refine ⟨false,a,_,u*v,rfl,SqB.lst ez,⋯,sm,λ z=>?_,λ _ _ r H2 s2 hP=>?_⟩
   ·rcases z with z | z
    ·omega
    ·rw [z] at hl;simp at hl;omega
   ·exact hQ r H2 (s1.trans s2) hP
theorem ok_u (T:Txt K mg t):FnOk P w K mg base CX0 4 t.a_u t.d_u pz' (sp_u K):=by
 have G_v:=@ok_v P w K mg base t T;have G_x:=@ok_x P w K mg base t T;refine T.F_u.ok sc_u (by walk_at "v") (λ cdv A outer s H vs Q E hr h=>?_)
 ·obtain ⟨p,q,xs,ys,u,v,d,rfl,hx,hy,lx,ly,hd,bx,byy,u0,u1,v0,v1,hQ⟩:=h;refine ⟨_,(oX (nH (nB G_v hr.mo rfl T.m_v T.F_v.kp T.b_v .nil nC (oQ (pq 0) (oQ (nB G_x hr.mo rfl T.m_x T.F_x.kp T.b_x .nil nC (oQ (pq 1) oR)) oR))))),?_⟩;show tRet _ _ [some (.ref p),some (.ref q)] H
  try ext
  refine ⟨q,ys,v,rfl,hy,⋯,λ r H1 s1 hr1=>?_⟩;refine ⟨p,r,xs,ys.map (-·),u,v,d,rfl,hx.upS s1,hr1,lx,by rw [zqe]; exact ly,hd,bx,λ z hz=>?_,u0,u1,v0,v1,λ r2 H2 s2 hz=>hQ r2 H2 (s1.trans s2) hz⟩;obtain ⟨y,hy',rfl⟩:=zE.mp hz;rw [Int.natAbs_neg];exact byy y hy'
theorem Wo {a:Addr} {H:Hp} {tt:St->Hp->(Option V->Hp->Prop)->Prop} {fr:List (Str × Nat)} {σ:St} {Q:VK} {lo:Int} {len:Nat} (P:Nat->List V->Hp->Prop) (ha:H a=none) (hz:len<=1000) (h0:P 0 [] (upd H a (.lst [])))
  (hl:∀ i zs H1,P i zs H1->zs.length<=i) (mono:∀ i zs H1 H2,P i zs H1->kO a H1 H2->P i zs H2)
  (he:∀ (i:Nat) H1 zs,i < len->Same H H1->H1 a=some (.lst zs)->P i zs H1->∀ C:Option V->Hp->Prop,
   (∀ y H2,Same H1 H2->P (i+1) (zs++[y]) H2->C (some y) H2)->(∀ H2,Same H1 H2->P (i+1) zs H2->C none H2)->tt (some (.int (lo+i)) :: lG fr σ) H1 C)
  (hd:∀ H1 ys,Same H H1->H1 a=some (.lst ys)->P len ys H1->Q (.ref a) H1):lN (Itr lo len) (oW 0) tt 1 fr σ a H Q:=by
 refine dI len P ha hz h0 hl mono (λ i H1 hi s=>hi) (λ H1 s=>zF _) ?_ hd;intro i H1 zs hi s1 ez p ys x H3 hys hy C hC1 hC2;obtain ⟨e1,e2⟩:=hy;subst e1 e2
 match ys,hys with
 | [o],_=>exact ⟨⟨[_],rfl,rfl⟩,he i H3 zs hi s1 ez p C hC1 hC2⟩
def sp_h (K:Frag):Sp:=λ vs H Q _=>E3 λ (a:Addr) (ps:LA) (ds:List PyData)=>A9 (vs=[.ref a]) (H a=some (.lst (ps.map V.ref))) (ps.length=ds.length) (ps.length<=1000) ((∀ (i:Nat) p e,ps[i]?=some p->ds[i]?=some e->Dt K H (.ref p) e)) ((∀ e∈ds,tT 4 e=true)) ((∀ e∈ds,∀ e'∈ds,sm e e'=true)) ((∀ (i:Nat) e e',ds[i]?=some e->ds[i+1]?=some e'->lx (fl e) (fl e')=true)) (∀ H',Same H H'->Q (.bl true) H')
theorem ok_h (T:Txt K mg t):FnOk P w K mg base CX0 1 t.a_h t.d_h pH' (sp_h K):=by
 refine T.F_h.ok sc_h (by walk_at "v") (λ cdv A outer s H vs Q E hr h=>?_)
 ·have hu:=hr.units;obtain ⟨a,ps,ds,rfl,ha,hl,h1000,hD,hT,hs,hx,hQ⟩:=h;refine ⟨_,(oX (nH (jU (dB hu) (mE (xs:=["_law_k"]) (fr:=[("_law_some",0)]) (g:=(oW 0)) (tt:=(jP (gN (tOp (Jt K true) (tOp (rIxB K) (tVar 1) (tOp (rI0 λ i j=>.int (i - j)) (tVar 0) (tC (.int 1)))) (tOp (rIxB K) (tVar 1) (tVar 0)))) (tVar 0))) (nR (sc:=oV aQ) (N:=N_h) rfl rfl (nofun)) rfl (Nc rfl T.z_range (oQ oS (oQ (nK mC rfl T.z_len (nofun) (oQ (pq 0) oR)) oR))) (λ _ _ _ hE1=>(nU (N:=["_law_k","_law_some"]) (i:=0) hE1 rfl (nofun))) (λ _ _ _ hE1=>(Bp (nW (Uz hu) (oT ix_B (pv 1) (oY jT (pv 0) oS) (λ _ _=>rfl)) (oT ix_B (pv 1) (pv 0) (λ _ _=>rfl)) (nS _)) (pv 0)))) (kX oR) (nS _)))),?_⟩;show tRet _ _ [some (.ref a)] H;ext;refine Bi λ C B eC eB=>?_;simp only [Fk];ext;have hS:SqB false K H a (ps.map V.ref):=SqB.lst ha;refine ⟨false,a,_,rfl,hS,?_⟩;rw [zqe];refine ⟨_,rfl,∅,∅,⋯,⋯,λ a1 ha1=>?_⟩;refine Wo (λ _ zs _=>zs=[]) ha1 ⋯ rfl (λ _ _ _ p=>by rw [p]; exact yY _) (λ _ _ _ _ r _=>r) ?_ ?_
  ·intro i H1 zs hi s1 ez pz C' hC1 hC2;have i1:i+1 < ps.length:=⋯
   have e0:ps[i]?=some ps[i]:=zqd ⋯;have e1:ps[i+1]?=some ps[i+1]:=zqd i1;have d0:ds[i]?=some ds[i]:=zqd ⋯;have d1:ds[i+1]?=some ds[i+1]:=zqd ⋯;have q0:=hD i _ _ e0 d0;have q1:=hD (i+1) _ _ e1 d1;have lt:=hx i _ _ d0 d1;have t0:=hT _ (zqb d0);have t1:=hT _ (zqb d1);have sm':=hs _ (zqb d0) _ (zqb d1);subst eC;subst eB;simp only [jP];show gN _ [some (.int (1+(i:Int))),some (.ref a)] H1 _;ext;refine ⟨false,a,_,_,_,rfl,rfl,hS.up s1,mY (show (ps.map V.ref)[i]?=some (.ref ps[i]) by rw [zB,e0]; rfl) ⋯,?_⟩;refine ⟨false,a,_,_,_,rfl,rfl,hS.up s1,mY (show (ps.map V.ref)[i+1]?=some (.ref ps[i+1]) by rw [zB,e1]; rfl) ⋯,?_⟩;refine ⟨_,_,t0,t1,sm',nZ (nY s1) 4 t0 q0,nZ (nY s1) 4 t1 q1,?_⟩;rw [lt];exact ⟨false,rfl,iteF (hC2 H1 (Same.refl _) pz)⟩
  ·intro H1 ys s1 e1 py;rw [py] at e1;refine ⟨∅,λ p2 hp2=>?_⟩;have s2:Same H1 (upd H1 p2 (.lst [])):=Same.new hp2;exact dJ 1 ∅ (Dt.intsB (b:=false) (ns:=[]) (SqB.lst (s2 _ _ e1))) (Dt.intsB (b:=false) (ns:=[]) (SqB.lst oZ)) (gR _ _ _) (gR _ _ _) (b:=true) (by simp) (hQ _ (s1.trans s2))
theorem Wn {H H4:Hp} {r a2:Addr} {C:LM} {x:LI'} {i:Nat} (h:MatL H r C) (s:Same H H4) (ha:a2≠r) (e:H4 a2=some (.lst (x.map V.int))):∃ zs,H4 r=some (.lst zs)/\zs.length=C.length/\MatL (upd H4 r (.lst (zs.set i (.ref a2)))) r (C.set i x):=by
 obtain ⟨ps,h1,h2,h3⟩:=h;refine ⟨_,s _ _ h1,by rw [zqe,h2],ps.set i a2,by rw [oZ,List.map_set],by simp [h2],λ j p row ep er=>?_⟩;rw [List.getElem?_set] at ep er
 by_cases hj:i=j
 ·subst hj;rw [if_pos rfl] at ep er;split at ep
  ·cases ep;split at er
   ·cases er;exact ⟨ha,by rw [nD ha]; exact e⟩
   ·cases er
  ·cases ep
 ·rw [if_neg hj] at ep er;obtain ⟨g1,g2⟩:=h3 j p row ep er;exact ⟨g1,by rw [nD g1]; exact s _ _ g2⟩
theorem Wm {d B:Nat} {x y:LI'} {m:Int} (bx:∀ z∈x,z.natAbs < 2 ^ B) (by':∀ z∈y,z.natAbs < 2 ^ B) (hm:m.natAbs<=2):∀ z∈mixR d x y m,z.natAbs < 2 ^ (B+2):=λ z hz=>by
 obtain ⟨t,_,rfl⟩:=zE.mp hz;exact Ex (fA bx t) (fA by' t) hm
theorem Wl {d i j B:Nat} {m:Int} {x:LI'} (bx:∀ z∈x,z.natAbs < 2 ^ B) (hm:m.natAbs<=2):∀ z∈colR d i j m x,z.natAbs < 2 ^ (B+2):=λ z hz=>by
 obtain ⟨t,_,rfl⟩:=zE.mp hz;split
 ·rw [uW,Int.sub_eq_add_neg,← Int.neg_mul];exact Ex (fA bx t) (fA bx i) (by rw [Int.natAbs_neg]; exact hm)
 ·rw [tJ,tJ,Int.sub_zero];exact zI (fA bx t) (yT ∅ ⋯)
theorem Wk {d i j k:Nat} {m:Int} {x:LI'} (hk:k < d):(colR d i j m x)[k]?=some (x.getD k 0 - (if k=j then 1 else 0)*m*x.getD i 0):=by
 unfold colR;rw [zB,xP hk];rfl
theorem ok_1 (T:Txt K mg t):FnOk P w K mg base CX0 1 t.a_1 t.d_1 pk' (sp_1 K):=by
 refine T.F_1.ok sc_1 (by walk_at "v") (λ cdv A outer s H vs Q E hr h=>?_)
 ·obtain ⟨b1,b2,a,l,MA,L,d,B,rfl,hA,hL,sA,hd,ok,l4,bB,hB,hQ⟩:=h;obtain ⟨ps,hp1,hp2,hp3⟩:=hL;refine ⟨_,(oU (nJ (i:=0) sc_1.nd rfl (Or.inr rfl) (mE (xs:=["_law_row"]) (fr:=[]) (g:=(oW 0)) (tt:=(tEl (tCB (dG K) (nQ (tVar 0) tNil)))) (nR (sc:=oV s_1) (N:=N_1) rfl rfl (nofun)) rfl (mJ (pq 0)) (λ _ _ _ hE1=>(nU (N:=["_law_row"]) (i:=0) hE1 rfl (nofun))) (λ _ _ _ hE1=>(nT (lJ gQ rfl T.z_list (nofun) (oQ (pv 0) oR))))))
   (oU (kG yR rfl (mJ (pq 1)) (kF rfl (mI (mD (i:=2) sc_1.nd rfl (Or.inr rfl)) (mI (mD (i:=3) sc_1.nd rfl (Or.inr rfl)) (mI (mD (i:=4) sc_1.nd rfl (Or.inr rfl)) kE))))
   (oU (iN (mE (xs:=["_law_k"]) (fr:=[("_law_rows",0),("_law_i",2),("_law_j",3),("_law_many",4)]) (g:=(oW 0)) (tt:=(tEl (tOp (rI0 λ i j=>.int (i+j)) (tOp (rIxB K) (tOp (rIxB K) (tVar 1) (tVar 2)) (tVar 0)) (tOp (rI (λ i j=>IntMulOk i j) λ i j=>.int (i*j)) (tVar 4) (tOp (rIxB K) (tOp (rIxB K) (tVar 1) (tVar 3)) (tVar 0)))))) (nR (sc:=oV s_1) (N:=N_1) rfl rfl (nofun)) rfl (lM rfl T.z_range (oQ (nK mC rfl T.z_len (nofun) (oQ (pq 0) oR)) oR)) (λ _ _ _ hE1=>(nU (N:=["_law_k","_law_rows","_law_i","_law_j","_law_many"]) (i:=0) hE1 rfl (nofun))) (λ _ _ _ hE1=>(nT (oY lF (oT ix_B (oT ix_B (pv 1) (pv 2) (λ _ _=>rfl)) (pv 0) (λ _ _=>rfl)) (oY mP (pv 4) (oT ix_B (oT ix_B (pv 1) (pv 3) (λ _ _=>rfl)) (pv 0) (λ _ _=>rfl))))))) (cU (pq 0) (pq 2) Gs))
   (oX (nJ (i:=0) sc_1.nd rfl (Or.inr rfl) (mE (xs:=["_law_row"]) (fr:=[("_law_i",2),("_law_j",3),("_law_many",4)]) (g:=(oW 0)) (tt:=(tEl (lO (mU (nQ (tCB (jY K) (nQ (tVar 0) tNil)) tNil)) (oW 0) (tEl (tOp (rI0 λ i j=>.int (i - j)) (tOp (rIxB K) (tVar 1) (tVar 0)) (tOp (rI (λ i j=>IntMulOk i j) λ i j=>.int (i*j)) (tOp (rI (λ i j=>IntMulOk i j) λ i j=>.int (i*j)) (tCB (λ xs H Q=>(∃ i,xs=[.int i]/\Q (.int i) H)\/∃ k,xs=[.bl k]/\Q (.int (if k then 1 else 0)) H) (nQ (tOp (rI0 λ i j=>.bl (decide (i=j))) (tVar 0) (tVar 3)) tNil)) (tVar 4)) (tOp (rIxB K) (tVar 1) (tVar 2))))) 1 [("_law_row",0),("_law_i",1),("_law_j",2),("_law_many",3)]))) (nR (sc:=oV s_1) (N:=N_1) rfl rfl (nofun)) rfl (mJ (pq 0)) (λ _ _ _ hE1=>(hZ (N:=["_law_row","_law_i","_law_j","_law_many"]) (i:=0) hE1 rfl (nofun) rfl)) (λ _ _ _ hE1=>(nT (mE (xs:=["_law_k"]) (fr:=[("_law_row",0),("_law_i",1),("_law_j",2),("_law_many",3)]) (g:=(oW 0)) (tt:=(tEl (tOp (rI0 λ i j=>.int (i - j)) (tOp (rIxB K) (tVar 1) (tVar 0)) (tOp (rI (λ i j=>IntMulOk i j) λ i j=>.int (i*j)) (tOp (rI (λ i j=>IntMulOk i j) λ i j=>.int (i*j)) (tCB (λ xs H Q=>(∃ i,xs=[.int i]/\Q (.int i) H)\/∃ k,xs=[.bl k]/\Q (.int (if k then 1 else 0)) H) (nQ (tOp (rI0 λ i j=>.bl (decide (i=j))) (tVar 0) (tVar 3)) tNil)) (tVar 4)) (tOp (rIxB K) (tVar 1) (tVar 2)))))) (nR (N:=["_law_row","_law_i","_law_j","_law_many"]) hE1 rfl (nofun)) rfl (lM rfl T.z_range (oQ (nK mC rfl T.z_len (nofun) (oQ (pv 0) oR)) oR)) (λ _ _ _ hE2=>(nU (N:=["_law_k","_law_row","_law_i","_law_j","_law_many"]) (i:=0) hE2 rfl (nofun))) (λ _ _ _ hE2=>(nT (oY jT (oT ix_B (pv 1) (pv 0) (λ _ _=>rfl)) (oY mP (oY mP (lJ Fj rfl T.z_int (nofun) (oQ (jU kY (pv 0) (pv 3) (nS _)) oR)) (pv 4)) (oT ix_B (pv 1) (pv 2) (λ _ _=>rfl))))))))))))))
   (oX (nH (pq 0))))),?_⟩
  show tSeq _ _ _ [some (.ref a),some (.ref l),none,none,none] H;have d3:d<=3:=⋯
  refine st λ N1 e1=>?_;ext;refine nV λ B0 eB=>?_;simp only [iSeq];ext;obtain ⟨xs,x1,x2,x3⟩:=hA.walk;refine ⟨b1,⟨_,x1⟩,λ r hr0=>?_⟩;subst eB;refine Rq hA (by rw [sA.1]; omega) hr0 λ H1 s1 hD=>?_;subst e1;refine st λ N1 e1=>kI λ B1 eB=>?_;simp only [iSeq];ext;refine ⟨false,⟨_,SqB.lst (s1 _ _ hp1)⟩,?_⟩;refine iB (g:=gTup K 3 (mL (oW 2) (mL (oW 3) (mL (oW 4) gNil)))) (tb:=B1) (xs:=ps.map V.ref) (λ k σ H3=>∃ r v5 v6 v7,σ=[some (.ref r),some (.ref l),v5,v6,v7]/\Same H H3/\H r=none/\MatL H3 r (cjM d (chP d (L.take k).reverse) (chQ d (L.take k).reverse) MA)/\mW (B+4*k) (cjM d (chP d (L.take k).reverse) (chQ d (L.take k).reverse) MA)) ⟨r,none,none,none,rfl,s1,hr0,?_,?_⟩ ?_ ?_ ?_
  ·rw [tK,sQ,(Kh hd sA (v:=List.replicate d 0) (by simp)).1];exact hD.l
  ·rw [tK,sQ,(Kh hd sA (v:=List.replicate d 0) (by simp)).1];exact bB
  ·rintro k σ H3 _ ⟨r,v5,v6,v7,rfl,s3,_⟩;exact SqB.lst (s3 _ _ hp1)
  ·rintro k x σ H3 ex ⟨r,v5,v6,v7,rfl,s3,hr0,hM,b3⟩;rw [zB] at ex;cases ep:ps[k]? with
   | none=>rw [ep] at ex; cases ex
   | some p =>
   rw [ep] at ex;cases ex;have hk:k < L.length:=by rw [← hp2]; exact (zqa ep).1
   have eL:L[k]?=some L[k]:=zqd hk;generalize L[k]=q at eL;have okq:=ok q (zqb eL);have okT:∀ s∈(L.take k).reverse,s.Ok d:=λ s hs=>ok s (rR (wH.mp hs));have hq:=s3 _ _ (hp3 k p q ep eL);have nx:=Vi hd okT okq sA;rw [← Lq eL] at nx;rw [← nx];have sC:Sq d (cjM d (chP d (L.take k).reverse) (chQ d (L.take k).reverse) MA):=gG (jJ hd okT) MA;clear nx;generalize cjM d (chP d (L.take k).reverse) (chQ d (L.take k).reverse) MA=C at hM b3 sC;obtain ⟨qi,qj,qm⟩:=q;obtain ⟨hi,hj,hne,hm2⟩:=okq;replace hi:qi < d:=hi;replace hj:qj < d:=hj;replace hm2:qm.natAbs<=2:=hm2;refine ⟨p,_,rfl,SqT.of hq,rfl,?_⟩;simp only [mL,gNil,oW];refine ⟨_,_,rfl,_,_,rfl,_,_,rfl,rfl,?_⟩;subst eB;show tSeq _ _ _ [some (.ref r),some (.ref l),some (.int qi),some (.int qj),some (.int qm)] H3;refine st λ N2 e2=>?_;have eri:C[qi]?=some (C.getD qi []):=by have:=sC.1; simp [show qi < C.length by omega]
   have erj:C[qj]?=some (C.getD qj []):=by have:=sC.1; simp [show qj < C.length by omega]
   generalize hx:C.getD qi []=x at eri;generalize hy:C.getD qj []=y at erj;have hxl:x.length=d:=sC.2 x (zqb eri);have hyl:y.length=d:=sC.2 y (zqb erj);have bx:∀ z∈x,z.natAbs < 2 ^ (B+4*k):=b3 x (zqb eri);have by':∀ z∈y,z.natAbs < 2 ^ (B+4*k):=b3 y (zqb erj);ext;refine nV λ B2 eB2=>?_;simp only [mU];ext;refine gC (hM.b (K:=K)) ?_;rw [sC.1];refine ⟨_,rfl,⋯,⋯,λ a2 ha2=>?_⟩;rw [zV];have hmz1:qm.natAbs < 2 ^ 20:=by have:(2:Nat) ^ 20=1048576:=rfl; omega
   have hMr:∃ o,H3 r=some o:=let ⟨_,h,_⟩:=hM; ⟨_,h⟩
   have na2:a2≠r:=λ e=>by obtain ⟨o,ho⟩:=hMr; rw [e,ho] at ha2; cases ha2
   refine lY (λ j z _=>j < d/\z=.int (x.getD j 0+qm*y.getD j 0)) ha2 ⋯ (λ _ _ _ _ r _=>r) ?_ ?_
   ·intro j H4 zs4 hj s4 ez4 Q2 hQ2;subst eB2;have hMb:MatB false false K H4 r C:=hM.b.up s4;show tOp _ _ _ [some (.int (0+(j:Int))),some (.ref r),some (.int qi),some (.int qj),some (.int qm)] H4 Q2;ext;refine bN hMb eri (getD_at (k:=j) ⋯) rfl ⋯ ?_;refine bN hMb erj (getD_at (k:=j) ⋯) rfl ⋯ ?_;ext;exact ⟨yU (mF hmz1) (mF (by' _ (L2.getD_mem ⋯))) ⋯,hQ2 _ _ (Same.refl _) ⟨hj,rfl⟩⟩
   ·intro H4 ys s4 e4 hly hr4;have ey:ys=(mixR d x y qm).map V.int:=by
     refine mS (by rw [hly]; simp [mixR]) λ j z e=>?_;obtain ⟨hj,rfl⟩:=hr4 j z e;exact ⟨_,by unfold mixR; rw [zB,xP hj]; rfl,rfl⟩
    subst ey;obtain ⟨zs,hz,hzl,hM5⟩:=Wn (i:=qi) hM s4 na2 e4;have s5:Same H (upd H4 r (.lst (zs.set qi (.ref a2)))):=Same.over hr0 (s3.trans s4);simp only [gSub,Bw];ext;refine ⟨_,hz,qi,Lr (by rw [hzl,sC.1]; exact hi),?_⟩;generalize upd H4 r (.lst (zs.set qi (.ref a2)))=H5 at s5 hM5;have sR:Sq d (C.set qi (mixR d x y qm)):=by
     refine ⟨by simp [sC.1],λ z hz=>?_⟩;rcases tX hz with h | h
     ·exact sC.2 z h
     ·rw [h]; simp [mixR]
    have bR:mW (B+4*k+2) (C.set qi (mixR d x y qm)):=by
     intro z hz;rcases tX hz with h | h
     ·exact λ u hu=>zI (b3 z h u hu) (yT ∅ ⋯)
     ·rw [h]; exact Wm bx by' hm2
    have eS:kS d qi qj qm C=(C.set qi (mixR d x y qm)).map (colR d qi qj qm):=by unfold kS; rw [hx,hy]
    generalize C.set qi (mixR d x y qm)=R at hM5 sR bR eS;subst e2;ext;refine nV λ B3 eB3=>?_;simp only [iSeq];ext;obtain ⟨ws,w1,w2,w3⟩:=(hM5.b (K:=K)).walk;refine ⟨false,⟨_,w1⟩,λ r2 hr2=>?_⟩;have hH2:H r2=none:=by
     cases h:H r2 with
     | none=>rfl
     | some o=>have:=s5 _ _ h; rw [hr2] at this; cases this
    refine lC (RowR r2 λ i=>colR d qi qj qm (R.getD i [])) hr2 w1 (by rw [w2,sR.1]; omega) (RowR.mono (a:=r2)) ?_ ?_
    ·intro i x H6 zs6 ex s6 ez6 Q' hQ';obtain ⟨p',rt,rfl,er,hp⟩:=w3 i x ex;have hrl:rt.length=d:=sR.2 rt (zqb er);have brt:=bR rt (zqb er);subst eB3;show lO _ _ _ _ _ [some (.ref p'),some (.int qi),some (.int qj),some (.int qm)] H6 Q';refine nV λ B4 eB4=>?_;simp only [mU];ext;refine lU (hp.up s6) ⟨_,rfl,⋯,⋯,λ a4 ha4=>?_⟩;rw [zV,hrl];refine lY (λ j z _=>∃ n,(colR d qi qj qm rt)[j]?=some n/\z=.int n) ha4 ⋯ (λ _ _ _ _ r _=>r) ?_ ?_
     ·intro j H7 zs7 hj s7 ez7 Q2 hQ2;subst eB4;have hp7:=(hp.up s6).up s7;show tOp _ _ _ [some (.int (0+(j:Int))),some (.ref p'),some (.int qi),some (.int qj),some (.int qm)] H7 Q2;ext;refine ⟨false,p',_,_,_,rfl,rfl,hp7,mY (lQ (getD_at (k:=j) ⋯)) ⋯,?_⟩;refine .inr ⟨vL (wJ (by split <;> omega) (by split <;> omega)),?_⟩;refine ⟨false,p',_,_,_,rfl,rfl,hp7,mY (lQ (getD_at (k:=qi) ⋯)) rfl,?_⟩;ext;have sm:(((if 0+(j:Int)=(qj:Int) then (1:Int) else 0)*qm)).natAbs < 2 ^ 20:=by
       have:(2:Nat) ^ 20=1048576:=rfl;split <;> omega
      have smb:=mF sm;have brb:=mF (brt _ (L2.getD_mem (show qi < rt.length by omega)));have key:IntMulOk ((if 0+(j:Int)=(qj:Int) then (1:Int) else 0)*qm) (rt.getD qi 0):=yU smb brb ⋯;refine ⟨by first | exact key | simpa using key,hQ2 _ _ (Same.refl _) ⟨_,Wk hj,?_⟩⟩;have ej:(0+(j:Int)=(qj:Int)) ↔ j=qj:=⋯
      by_cases q:j=qj
      ·rw [if_pos q,if_pos (zM (ej.mpr q))]
      ·rw [if_neg q,if_neg λ h=>q (ej.mp (yO h))]
     ·intro H7 zs s7 e7 hlz hr7;have ez:zs=(colR d qi qj qm rt).map V.int:=mS (by rw [hlz]; simp [colR]) hr7;subst ez;have e5:R.getD i []=rt:=by rw [zqc,er]; rfl
      exact hQ' _ _ s7 ⟨a4,rfl,Ne.symm (mX ez6 ha4),by show H7 a4=some (.lst ((colR d qi qj qm (R.getD i [])).map V.int)); rw [e5]; exact e7⟩
    ·intro H6 zs s6 e6 hlz hr6;have hM6:=MatL.of e6 hr6;rw [hlz,w2] at hM6;have e8:(List.range R.length).map (λ i=>colR d qi qj qm (R.getD i []))=R.map (colR d qi qj qm):=by
      refine vK (by simp) λ i h1 h2=>?_;simp at h1;simp [zqc,h1]
     rw [e8] at hM6;refine ⟨r2,rfl,s5.trans s6,hH2,by rw [eS]; exact hM6,?_⟩;rw [eS];intro z hz;obtain ⟨rt,hrt,rfl⟩:=zE.mp hz;exact Wl (bR rt hrt) hm2
  ·rintro σ H3 ⟨r,v5,v6,v7,rfl,s3,hr0,hM,b3⟩;subst e1;ext;rw [zqe,hp2,uC] at hM b3;exact hQ r H3 s3 hM b3
abbrev DdS (K:Frag) (H:Hp) (p:Addr) (x:Dd):Prop:=jH K H p x.1 x.2.1 x.2.2
theorem DdS.up {H H':Hp} {p:Addr} {x:Dd} (h:DdS K H p x) (s:Same H H'):DdS K H' p x:=jH.up h s
def sp_5 (K:Frag):Sp:=λ vs H Q _=>E6 λ (p q:Addr) (x:Dd) (ns:LI') (v:Int) (d:Nat)=>A15 (vs=[.ref p,.ref q]) (DdS K H p x) (PlS K H q ns v) (Sq d x.1) ((d=2\/d=3)) (x.2.1.length=d) (ns.length=d) (mW 1000 x.1) (mK 1000 x.2.1) (mK 1000 ns) (0 < x.2.2) (x.2.2 < 2 ^ 150) (0 < v) (v < 2 ^ 150) (∀ r H',Same H H'->mB H' r (redT (x.2.2*v) (movT x.1 x.2.1 x.2.2 ns v)) (redU (x.2.2*v) (movT x.1 x.2.1 x.2.2 ns v))->Q (.ref r) H')
theorem Ew {B C:Nat} {r ns:LI'} (hr:∀ z∈r,z.natAbs < 2 ^ B) (hn:∀ z∈ns,z.natAbs < 2 ^ C) (hl:r.length<=3):(dotI r ns).natAbs < 2 ^ (B+C+2):=by
 have h:=Db (A:=2 ^ B) (B:=2 ^ C) r ns (λ z hz=>xU (hr z hz)) λ z hz=>xU (hn z hz);have e:(2:Nat) ^ (B+C+2)=4*(2 ^ B*2 ^ C):=by rw [wR,wR,tI]
 have p:0 < 2 ^ B*2 ^ C:=Nat.mul_pos (wZ B) (wZ C);have h2:=xR (2 ^ B*2 ^ C) hl;omega
theorem ok_5 (T:Txt K mg t):FnOk P w K mg base CX0 3 t.a_5 t.d_5 pq' (sp_5 K):=by
 have G_y:=@ok_y P w K mg base t T;have G_9:=@ok_9 P w K mg base t T;refine T.F_5.ok sc_5 (by walk_at "v") (λ cdv A outer s H vs Q E hr h=>?_)
 ·obtain ⟨p,q,⟨M,ts,u⟩,ns,v,d,rfl,hD,hP,sM,hd,lt,ln,bM,bt,bn,hu,hu2,hv,hv2,hQ⟩:=h;replace sM:Sq d M:=sM;replace lt:ts.length=d:=lt;replace hu:0 < u:=hu;replace hu2:u < 2 ^ 150:=hu2;obtain ⟨v0,v1,h1,h2,h3⟩:=hD;obtain ⟨q1,hq,hq1⟩:=hP;have h1':∀ {H'},Same H H'->SqB true K H' p [.ref v0,.ref v1,.int u]:=λ s=>nY s _ _ h1;have hq':∀ {H'},Same H H'->SqB true K H' q [.ref q1,.int v]:=λ s=>nY s _ _ hq;refine ⟨_,(oU (nJ (i:=2) sc_5.nd rfl (Or.inr rfl) (nB G_y hr.mo rfl T.m_y T.F_y.kp T.b_y .nil nC (oQ (oT ix_B (pq 0) oS (λ _ _=>rfl)) (oQ (oT ix_B (pq 1) oS (λ _ _=>rfl)) oR))))
   (oU (jX (i:=3) (xs:=["_law_k"]) (fr:=[("_law_one",0),("_law_spot",1),("_law_far",2)]) (g:=(oW 0)) (tt:=(tEl (tOp (rI0 λ i j=>.int (i+j)) (tOp (rI (λ i j=>IntMulOk i j) λ i j=>.int (i*j)) (tOp (rIxB K) (tVar 3) (tVar 0)) (tOp (rIxB K) (tVar 1) (tC (.int 2)))) (tOp (rI (λ i j=>IntMulOk i j) λ i j=>.int (i*j)) (tOp (rIxB K) (tOp (rIxB K) (tVar 1) (tC (.int 1))) (tVar 0)) (tOp (rIxB K) (tVar 2) (tC (.int 1))))))) (nR (sc:=oV s_5) (N:=N_5) rfl rfl (nofun)) rfl sc_5.nd rfl rfl (lM rfl T.z_range (oQ (nK mC rfl T.z_len (nofun) (oQ (pq 2) oR)) oR)) (λ _ _ _ hE1=>(nU (N:=["_law_k","_law_one","_law_spot","_law_far"]) (i:=0) hE1 rfl (nofun))) (λ _ _ _ hE1=>(nT (oY lF (oY mP (oT ix_B (pv 3) (pv 0) (λ _ _=>rfl)) (oT ix_B (pv 1) oS (λ _ _=>rfl))) (oY mP (oT ix_B (oT ix_B (pv 1) oS (λ _ _=>rfl)) (pv 0) (λ _ _=>rfl)) (oT ix_B (pv 2) oS (λ _ _=>rfl)))))))
   (oX (nH (nB G_9 hr.mo rfl T.m_9 T.F_9.kp T.b_9 .nil nC (oQ (pq 3) (oQ (oY mP (oT ix_B (pq 0) oS (λ _ _=>rfl)) (oT ix_B (pq 1) oS (λ _ _=>rfl))) oR))))))),?_⟩
  show tSeq _ _ _ [some (.ref p),some (.ref q),none,none] H;have nu:u.natAbs < 2 ^ 150:=⋯
  have nv:v.natAbs < 2 ^ 150:=⋯
  refine st λ N1 e1=>?_;ext;refine ⟨true,p,_,_,_,rfl,rfl,h1' (Same.refl _),rfl,?_⟩;refine ⟨true,q,_,_,_,rfl,rfl,hq' (Same.refl _),rfl,?_⟩
  try ext
  refine ⟨true,true,true,v0,q1,M,ns,d,rfl,h2,hq1,sM,hd,ln,λ r hr z hz=>zI (bM r hr z hz) (yT ∅ ∅),bn.le ∅,λ f H1 s1 hf0 ef=>?_⟩;have lf:(mv M ns).length=d:=lI sM;subst e1;refine st λ N1 e1=>?_;ext;refine nV λ B eB=>?_;simp only [mU];ext;refine lU (SqB.lst ef) ⟨_,rfl,⋯,⋯,λ a1 ha1=>?_⟩;rw [zV,lf];have hf:∀ {H'},Same H1 H'->SqB false K H' f ((mv M ns).map V.int):=λ s=>SqB.lst (s _ _ ef);have h3':∀ {H'},Same H H'->SqB true K H' v1 (ts.map V.int):=λ s=>nY s _ _ h3;have bf:∀ z∈mv M ns,z.natAbs < 2 ^ 2002:=λ z hz=>by
   obtain ⟨r,hr,rfl⟩:=zE.mp hz;exact Ew (bM r hr) bn (by have:=sM.2 r hr; omega)
  refine lY (λ k y _=>∃ n,(movT M ts u ns v)[k]?=some n/\y=.int n) ha1 ⋯ (λ _ _ _ _ r _=>r) ?_ ?_
  ·intro k H2 zs2 hk s2 ez2 Q2 hQ2;have s02:=s1.trans s2;subst eB;show tOp _ _ _ [some (.int (0+(k:Int))),some (.ref p),some (.ref q),some (.ref f)] H2 Q2;ext;refine ⟨false,f,_,_,_,rfl,rfl,hf s2,mY (lQ (getD_at (k:=k) ⋯)) ⋯,?_⟩;refine ⟨true,p,_,_,_,rfl,rfl,h1' s02,rfl,?_⟩
   try ext
   have m1:IntMulOk ((mv M ns).getD k 0) u:=yU (mF (bf _ (L2.getD_mem ⋯))) (mF nu) ∅;have m2:IntMulOk (ts.getD k 0) v:=yU (mF (bt _ (L2.getD_mem (by show k < ts.length; omega)))) (mF nv) ∅;refine ⟨m1,?_⟩;refine ⟨true,p,_,_,_,rfl,rfl,h1' s02,rfl,?_⟩;refine ⟨true,v1,_,_,_,rfl,rfl,h3' s02,mY (lQ (getD_at (k:=k) ⋯)) ⋯,?_⟩;refine ⟨true,q,_,_,_,rfl,rfl,hq' s02,rfl,?_⟩
   try ext
   refine ⟨m2,?_⟩;refine hQ2 _ _ (Same.refl _) ⟨_,?_,rfl⟩;have ek:M[k]?=some (M.getD k []):=by have:=sM.1; simp [show k < M.length by omega]
   unfold movT mv;rw [yH,ek,L2.getD_at (show k < ts.length by omega)];show some _=some _;congr 2;rw [zqc (l:=List.map (λ r=>dotI r ns) M),zB,ek];rfl
  ·intro H2 ys s2 e2 hly hr2;have lm:(movT M ts u ns v).length=d:=by unfold movT; rw [yI,sM.1,lt,vN]
   have ey:ys=(movT M ts u ns v).map V.int:=mS (by rw [hly,lm]) hr2;subst ey;have s02:=s1.trans s2;subst e1;ext;refine ⟨true,p,_,_,_,rfl,rfl,h1' s02,rfl,?_⟩;refine ⟨true,q,_,_,_,rfl,rfl,hq' s02,rfl,?_⟩
   try ext
   refine ⟨yU (mF nu) (mF nv) ∅,?_⟩;refine ⟨false,a1,_,_,rfl,SqB.lst e2,⋯,yS hu hv,?_,λ r H' s3 hr=>hQ r H' (s02.trans s3) hr⟩;refine jI (B:=300) ?_ ∅;rw [yN];exact zI (uA nu nv) (by rw [← wR]; exact zF _)
theorem eE {U:Int} {ts:LI'} (hU:0 < U):(∀ z∈redT U ts,∃ t∈ts,z.natAbs<=t.natAbs)/\0 < redU U ts/\redU U ts<=U:=by
 have hne:=fV ts (show U≠0 by omega);have hp:0 < redU U ts:=aS ts ⋯;refine ⟨λ z hz=>?_,hp,?_⟩
 ·unfold redT at hz;obtain ⟨t,ht,rfl⟩:=zE.mp hz;refine ⟨t,ht,?_⟩;have e:t.fdiv (cs U ts)*cs U ts=t:=jR hne (jQ (cH ht));have e2:=xZ Int.natAbs e;rw [yN] at e2;have:1<=(cs U ts).natAbs:=⋯
  rw [← e2];exact pZ _ this
 ·have e:redU U ts*cs U ts=U:=jR hne (jQ (gl_u U ts));have e2:=xZ Int.natAbs e;rw [yN] at e2;have h1:1<=(cs U ts).natAbs:=⋯
  have:=pZ (redU U ts).natAbs h1;omega
def sp_3 (K:Frag):Sp:=λ vs H Q _=>E12 λ (a b l sp sl:Addr) (R:LM) (ts S:LI') (p su:Int) (L:List Stp) (d:Nat)=>A20 (vs=[.ref a,.ref b,.int p,.ref l,.ref sp]) (MatL H a R) (H b=some (.lst (ts.map V.int))) (gI H l L) (H sp=some (.tup [.ref sl,.int su])) (H sl=some (.lst (S.map V.int))) (Sq d R) ((d=2\/d=3)) (ts.length=d) (S.length=d) ((∀ s∈L,s.Ok d)) (L.length<=6) (mW 1 R) (mK 5 ts) (mK 5 S) (0 < p) (p<=6) (0 < su) (su<=12) (∀ q H',Same H H'->lH K H' q (cjM d (chP d L.reverse) (chQ d L.reverse) R) (redT (p*su) (cjT d (chP d L.reverse) (chQ d L.reverse) R (smul su ts) (smul p S))) (redU (p*su) (cjT d (chP d L.reverse) (chQ d L.reverse) R (smul su ts) (smul p S)))->Fine d (cjM d (chP d L.reverse) (chQ d L.reverse) R) (redT (p*su) (cjT d (chP d L.reverse) (chQ d L.reverse) R (smul su ts) (smul p S))) (redU (p*su) (cjT d (chP d L.reverse) (chQ d L.reverse) R (smul su ts) (smul p S)))->Q (.ref q) H')
theorem Wj {d:Nat} (hd:d=2\/d=3) {P P' R:LM} (c:Chg d P P') (hR:Sq d R) {ts S:LI'} (lt:ts.length=d) (lS:S.length=d) {p su:Int} {k:Nat} (hk:k < d) :
  (cjT d P P' R (smul su ts) (smul p S))[k]?=some ((mv P ts).getD k 0*su+(S.getD k 0 - (mv (cjM d P P' R) S).getD k 0)*p):=by
 unfold cjT;have sC:=gG c R;rw [cM hd c.p lt,cM hd sC lS];have l1:(mv P ts).length=d:=lI c.p;have l2:(mv (cjM d P P' R) S).length=d:=lI sC;generalize mv P ts=A at l1;generalize mv (cjM d P P' R) S=B at l2;unfold vs va smul;rw [yH,yH,zB,zB,zB,L2.getD_at (show k < A.length by omega),L2.getD_at (show k < B.length by omega),L2.getD_at (show k < S.length by omega)];show some _=some _;congr 1;grind
theorem ok_3 (T:Txt K mg t):FnOk P w K mg base CX0 3 t.a_3 t.d_3 pa' (sp_3 K):=by
 have G_y:=@ok_y P w K mg base t T;have G_9:=@ok_9 P w K mg base t T;have G_1:=@ok_1 P w K mg base t T;have G_2:=@ok_2 P w K mg base t T;refine T.F_3.ok sc_3 (by walk_at "v") (λ cdv A outer s H vs Q E hr h=>?_)
 ·obtain ⟨a,b,l,sp,sl,R,ts,S,p,su,L,d,rfl,hA,hb,hL,hsp,hsl,sR,hd,lt,lS,ok,l6,bR,bt,bS,hp,hp6,hs,hs12,hQ⟩:=h;refine ⟨_,(oU (nJ (i:=0) sc_3.nd rfl (Or.inl rfl) (nB G_1 hr.mo rfl T.m_1 T.F_1.kp T.b_1 .nil nC (oQ (pq 0) (oQ (pq 3) oR))))
   (oU (nJ (i:=1) sc_3.nd rfl (Or.inr rfl) (nB G_2 hr.mo rfl T.m_2 T.F_2.kp T.b_2 .nil nC (oQ (pq 1) (oQ (pq 3) oR))))
   (oU (nJ (i:=5) sc_3.nd rfl (Or.inr rfl) (nB G_y hr.mo rfl T.m_y T.F_y.kp T.b_y .nil nC (oQ (pq 0) (oQ (oT ix_B (pq 4) oS (λ _ _=>rfl)) oR))))
   (oU (nJ (i:=1) sc_3.nd rfl (Or.inr rfl) (mE (xs:=["_law_k"]) (fr:=[("_law_tops",1),("_law_parts",2),("_law_spot",4),("_law_far",5)]) (g:=(oW 0)) (tt:=(tEl (tOp (rI0 λ i j=>.int (i+j)) (tOp (rI (λ i j=>IntMulOk i j) λ i j=>.int (i*j)) (tOp (rIxB K) (tVar 1) (tVar 0)) (tOp (rIxB K) (tVar 3) (tC (.int 1)))) (tOp (rI (λ i j=>IntMulOk i j) λ i j=>.int (i*j)) (tOp (rI0 λ i j=>.int (i - j)) (tOp (rIxB K) (tOp (rIxB K) (tVar 3) (tC (.int 0))) (tVar 0)) (tOp (rIxB K) (tVar 4) (tVar 0))) (tVar 2))))) (nR (sc:=oV s_3) (N:=N_3) rfl rfl (nofun)) rfl (lM rfl T.z_range (oQ (nK mC rfl T.z_len (nofun) (oQ (pq 1) oR)) oR)) (λ _ _ _ hE1=>(nU (N:=["_law_k","_law_tops","_law_parts","_law_spot","_law_far"]) (i:=0) hE1 rfl (nofun))) (λ _ _ _ hE1=>(nT (oY lF (oY mP (oT ix_B (pv 1) (pv 0) (λ _ _=>rfl)) (oT ix_B (pv 3) oS (λ _ _=>rfl))) (oY mP (oY jT (oT ix_B (oT ix_B (pv 3) oS (λ _ _=>rfl)) (pv 0) (λ _ _=>rfl)) (oT ix_B (pv 4) (pv 0) (λ _ _=>rfl))) (pv 2)))))))
   (oU (iN (nB G_9 hr.mo rfl T.m_9 T.F_9.kp T.b_9 .nil nC (oQ (pq 1) (oQ (oY mP (pq 2) (oT ix_B (pq 4) oS (λ _ _=>rfl))) oR))) (kF rfl (mI (mD (i:=1) sc_3.nd rfl (Or.inr rfl)) (mI (mD (i:=6) sc_3.nd rfl (Or.inl rfl)) kE))))
   (oX (nH (mZ (oQ (lJ jZ rfl T.z_tuple (nofun) (oQ (mE (xs:=["_law_row"]) (fr:=[]) (g:=(oW 0)) (tt:=(tEl (tCB (dH K) (nQ (tVar 0) tNil)))) (nR (sc:=oV s_3) (N:=N_3) rfl rfl (nofun)) rfl (mJ (pq 0)) (λ _ _ _ hE1=>(nU (N:=["_law_row"]) (i:=0) hE1 rfl (nofun))) (λ _ _ _ hE1=>(nT (lJ jZ rfl T.z_tuple (nofun) (oQ (pv 0) oR))))) oR)) (oQ (pq 1) (oQ (pq 6) oR))))))))))),?_⟩
  show tSeq _ _ _ [some (.ref a),some (.ref b),some (.int p),some (.ref l),some (.ref sp),none,none] H;have okR:∀ s∈L.reverse,s.Ok d:=λ s hs=>ok s (wH.mp hs);have c:=jJ hd okR;refine st λ N1 e1=>?_;ext;refine ⟨false,false,a,l,R,L,d,1,rfl,hA.b,hL,sR,hd,ok,⋯,bR,∅,λ a1 H1 s1 hC bC=>?_⟩;replace bC:mW 25 (cjM d (chP d L.reverse) (chQ d L.reverse) R):=λ r hr z hz=>zI (bC r hr z hz) (yT ∅ ⋯);have sC:=gG c R;subst e1;refine st λ N1 e1=>?_;ext;refine ⟨false,b,l,ts,L,d,5,rfl,SqB.lst (s1 _ _ hb),hL.up s1,lt,hd,ok,⋯,bt,∅,λ b1 H2 s2 hb0 hb1 bb=>?_⟩;replace bb:mK 17 (mv (chP d L.reverse) ts):=bb.le ⋯;have hm:mv (chP d L.reverse) ts=mv (chP d L.reverse) ts:=rfl;have s02:=s1.trans s2;subst e1;refine st λ N1 e1=>?_;ext;refine ⟨true,sp,_,_,_,rfl,rfl,SqB.tup (s02 _ _ hsp),rfl,?_⟩
  try ext
  refine ⟨false,false,false,a1,sl,_,S,d,rfl,(hC.up s2).b,SqB.lst (s02 _ _ hsl),sC,hd,lS,λ r hr z hz=>zI (bC r hr z hz) (yT ∅ ∅),bS.le ∅,λ f H3 s3 hf0 ef=>?_⟩;have s03:=s02.trans s3;have lf:(mv (cjM d (chP d L.reverse) (chQ d L.reverse) R) S).length=d:=lI sC;have lm:(mv (chP d L.reverse) ts).length=d:=lI c.p;have bf:∀ z∈mv (cjM d (chP d L.reverse) (chQ d L.reverse) R) S,z.natAbs < 2 ^ 32:=λ z hz=>by
   obtain ⟨r,hr,rfl⟩:=zE.mp hz;exact Ew (bC r hr) bS (by have:=sC.2 r hr; omega)
  have eT:∀ k,k < d->(cjT d (chP d L.reverse) (chQ d L.reverse) R (smul su ts) (smul p S))[k]?=some ((mv (chP d L.reverse) ts).getD k 0*su+(S.getD k 0 - (mv (cjM d (chP d L.reverse) (chQ d L.reverse) R) S).getD k 0)*p):=λ k hk=>Wj hd c sR lt lS hk;have lT:(cjT d (chP d L.reverse) (chQ d L.reverse) R (smul su ts) (smul p S)).length=d:=De c (by rw [jD]; exact lS);generalize cjT d (chP d L.reverse) (chQ d L.reverse) R (smul su ts) (smul p S)=TT at hQ eT lT;generalize cjM d (chP d L.reverse) (chQ d L.reverse) R=C at hQ eT hC bC sC lf bf ef;generalize mv (chP d L.reverse) ts=mt at eT lm bb hb1;generalize mv C S=mf at eT lf bf ef;subst e1;refine st λ N1 e1=>?_;ext;refine nV λ B eB=>?_;simp only [mU];ext;have hb3:H3 b1=some (.lst (mt.map V.int)):=s3 _ _ hb1;refine lU (SqB.lst hb3) ⟨_,rfl,⋯,⋯,λ a4 ha4=>?_⟩;rw [zV,lm];refine lY (λ k y _=>∃ n,TT[k]?=some n/\y=.int n) ha4 ⋯ (λ _ _ _ _ r _=>r) ?_ ?_
  ·intro k H4 zs4 hk s4 ez4 Q2 hQ2;have s04:=s03.trans s4;subst eB;show tOp _ _ _ [some (.int (0+(k:Int))),some (.ref b1),some (.int p),some (.ref sp),some (.ref f)] H4 Q2;ext;refine ⟨false,b1,_,_,_,rfl,rfl,SqB.lst (s4 _ _ hb3),mY (lQ (getD_at (k:=k) ⋯)) ⋯,?_⟩;refine ⟨true,sp,_,_,_,rfl,rfl,SqB.tup (s04 _ _ hsp),rfl,?_⟩
   try ext
   refine ⟨vB (wJ ⋯ ⋯),?_⟩;refine ⟨true,sp,_,_,_,rfl,rfl,SqB.tup (s04 _ _ hsp),rfl,?_⟩;refine ⟨false,sl,_,_,_,rfl,rfl,SqB.lst (s04 _ _ hsl),mY (lQ (getD_at (k:=k) ⋯)) ⋯,?_⟩;refine ⟨false,f,_,_,_,rfl,rfl,SqB.lst (s4 _ _ ef),mY (lQ (getD_at (k:=k) ⋯)) ⋯,?_⟩
   try ext
   refine ⟨vB (wJ ⋯ ⋯),?_⟩;exact hQ2 _ _ (Same.refl _) ⟨_,eT k hk,rfl⟩
  ·intro H4 ys s4 e4 hly hr4;have ey:ys=TT.map V.int:=mS (by rw [hly,lT]) hr4;subst ey;have s04:=s03.trans s4;subst e1;refine st λ N1 e1=>?_;ext;refine ⟨true,sp,_,_,_,rfl,rfl,SqB.tup (s04 _ _ hsp),rfl,?_⟩
   try ext
   refine ⟨vB (wJ ⋯ ⋯),?_⟩;have us:kK (p*su):=jI (B:=20) (by
    have h1:=tM hp6 hs12 ⋯ ⋯;have h2:=yS hp hs;have:(2:Nat) ^ 20=1048576:=rfl;omega) ∅
   refine ⟨false,a4,TT,p*su,rfl,SqB.lst e4,⋯,yS hp hs,us,λ q H5 s5 hq=>?_⟩;have fine:Fine d C (redT (p*su) TT) (redU (p*su) TT):=by
    have h1:=tM hp6 hs12 ⋯ ⋯;obtain ⟨r1,r2,r3⟩:=eE (ts:=TT) (yS hp hs);refine ⟨sC,by unfold redT; rw [zqe]; exact lT,r2,bC.le ∅,λ z hz=>?_,⋯⟩;obtain ⟨y,hy,hzy⟩:=r1 z hz;obtain ⟨k,hk,rfl⟩:=xV hy;have e:=eT k ⋯;rw [zqd hk] at e;have e':=zT e;rw [e'] at hzy;have hkd:k < d:=⋯
    have b1:=bb _ (L2.getD_mem (show k < mt.length by omega));have b2:=bS _ (L2.getD_mem (show k < S.length by omega));have b3:=bf _ (L2.getD_mem (show k < mf.length by omega));have g1:(mt.getD k 0*su).natAbs<=2 ^ 17*12:=by rw [yN]; exact wL (xU b1) ⋯
    have g2:((S.getD k 0 - mf.getD k 0)*p).natAbs<=(2 ^ 5+2 ^ 32)*6:=by rw [yN]; exact wL ⋯ ⋯
    exact vR hzy (zI (show _ < 2 ^ 40 by omega) (yT ∅ ∅))
   obtain ⟨q1,hq1,hq2⟩:=hq;refine ⟨q,_,rfl,SqT.of hq1,rfl,?_⟩;simp only [mL,gNil,oW];refine ⟨_,_,rfl,_,_,rfl,rfl,?_⟩;subst e1;ext;refine nV λ B0 eB=>?_;simp only [iSeq];ext;have s25:=(s3.trans s4).trans s5;have hC5:MatB false false K H5 a1 C:=(hC.up (s2.trans s25)).b;obtain ⟨xsA,hxA⟩:∃ xs,SqB false K H5 a1 xs:=let ⟨ps,h,_⟩:=hC5; ⟨_,h⟩
   refine ⟨false,⟨_,hxA⟩,λ a2 ha2=>?_⟩;subst eB;refine Jd hC5 (by rw [sC.1]; omega) ha2 λ H6 zs s6 hz hB=>?_;refine ⟨a2,_,rfl,.inl ⟨SqL.of hz,λ l hl1=>?_⟩⟩;have s7:Same H5 (upd H6 l (.tup zs)):=s6.trans (Same.new hl1);replace hB:=hB l hl1;generalize upd H6 l (.tup zs)=H7 at s7 hB;exact ⟨(by show 3<=sizeLine; decide),λ x hx=>hQ x _ (((s04.trans s5).trans s7).trans (Same.new hx)) ⟨l,q1,oZ,hB.up (Same.new hx),Same.new hx _ _ (s7 _ _ hq2)⟩ fine⟩
noncomputable def famG:Nat->List LM
 | 0=>[[[0,-1],[1,0]],[[-1,0],[0,1]]]
 | 1=>[[[1,-1],[1,0]],[[0,1],[1,0]]]
 | 2=>[[[-1,0,0],[0,1,0],[0,0,1]],[[1,0,0],[0,-1,0],[0,0,-1]],[[-1,0,0],[0,-1,0],[0,0,1]]]
 | 3=>[[[0,-1,0],[1,0,0],[0,0,1]],[[0,0,1],[1,0,0],[0,1,0]],[[-1,0,0],[0,-1,0],[0,0,-1]]]
 | 4=>[[[1,-1,0],[1,0,0],[0,0,1]],[[0,1,0],[1,0,0],[0,0,1]],[[1,0,0],[0,1,0],[0,0,-1]]]
 | _=>[[[0,-1,0],[1,-1,0],[0,0,1]],[[-1,0,0],[0,-1,0],[0,0,-1]]]
noncomputable def famM:Nat->Nat
 | 0=>4
 | 1=>4
 | 2=>2
 | 3=>1
 | 4=>6
 | _=>3
noncomputable def famD (k:Nat):Nat:=if k < 2 then 2 else 3
noncomputable def Wi (d:Nat) (gs l:List LM):List LM:=(l.flatMap λ A=>gs.map λ g=>mulM d g A).foldl (λ acc M=>if acc.contains M then acc else acc++[M]) l
noncomputable def Ev (d:Nat) (gs:List LM):Nat->List LM->List LM
 | 0,l=>l
 | n+1,l=>Ev d gs n (Wi d gs l)
noncomputable def pgL (k:Nat):List LM:=Ev (famD k) (famG k) 10 [idM (famD k)]
noncomputable def axB (R:LM):Bool:=decide ((R.getD 0 []).getD 2 0=0) && decide ((R.getD 1 []).getD 2 0=0) && decide ((R.getD 2 []).getD 0 0=0) && decide ((R.getD 2 []).getD 1 0=0)
noncomputable def invM (d:Nat) (A:LM):LM:=mulM d A (mulM d (mulM d A A) (mulM d (mulM d (mulM d A A) (mulM d A A)) (mulM d (mulM d A A) (mulM d A A))))
noncomputable def Lp (k:Nat):Bool :=
 (pgL k).contains (idM (famD k)) && (famG k).all (λ g=>(pgL k).contains g) &&
 (pgL k).all (λ A=>(famG k).all λ g=>(pgL k).contains (mulM (famD k) g A)) &&
 (pgL k).all (λ A=>decide (mulM (famD k) A (invM (famD k) A)=idM (famD k)) && decide (mulM (famD k) (invM (famD k) A) A=idM (famD k))) &&
 (pgL k).all (λ A=>decide (A.length=famD k) && A.all λ r=>decide (r.length=famD k) && r.all λ z=>decide (z.natAbs<=1)) &&
 (k != 4 || (pgL k).all axB) && decide ((pgL k).length*(if k=4 then famM k else famM k ^ famD k)<=192)
theorem Wh:(List.range 6).all Lp=true:=nofun
theorem jE (k:Nat):famD k=2\/famD k=3:=by unfold famD; split <;> simp
theorem Lo {M:LM}:∀ (xs acc:List LM),M∈xs.foldl (λ acc M=>if acc.contains M then acc else acc++[M]) acc->M∈acc\/M∈xs
 | [],_,h=>.inl h
 | x :: xs,acc,h=>by
  rcases Lo xs _ h with q | q
  ·dsimp only at q;split at q
   ·exact .inl q
   ·rcases xB.mp q with q | q
    ·exact .inl q
    ·exact .inr (by rw [yF.mp q]; exact .head _)
  ·exact .inr (.tail _ q)
theorem Ln {P:LM->Prop} {d:Nat} {gs:List LM} (hs:∀ A,P A->∀ g∈gs,P (mulM d g A)):∀ (n:Nat) (l:List LM),(∀ A∈l,P A)->∀ M∈Ev d gs n l,P M
 | 0,_,h=>h
 | n+1,l,h=>Ln hs n _ λ M hM=>by
  rcases Lo _ _ hM with q | q
  ·exact h M q
  ·obtain ⟨A,hA,q⟩:=sT.mp q;obtain ⟨g,hg,rfl⟩:=zE.mp q;exact hs A (h A hA) g hg
structure Fam (k:Nat):Prop where
 one:idM (famD k)∈pgL k
 gen:∀ g∈famG k,g∈pgL k
 mul:∀ A∈pgL k,∀ B∈pgL k,mulM (famD k) A B∈pgL k
 inv:∀ A∈pgL k,∃ B∈pgL k,mulM (famD k) A B=idM (famD k)/\mulM (famD k) B A=idM (famD k)
 sq:∀ A∈pgL k,Sq (famD k) A
 wee:∀ A∈pgL k,∀ r∈A,∀ z∈r,z.natAbs<=1
 ax:k=4->∀ A∈pgL k,axB A=true
 len:(pgL k).length*(if k=4 then famM k else famM k ^ famD k)<=192
theorem gJ {k:Nat} (hk:k < 6):Fam k:=by
 have h:=wI.mp Wh k (rP.mpr hk);simp only [Lp,Bool.and_eq_true,List.all_eq_true,decide_eq_true_eq,List.contains_iff_mem,Bool.or_eq_true,bne_iff_ne,ne_eq] at h;obtain ⟨⟨⟨⟨⟨⟨h1,h2⟩,h3⟩,h4⟩,h5⟩,h6⟩,h7⟩:=h;have hd:=jE k;have sq:∀ A∈pgL k,Sq (famD k) A:=λ A hA=>⟨(h5 A hA).1,λ r hr=>((h5 A hA).2 r hr).1⟩;have mul:∀ A∈pgL k,∀ B∈pgL k,mulM (famD k) A B∈pgL k:=λ A hA=>(Ln (P:=λ A=>Sq (famD k) A/\∀ B∈pgL k,mulM (famD k) A B∈pgL k) (gs:=famG k) (λ A ⟨sA,pA⟩ g hg=>⟨(sq g (h2 g hg)).mul,λ B hB=>by
  rw [mul_assoc hd (sq g (h2 g hg)) sA (sq B hB)];exact h3 _ (pA B hB) g hg⟩) 10 [idM (famD k)] (λ A hA=>by
   rw [yF.mp hA];exact ⟨iI,λ B hB=>by rw [(jC hd (sq B hB)).1]; exact hB⟩) A hA).2
 have sq2:=λ A hA=>mul A hA A hA;have sq4:=λ A hA=>mul _ (sq2 A hA) _ (sq2 A hA);exact ⟨h1,h2,mul,λ A hA=>⟨invM (famD k) A,mul A hA _ (mul _ (sq2 A hA) _ (mul _ (sq4 A hA) _ (sq4 A hA))),h4 A hA⟩,sq,λ A hA r hr z hz=>((h5 A hA).2 r hr).2 z hz,λ e A hA=>(h6.resolve_left (λ n=>n e)) A hA,h7⟩
def Tp (k:Nat) (t:LI'):Prop:=t.length=famD k/\(k=4->∃ z,t=[0,0,z])
noncomputable def rngI (p:Nat):LI':=(List.range p).map λ n:Nat=>Int.ofNat n
noncomputable def topL (k p:Nat):LM:=if k=4 then (rngI p).map λ z=>[0,0,z] else if k < 2 then (rngI p).flatMap λ x=>(rngI p).map λ y=>[x,y] else (rngI p).flatMap λ x=>(rngI p).flatMap λ y=>(rngI p).map λ z=>[x,y,z]
theorem cO {α β:Type} {f:α->List β} {n:Nat}:∀ {l:List α},(∀ x∈l,(f x).length=n)->(l.flatMap f).length=l.length*n
 | [],_=>by simp
 | a :: l,h=>by
  rw [List.flatMap_cons,yB,h a zS,cO λ x hx=>h x (zK _ hx),zX,tG];omega
theorem eF {p:Nat}:(rngI p).length=p:=by simp [rngI]
theorem Wg {k p:Nat}:(topL k p).length=if k=4 then p else p ^ famD k:=by
 unfold topL famD
 by_cases h4:k=4
 ·rw [if_pos h4,if_pos h4,zqe,eF]
 ·rw [if_neg h4,if_neg h4]
  by_cases h2:k < 2
  ·rw [if_pos h2,if_pos h2,cO (n:=p) λ x _=>by rw [zqe,eF],eF];grind
  ·rw [if_neg h2,if_neg h2,cO (n:=p*p) λ x _=>by rw [cO (n:=p) λ y _=>by rw [zqe,eF],eF],eF];grind
theorem eG {p:Nat} (hp:0 < p) (z:Int):z.fmod p∈rngI p:=by
 have h1:0<=z.fmod p:=uO z ⋯;have h2:z.fmod p < p:=tU z ⋯;exact zE.mpr ⟨(z.fmod p).toNat,rP.mpr ⋯,Int.toNat_of_nonneg h1⟩
theorem Wf {k p:Nat} (hp:0 < p) {t:LI'} (h:Tp k t):nM p t∈topL k p:=by
 unfold topL;obtain ⟨hl,h4⟩:=h
 by_cases e4:k=4
 ·obtain ⟨z,rfl⟩:=h4 e4;rw [if_pos e4];refine zE.mpr ⟨z.fmod p,eG hp z,?_⟩;simp [nM]
 ·rw [if_neg e4];unfold famD at hl
  by_cases h2:k < 2
  ·rw [if_pos h2] at hl ⊢;obtain ⟨x,y,rfl⟩:=v2 hl;exact sT.mpr ⟨x.fmod p,eG hp x,zE.mpr ⟨y.fmod p,eG hp y,rfl⟩⟩
  ·rw [if_neg h2] at hl ⊢;obtain ⟨x,y,z,rfl⟩:=v3 hl;exact sT.mpr ⟨x.fmod p,eG hp x,sT.mpr ⟨y.fmod p,eG hp y,zE.mpr ⟨z.fmod p,eG hp z,rfl⟩⟩⟩
theorem Tp.turn {k:Nat} (F:Fam k) {R:LM} (hR:R∈pgL k) {t t':LI'} (h:Tp k t) (h':Tp k t'):Tp k (va (mv R t) t'):=by
 refine ⟨Df (lI (F.sq R hR)) h'.1,λ e=>?_⟩;obtain ⟨z,rfl⟩:=h.2 e;obtain ⟨z',rfl⟩:=h'.2 e;have sR:=F.sq R hR;have ax:=F.ax e R hR;have e3:famD k=3:=by rw [e]; rfl
 rw [e3] at sR;obtain ⟨a1,a2,a3,a4,a5,a6,a7,a8,a9,rfl⟩:=sq3 sR;simp only [axB,Bool.and_eq_true,decide_eq_true_eq,List.getD_cons_zero,List.getD_cons_succ] at ax;obtain ⟨⟨⟨rfl,rfl⟩,rfl⟩,rfl⟩:=ax;refine ⟨a9*z+z',?_⟩;rw [mv3,va3];simp
theorem Tp.zero {k:Nat}:Tp k (List.replicate (famD k) 0):=⟨by simp,λ e=>⟨0,by subst e; rfl⟩⟩
structure Frm where
 k:Nat
 p:Nat
 P:LM
 P':LM
 s:LI'
 su:Int
structure Frm.Ok (F:Frm):Prop where
 k:F.k < 6
 p:0 < F.p
 pm:F.p<=famM F.k
 c:Chg (famD F.k) F.P F.P'
 s:F.s.length=famD F.k
 su:0 < F.su
noncomputable def Frm.at (F:Frm) (R:LM) (t:LI'):Dd:=frD (famD F.k) F.P F.P' F.s F.su F.p R t
def InF (F:Frm) (x:Dd):Prop:=∃ R∈pgL F.k,∃ t,Tp F.k t/\x=F.at R t
theorem Eu {F:Frm} (h:F.Ok) {x y:Dd} (hx:InF F x) (hy:InF F y):InF F (nE (famD F.k) x y):=by
 obtain ⟨R1,m1,t1,q1,rfl⟩:=hx;obtain ⟨R2,m2,t2,q2,rfl⟩:=hy;have M:=gJ h.k;refine ⟨mulM (famD F.k) R2 R1,M.mul _ m2 _ m1,va (mv R2 t1) t2,Tp.turn M m2 q1 q2,?_⟩;exact fr_step (jE F.k) h.c h.s h.su (by have:=h.p; omega) (M.sq _ m1) (M.sq _ m2) q1.1 q2.1
theorem Et {d:Nat} {c:Int}:smul c (List.replicate d 0)=List.replicate d 0:=by
 unfold smul;rw [List.map_replicate,Int.mul_zero]
theorem Es {d:Nat} (hd:d=2\/d=3) {M:LM} {U:Int} (hU:0 < U):canD M (List.replicate d 0) U=(M,List.replicate d 0,1):=by
 have h:=Au (M:=M) (ts:=List.replicate d 0) (U:=1) (k:=U) ⋯ hU;rw [Et,tZ] at h;rw [h];have:nM (redU 1 (List.replicate d 0)) (redT 1 (List.replicate d 0))=List.replicate d 0/\redU 1 (List.replicate d 0)=1:=by
  rcases hd with rfl | rfl <;> decide +kernel
 unfold canD;rw [this.1,this.2]
theorem Er {d:Nat} (hd:d=2\/d=3) {P P':LM} (h:Chg d P P') {s:LI'} (hs:s.length=d) {su p:Int} (hu:0 < su) (hp:0 < p):frD d P P' s su p (idM d) (List.replicate d 0)=nP d:=by
 have lS:(smul p s).length=d:=by rw [jD]; exact hs
 have e1:cjM d P P' (idM d)=idM d:=by
  unfold cjM;rw [(jC hd h.p).2,h.r]
 unfold frD cjT;rw [e1,Et,Ax hd lS];have e2:vs (va (mv P (List.replicate d 0)) (smul p s)) (smul p s)=List.replicate d 0:=by
  have e3:mv P (List.replicate d 0)=List.replicate d 0:=by
   have:=cM hd h.p (v:=List.replicate d 0) (by simp) 0;rw [Et] at this;rw [this];unfold smul;refine List.eq_replicate_iff.mpr ⟨by rw [zqe,lI h.p],λ b hb=>?_⟩;obtain ⟨z,_,rfl⟩:=zE.mp hb;exact tJ z
  rw [e3];generalize smul p s=S at lS ⊢;rcases hd with rfl | rfl
  ·obtain ⟨x,y,rfl⟩:=v2 lS;simp [va,vs,List.replicate]
  ·obtain ⟨x,y,z,rfl⟩:=v3 lS;simp [va,vs,List.replicate]
 rw [e2,Es hd (yS hp hu)];rfl
theorem Ep {F:Frm} (h:F.Ok):InF F (nP (famD F.k)):=⟨_,(gJ h.k).one,_,Tp.zero,(Er (jE F.k) h.c h.s h.su (by have:=h.p; omega)).symm⟩
noncomputable def Frm.all (F:Frm):List Dd:=(pgL F.k).flatMap λ R=>(topL F.k F.p).map λ t=>F.at R t
theorem We {F:Frm} (h:F.Ok):F.all.length<=192:=by
 unfold Frm.all;rw [cO (n:=(topL F.k F.p).length) λ x _=>by rw [zqe],Wg];refine yC (Nat.mul_le_mul_left _ ?_) (gJ h.k).len;split
 ·exact h.pm
 ·exact Nat.pow_le_pow_left h.pm _
theorem Wd {F:Frm} (h:F.Ok) {x:Dd} (hx:InF F x):x∈F.all:=by
 obtain ⟨R,hR,t,ht,rfl⟩:=hx;have hp:(0:Int) < F.p:=by have:=h.p; omega
 refine sT.mpr ⟨R,hR,zE.mpr ⟨nM F.p t,Wf h.p ht,?_⟩⟩;exact (Wz h.su hp (Cong.rest hp t)).symm
theorem Lm {F:Frm} (h:F.Ok) {ss:List Dd} (hs:∀ s∈ss,InF F s) (N:Nat):(tab (famD F.k) ss N).length<=192/\∀ y∈tab (famD F.k) ss N,InF F y.1 :=
 ⟨yC (Ww (Ep h) (λ x hx s hs'=>Eu h hx (hs s hs')) (λ x hx=>Wd h hx)) (We h),Ly (Ep h) λ x hx s hs'=>Eu h hx (hs s hs')⟩
def Rs (d:Nat) (x:Dd):Prop:=∃ M ts U,Sq d M/\ts.length=d/\0 < U/\x=canD M ts U
theorem Ar {d:Nat} {N:LM} {ns ts:LI'} {u v:Int} (hN:Sq d N) (hn:ns.length=d):(movT N ns v ts u).length=d:=by
 unfold movT;rw [yI,hN.1,hn,vN]
theorem Rs.step {d:Nat} {x y:Dd} (hx:Rs d x) (hy:Rs d y):Rs d (nE d x y):=by
 obtain ⟨M,ts,U,sM,lt,hU,rfl⟩:=hx;obtain ⟨N,ns,V,sN,ln,hV,rfl⟩:=hy;exact ⟨_,_,_,sN.mul,Ar sN ln,yS hV hU,iR hU hV⟩
theorem Wc {d:Nat} (hd:d=2\/d=3) {N O:LM} (sN:Sq d N) (sO:Sq d O) {ts ns os:LI'} (lt:ts.length=d) (ln:ns.length=d) (lo:os.length=d) {U V W:Int} :
  movT O os W (movT N ns V ts U) (V*U)=movT (mulM d O N) (movT O os W ns V) (W*V) ts U:=by
 rcases hd with rfl | rfl
 ·obtain ⟨a,b,c,e,rfl⟩:=sq2 sN;obtain ⟨a',b',c',e',rfl⟩:=sq2 sO;obtain ⟨t1,t2,rfl⟩:=v2 lt;obtain ⟨n1,n2,rfl⟩:=v2 ln;obtain ⟨o1,o2,rfl⟩:=v2 lo;rw [mul2];simp only [movT,dotI,List.zipWith_cons_cons,List.zipWith_nil_left,List.sum_cons,List.sum_nil,List.cons.injEq,and_true];refine ⟨?_,?_⟩ <;> grind
 ·obtain ⟨a1,a2,a3,a4,a5,a6,a7,a8,a9,rfl⟩:=sq3 sN;obtain ⟨b1,b2,b3,b4,b5,b6,b7,b8,b9,rfl⟩:=sq3 sO;obtain ⟨t1,t2,t3,rfl⟩:=v3 lt;obtain ⟨n1,n2,n3,rfl⟩:=v3 ln;obtain ⟨o1,o2,o3,rfl⟩:=v3 lo;rw [mul3];simp only [movT,dotI,List.zipWith_cons_cons,List.zipWith_nil_left,List.sum_cons,List.sum_nil,List.cons.injEq,and_true];refine ⟨?_,?_,?_⟩ <;> grind
theorem cP {d:Nat} (hd:d=2\/d=3) {x y z:Dd} (hx:Rs d x) (hy:Rs d y) (hz:Rs d z):nE d (nE d x y) z=nE d x (nE d y z):=by
 obtain ⟨M,ts,U,sM,lt,hU,rfl⟩:=hx;obtain ⟨N,ns,V,sN,ln,hV,rfl⟩:=hy;obtain ⟨O,os,W,sO,lo,hW,rfl⟩:=hz;rw [iR hU hV,iR (yS hV hU) hW,iR hV hW,iR hU (yS hW hV),mul_assoc hd sO sN sM,Wc hd sN sO lt ln lo,Int.mul_assoc]
theorem Lk {d:Nat} (hd:d=2\/d=3):Rs d (nP d):=⟨idM d,List.replicate d 0,1,iI,by simp,⋯,(Es hd ⋯).symm⟩
theorem Wb {d:Nat} (hd:d=2\/d=3):nP d=canD (idM d) (List.replicate d 0) 1:=(Es hd ⋯).symm
theorem Eo {d:Nat} (hd:d=2\/d=3) {N:LM} (sN:Sq d N) {ns:LI'} (ln:ns.length=d) {V:Int}:movT N ns V (List.replicate d 0) 1=ns/\movT (idM d) (List.replicate d 0) 1 ns V=ns:=by
 rcases hd with rfl | rfl
 ·obtain ⟨a,b,c,e,rfl⟩:=sq2 sN;obtain ⟨n1,n2,rfl⟩:=v2 ln;rw [id2];simp [movT,dotI,List.replicate]
 ·obtain ⟨a1,a2,a3,a4,a5,a6,a7,a8,a9,rfl⟩:=sq3 sN;obtain ⟨n1,n2,n3,rfl⟩:=v3 ln;rw [id3];simp [movT,dotI,List.replicate]
theorem eH {d:Nat} (hd:d=2\/d=3) {x:Dd} (hx:Rs d x):nE d (nP d) x=x/\nE d x (nP d)=x:=by
 obtain ⟨M,ts,U,sM,lt,hU,rfl⟩:=hx;rw [Wb hd];refine ⟨?_,?_⟩
 ·rw [iR ⋯ hU,(Eo hd sM lt).1,(jC hd sM).2,tZ]
 ·rw [iR hU ⋯,(Eo hd sM lt).2,(jC hd sM).1,uW]
theorem Aq {F:Frm} (h:F.Ok) {x:Dd} (hx:InF F x):Rs (famD F.k) x:=by
 obtain ⟨R,hR,t,ht,rfl⟩:=hx;exact ⟨_,_,_,gG h.c R,De h.c (by rw [jD]; exact h.s),yS (by have:=h.p; omega) h.su,rfl⟩
theorem En {d:Nat}:∀ {v:LI'},v.length=d->va v (smul (-1) v)=List.replicate d 0/\va (smul (-1) v) v=List.replicate d 0
 | [],h=>by subst h; exact ⟨rfl,rfl⟩
 | a :: v,h=>by
  obtain ⟨m,rfl⟩:∃ m,d=m+1:=⟨v.length,by rw [← h]; rfl⟩;have:=En (v:=v) (d:=m) (by simpa using h);unfold va smul at this ⊢;rw [zG,yZ,yZ,this.1,this.2,vG,show a+-1*a=0 by omega,show -1*a+a=0 by omega];exact ⟨rfl,rfl⟩
theorem Tp.neg {k:Nat} {t:LI'} (h:Tp k t):Tp k (smul (-1) t):=⟨by rw [jD]; exact h.1,λ e=>by
 obtain ⟨z,rfl⟩:=h.2 e;exact ⟨-1*z,rfl⟩⟩
theorem Wa {d:Nat} (hd:d=2\/d=3) {v:LI'} (h:v.length=d):va v (List.replicate d 0)=v:=by
 rcases hd with rfl | rfl
 ·obtain ⟨x,y,rfl⟩:=v2 h;simp [va,List.replicate]
 ·obtain ⟨x,y,z,rfl⟩:=v3 h;simp [va,List.replicate]
theorem Xz {F:Frm} (h:F.Ok) {x:Dd} (hx:InF F x):∃ y,InF F y/\nE (famD F.k) x y=nP (famD F.k)/\nE (famD F.k) y x=nP (famD F.k):=by
 obtain ⟨R,hR,t,ht,rfl⟩:=hx;have M:=gJ h.k;have hd:=jE F.k;have hp:(0:Int) < F.p:=by have:=h.p; omega
 obtain ⟨B,hB,e1,e2⟩:=M.inv R hR;have lBt:(mv B t).length=famD F.k:=lI (M.sq B hB);have hT:Tp F.k (smul (-1) (mv B t)):=by
  have:=Tp.turn M hB ht (Tp.zero (k:=F.k));rw [Wa hd lBt] at this;exact this.neg
 refine ⟨F.at B (smul (-1) (mv B t)),⟨B,hB,_,hT,rfl⟩,?_,?_⟩
 ·unfold Frm.at
  rw [fr_step hd h.c h.s h.su hp (M.sq R hR) (M.sq B hB) ht.1 hT.1,e2,(En lBt).1,Er hd h.c h.s h.su hp]
 ·unfold Frm.at
  rw [fr_step hd h.c h.s h.su hp (M.sq B hB) (M.sq R hR) hT.1 ht.1,e1,cM hd (M.sq R hR) lBt,← cL hd (M.sq R hR) (M.sq B hB) ht.1,e1,Ax hd ht.1,(En ht.1).2,Er hd h.c h.s h.su hp]
structure Grp (d:Nat) (T:List Dd):Prop where
 dim:d=2\/d=3
 nd:T.Nodup
 rs:∀ x∈T,Rs d x
 one:nP d∈T
 mul:∀ x∈T,∀ y∈T,nE d x y∈T
 inv:∀ x∈T,∃ y∈T,nE d x y=nP d/\nE d y x=nP d
theorem Lj {d:Nat} (hd:d=2\/d=3) {ss T:List Dd} (rs:∀ x∈T,Rs d x) (rss:∀ s∈ss,Rs d s) (cl:∀ x∈T,∀ s∈ss,nE d x s∈T) {x:Dd} (hx:x∈T):∀ (w:List Nat),(∀ k∈w,k < ss.length)->∀ y,Rs d y->nE d x y∈T->nE d x (w.foldl (λ x k=>nE d x (ss.getD k (nP d))) y)∈T
 | [],_,y,_,h=>h
 | k :: w,hw,y,ry,h=>by
  rw [wN];have hk:=hw k zS;have hm:ss.getD k (nP d)∈ss:=by
   rw [zqc,zqd hk];exact vJ hk
  refine Lj hd rs rss cl hx w (λ j hj=>hw j (zK _ hj)) _ (ry.step (rss _ hm)) ?_;rw [← cP hd (rs x hx) ry (rss _ hm)];exact cl _ h _ hm
theorem Xy {α:Type} {l L:List α} (nd:l.Nodup) (sub:∀ x∈l,x∈L) (hl:L.length<=l.length) {a:α} (ha:a∈L):a∈l:=by
 refine Classical.byContradiction λ hn=>?_;have:=At (l:=a :: l) (L:=L) (xM.mpr ⟨hn,nd⟩) λ x hx=>by
  rcases zL.mp hx with rfl | hx
  ·exact ha
  ·exact sub x hx
 rw [zX] at this;omega
theorem Ap {α β:Type} {f:α->β}:∀ {l:List α},l.Nodup->(∀ x∈l,∀ y∈l,f x=f y->x=y)->(l.map f).Nodup
 | [],_,_=>by simp
 | a :: l,nd,h=>by
  rw [zG,xM];have nd':=xM.mp nd;refine ⟨λ hm=>?_,Ap nd'.2 λ x hx y hy=>h x (zK _ hx) y (zK _ hy)⟩;obtain ⟨b,hb,e⟩:=zE.mp hm;exact nd'.1 ((h b (zK _ hb) a zS e) ▸ hb)
theorem Xx {F:Frm} (h:F.Ok) {ss:List Dd} (hs:∀ s∈ss,InF F s) {N:Nat} (hN:192<=N):Grp (famD F.k) ((tab (famD F.k) ss N).map (·.1)):=by
 have hd:=jE F.k;obtain ⟨h1,h2⟩:=Lm h hs N;have inT:∀ x∈(tab (famD F.k) ss N).map (·.1),InF F x:=λ x hx=>by
  obtain ⟨y,hy,rfl⟩:=zE.mp hx;exact h2 y hy
 have rs:∀ x∈(tab (famD F.k) ss N).map (·.1),Rs (famD F.k) x:=λ x hx=>Aq h (inT x hx);have rss:∀ s∈ss,Rs (famD F.k) s:=λ s hs'=>Aq h (hs s hs');have cl:∀ x∈(tab (famD F.k) ss N).map (·.1),∀ s∈ss,nE (famD F.k) x s∈(tab (famD F.k) ss N).map (·.1):=λ x hx s hs'=>by
  obtain ⟨y,hy,rfl⟩:=zE.mp hx;exact Wu ⋯ y hy s hs'
 have mul:∀ x∈(tab (famD F.k) ss N).map (·.1),∀ y∈(tab (famD F.k) ss N).map (·.1),nE (famD F.k) x y∈(tab (famD F.k) ss N).map (·.1):=λ x hx y hy=>by
  obtain ⟨z,hz,rfl⟩:=zE.mp hy;obtain ⟨e,hk⟩:=Ws z hz;rw [e];exact Lj hd rs rss cl hx z.2 hk _ (Lk hd) (by rw [(eH hd (rs x hx)).2]; exact hx)
 have one:nP (famD F.k)∈(tab (famD F.k) ss N).map (·.1):=zE.mpr ⟨_,Lv,rfl⟩;refine ⟨hd,cN,rs,one,mul,λ m hm=>?_⟩;obtain ⟨n,hn,e1,e2⟩:=Xz h (inT m hm);have rn:=Aq h hn;have back:∀ x∈(tab (famD F.k) ss N).map (·.1),nE (famD F.k) (nE (famD F.k) x m) n=x:=λ x hx=>by
  rw [cP hd (rs x hx) (rs m hm) rn,e1,(eH hd (rs x hx)).2]
 have nd:(((tab (famD F.k) ss N).map (·.1)).map λ x=>nE (famD F.k) x m).Nodup:=Ap cN λ x hx y hy e=>by rw [← back x hx,← back y hy,e]
 have hz:nP (famD F.k)∈((tab (famD F.k) ss N).map (·.1)).map λ x=>nE (famD F.k) x m:=Xy nd (λ z hz=>by
  obtain ⟨x,hx,rfl⟩:=zE.mp hz;exact mul x hx m hm) (sZ (zqe ..).symm) one
 obtain ⟨y,hy,e⟩:=zE.mp hz;have yn:y=n:=by
  have:=back y hy;rw [e,(eH hd rn).1] at this;exact this.symm
 subst yn;exact ⟨y,hy,e1,e2⟩
noncomputable def act (d:Nat) (σ:SP') (x:Dd):List Int × Int:=(nE d (idM d,σ.1,σ.2) x).2
theorem Li (d:Nat) (σ:SP') (x:Dd):act d σ x=(nM (redU (x.2.2*σ.2) (movT x.1 x.2.1 x.2.2 σ.1 σ.2)) (redT (x.2.2*σ.2) (movT x.1 x.2.1 x.2.2 σ.1 σ.2)),redU (x.2.2*σ.2) (movT x.1 x.2.1 x.2.2 σ.1 σ.2)):=rfl
theorem Xw {d:Nat} {x y s:Dd} (h:x.2=y.2):(nE d x s).2=(nE d y s).2:=by
 obtain ⟨M,ts,u⟩:=x;obtain ⟨N,ns,v⟩:=y;cases h;rfl
theorem Xv {d:Nat} {M N:LM} {ts ns:LI'} {U V:Int} (hU:0 < U) (hV:0 < V):nE d (M,ts,U) (canD N ns V)=nE d (canD M ts U) (canD N ns V):=by
 obtain ⟨c,hc,e1,e2,hu⟩:=eA (ts:=ts) hU;have hv:0 < redU V ns:=aS ns ⋯;rw [iR hU hV];show canD (mulM d N M) (movT N (nM (redU V ns) (redT V ns)) (redU V ns) ts U) (redU V ns*U)=_;obtain ⟨e,he,e3,e4,hv'⟩:=eA (ts:=ns) hV;have k1:canD (mulM d N M) (movT N ns V ts U) (V*U)=canD (mulM d N M) (movT N (redT V ns) (redU V ns) ts U) (redU V ns*U):=by
  have hh:V*U=e*(redU V ns*U):=by
   conv=>lhs; rw [e4]
   grind
  have hm:movT N ns V ts U=smul (e*1) (movT N (redT V ns) (redU V ns) ts U):=by
   rw [← Ke (c:=1),← e3,← e4,uW];congr 1;unfold smul;simp
  rw [hh,hm,tZ,Au (yS hv hU) he]
 rw [k1];exact (Da (yS hv hU) (Km (Cong.rest hv _) (Ey _))).symm
theorem Ao {d:Nat} (hd:d=2\/d=3) {σ:SP'} (hσ:σ.1.length=d) (h0:0 < σ.2) {x y:Dd} (hx:Rs d x) (hy:Rs d y):act d (act d σ x) y=act d σ (nE d x y):=by
 have e:∀ z,Rs d z->nE d (idM d,σ.1,σ.2) z=nE d (canD (idM d) σ.1 σ.2) z:=λ z hz=>by
  obtain ⟨N,ns,V,sN,ln,hV,rfl⟩:=hz;exact Xv h0 hV
 have rσ:Rs d (canD (idM d) σ.1 σ.2):=⟨_,_,_,iI,hσ,h0,rfl⟩;unfold act;rw [e _ (hx.step hy),← cP hd rσ hx hy,← e x hx];exact Xw rfl
theorem Em {β:Type}:∀ {D:List β},(D.map λ _=>(0:Nat)).sum=0
 | []=>rfl
 | _ :: D=>by rw [zG,wS,Em (D:=D)]
theorem Lh {β:Type} [DecidableEq β] {b:β}:∀ {D:List β},D.Nodup->b∈D->(D.map λ v=>if b=v then 1 else 0).sum=1
 | a :: D,nd,h=>by
  have nd':=xM.mp nd;rw [zG,wS]
  by_cases e:b=a
  ·subst e;have:(D.map λ v=>if b=v then 1 else 0)=D.map λ _=>0:=wG λ v hv=>if_neg λ (e:b=v)=>nd'.1 (e ▸ hv);rw [if_pos rfl,this,Em]
  ·rw [if_neg e,Lh nd'.2 (by rcases zL.mp h with h | h; exact absurd h e; exact h)]
theorem Lg {β:Type} {f g:β->Nat}:∀ {D:List β},(D.map λ v=>f v+g v).sum=(D.map f).sum+(D.map g).sum
 | []=>rfl
 | a :: D=>by
  rw [zG,wS,Lg (D:=D),zG,wS,zG,wS];omega
theorem Lf {α β:Type} [DecidableEq β] {f:α->β} {D:List β} (nd:D.Nodup):∀ {T:List α},(∀ x∈T,f x∈D)->(D.map λ v=>(T.filter λ x=>decide (f x=v)).length).sum=T.length
 | [],_=>by
  rw [show (D.map λ v=>(([]:List α).filter λ x=>decide (f x=v)).length)=D.map λ _=>0 from rfl,Em];rfl
 | a :: T,h=>by
  have ih:=Lf (f:=f) nd λ x hx=>h x (zK a hx);have e:(D.map λ v=>((a :: T).filter λ x=>decide (f x=v)).length)=D.map λ v=>(if f a=v then 1 else 0)+(T.filter λ x=>decide (f x=v)).length:=wG λ v _=>by
   by_cases q:f a=v
   ·rw [oB (by simpa using q),if_pos q,zX]; omega
   ·rw [oC (by simpa using q),if_neg q]; omega
  rw [e,Lg,Lh nd (h a zS),ih,zX];omega
theorem Le {β:Type} {f:β->Nat} {n:Nat}:∀ {D:List β},(∀ v∈D,f v=n)->(D.map f).sum=D.length*n
 | [],_=>by simp
 | a :: D,h=>by
  rw [zG,wS,h a zS,Le λ v hv=>h v (zK _ hv),zX,tG];omega
noncomputable def ownL (d:Nat) (σ:SP') (T:List Dd):List Dd:=T.filter λ x=>decide (act d σ x=act d σ (nP d))
theorem Xu {d:Nat} {T:List Dd} (G:Grp d T) {σ:SP'} (hσ:σ.1.length=d) (h0:0 < σ.2) {y:Dd} (hy:y∈T):(T.filter λ x=>decide (act d σ x=act d σ y)).length=(ownL d σ T).length:=by
 have hd:=G.dim;obtain ⟨z,hz,e1,e2⟩:=G.inv y hy;have ry:=G.rs y hy;have rz:=G.rs z hz;have k1:∀ x∈T,nE d (nE d x y) z=x:=λ x hx=>by rw [cP hd (G.rs x hx) ry rz,e1,(eH hd (G.rs x hx)).2]
 have k2:∀ x∈T,nE d (nE d x z) y=x:=λ x hx=>by rw [cP hd (G.rs x hx) rz ry,e2,(eH hd (G.rs x hx)).2]
 have le:∀ (u v:Dd) (A B:List Dd),v∈T->(∀ x∈T,nE d (nE d x v) u=x)->A.Nodup->(∀ x∈A,x∈T)->(∀ x∈A,nE d x v∈B)->A.length<=B.length:=λ u v A B hv k nA sA sB=>by
  rw [← zqe (f:=λ x=>nE d x v)];refine At (Ap nA λ x hx x' hx' e=>by rw [← k x (sA x hx),← k x' (sA x' hx'),e]) λ w hw=>?_;obtain ⟨x,hx,rfl⟩:=zE.mp hw;exact sB x hx
 have m1:∀ {x:Dd} {p:Dd->Bool},x∈T.filter p ↔ x∈T/\p x=true:=vU;refine Nat.le_antisymm (le y z _ _ hz k2 (G.nd.filter _) (λ x hx=>(m1.mp hx).1) λ x hx=>?_) (le z y _ _ hy k1 (G.nd.filter _) (λ x hx=>(m1.mp hx).1) λ x hx=>?_)
 ·obtain ⟨hx,hp⟩:=m1.mp hx;refine m1.mpr ⟨G.mul x hx z hz,?_⟩;rw [xW] at hp ⊢;rw [← Ao hd hσ h0 (G.rs x hx) rz,hp,Ao hd hσ h0 ry rz,e1]
 ·obtain ⟨hx,hp⟩:=m1.mp hx;refine m1.mpr ⟨G.mul x hx y hy,?_⟩;rw [xW] at hp ⊢;rw [← Ao hd hσ h0 (G.rs x hx) ry,hp,Ao hd hσ h0 (Lk hd) ry,(eH hd ry).1]
theorem Xt {d:Nat} {T:List Dd} (G:Grp d T) {σ:SP'} (hσ:σ.1.length=d) (h0:0 < σ.2) {D:List (SP')} (nd:D.Nodup) (h1:∀ x∈T,act d σ x∈D) (h2:∀ v∈D,∃ x∈T,act d σ x=v):D.length*(ownL d σ T).length=T.length:=by
 rw [← Lf nd h1,Le (n:=(ownL d σ T).length)];intro v hv;obtain ⟨x,hx,rfl⟩:=h2 v hv;exact Xu G hσ h0 hx
def sp_l:Sp:=λ vs H Q _=>E1 λ (k:Nat)=>A3 (vs=[.int k]) (k < 6) (∀ p g H',Same H H'->H' p=some (.tup [.ref g,.int (famM k)])->Mats H' g (famG k)->Q (.ref p) H')
def sp_p (K:Frag):Sp:=λ vs H Q _=>E3 λ (c:Int) (k p:Nat)=>A5 (vs=[.int c,.int k,.int p]) (k < 6) (1<=p) (p<=6) (∀ q a b R ts H',Same H H'->H' q=some (.tup [.ref a,.ref b])->MatL H' a R->H' b=some (.lst (ts.map V.int))->R∈pgL k->Tp k ts->(∀ z∈ts,0<=z/\z < p)->Q (.ref q) H')
noncomputable def retF (Ms:List LM) (m:Int):Stmt->Bool
 | .Return (some (.Tuple [e,.Constant (.int m') _ _] _ _)) _=>decide (m'=m) && isList e && (decide (Bg e=some Ms) && Rm Ms)
 | _=>false
noncomputable def ifF (x:Str) (k:Int) (Ms:List LM) (m:Int):Stmt->Bool
 | .If (.Compare (.Name y _) [.Eq] [.Constant (.int k') _ _] _) [s] [] _=>decide (y=x) && decide (k'=k) && retF Ms m s
 | _=>false
abbrev Ld (Ms:List LM) (m:Int):TS:=tRet (tTup (nQ (Hj Ms) (nQ (tC (.int m)) tNil)))
theorem Lc {X:Cx} {st:Stmt} {Ms:List LM} {m:Int} (h:retF Ms m st=true):PS X st (Ld Ms m):=by
 unfold retF at h;split at h
 ·rename_i e m' _ _ _ _ _;simp only [Bool.and_eq_true,decide_eq_true_eq] at h;obtain ⟨⟨rfl,hl⟩,hm,hz⟩:=h;refine nH (mZ (oQ (Rn (by rw [zM hm]; exact hz)) (oQ oS oR) ?_));unfold isList at hl;split at hl
  ·rfl
  ·cases hl
 ·cases h
theorem cQ {X:Cx} {st:Stmt} {x:Str} {k m:Int} {Ms:List LM} {i:Nat} (h:ifF x k Ms m st=true) (hi:X.N[i]?=some x) (hv:Vis X.env.scope x) (hd:(x == ("__debug__" : Str))=false) (hcd:(x == ("__classdict__" : Str))=false):PS X st (tIfS (gN (tOp (rI0 λ i j=>.bl (decide (i=j))) (tVar i) (tC (.int k)))) (Ld Ms m) Fp):=by
 unfold ifF at h;split at h
 ·simp only [Bool.and_eq_true,decide_eq_true_eq] at h;obtain ⟨⟨rfl,rfl⟩,hs⟩:=h;exact mH (nW kY (Fr hi hv hd hcd) oS (nS _)) (oX (Lc hs)) mG
 ·cases h
@[irreducible] noncomputable def S_f (k:Nat):Stmt:=(kH cE).getD k (.Pass ⟨0,0,0,0⟩)
theorem Xs:kH cE=[S_f 0,S_f 1,S_f 2,S_f 3,S_f 4,S_f 5]:=by unfold S_f; kernel_rfl
theorem q_f0:ifF "_law_kind" 0 (famG 0) 4 (S_f 0)=true:=by unfold S_f; kernel_rfl
theorem q_f1:ifF "_law_kind" 1 (famG 1) 4 (S_f 1)=true:=by unfold S_f; kernel_rfl
theorem q_f2:ifF "_law_kind" 2 (famG 2) 2 (S_f 2)=true:=by unfold S_f; kernel_rfl
theorem q_f3:ifF "_law_kind" 3 (famG 3) 1 (S_f 3)=true:=by unfold S_f; kernel_rfl
theorem q_f4:ifF "_law_kind" 4 (famG 4) 6 (S_f 4)=true:=by unfold S_f; kernel_rfl
theorem q_f5:retF (famG 5) 3 (S_f 5)=true:=by unfold S_f; kernel_rfl
theorem Xr {X:Cx} {b b2:List Stmt} {u:TS} (h:b=b2) (p:PSs X b2 u):PSs X b u:=by rw [h]; exact p
theorem ok_l (T:Txt K mg t):FnOk P w K mg base CX0 1 t.a_l t.d_l pF' sp_l:=by
 refine T.F_l.ok sc_l (by walk_at "v") (λ cdv A outer s H vs Q E hr h=>?_)
 ·obtain ⟨k,rfl,hk,hQ⟩:=h;refine ⟨_,Xr Xs (oU (cQ (i:=0) q_f0 rfl (.inl rfl) rfl rfl) (oU (cQ (i:=0) q_f1 rfl (.inl rfl) rfl rfl) (oU (cQ (i:=0) q_f2 rfl (.inl rfl) rfl rfl) (oU (cQ (i:=0) q_f3 rfl (.inl rfl) rfl rfl) (oU (cQ (i:=0) q_f4 rfl (.inl rfl) rfl rfl) (oX (Lc q_f5))))))),?_⟩;show tSeq _ _ _ [some (.int k)] H;have fin:∀ (Ms:List LM) (m:Int),Ms=famG k->m=(famM k:Int)->∀ p H1,Same H H1->Mats H1 p Ms->2<=sizeLine/\∀ q,H1 q=none->Q (.ref q) (upd H1 q (.tup [.ref p,.int m])):=by
   intro Ms m e1 e2 p H1 s1 hg;subst e1 e2;exact ⟨∅,λ q hq=>hQ q p _ (s1.trans (Same.new hq)) oZ (hg.up (Same.new hq))⟩
  ext;refine ite2 (λ h=>?_) λ h0=>ite2 (λ h=>?_) λ h1=>ite2 (λ h=>?_) λ h2=>ite2 (λ h=>?_) λ h3=>ite2 (λ h=>?_) λ h4=>?_
  ·have e:k=0:=by have:=yO h; omega
   subst e;exact fin _ _ rfl rfl
  ·have e:k=1:=by have:=yO h; omega
   subst e;exact fin _ _ rfl rfl
  ·have e:k=2:=by have:=yO h; omega
   subst e;exact fin _ _ rfl rfl
  ·have e:k=3:=by have:=yO h; omega
   subst e;exact fin _ _ rfl rfl
  ·have e:k=4:=by have:=yO h; omega
   subst e;exact fin _ _ rfl rfl
  ·have n0:¬((k:Int)=0):=λ z=>h0 (zM z);have n1:¬((k:Int)=1):=λ z=>h1 (zM z);have n2:¬((k:Int)=2):=λ z=>h2 (zM z);have n3:¬((k:Int)=3):=λ z=>h3 (zM z);have n4:¬((k:Int)=4):=λ z=>h4 (zM z);have e:k=5:=⋯
   subst e;exact fin _ _ rfl rfl
theorem Lb {k:Nat} (hk:k < 6):∃ M,(famG k)[0]?=some M/\M.length=famD k/\(famG k).length<=3:=by
 rcases (show k=0\/k=1\/k=2\/k=3\/k=4\/k=5 by omega) with e | e | e | e | e | e <;> subst e <;> exact ⟨_,rfl,∅,∅⟩
theorem El {k:Nat} (F:Fam k) {R:LM} (h:R∈pgL k):mW 1 R:=λ r hr z hz=>by
 have:=F.wee R h r hr z hz;omega
theorem ok_p (T:Txt K mg t):FnOk P w K mg base CX0 2 t.a_p t.d_p pd' (sp_p K):=by
 have G_l:=@ok_l P w K mg base t T;have G_b:=@ok_b P w K mg base t T;have G_e:=@ok_e P w K mg base t T;refine T.F_p.ok sc_p (by walk_at "v") (λ cdv A outer s H vs Q E hr h=>?_)
 ·obtain ⟨c,k,p,rfl,hk,hp1,hp6,hQ⟩:=h;have F:=gJ hk;have hd:=jE k;obtain ⟨M0,e0,l0,l3⟩:=Lb hk;refine ⟨_,(oU (nJ (i:=3) sc_p.nd rfl (Or.inr rfl) (oT ix_B (nB G_l hr.mo rfl T.m_l T.F_l.kp T.b_l .nil nC (oQ (pq 1) oR)) oS (λ _ _=>rfl)))
   (oU (nJ (i:=4) sc_p.nd rfl (Or.inl rfl) (oY lF (nK mC rfl T.z_len (nofun) (oQ (pq 3) oR)) oS))
   (oU (jX (i:=5) (xs:=["_law_i"]) (fr:=[("_law_generators",3)]) (g:=(oW 0)) (tt:=(tEl (lO (mU (nQ (tCB (jY K) (nQ (tOp (rIxB K) (tVar 1) (tC (.int 0))) tNil)) tNil)) (oW 0) (tEl (tCB (λ xs H Q=>(∃ i,xs=[.int i]/\Q (.int i) H)\/∃ k,xs=[.bl k]/\Q (.int (if k then 1 else 0)) H) (nQ (tOp (rI0 λ i j=>.bl (decide (i=j))) (tVar 1) (tVar 0)) tNil))) 1 [("_law_i",0)]))) (nR (sc:=oV aN) (N:=N_p) rfl rfl (nofun)) rfl sc_p.nd rfl rfl (lM rfl T.z_range (oQ (nK mC rfl T.z_len (nofun) (oQ (oT ix_B (pq 3) oS (λ _ _=>rfl)) oR)) oR)) (λ _ _ _ hE1=>(hZ (N:=["_law_i","_law_generators"]) (i:=0) hE1 rfl (nofun) rfl)) (λ _ _ _ hE1=>(nT (mE (xs:=["_law_k"]) (fr:=[("_law_i",0)]) (g:=(oW 0)) (tt:=(tEl (tCB (λ xs H Q=>(∃ i,xs=[.int i]/\Q (.int i) H)\/∃ k,xs=[.bl k]/\Q (.int (if k then 1 else 0)) H) (nQ (tOp (rI0 λ i j=>.bl (decide (i=j))) (tVar 1) (tVar 0)) tNil)))) (nR (N:=["_law_i","_law_generators"]) hE1 rfl (nofun)) rfl (lM rfl T.z_range (oQ (nK mC rfl T.z_len (nofun) (oQ (oT ix_B (pv 1) oS (λ _ _=>rfl)) oR)) oR)) (λ _ _ _ hE2=>(nU (N:=["_law_k","_law_i"]) (i:=0) hE2 rfl (nofun))) (λ _ _ _ hE2=>(nT (lJ Fj rfl T.z_int (nofun) (oQ (jU kY (pv 1) (pv 0) (nS _)) oR))))))))
   (oU (kG yR rfl (lM rfl T.z_range (oQ oS oR)) (mD (i:=6) sc_p.nd rfl (Or.inl rfl))
   (oU (mH (nW cW (oY lB (pq 0) (pq 4)) oS (nS _))
   (oX (nJ (i:=5) sc_p.nd rfl (Or.inl rfl) (nB G_b hr.mo rfl T.m_b T.F_b.kp T.b_b .nil nC (oQ (oT ix_B (pq 3) (oY jT (oY lB (pq 0) (pq 4)) oS) (λ _ _=>rfl)) (oQ (pq 5) oR)))))
   mG)
   (oX (nJ (i:=0) sc_p.nd rfl (Or.inl rfl) (oY kN (pq 0) (pq 4))))))
   (oU (mH (nW kY (pq 1) oS (nS _))
   (oX (nH (mZ (oQ (pq 5) (oQ (kX (oQ oS (oQ oS (oQ (oY lB (pq 0) (pq 2)) oR)))) oR)))))
   mG)
   (oX (nH (mZ (oQ (pq 5) (oQ (nB G_e hr.mo rfl T.m_e T.F_e.kp T.b_e .nil nC (oQ (pq 0) (oQ (pq 2) (oQ (nK mC rfl T.z_len (nofun) (oQ (pq 5) oR)) oR)))) oR)))))))))),?_⟩
  show tSeq _ _ _ [some (.int c),some (.int k),some (.int p),none,none,none,none] H;refine st λ N1 e1=>?_;ext;refine ⟨k,rfl,hk,λ q g H1 s1 hq hg=>?_⟩;refine ⟨true,q,_,_,_,rfl,rfl,SqB.tup hq,rfl,?_⟩;subst e1;refine st λ N1 e1=>?_;ext;have hgs:∃ ps:LA,SqB false K H1 g (ps.map V.ref)/\ps.length=(famG k).length:=let ⟨ps,h1,h2,_⟩:=hg; ⟨ps,SqB.lst h1,h2⟩
  obtain ⟨gs,hgs,hgl⟩:=hgs;refine ⟨false,g,_,rfl,hgs,?_⟩
  try ext
  rw [zqe,hgl];subst e1;refine st λ N1 e1=>?_;ext;refine nV λ B eB=>?_;simp only [mU];ext;refine hg.at e0 rfl λ m0 hm0=>gC (hm0.b (K:=K)) ?_;rw [l0];have d3:famD k<=3:=⋯
  refine ⟨_,rfl,⋯,⋯,λ a1 ha1=>?_⟩;rw [zV];have go:∀ r H2,Same H1 H2->MatL H2 r (idM (famD k))->N1 [some (.int c),some (.int k),some (.int p),some (.ref g),some (.int ((famG k).length+1)),some (.ref r),none] H2:=by
   intro r0 H2 s2 hI;subst e1;refine st λ N1 e1=>kI λ B2 eB2=>?_;simp only [mU];ext;refine ⟨⋯,⋯,?_⟩;refine Ho (n:=2) (g:=oW 6) (tb:=B2) (λ i σ H3=>∃ (c':Int) (r:Addr) (R:LM) (v:Option V),σ=[some (.int c'),some (.int k),some (.int p),some (.ref g),some (.int ((famG k).length+1)),some (.ref r),v]/\Same H1 H3/\MatL H3 r R/\R∈pgL k) ⟨c,r0,_,none,rfl,s2,hI,F.one⟩ ?_ ?_
   ·rintro i σ H3 hi ⟨c',r,R,v,rfl,s3,hR,mR⟩;subst eB2;show tSeq _ _ _ [some (.int c'),some (.int k),some (.int p),some (.ref g),some (.int ((famG k).length+1)),some (.ref r),some (.int (0+(i:Int)))] H3;have dv:jM c' ((famG k).length+1):=⟨⋯,zI ((rM ⋯).mpr (show ((((famG k).length:Int)+1)).natAbs < 2 ^ 30 by omega)) ∅⟩;refine st λ N2 e2=>?_;have nx:∀ r R H4,Same H1 H4->MatL H4 r R->R∈pgL k->N2 [some (.int c'),some (.int k),some (.int p),some (.ref g),some (.int ((famG k).length+1)),some (.ref r),some (.int (0+(i:Int)))] H4:=by
     intro r R H4 s4 h4 m4;subst e2;ext;exact ⟨dv,s4,_,h4,m4⟩
    ext;refine ⟨⋯,?_⟩;have fq:=fms c' (((famG k).length:Int)+1) ⋯;refine ite2 (λ h=>?_) λ _=>nx r R H3 s3 hR mR;have hpos:=yO h;refine ⟨⋯,?_⟩;obtain ⟨j,ej⟩:=xQ (show 0<=c'.fmod (((famG k).length:Int)+1) - 1 by omega);have hj:j < (famG k).length:=⋯
    have eM:(famG k)[j]?=some (famG k)[j]:=zqd hj;have mM:=F.gen _ (vJ hj);generalize (famG k)[j]=M at eM mM;refine (hg.up s3).at eM ej λ m1 hm1=>?_;refine ⟨false,false,false,false,m1,r,M,R,famD k,rfl,hm1.b,hR.b,F.sq M mM,F.sq R mR,hd,(El F mM).le ∅,(El F mR).le ∅,λ r' H4 s4 h4=>nx r' _ H4 (s3.trans s4) h4 (F.mul M mM R mR)⟩
   ·rintro σ H3 ⟨c',r,R,v,rfl,s3,hR,mR⟩;subst e1;ext;have sR:=F.sq R mR;refine ite2 (λ h=>?_) λ h=>?_
    ·have e4:k=4:=by have:=yO h; omega
     have fz:=fms c' p ⋯;refine ⟨⋯,by show 3<=sizeLine; decide,λ b hb=>⟨by show 2<=sizeLine; decide,λ q' hq'=>?_⟩⟩;refine hQ q' r b R [0,0,c'.fmod p] _ ((s1.trans s3).trans ((Same.new hb).trans (Same.new hq'))) oZ (hR.up ((Same.new hb).trans (Same.new hq'))) (Same.new hq' _ _ oZ) mR ⟨by rw [e4]; rfl,λ _=>⟨_,rfl⟩⟩ λ z hz=>?_;simp only [List.mem_cons,List.not_mem_nil,or_false] at hz;rcases hz with e | e | e <;> rw [e] <;> omega
    ·have n4:k≠4:=λ z=>h (zM ⋯);refine gC (hR.b (K:=K)) ?_;refine ⟨c',p,R.length,rfl,⋯,⋯,by have:=sR.1; omega,λ b H4 ns s4 _ eb nl nb=>⟨by show 2<=sizeLine; decide,λ q' hq'=>?_⟩⟩;exact hQ q' r b R ns _ ((s1.trans s3).trans (s4.trans (Same.new hq'))) oZ (hR.up (s4.trans (Same.new hq'))) (Same.new hq' _ _ eb) mR ⟨by rw [nl,sR.1],λ z=>absurd z n4⟩ nb
  refine lY (RowR a1 λ i=>(List.range (famD k)).map λ j=>if i=j then (1:Int) else 0) ha1 ⋯ (RowR.mono (a:=a1)) ?_ ?_
  ·intro i H2 zs hi s2 ez Q' hQ';subst eB;show lO _ _ _ _ _ [some (.int (0+(i:Int))),some (.ref g)] H2 Q';refine nV λ B2 eB2=>?_;simp only [mU];ext;refine (hg.up s2).at e0 rfl λ m1 hm1=>gC (hm1.b (K:=K)) ?_;rw [l0];refine ⟨_,rfl,⋯,⋯,λ a2 ha2=>?_⟩;rw [zV];refine lY (λ j y _=>j < famD k/\y=.int (if i=j then 1 else 0)) ha2 ⋯ (λ _ _ _ _ r _=>r) ?_ ?_
   ·intro j H3 zs3 hj s3 ez3 Q2 hQ2;subst eB2;show tCB _ _ [some (.int (0+(j:Int))),some (.int (0+(i:Int)))] H3 Q2;ext;refine .inr (hQ2 _ _ (Same.refl _) ⟨hj,?_⟩);have ej:(0+(i:Int)=0+(j:Int)) ↔ i=j:=⋯
    by_cases q:i=j
    ·rw [if_pos q,if_pos (zM (ej.mpr q))]
    ·rw [if_neg q,if_neg λ h=>q (ej.mp (yO h))]
   ·intro H3 ys s3 e3 hly hr3;have ey:ys=((List.range (famD k)).map λ j=>if i=j then (1:Int) else 0).map V.int:=by
     refine mS (by rw [hly]; simp) λ j y e=>?_;obtain ⟨hj,rfl⟩:=hr3 j y e;exact ⟨_,by rw [zB,xP hj]; rfl,rfl⟩
    subst ey;exact hQ' _ _ s3 ⟨a2,rfl,Ne.symm (mX ez ha2),e3⟩
  ·intro H2 ys s2 e2 hly hr2;have hM0:=MatL.of e2 hr2;rw [hly] at hM0;exact go a1 H2 s2 hM0
theorem La {H:Hp} {d:Nat}:∀ ys:List V,(∀ y∈ys,∃ p,∃ s:Stp,y=V.ref p/\s.Ok d/\H p=some (.tup [.int s.i,.int s.j,.int s.m]))->∃ (ps:LA) (L:List Stp),ys=ps.map V.ref/\ps.length=L.length/\(∀ s∈L,s.Ok d)/\∀ (k:Nat) p s,ps[k]?=some p->L[k]?=some s->H p=some (.tup [.int s.i,.int s.j,.int s.m])
 | [],_=>⟨[],[],rfl,rfl,(λ _ h=>nomatch h),(λ k p s e=>by cases e)⟩
 | y :: ys,h=>by
  obtain ⟨p,s,rfl,ok,e⟩:=h _ (zS ..);obtain ⟨ps,L,rfl,hl,hok,hq⟩:=La ys λ z hz=>h z (zK _ hz);refine ⟨p :: ps,s :: L,rfl,by simp [hl],λ z hz=>?_,λ k q z e1 e2=>?_⟩
  ·rcases zL.mp hz with rfl | h
   ·exact ok
   ·exact hok z h
  ·cases k with
   | zero=>cases e1; cases e2; exact e
   | succ k=>exact hq k q z e1 e2
theorem Xq {H:Hp} {r a2:Addr} {ms:LI'} {d:Nat} {σ:St} {Q:VK} {fr:List (Str × Nat)} (hf:lG fr σ=[some (.int d)]) (hd:d=2\/d=3) (hr:H r=some (.lst (ms.map V.int))) (lm:ms.length<=40) (ha2:H a2=none) (hQ:∀ L H',Same H H'->gI H' a2 L->(∀ s∈L,s.Ok d)->L.length=ms.length->Q (.ref a2) H'):lN (Its K false r) (oW 0) (tEl (jF sp_w [] E0 (nQ (tVar 0) (nQ (tVar 1) tNil)))) 1 fr σ a2 H Q:=by
 refine lC (λ j y H1=>∃ p,∃ s:Stp,y=V.ref p/\p≠a2/\s.Ok d/\H1 p=some (.tup [.int s.i,.int s.j,.int s.m])) ha2 (SqB.lst hr) (by rw [zqe]; omega) (λ j y H1 H2 ⟨p,s,e1,e2,e3,e4⟩ x=>⟨p,s,e1,e2,e3,x _ _ e2 e4⟩) ?_ ?_
 ·intro j y H4 zs ey s4 ez Q2 hQ2;obtain ⟨m,em,rfl⟩:=lP ey;rw [hf];show jF _ _ _ _ [some (.int m),some (.int d)] H4 Q2;ext;refine ⟨m,d,rfl,hd,λ p H5 q s5 hp okq=>hQ2 _ _ s5 ⟨p,q,rfl,λ e=>?_,okq,hp⟩⟩;rw [e,s5 _ _ ez] at hp;cases hp
 ·intro H4 ys s4 e4 hly hr4;obtain ⟨ps,L,rfl,hl,hok,hq⟩:=La (H:=H4) (d:=d) ys λ y hy=>by
   obtain ⟨j,hj,rfl⟩:=xV hy;obtain ⟨p,q,e1,_,e3,e4⟩:=hr4 j _ (zqd hj);exact ⟨p,q,e1,e3,e4⟩
  rw [zqe,zqe] at hly;exact hQ L H4 s4 ⟨ps,e4,hl,hq⟩ hok ⋯
structure gK (k p:Nat) (L:List Stp) (S:LI') (su:Int):Prop where
 hk:k < 6
 p1:1<=p
 pm:p<=famM k
 ok:∀ s∈L,s.Ok (famD k)
 l6:L.length<=6
 lS:S.length=famD k
 bS:mK 5 S
 s0:0 < su
 s1:su<=12
def eI (H:Hp) (q:Addr) (k p:Nat) (L:List Stp) (S:LI') (su:Int):Prop:=∃ l sp sl,H q=some (.tup [.int k,.int p,.ref l,.ref sp])/\gI H l L/\H sp=some (.tup [.ref sl,.int su])/\H sl=some (.lst (S.map V.int))
theorem eI.up {H H':Hp} {q:Addr} {k p:Nat} {L:List Stp} {S:LI'} {su:Int} (h:eI H q k p L S su) (s:Same H H'):eI H' q k p L S su:=let ⟨l,sp,sl,h1,h2,h3,h4⟩:=h; ⟨l,sp,sl,s _ _ h1,h2.up s,s _ _ h3,s _ _ h4⟩
def sp_o (K:Frag):Sp:=λ vs H Q _=>E2 λ (a:Addr) (ns:LI')=>A3 (vs=[.ref a]) (SqL K H a (ns.map V.int)) (∀ q k p L S su H',Same H H'->eI H' q k p L S su->gK k p L S su->Q (.ref q) H')
theorem ok_o (T:Txt K mg t):FnOk P w K mg base CX0 2 t.a_o t.d_o pB' (sp_o K):=by
 have G_a:=@ok_a P w K mg base t T;have G_l:=@ok_l P w K mg base t T;have G_e:=@ok_e P w K mg base t T;have G_w:=@ok_w P w K mg base t T;refine T.F_o.ok sc_o (by walk_at "v") (λ cdv A outer s H vs Q E hr h=>?_)
 ·obtain ⟨a,ns,rfl,hS,hQ⟩:=h;have hS':SqB false K H a (ns.map V.int):=hS;refine ⟨_,(oU (nJ (i:=1) sc_o.nd rfl (Or.inl rfl) (nB G_a hr.mo rfl T.m_a T.F_a.kp T.b_a .nil nC (oQ (pq 0) (oQ oS oR))))
   (oU (nJ (i:=2) sc_o.nd rfl (Or.inl rfl) (oY lB (pq 1) oS))
   (oU (iN (nB G_l hr.mo rfl T.m_l T.F_l.kp T.b_l .nil nC (oQ (pq 2) oR)) (kF rfl (mI (mD (i:=3) sc_o.nd rfl (Or.inl rfl)) (mI (mD (i:=4) sc_o.nd rfl (Or.inl rfl)) kE))))
   (oU (nJ (i:=5) sc_o.nd rfl (Or.inr rfl) (nK mC rfl T.z_len (nofun) (oQ (oT ix_B (pq 3) oS (λ _ _=>rfl)) oR)))
   (oU (nJ (i:=6) sc_o.nd rfl (Or.inl rfl) (oY lF oS (oY lB (oY kN (pq 1) oS) (pq 4))))
   (oU (jX (i:=7) (xs:=["_law_one"]) (fr:=[("_law_d",5)]) (g:=(oW 0)) (tt:=(tEl (jF (sp_w) [] E0 (nQ (tVar 0) (nQ (tVar 1) tNil))))) (nR (sc:=oV cF) (N:=N_o) rfl rfl (nofun)) rfl sc_o.nd rfl rfl (mJ (eX sl_B (pq 0) (iX oS) (iX oS))) (λ _ _ _ hE1=>(nU (N:=["_law_one","_law_d"]) (i:=0) hE1 rfl (nofun))) (λ _ _ _ hE1=>(nT (nB G_w hr.mo rfl T.m_w T.F_w.kp T.b_w .nil nC (oQ (pv 0) (oQ (pv 1) oR))))))
   (oU (jX (i:=8) (xs:=["_law_number"]) (fr:=[]) (g:=(oW 0)) (tt:=(tEl (tOp (rI0 λ i j=>.int (i - j)) (tOp (rI (λ _ j=>j≠0) λ i j=>.int (i.fmod j)) (tOp (rI0 λ i j=>.int (i+j)) (tVar 0) (tC (.int 20))) (tC (.int 41))) (tC (.int 20))))) (nR (sc:=oV cF) (N:=N_o) rfl rfl (nofun)) rfl sc_o.nd rfl rfl (mJ (nB G_e hr.mo rfl T.m_e T.F_e.kp T.b_e .nil nC (oQ (nB G_a hr.mo rfl T.m_a T.F_a.kp T.b_a .nil nC (oQ (pq 0) (oQ oS oR))) (oQ oS (oQ (pq 5) oR))))) (λ _ _ _ hE1=>(nU (N:=["_law_number"]) (i:=0) hE1 rfl (nofun))) (λ _ _ _ hE1=>(nT (oY jT (oY lB (oY lF (pv 0) oS) oS) oS))))
   (oX (nH (mZ (oQ (pq 2) (oQ (pq 6) (oQ (pq 7) (oQ (mZ (oQ (pq 8) (oQ (oY lF oS (oY lB (nB G_a hr.mo rfl T.m_a T.F_a.kp T.b_a .nil nC (oQ (pq 0) (oQ oS oR))) oS)) oR))) oR)))))))))))))),?_⟩
  show tSeq _ _ _ [some (.ref a),none,none,none,none,none,none,none,none] H;refine st λ N1 e1=>?_;ext;refine ⟨a,ns,0,rfl,hS,∅,?_⟩;generalize ns.getD (Int.toNat 0) 0=c;subst e1;refine st λ N1 e1=>?_;ext;refine ⟨∅,?_⟩;have fk:=fms c 6 ∅;obtain ⟨k,ek⟩:=xQ fk.1;rw [ek] at fk ⊢;have hk:k < 6:=⋯
  obtain ⟨M0,e0,l0,l3⟩:=Lb hk;have hd:=jE k;have d3:famD k<=3:=⋯
  subst e1;refine st λ N1 e1=>?_;ext;refine ⟨k,rfl,hk,λ q g H1 s1 hq hg=>?_⟩;refine ⟨q,_,rfl,SqT.of hq,rfl,?_⟩;simp only [mL,gNil,oW];refine ⟨_,_,rfl,_,_,rfl,rfl,?_⟩;subst e1;refine st λ N1 e1=>?_;ext;refine hg.at e0 rfl λ m0 hm0=>gC (hm0.b (K:=K)) ?_;rw [l0];subst e1;refine st λ N1 e1=>?_;ext;have m0:1<=famM k/\famM k<=6:=by rcases (show k=0\/k=1\/k=2\/k=3\/k=4\/k=5 by omega) with e | e | e | e | e | e <;> subst e <;> decide
  refine ⟨⟨∅,∅⟩,⋯,?_⟩;have fp:=fms (c.fdiv 6) (famM k) ⋯;obtain ⟨p,ep⟩:=xQ (show 0<=1+(c.fdiv 6).fmod (famM k) by omega);rw [ep];have hp:1<=p/\p<=famM k:=⋯
  subst e1;refine st λ N1 e1=>?_;ext;refine nV λ B0 eB=>?_;simp only [iSeq];ext;refine ⟨false,a,_,rfl,hS'.up s1,(by intro e; cases e),λ r hr=>?_⟩;rw [dM];have hcs:((ns.drop (HT.sIx ns.length 0 (some 8))).take (HT.sIx ns.length ns.length (some 14) - HT.sIx ns.length 0 (some 8))).length<=6:=by
   rw [xA,show ((8:Int))=((8:Nat):Int) from rfl,show ((14:Int))=((14:Nat):Int) from rfl,HT.sIx_nat,HT.sIx_nat];omega
  generalize (ns.drop (HT.sIx ns.length 0 (some 8))).take (HT.sIx ns.length ns.length (some 14) - HT.sIx ns.length 0 (some 8))=cs at hcs;have hC:(upd H1 r (seqO false (cs.map V.int))) r=some (.lst (cs.map V.int)):=oZ;have s2:Same H1 (upd H1 r (seqO false (cs.map V.int))):=Same.new hr;generalize upd H1 r (seqO false (cs.map V.int))=H2 at hC s2;refine ⟨false,r,rfl,⟨_,SqB.lst hC⟩,λ a2 ha2=>?_⟩;subst eB;refine Xq rfl hd hC ⋯ ha2 λ L H3 s3 hL ok ll=>?_;have s13:=s2.trans s3;have s03:=s1.trans s13;subst e1;refine st λ N1 e1=>?_;ext;refine nV λ B1 eB1=>?_;simp only [iSeq];ext;refine ⟨a,ns,1,rfl,hS'.up s03,∅,?_⟩;refine ⟨_,41,famD k,rfl,∅,∅,⋯,λ b H4 ms s4 _ eb lm bm=>?_⟩;refine ⟨false,b,rfl,⟨_,SqB.lst eb⟩,λ a4 ha4=>?_⟩;refine lC (λ j y _=>∃ n,ms[j]?=some n/\y=.int ((n+20).fmod 41 - 20)) ha4 (SqB.lst eb) (by rw [zqe]; omega) (λ _ _ _ _ r _=>r) ?_ ?_
  ·intro i x H5 zs ex s5 ez Q' hQ';obtain ⟨n,en,rfl⟩:=lP ex;subst eB1;show tOp _ _ _ [some (.int n)] H5 Q';ext;exact ⟨∅,hQ' _ _ (Same.refl _) ⟨n,en,rfl⟩⟩
  ·intro H5 ys s5 e5 hly hr5;have ey:ys=(ms.map λ n=>(n+20).fmod 41 - 20).map V.int:=by
    rw [xE];exact mS (by simpa using hly) hr5
   subst ey;have s05:=(s03.trans s4).trans s5;subst e1;ext;refine ⟨a,ns,2,rfl,hS'.up s05,∅,?_⟩;generalize ns.getD (Int.toNat 2) 0=z;ext;refine ⟨∅,by show 2<=sizeLine; decide,λ x1 hx1=>⟨by show 4<=sizeLine; decide,λ x2 hx2=>?_⟩⟩;have fz:=fms z 12 ∅;refine hQ x2 k p L (ms.map λ n=>(n+20).fmod 41 - 20) (1+z.fmod 12) _ ((s05.trans (Same.new hx1)).trans (Same.new hx2)) ⟨a2,x1,a4,oZ,hL.up (((s4.trans s5).trans (Same.new hx1)).trans (Same.new hx2)),Same.new hx2 _ _ oZ,Same.new hx2 _ _ (Same.new hx1 _ _ e5)⟩ ⟨hk,hp.1,hp.2,ok,⋯,by rw [zqe]; exact lm,λ y hy=>?_,⋯,⋯⟩;obtain ⟨n,_,rfl⟩:=zE.mp hy;have:=fms (n+20) 41 ∅;omega
noncomputable def frm (k p:Nat) (L:List Stp) (S:LI') (su:Int):Frm:=⟨k,p,chP (famD k) L.reverse,chQ (famD k) L.reverse,S,su⟩
theorem gK.frm {k p:Nat} {L:List Stp} {S:LI'} {su:Int} (h:gK k p L S su):(Cw.frm k p L S su).Ok:=⟨h.hk,h.p1,h.pm,jJ (jE k) λ s hs=>h.ok s (wH.mp hs),h.lS,h.s0⟩
def sp_k (K:Frag):Sp:=λ vs H Q _=>E9 λ (b:Bool) (c q:Addr) (cs:LI') (k p:Nat) (L:List Stp) (S:LI') (su:Int)=>A6 (vs=[.ref c,.ref q]) (SqB b K H c (cs.map V.int)) (cs.length<=3) (eI H q k p L S su) (gK k p L S su) (∀ r ps ms H',Same H H'->H' r=some (.lst (ps.map V.ref))->Paired (DdAt K H') ps ms->(∀ m∈ms,lR (famD k) m/\InF (frm k p L S su) (nO m))->ms.length<=3->Q (.ref r) H')
theorem ok_k (T:Txt K mg t):FnOk P w K mg base CX0 4 t.a_k t.d_k pf' (sp_k K):=by
 have G_p:=@ok_p P w K mg base t T;have G_3:=@ok_3 P w K mg base t T;refine T.F_k.ok sc_k (by walk_at "v") (λ cdv A outer s H vs Q E hr h=>?_)
 ·obtain ⟨b,c,q,cs,k,p,L,S,su,rfl,hS,lc,hF,ok,hQ⟩:=h;obtain ⟨l,sp,sl,f1,f2,f3,f4⟩:=hF;have F:=gJ ok.hk;have hd:=jE k;have m6:famM k<=6:=by have:=ok.hk; rcases (show k=0\/k=1\/k=2\/k=3\/k=4\/k=5 by omega) with e | e | e | e | e | e <;> subst e <;> decide
  have pm:=ok.pm;have p1:=ok.p1;refine ⟨_,(oU (iN (pq 1) (kF rfl (mI (mD (i:=2) sc_k.nd rfl (Or.inl rfl)) (mI (mD (i:=3) sc_k.nd rfl (Or.inl rfl)) (mI (mD (i:=4) sc_k.nd rfl (Or.inl rfl)) (mI (mD (i:=5) sc_k.nd rfl (Or.inl rfl)) kE))))))
   (oU (nJ (i:=6) sc_k.nd rfl (Or.inl rfl) (kX oR))
   (oU (kG yR rfl (mJ (pq 0)) (mD (i:=7) sc_k.nd rfl (Or.inl rfl))
   (oU (iN (nB G_p hr.mo rfl T.m_p T.F_p.kp T.b_p .nil nC (oQ (pq 7) (oQ (pq 2) (oQ (pq 3) oR)))) (kF rfl (mI (mD (i:=8) sc_k.nd rfl (Or.inl rfl)) (mI (mD (i:=9) sc_k.nd rfl (Or.inl rfl)) kE))))
   (oX (iM (eY wC vE vD fD (pq 6) (oQ (nB G_3 hr.mo rfl T.m_3 T.F_3.kp T.b_3 .nil nC (oQ (pq 8) (oQ (pq 9) (oQ (pq 3) (oQ (pq 4) (oQ (pq 5) oR)))))) oR))))))
   (oX (nH (pq 6)))))),?_⟩
  show tSeq _ _ _ [some (.ref c),some (.ref q),none,none,none,none,none,none,none,none] H;refine st λ N1 e1=>?_;ext;refine ⟨q,_,rfl,SqT.of f1,rfl,?_⟩;simp only [mL,gNil,oW];refine ⟨_,_,rfl,_,_,rfl,_,_,rfl,_,_,rfl,rfl,?_⟩;subst e1;refine st λ N1 e1=>?_;ext;refine ⟨by show 0<=sizeLine; decide,λ r hr0=>?_⟩;have s1:Same H (upd H r (.lst [])):=Same.new hr0;have er:(upd H r (.lst [])) r=some (.lst ([]:List V)):=oZ;generalize upd H r (.lst [])=H1 at s1 er;subst e1;refine st λ N1 e1=>kI λ B eB=>?_;simp only [iSeq];ext;refine ⟨b,⟨_,hS.up s1⟩,?_⟩;refine iB (b:=b) (g:=oW 7) (tb:=B) (λ i σ H3=>∃ (ps:LA) (ms:List Dd) (v7 v8 v9:Option V),σ=[some (.ref c),some (.ref q),some (.int k),some (.int p),some (.ref l),some (.ref sp),some (.ref r),v7,v8,v9]/\Same H H3/\H3 r=some (.lst (ps.map V.ref))/\Paired (λ a x=>a≠r/\DdAt K H3 a x) ps ms/\(∀ m∈ms,lR (famD k) m/\InF (frm k p L S su) (nO m))/\ms.length=i) ⟨[],[],none,none,none,rfl,s1,er,.nil,(λ _ h=>by cases h),rfl⟩ (λ i σ H3 _ ⟨_,_,_,_,_,_,s3,_⟩=>hS.up s3) ?_ ?_
  ·rintro i x σ H3 ex ⟨ps,ms,v7,v8,v9,rfl,s3,er3,pr,hm,lm⟩;obtain ⟨n,en,rfl⟩:=lP ex;subst eB;show tSeq _ _ _ [some (.ref c),some (.ref q),some (.int k),some (.int p),some (.ref l),some (.ref sp),some (.ref r),some (.int n),v8,v9] H3;refine st λ N2 e2=>?_;ext;refine ⟨n,k,p,rfl,ok.hk,p1,⋯,λ q' a' b' R ts H4 s4 hq' hA' hb' mR hT bz=>?_⟩;refine ⟨q',_,rfl,SqT.of hq',rfl,?_⟩;simp only [mL,gNil,oW];refine ⟨_,_,rfl,_,_,rfl,rfl,?_⟩;have s04:=s3.trans s4;subst e2;ext;have er4:=s4 _ _ er3;refine ⟨tyL er4,?_⟩;refine ⟨a',b',l,sp,sl,R,ts,S,p,su,L,famD k,rfl,hA',hb',f2.up s04,s04 _ _ f3,s04 _ _ f4,F.sq R mR,hd,hT.1,ok.lS,ok.ok,ok.l6,El F mR,(λ z hz=>by have:=bz z hz; omega),ok.bS,⋯,⋯,ok.s0,ok.s1,λ x H5 s5 hx fx=>?_⟩;have er5:=s5 _ _ er4;have xr:x≠r:=λ e=>by
    obtain ⟨_,_,h1,_⟩:=hx;rw [e,er5] at h1;cases h1
   have s35:=s4.trans s5;have i3:i < 3:=by have:=(zqa en).1; omega
   have lp:ps.length=ms.length:=pr.length;refine ⟨r,_,_,rfl,rfl,er5,by rw [zqe,lp,lm]; exact yC (show i+1<=1000 by omega) ∅,?_⟩;have tk:TK K H5 (upd H5 r (.lst (ps.map V.ref++[.ref x]))):=TK.off er5 (λ _ z=>by cases z) (λ _ _ z=>by cases z) λ _ hc=>nD hc;refine ⟨Same.over hr0 (s04.trans s5),ps++[x],by rw [oZ,xD]; rfl,ms++[_],rL (Paired.mapP pr λ a y z=>⟨z.1,(z.2.up s35).tk tk⟩) ⟨xr,DdAt.tk (x:=(_,_,_)) hx tk⟩,λ m hm'=>?_,by rw [yB,lm]; rfl⟩;rcases xB.mp hm' with h | h
   ·exact hm m h
   ·rw [yF.mp h];exact ⟨fx,R,mR,ts,hT,rfl⟩
  ·rintro σ H3 ⟨ps,ms,v7,v8,v9,rfl,s3,er3,pr,hm,lm⟩;subst e1;ext;exact hQ r ps ms H3 s3 er3 (Paired.mapP pr λ _ _ z=>z.2) hm (by rw [lm,zqe]; exact lc)
theorem LeM.le {A B:Nat} {M:LM} (h:LeM A M) (hc:A<=B):LeM B M:=λ r hr z hz=>yC (h r hr z hz) hc
theorem Ek {d:Nat}:LeM 1 (idM d):=λ r hr z hz=>by
 obtain ⟨i,_,rfl⟩:=zE.mp hr;obtain ⟨j,_,rfl⟩:=zE.mp hz;split <;> decide
theorem Mz {d:Nat} (hd:d=2\/d=3):∀ {L:List Stp},(∀ s∈L,s.Ok d)->LeM (6 ^ L.length) (chP d L)/\LeM (6 ^ L.length) (chQ d L)
 | [],_=>⟨Ek,Ek⟩
 | s :: L,h=>by
  obtain ⟨h1,h2⟩:=Mz hd (L:=L) λ z hz=>h z (zK _ hz);have o:=h s zS;have c:=jJ hd (L:=L) λ z hz=>h z (zK _ hz);have m2:=o.m2;rw [zX,oH];have e:d*(2*6 ^ L.length)<=6 ^ L.length*6:=by
   have:d*(2*6 ^ L.length)<=3*(2*6 ^ L.length):=xR _ ⋯;omega
  refine ⟨(Aw gH (Kg m2 ∅) h1).le e,?_⟩;have:=Aw c.q h2 (Kg (d:=d) (i:=s.i) (j:=s.j) (m:=-s.m) (N:=2) ⋯ ∅);rw [tI (6 ^ L.length) 2] at this;exact this.le e
theorem My {k p:Nat} {L:List Stp} {S:LI'} {su:Int} (ok:gK k p L S su) {R:LM} (hR:R∈pgL k):mW 40 (cjM (famD k) (chP (famD k) L.reverse) (chQ (famD k) L.reverse) R):=by
 have F:=gJ ok.hk;have hd:=jE k;have okR:∀ s∈L.reverse,s.Ok (famD k):=λ s hs=>ok.ok s (wH.mp hs);have c:=jJ hd okR;obtain ⟨h1,h2⟩:=Mz hd okR;have l6:6 ^ L.reverse.length<=6 ^ 6:=yT ∅ (by rw [List.length_reverse]; exact ok.l6);have w:LeM 1 R:=F.wee R hR;have g1:=Aw c.p (h1.le l6) w;have g2:=Aw (c.p.mul (B:=R)) g1 (h2.le l6);intro r hr z hz;have:=g2 r hr z hz;have e:famD k*(famD k*(6 ^ 6*1)*6 ^ 6)<=3*(3*(6 ^ 6*1)*6 ^ 6):=wL ⋯ (xR _ (xR _ ⋯));have e2:3*(3*(6 ^ 6*1)*6 ^ 6) < 2 ^ 40:=∅
 omega
theorem An {k p:Nat} {L:List Stp} {S:LI'} {su:Int} (ok:gK k p L S su) {x:Dd} (hx:InF (frm k p L S su) x):lR (famD k) x/\x.2.2<=72/\(∀ z∈x.2.1,0<=z/\z < 72)/\nO x=x:=by
 obtain ⟨R,hR,t,ht,rfl⟩:=hx;have F:=gJ ok.hk;have hd:=jE k;have okR:∀ s∈L.reverse,s.Ok (famD k):=λ s hs=>ok.ok s (wH.mp hs);have c:=jJ hd okR;have m6:famM k<=6:=by have:=ok.hk; rcases (show k=0\/k=1\/k=2\/k=3\/k=4\/k=5 by omega) with e | e | e | e | e | e <;> subst e <;> decide
 have p1:=ok.p1;have pm:=ok.pm;have s0:=ok.s0;have s1:=ok.s1;have hU:0 < (p:Int)*su:=yS ⋯ s0;have hU2:(p:Int)*su<=6*12:=tM ⋯ s1 ⋯ ⋯;have lT:(cjT (famD k) (chP (famD k) L.reverse) (chQ (famD k) L.reverse) R (smul su t) (smul p S)).length=famD k:=De c (by rw [jD]; exact ok.lS);have bC:=My ok hR;have sC:=gG c R;show lR (famD k) (canD (cjM (famD k) (chP (famD k) L.reverse) (chQ (famD k) L.reverse) R) (cjT (famD k) (chP (famD k) L.reverse) (chQ (famD k) L.reverse) R (smul su t) (smul p S)) (p*su))/\_;show _/\(canD (cjM (famD k) (chP (famD k) L.reverse) (chQ (famD k) L.reverse) R) (cjT (famD k) (chP (famD k) L.reverse) (chQ (famD k) L.reverse) R (smul su t) (smul p S)) (p*su)).2.2<=72/\(∀ z∈(canD (cjM (famD k) (chP (famD k) L.reverse) (chQ (famD k) L.reverse) R) (cjT (famD k) (chP (famD k) L.reverse) (chQ (famD k) L.reverse) R (smul su t) (smul p S)) (p*su)).2.1,0<=z/\z < 72)/\nO (canD (cjM (famD k) (chP (famD k) L.reverse) (chQ (famD k) L.reverse) R) (cjT (famD k) (chP (famD k) L.reverse) (chQ (famD k) L.reverse) R (smul su t) (smul p S)) (p*su))=canD (cjM (famD k) (chP (famD k) L.reverse) (chQ (famD k) L.reverse) R) (cjT (famD k) (chP (famD k) L.reverse) (chQ (famD k) L.reverse) R (smul su t) (smul p S)) (p*su);generalize cjT (famD k) (chP (famD k) L.reverse) (chQ (famD k) L.reverse) R (smul su t) (smul p S)=TT at lT;generalize cjM (famD k) (chP (famD k) L.reverse) (chQ (famD k) L.reverse) R=C at bC sC;obtain ⟨_,r2,r3⟩:=eE (ts:=TT) hU;have hz:∀ z∈nM (redU (p*su) TT) (redT (p*su) TT),0<=z/\z < redU (p*su) TT:=λ z hz=>by
  obtain ⟨y,_,rfl⟩:=zE.mp hz;exact fms y _ r2
 refine ⟨⟨sC,by show (nM _ (redT _ TT)).length=_; unfold nM redT; rw [zqe,zqe]; exact lT,r2,bC.le ∅,λ z h=>?_,?_⟩,?_,λ z h=>?_,?_⟩
 ·have:=hz z h;exact zI (show z.natAbs < 2 ^ 7 by omega) (yT ∅ ∅)
 ·show redU (p*su) TT < 2 ^ 1500;omega
 ·show redU (p*su) TT<=72;omega
 ·have:=hz z h;omega
 ·unfold canD nO nM;show (_,_,_)=(_,_,_);rw [xE];congr 2;refine wG λ y _=>?_;exact Int.fmod_fmod _ _
def sp_6 (K:Frag):Sp:=λ vs H Q _=>E7 λ (c:Int) (q:Addr) (k p:Nat) (L:List Stp) (S:LI') (su:Int)=>A4 (vs=[.int c,.ref q]) (eI H q k p L S su) (gK k p L S su) (∀ r H' (TT:LI') (w:Int),Same H H'->mB H' r (redT w TT) (redU w TT)->0 < w->w<=144->TT.length=famD k->mK 40 TT->Q (.ref r) H')
theorem ok_6 (T:Txt K mg t):FnOk P w K mg base CX0 3 t.a_6 t.d_6 pg' (sp_6 K):=by
 have G_9:=@ok_9 P w K mg base t T;have G_e:=@ok_e P w K mg base t T;have G_2:=@ok_2 P w K mg base t T;refine T.F_6.ok sc_6 (by walk_at "v") (λ cdv A outer s H vs Q E hr h=>?_)
 ·obtain ⟨c,q,k,p,L,S,su,rfl,hF,ok,hQ⟩:=h;obtain ⟨l,sp,sl,f1,f2,f3,f4⟩:=hF;have hd:=jE k;have d3:famD k<=3:=⋯
  have m6:famM k<=6:=by have:=ok.hk; rcases (show k=0\/k=1\/k=2\/k=3\/k=4\/k=5 by omega) with e | e | e | e | e | e <;> subst e <;> decide
  have pm:=ok.pm;have p1:=ok.p1;have lS:=ok.lS;refine ⟨_,(oU (iN (pq 1) (kF rfl (mI (mD (i:=2) sc_6.nd rfl (Or.inl rfl)) (mI (mD (i:=3) sc_6.nd rfl (Or.inr rfl)) (mI (mD (i:=4) sc_6.nd rfl (Or.inl rfl)) (mI (mD (i:=5) sc_6.nd rfl (Or.inr rfl)) kE))))))
   (oU (nJ (i:=6) sc_6.nd rfl (Or.inl rfl) (nK mC rfl T.z_len (nofun) (oQ (oT ix_B (pq 5) oS (λ _ _=>rfl)) oR)))
   (oU (mH (nW kY (oY lB (pq 0) oS) oS (nS _))
   (oX (nH (nB G_9 hr.mo rfl T.m_9 T.F_9.kp T.b_9 .nil nC (oQ (mE (xs:=["_law_k"]) (fr:=[("_law_cell",0)]) (g:=(oW 0)) (tt:=(tEl (tOp (rI0 λ i j=>.int (i - j)) (tOp (rI (λ _ j=>j≠0) λ i j=>.int (i.fmod j)) (tOp (rI0 λ i j=>.int (i+j)) (tOp (rI jM λ i j=>.int (i.fdiv j)) (tVar 1) (tOp (rI0 λ i j=>.int (i+j)) (tC (.int 4)) (tOp (rI (λ i j=>IntMulOk i j) λ i j=>.int (i*j)) (tC (.int 90)) (tVar 0)))) (tC (.int 1000))) (tC (.int 2001))) (tC (.int 1000))))) (nR (sc:=oV s_6) (N:=N_6) rfl rfl (nofun)) rfl (lM rfl T.z_range (oQ (pq 6) oR)) (λ _ _ _ hE1=>(nU (N:=["_law_k","_law_cell"]) (i:=0) hE1 rfl (nofun))) (λ _ _ _ hE1=>(nT (oY jT (oY lB (oY lF (oY kN (pv 1) (oY lF oS (oY mP oS (pv 0)))) oS) oS) oS)))) (oQ (oY lF oS (oY lB (oY kN (pq 0) oS) oS)) oR)))))
   mG)
   (oU (nJ (i:=7) sc_6.nd rfl (Or.inl rfl) (nB G_e hr.mo rfl T.m_e T.F_e.kp T.b_e .nil nC (oQ (oY kN (pq 0) oS) (oQ (oY mP oS (pq 3)) (oQ (pq 6) oR)))))
   (oU (mH (nW kY (oY lB (pq 0) oS) oS (nS _))
   (oX (jX (i:=7) (xs:=["_law_k"]) (fr:=[]) (g:=(oW 0)) (tt:=(tEl (tC (.int 0)))) (nR (sc:=oV s_6) (N:=N_6) rfl rfl (nofun)) rfl sc_6.nd rfl rfl (lM rfl T.z_range (oQ (pq 6) oR)) (λ _ _ _ hE1=>(nU (N:=["_law_k"]) (i:=0) hE1 rfl (nofun))) (λ _ _ _ hE1=>(nT oS))))
   mG)
   (oU (nJ (i:=8) sc_6.nd rfl (Or.inr rfl) (nB G_2 hr.mo rfl T.m_2 T.F_2.kp T.b_2 .nil nC (oQ (pq 7) (oQ (pq 4) oR))))
   (oX (nH (nB G_9 hr.mo rfl T.m_9 T.F_9.kp T.b_9 .nil nC (oQ (mE (xs:=["_law_k"]) (fr:=[("_law_parts",3),("_law_spot",5),("_law_tops",8)]) (g:=(oW 0)) (tt:=(tEl (tOp (rI0 λ i j=>.int (i+j)) (tOp (rI (λ i j=>IntMulOk i j) λ i j=>.int (i*j)) (tOp (rIxB K) (tVar 3) (tVar 0)) (tOp (rIxB K) (tVar 2) (tC (.int 1)))) (tOp (rI (λ i j=>IntMulOk i j) λ i j=>.int (i*j)) (tOp (rI (λ i j=>IntMulOk i j) λ i j=>.int (i*j)) (tOp (rIxB K) (tOp (rIxB K) (tVar 2) (tC (.int 0))) (tVar 0)) (tC (.int 2))) (tVar 1))))) (nR (sc:=oV s_6) (N:=N_6) rfl rfl (nofun)) rfl (lM rfl T.z_range (oQ (pq 6) oR)) (λ _ _ _ hE1=>(nU (N:=["_law_k","_law_parts","_law_spot","_law_tops"]) (i:=0) hE1 rfl (nofun))) (λ _ _ _ hE1=>(nT (oY lF (oY mP (oT ix_B (pv 3) (pv 0) (λ _ _=>rfl)) (oT ix_B (pv 2) oS (λ _ _=>rfl))) (oY mP (oY mP (oT ix_B (oT ix_B (pv 2) oS (λ _ _=>rfl)) (pv 0) (λ _ _=>rfl)) oS) (pv 1)))))) (oQ (oY mP (oY mP oS (pq 3)) (oT ix_B (pq 5) oS (λ _ _=>rfl))) oR))))))))))),?_⟩
  show tSeq _ _ _ [some (.int c),some (.ref q),none,none,none,none,none,none,none] H;have dv:∀ x y:Int,y≠0->y.natAbs < 1073741824->jM x y:=λ x y h1 h2=>⟨h1,zI ((rM ⋯).mpr (show y.natAbs < 2 ^ 30 from h2)) ∅⟩;refine st λ N1 e1=>?_;ext;refine ⟨q,_,rfl,SqT.of f1,rfl,?_⟩;simp only [mL,gNil,oW];refine ⟨_,_,rfl,_,_,rfl,_,_,rfl,_,_,rfl,rfl,?_⟩;subst e1;refine st λ N1 e1=>?_;ext;refine ⟨true,sp,_,_,_,rfl,rfl,SqB.tup f3,rfl,?_⟩;refine lU (SqB.lst f4) ?_;rw [lS];subst e1;refine st λ N1 e1=>?_;ext;refine ⟨∅,ite2 (λ h=>?_) λ h=>?_⟩
  ·refine nV λ B eB=>?_;simp only [mU];ext;refine ⟨⋯,⋯,λ a1 ha1=>?_⟩;rw [zV];refine lY (λ j y _=>∃ n,((List.range (famD k)).map λ j:Nat=>(c.fdiv (4+90*(j:Int))+1000).fmod 2001 - 1000)[j]?=some n/\y=.int n) ha1 ⋯ (λ _ _ _ _ r _=>r) ?_ ?_
   ·intro j H2 zs hj s2 ez Q2 hQ2;subst eB;show tOp _ _ _ [some (.int (0+(j:Int))),some (.int c)] H2 Q2;ext;rw [Int.zero_add];refine ⟨vL ∅,dv _ _ ⋯ ⋯,∅,hQ2 _ _ (Same.refl _) ⟨_,by rw [zB,xP hj]; rfl,rfl⟩⟩
   ·intro H2 ys s2 e2 hly hr2;have ey:ys=((List.range (famD k)).map λ j:Nat=>(c.fdiv (4+90*(j:Int))+1000).fmod 2001 - 1000).map V.int:=mS (by rw [hly]; simp) hr2;subst ey;have f8:=fms (c.fdiv 8) 97 ∅;refine ⟨dv _ _ ∅ ∅,∅,false,a1,_,_,rfl,SqB.lst e2,by simp; omega,⋯,jI (B:=20) (by have:(2:Nat) ^ 20=1048576:=rfl; omega) ∅,λ r H3 s3 hr=>hQ r H3 _ _ (s2.trans s3) hr ⋯ ⋯ (by simp) λ z hz=>?_⟩;obtain ⟨j,_,rfl⟩:=zE.mp hz;have:=fms (c.fdiv (4+90*(j:Int))+1000) 2001 ∅;have e:(2:Nat) ^ 40=1099511627776:=rfl;omega
  ·subst e1;refine st λ N1 e1=>?_;ext;refine ⟨dv _ _ ∅ ∅,vL ∅,?_⟩;refine ⟨_,2*(p:Int),famD k,rfl,⋯,⋯,⋯,λ b H1 ms s1 hb0 eb lm bm=>?_⟩;subst e1;refine st λ N1 e1=>?_;have go:∀ (b:Addr) (ms:LI') H2,Same H H2->H2 b=some (.lst (ms.map V.int))->ms.length=famD k->(∀ z∈ms,0<=z/\z < 2*(p:Int))->N1 [some (.int c),some (.ref q),some (.int k),some (.int p),some (.ref l),some (.ref sp),some (.int (famD k)),some (.ref b),none] H2:=by
    intro b ms H2 s2 eb lm bm;subst e1;refine st λ N1 e1=>?_;ext;refine ⟨false,b,l,ms,L,famD k,5,rfl,SqB.lst eb,f2.up s2,lm,hd,ok.ok,by have:=ok.l6; omega,(λ z hz=>by have:=bm z hz; have e:(2:Nat) ^ 5=32:=rfl; omega),∅,λ b1 H3 s3 _ hb1 bb=>?_⟩;have c0:=jJ hd (L:=L.reverse) λ s hs=>ok.ok s (wH.mp hs);have lt:(mv (chP (famD k) L.reverse) ms).length=famD k:=lI c0.p;replace bb:mK 17 (mv (chP (famD k) L.reverse) ms):=bb.le (by have:=ok.l6; omega);generalize mv (chP (famD k) L.reverse) ms=mt at hb1 bb lt;have s03:=s2.trans s3;subst e1;ext;refine nV λ B eB=>?_;simp only [mU];ext;refine ⟨⋯,⋯,λ a1 ha1=>?_⟩;rw [zV];have s0:=ok.s0;have s1':=ok.s1;refine lY (λ j y _=>∃ n,((List.range (famD k)).map λ j:Nat=>mt.getD j 0*su+S.getD j 0*2*p)[j]?=some n/\y=.int n) ha1 ⋯ (λ _ _ _ _ r _=>r) ?_ ?_
    ·intro j H4 zs hj s4 ez Q2 hQ2;have s04:=s03.trans s4;subst eB;show tOp _ _ _ [some (.int (0+(j:Int))),some (.int p),some (.ref sp),some (.ref b1)] H4 Q2;ext;refine ⟨false,b1,_,_,_,rfl,rfl,SqB.lst (s4 _ _ hb1),mY (lQ (getD_at (k:=j) ⋯)) ⋯,?_⟩;refine ⟨true,sp,_,_,_,rfl,rfl,SqB.tup (s04 _ _ f3),rfl,?_⟩
     try ext
     refine ⟨vB (wJ ⋯ ⋯),?_⟩;refine ⟨true,sp,_,_,_,rfl,rfl,SqB.tup (s04 _ _ f3),rfl,?_⟩;refine ⟨false,sl,_,_,_,rfl,rfl,SqB.lst (s04 _ _ f4),mY (lQ (getD_at (k:=j) ⋯)) ⋯,?_⟩
     try ext
     refine ⟨vB ∅,vB (wJ ⋯ ⋯),?_⟩;exact hQ2 _ _ (Same.refl _) ⟨_,by rw [zB,xP hj]; rfl,rfl⟩
    ·intro H4 ys s4 e4 hly hr4;have ey:ys=((List.range (famD k)).map λ j:Nat=>mt.getD j 0*su+S.getD j 0*2*p).map V.int:=mS (by rw [hly]; simp) hr4;subst ey;have s04:=s03.trans s4;refine ⟨vL ∅,?_⟩;refine ⟨true,sp,_,_,_,rfl,rfl,SqB.tup (s04 _ _ f3),rfl,?_⟩
     try ext
     have hw0:0 < 2*(p:Int)*su:=yS ⋯ s0;have hw1:2*(p:Int)*su<=12*12:=tM ⋯ s1' ⋯ ⋯;refine ⟨vB (wJ ⋯ ⋯),?_⟩;refine ⟨false,a1,_,_,rfl,SqB.lst e4,by simp; omega,hw0,jI (B:=20) (by have:(2:Nat) ^ 20=1048576:=rfl; omega) ∅,λ r H5 s5 hr=>hQ r H5 _ _ (s04.trans s5) hr hw0 ⋯ (by simp) λ z hz=>?_⟩;obtain ⟨j,hj,rfl⟩:=zE.mp hz;have hjd:=rP.mp hj;have b1':=bb _ (L2.getD_mem (show j < mt.length by omega));have b2':=ok.bS _ (L2.getD_mem (show j < S.length by omega));have g1:(mt.getD j 0*su).natAbs<=2 ^ 17*12:=by rw [yN]; exact wL (xU b1') ⋯
     have g2:(S.getD j 0*2*p).natAbs<=2 ^ 5*2*6:=by rw [yN,yN]; exact wL (wL (xU b2') ∅) ⋯
     have e:(2:Nat) ^ 40=1099511627776:=rfl;omega
   ext;refine ⟨∅,ite2 (λ _=>?_) λ _=>go b ms H1 s1 eb lm bm⟩;refine nV λ B eB=>?_;simp only [mU];ext;refine ⟨⋯,⋯,λ a1 ha1=>?_⟩;rw [zV];refine lY (λ j y _=>∃ n,(List.replicate (famD k) (0:Int))[j]?=some n/\y=.int n) ha1 ⋯ (λ _ _ _ _ r _=>r) ?_ ?_
   ·intro j H4 zs hj s4 ez Q2 hQ2;subst eB;show tC _ [some (.int (0+(j:Int)))] H4 Q2;ext;exact hQ2 _ _ (Same.refl _) ⟨0,by rw [oA,if_pos hj],rfl⟩
   ·intro H4 ys s4 e4 hly hr4;have ey:ys=(List.replicate (famD k) (0:Int)).map V.int:=mS (by rw [hly]; simp) hr4;subst ey;exact go a1 _ H4 (s1.trans s4) e4 (by simp) λ z hz=>by
     rw [(List.mem_replicate.mp hz).2];omega
section
variable {tt:TOx} {fr:List (Str × Nat)} {σ:St} {a:Addr} {H:Hp} {Q:VK}
theorem Xp {b:Bool} {l:Addr} {xs:List V} (P:Nat->List V->Hp->Prop) (ha:H a=none) (hS:SqB b K H l xs) (hz:xs.length<=1000) (h0:P 0 [] (upd H a (.lst [])))
  (hl:∀ i zs H1,P i zs H1->zs.length<=i) (mono:∀ i zs H1 H2,P i zs H1->kO a H1 H2->P i zs H2)
  (he:∀ i x H1 zs,xs[i]?=some x->Same H H1->H1 a=some (.lst zs)->P i zs H1->∀ C:Option V->Hp->Prop,
   (∀ y H2,Same H1 H2->P (i+1) (zs++[y]) H2->C (some y) H2)->(∀ H2,Same H1 H2->P (i+1) zs H2->C none H2)->tt (some x :: lG fr σ) H1 C)
  (hd:∀ H1 ys,Same H H1->H1 a=some (.lst ys)->P xs.length ys H1->Q (.ref a) H1):lN (Its K b l) (oW 0) tt 1 fr σ a H Q:=by
 refine dI xs.length P ha hz h0 hl mono (λ i H1 hi s=>Its.go (hS.up s) (x:=xs[i]) (by simp [hi])) (λ H1 s=>Its.stop (hS.up s) (zF _)) ?_ hd;intro i H1 zs hi s1 ez p ys x H3 hys hy C hC1 hC2;obtain ⟨e1,e2⟩:=Its.yld (hS.up s1) hy;subst e1
 match ys,hys with
 | [o],_=>exact ⟨⟨[some x],rfl,rfl⟩,he i x H3 zs e2 s1 ez p C hC1 hC2⟩
end
theorem Xo {fr:List (Str × Nat)} {σ:St} {a:Addr} {H:Hp} {Q:VK} {b:Bool} {l:Addr} {ns:LI'} (ha:H a=none) (hS:SqB b K H l (ns.map V.int)) (hz:ns.length<=1000)
  (hd:∀ H1,Same H H1->H1 a=some (.lst [])->Q (.ref a) H1):lN (Its K b l) (oW 0) (jP (tNot (tB (jF sp_j [] E0 (nQ (tVar 0) tNil)))) (tVar 0)) 1 fr σ a H Q:=by
 refine Xp (λ _ zs _=>zs=[]) ha hS (by rw [zqe]; exact hz) rfl (λ i zs H1 p=>by rw [p]; exact yY _) (λ _ _ _ _ r _=>r) ?_ (λ H1 ys s1 e p=>hd H1 s1 (by rw [e,p]));intro i x H1 zs ex s1 ez p C hC1 hC2;obtain ⟨n,en,rfl⟩:=lP ex;simp only [jP];ext;exact ⟨n,rfl,_,rfl,iteF (hC2 H1 (Same.refl _) p)⟩
def sp_n (K:Frag):Sp:=λ vs H Q _=>E2 λ (p:Addr) (ns:LI')=>A4 (vs=[.ref p]) (SqT K H p (ns.map V.int)) (ns.length<=100) (∀ H',Same H H'->Q (.bl true) H')
theorem ok_n (T:Txt K mg t):FnOk P w K mg base CX0 2 t.a_n t.d_n pH' (sp_n K):=by
 have G_j:=@ok_j P w K mg base t T;refine T.F_n.ok sc_n (by walk_at "v") (λ cdv A outer s H vs Q E hr h=>?_)
 ·have hu:=hr.units;obtain ⟨p,ns,rfl,hP,hl,hQ⟩:=h;have isT:∀ (a:Addr) (xs:List V) (Q':VK) (H:Hp),SqT K H a xs->Q' (.bl true) H->rIsi K [.ref a,.ty "tuple"] H Q':=λ a xs Q' H h1 h2=>⟨_,_,_,_,rfl,.tupS h1,rfl,T.h_c,h2⟩;refine ⟨_,(oU (mH (kM (kD (nK iZ rfl T.z_isinstance (nofun) (oQ (pq 0) (oQ (iW (v:=.ty "tuple") rfl T.z_tuple (nofun) rfl) oR)))))
   (oX (nH kW))
   mG)
   (oX (nH (jU (dB hu) (mE (xs:=["_law_number"]) (fr:=[]) (g:=(oW 0)) (tt:=(jP (tNot (tB (jF (sp_j) [] E0 (nQ (tVar 0) tNil)))) (tVar 0))) (nR (sc:=oV aP) (N:=N_n) rfl rfl (nofun)) rfl (mJ (pq 0)) (λ _ _ _ hE1=>(nU (N:=["_law_number"]) (i:=0) hE1 rfl (nofun))) (λ _ _ _ hE1=>(Bp (kM (kD (nB G_j hr.mo rfl T.m_j T.F_j.kp T.b_j .nil nC (oQ (pv 0) oR)))) (pv 0)))) (kX oR) (nS _))))),?_⟩
  show tSeq _ _ _ [some (.ref p)] H;refine st λ N1 e1=>?_;ext;refine isT p _ _ _ hP ?_;ext
  try refine iteF ?_
  subst e1;ext;refine Bi λ C B eC eB=>?_;simp only [iSeq];ext;refine ⟨true,⟨_,(hP:SqB true K H p _)⟩,λ a1 ha1=>?_⟩;subst eC;subst eB;refine Xo ha1 (hP:SqB true K H p _) ⋯ λ H1 s1 e1=>?_;refine ⟨∅,λ p2 hp2=>?_⟩;have s2:Same H1 (upd H1 p2 (.lst [])):=Same.new hp2;exact dJ 1 ∅ (Dt.intsB (b:=false) (ns:=[]) (SqB.lst (s2 _ _ e1))) (Dt.intsB (b:=false) (ns:=[]) (SqB.lst oZ)) (gR _ _ _) (gR _ _ _) (b:=true) (by simp) (hQ _ (s1.trans s2))
noncomputable def plD (ns:LI') (u:Int):PyData:=seqD true [kZ true ns,.int u]
theorem PlS.dt {H:Hp} {p:Addr} {ns:LI'} {u:Int} (h:PlS K H p ns u):Dt K H (.ref p) (plD ns u):=let ⟨_,h1,h2⟩:=h; Dt.seqB (b:=true) h1 (.cons (Dt.intsB (b:=true) h2) (.cons (.int u) .nil))
theorem kU (ns:LI') (u:Int):iT 3 (plD ns u)=true:=by
 have:=gR true 1 ns;simp [plD,seqD,iT,this]
theorem eJ {u:Int} {ns:LI'} (h0:0 < u) (g:gl u ns=1):redT u ns=ns/\redU u ns=u:=by
 unfold redT redU;rw [Jp h0 g];refine ⟨?_,qH u⟩
 conv=>rhs; rw [← List.map_id ns]
 exact wG λ t _=>qH t
def sp_c (K:Frag):Sp:=λ vs H Q _=>E4 λ (p:Addr) (ns:LI') (u:Int) (d:Nat)=>A8 (vs=[.ref p,.int d]) (PlS K H p ns u) (ns.length=d) (d<=100) (0 < u) (kK u) (gl u ns=1) (∀ H',Same H H'->Q (.bl true) H')
theorem ok_c (T:Txt K mg t):FnOk P w K mg base CX0 3 t.a_c t.d_c pu' (sp_c K):=by
 have G_j:=@ok_j P w K mg base t T;have G_n:=@ok_n P w K mg base t T;have G_9:=@ok_9 P w K mg base t T;refine T.F_c.ok sc_c (by walk_at "v") (λ cdv A outer s H vs Q E hr h=>?_)
 ·have hu:=hr.units;obtain ⟨p,ns,u,d,rfl,hP,hl,hd,u0,us,hg,hQ⟩:=h;have isT:∀ (a:Addr) (xs:List V) (Q':VK) (H:Hp),SqT K H a xs->Q' (.bl true) H->rIsi K [.ref a,.ty "tuple"] H Q':=λ a xs Q' H h1 h2=>⟨_,_,_,_,rfl,.tupS h1,rfl,T.h_c,h2⟩;obtain ⟨q,h1,h2⟩:=id hP;refine ⟨_,(oU (mH (PW.pt (kL (kM (kD (nK iZ rfl T.z_isinstance (nofun) (oQ (pq 0) (oQ (iW (v:=.ty "tuple") rfl T.z_tuple (nofun) rfl) oR))))) (kL (nW jN (nK mC rfl T.z_len (nofun) (oQ (pq 0) oR)) oS (nS _)) (kL (kM (kD (nB G_n hr.mo rfl T.m_n T.F_n.kp T.b_n .nil nC (oQ (oT ix_B (pq 0) oS (λ _ _=>rfl)) oR)))) (iL (kM (kD (nB G_j hr.mo rfl T.m_j T.F_j.kp T.b_j .nil nC (oQ (oT ix_B (pq 0) oS (λ _ _=>rfl)) oR)))))))))
   (oX (nH kW))
   mG)
   (oX (nH (cS (jU kY (nK mC rfl T.z_len (nofun) (oQ (oT ix_B (pq 0) oS (λ _ _=>rfl)) oR)) (pq 1) (nS _)) (cS (jU cW (oT ix_B (pq 0) oS (λ _ _=>rfl)) oS (nS _)) (Af (jU (dB hu) (nB G_9 hr.mo rfl T.m_9 T.F_9.kp T.b_9 .nil nC (oQ (oT ix_B (pq 0) oS (λ _ _=>rfl)) (oQ (oT ix_B (pq 0) oS (λ _ _=>rfl)) oR))) (pq 0) (nS _)))))))),?_⟩
  show tSeq _ _ _ [some (.ref p),some (.int d)] H;refine st λ N1 e1=>?_;ext;refine isT p _ _ _ h1 ?_;ext;refine ⟨true,p,_,rfl,(h1:SqB true K H p _),?_⟩;ext;refine iteF (jG hP λ x hx=>⟨x,ns,rfl,hx,⋯,λ H1 s1=>?_⟩)
  try ext
  refine iH (hP.up s1) ⟨u,rfl,?_⟩
  try ext
  subst e1;ext;refine jG (hP.up s1) λ x hx=>lU (b:=true) hx ?_
  try ext
  rw [zM (show (ns.length:Int)=d by rw [hl])];refine iteT (iH (hP.up s1) ⟨_,_,rfl,rfl,_,rfl,?_⟩);rw [zM u0];refine iteT (jG (hP.up s1) λ y hy=>iH (hP.up s1) ⟨true,y,ns,u,rfl,(hy:SqB true K H1 y _),⋯,u0,us,λ r H2 s2 hr2=>?_⟩);obtain ⟨r1,r2⟩:=eJ u0 hg;rw [r1,r2] at hr2;exact dJ 3 ∅ (PlS.dt hr2.s) (PlS.dt (hP.up (s1.trans s2))) (kU _ _) (kU _ _) (b:=true) (by simp) (hQ _ (s1.trans s2))
structure MbOk (d:Nat) (x:Dd):Prop where
 sq:Sq d x.1
 len:x.2.1.length=d
 pos:0 < x.2.2
 le:x.2.2<=72
 bm:mW 40 x.1
 bt:∀ z∈x.2.1,0<=z/\z < 72
 low:gl x.2.2 x.2.1=1
 rest:nO x=x
structure SpOk (d:Nat) (σ:SP'):Prop where
 len:σ.1.length=d
 bits:mK 60 σ.1
 pos:0 < σ.2
 le:σ.2<=288
 low:gl σ.2 σ.1=1
theorem Xn {k p:Nat} {L:List Stp} {S:LI'} {su:Int} (ok:gK k p L S su) {x:Dd} (hx:InF (frm k p L S su) x):MbOk (famD k) x:=by
 obtain ⟨f,h1,h2,h3⟩:=An ok hx;obtain ⟨M,ts,U,sM,lt,hU,e⟩:=Aq ok.frm hx;have lw:gl x.2.2 x.2.1=1:=by
  rw [e];show gl (redU U ts) ((redT U ts).map λ t=>t.fmod (redU U ts))=1;rw [Jn];exact Dv ⋯
 obtain ⟨R,hR,t,ht,rfl⟩:=hx;exact ⟨f.sq,f.len,f.pos,h1,My ok hR,h2,lw,h3⟩
theorem MbOk.fine {d:Nat} {x:Dd} (h:MbOk d x):lR d x:=⟨h.sq,h.len,h.pos,h.bm.le ∅,λ z hz=>by
 have:=h.bt z hz;exact zI (show z.natAbs < 2 ^ 7 by omega) (yT ∅ ∅),by have:=h.le; omega⟩
noncomputable def mvT (σ:SP') (x:Dd):LI':=redT (x.2.2*σ.2) (movT x.1 x.2.1 x.2.2 σ.1 σ.2)
noncomputable def mvU (σ:SP') (x:Dd):Int:=redU (x.2.2*σ.2) (movT x.1 x.2.1 x.2.2 σ.1 σ.2)
theorem eK (d:Nat) (σ:SP') (x:Dd):act d σ x=(nM (mvU σ x) (mvT σ x),mvU σ x):=Li d σ x
theorem Mx {u:Int} {ts:LI'}:(redT u ts).length=ts.length:=by unfold redT; rw [zqe]
structure MvOk (d:Nat) (σ:SP') (x:Dd):Prop where
 len:(mvT σ x).length=d
 pos:0 < mvU σ x
 le:mvU σ x<=72*288
 low:gl (mvU σ x) (mvT σ x)=1
 bits:mK 120 (mvT σ x)
theorem Ej {α β γ:Type} {f:α->β->γ} {as:List α} {bs:List β} {z:γ} (h:z∈List.zipWith f as bs):∃ (i:Nat) (a:α) (b:β),as[i]?=some a/\bs[i]?=some b/\z=f a b:=by
 obtain ⟨i,hi⟩:=xS h;rw [yH] at hi;cases ha:as[i]? with
 | none=>rw [ha] at hi; cases hi
 | some a =>
  cases hb:bs[i]? with
  | none=>rw [ha,hb] at hi; cases hi
  | some b =>
   rw [ha,hb] at hi;exact ⟨i,a,b,ha,hb,(zT hi).symm⟩
theorem iS {α β γ:Type} {f:α->β->γ} {as:List α} {bs:List β} {i:Nat} {a:α} {b:β} (ha:as[i]?=some a) (hb:bs[i]?=some b):(List.zipWith f as bs)[i]?=some (f a b):=by rw [yH,ha,hb]
theorem lZ {α:Type} {l:List α} {i d:Nat} (h:l.length=d) (hi:i < d):∃ a,l[i]?=some a:=⟨_,zqd ⋯⟩
theorem Ei {α:Type} {l:List α} {i d:Nat} {a:α} (h:l.length=d) (e:l[i]?=some a):i < d:=by
 have:=(zqa e).1;omega
theorem Eh {d:Nat} {l l':LI'} (h1:l.length=d) (h2:l'.length=d) (h:∀ (i:Nat) a b,l[i]?=some a->l'[i]?=some b->a=b):l=l':=by
 refine vK ⋯ λ i a b=>h i _ _ (zqd a) (zqd b)
theorem nab2 {a b:Int} {A B C:Nat} (ha:a.natAbs < A) (hb:b.natAbs < B) (h:A+B<=C):(a+b).natAbs < C:=zI (vR (qM a b) (Nat.add_lt_add ha hb)) h
theorem nabm {a b:Int} {A B:Nat} (ha:a.natAbs < A) (hb:b.natAbs < B):(a*b).natAbs < A*B:=by rw [yN]; exact uA ha hb
theorem Eg {a:Int} {A:Nat} (h0:0 < a) (h:a<=A) {B:Nat} (hB:A < B):a.natAbs < B:=by
 refine vR ?_ hB;omega
theorem jK {d:Nat} (hd:d=2\/d=3) {σ:SP'} {x:Dd} (hσ:SpOk d σ) (hx:MbOk d x):MvOk d σ x:=by
 have h0:0 < x.2.2*σ.2:=yS hx.pos hσ.pos;obtain ⟨r1,r2,r3⟩:=eE (ts:=movT x.1 x.2.1 x.2.2 σ.1 σ.2) h0;have m1:x.2.2*σ.2<=72*288:=tM hx.le hσ.le (vA hσ.pos) ∅;refine ⟨by unfold mvT; rw [Mx]; exact Ar hx.sq hx.len,r2,oI r3 m1,Dv ⋯,λ z hz=>?_⟩;obtain ⟨t,ht,hl⟩:=r1 z hz;refine vR hl ?_;obtain ⟨i,r,t,er,et,rfl⟩:=Ej ht;have h1:=Ew (hx.bm _ (zqb er)) hσ.bits (by rw [hx.sq.2 _ (zqb er)]; omega);have h2:=hx.bt _ (zqb et);have h3:t.natAbs < 2 ^ 7:=⋯
 exact nab2 (nabm h1 (Eg hx.pos hx.le (∅:72 < 2 ^ 7))) (nabm h3 (Eg hσ.pos hσ.le (∅:288 < 2 ^ 9))) ∅
theorem Mw {u v:Int} {ms:LI'} (hv:0 < v) (g:gl u ms=1) (h:∀ m∈ms,u∣m*v):u∣v:=by
 have:=(iQ (d:=u) (u:=u*v) (ns:=ms.map (·*v))).mpr ⟨Int.dvd_mul_right u v,λ t ht=>by obtain ⟨m,hm,rfl⟩:=zE.mp ht; exact h m hm⟩;rw [Kn hv,g,uW] at this;exact this
noncomputable def gapT (v:Int) (ns ms:LI'):LI':=List.zipWith (λ n m=>(n - m).fdiv v) ns ms
theorem Mv {v:Int} {ns ms:LI'} (hv:0 < v) (e:nM v ms=nM v ns) {i:Nat} {n m:Int} (en:ns[i]?=some n) (em:ms[i]?=some m):v*(n - m).fdiv v=n - m:=by
 have h:=xZ (λ l=>l[i]?) e;unfold nM at h;simp only [List.getElem?_map,en,em,Option.map_some,Option.some.injEq] at h;have h1:=qG m v;have h2:=qG n v;have:v∣n - m:=⟨n.fdiv v - m.fdiv v,by rw [Int.mul_sub]; omega⟩;rw [vO];exact jR ⋯ this
theorem Xm {ns ms:LI'} {v U:Int} (hl:ns.length=ms.length) (hv:0 < v) (hU:0 < U) (g1:gl v ns=1) (g2:gl U ms=1) (h:redU (v*U) (sumT ns v (ms.map (-·)) U)=1):U=v/\nM v ms=nM v ns:=by
 obtain ⟨c,hc,e1,e2,_⟩:=eA (ts:=sumT ns v (ms.map (-·)) U) (yS hv hU);rw [h,tZ] at e2;subst e2;have at':∀ (i:Nat) n m,ns[i]?=some n->ms[i]?=some m->∃ k,n*U - m*v=v*U*k:=λ i n m en em=>by
  have h1:(sumT ns v (ms.map (-·)) U)[i]?=some (n*U+-m*v):=by unfold sumT; rw [yH,en,zB,em]; rfl
  rw [e1] at h1;unfold smul at h1;rw [zB] at h1;cases hk:(redT (v*U) (sumT ns v (ms.map (-·)) U))[i]? with
  | none=>rw [hk] at h1; cases h1
  | some k =>
   rw [hk] at h1;have:=zT h1;dsimp only at this;exact ⟨k,by rw [this,Int.neg_mul]; omega⟩
 have dU:U∣v:=Mw hv g2 λ m hm=>by
  obtain ⟨i,hi,rfl⟩:=xV hm;obtain ⟨k,e⟩:=at' i _ _ (zqd ⋯) (zqd hi);generalize ns[i]'⋯=n at e;exact ⟨n - v*k,by grind⟩
 have dv:v∣U:=Mw hU g1 λ n hn=>by
  obtain ⟨i,hi,rfl⟩:=xV hn;obtain ⟨k,e⟩:=at' i _ _ (zqd hi) (zqd ⋯);generalize ms[i]'⋯=m at e;exact ⟨m+U*k,by grind⟩
 have e:U=v:=Int.dvd_antisymm ⋯ ⋯ dU dv;subst e;refine ⟨rfl,?_⟩;refine Eh (d:=ns.length) (by unfold nM; rw [zqe,hl]) (by unfold nM; rw [zqe]) λ i a b ea eb=>?_;unfold nM at ea eb;rw [zB] at ea eb;cases em:ms[i]? with
 | none=>rw [em] at ea; cases ea
 | some m =>
  cases en:ns[i]? with
  | none=>rw [en] at eb; cases eb
  | some n =>
   rw [em] at ea;rw [en] at eb;cases ea;cases eb;obtain ⟨k,e⟩:=at' i n m en em;refine Dh hv ⟨-k,?_⟩;have:U*(n - m)=U*(U*k):=by grind
   have:=Int.eq_of_mul_eq_mul_left ⋯ this;grind
theorem Xl {ns ms:LI'} {v:Int} (hl:ns.length=ms.length) (hv:0 < v) (e:nM v ms=nM v ns):redU (v*v) (sumT ns v (ms.map (-·)) v)=1/\redT (v*v) (sumT ns v (ms.map (-·)) v)=gapT v ns ms:=by
 have es:sumT ns v (ms.map (-·)) v=smul (v*v) (gapT v ns ms):=by
  have l1:(sumT ns v (ms.map (-·)) v).length=ns.length:=by unfold sumT; rw [yI,zqe,← hl,vN]
  refine Eh l1 (by rw [jD]; unfold gapT; rw [yI,← hl,vN]) λ i a b ea eb=>?_;have hi:=Ei l1 ea;obtain ⟨n,en⟩:=lZ (l:=ns) rfl hi;obtain ⟨m,em⟩:=lZ hl.symm hi;have k1:(sumT ns v (ms.map (-·)) v)[i]?=some (n*v+-m*v):=iS en (by rw [zB,em]; rfl);have k2:(smul (v*v) (gapT v ns ms))[i]?=some (v*v*(n - m).fdiv v):=by
   unfold smul;rw [zB,show (gapT v ns ms)[i]?=some ((n - m).fdiv v) from iS en em];rfl
  rw [k1] at ea;rw [k2] at eb;cases ea;cases eb;have:=Mv hv e en em;grind
 have r:=Ez (U:=1) (k:=v*v) (ts:=gapT v ns ms) ∅ (yS hv hv);rw [tZ] at r;obtain ⟨a,b⟩:=eJ (u:=1) (ns:=gapT v ns ms) ∅ (Do _);rw [es,r.1,r.2,a,b];exact ⟨rfl,rfl⟩
noncomputable def exD (σ:SP') (x:Dd):Dd:=(x.1,List.zipWith (λ t g=>t+g*x.2.2) x.2.1 (gapT σ.2 σ.1 (mvT σ x)),x.2.2)
def Kp (σ:SP') (x:Dd):Prop:=mvU σ x=σ.2/\nM σ.2 (mvT σ x)=nM σ.2 σ.1
theorem Ef {d:Nat} (hd:d=2\/d=3) {σ:SP'} (hσ:SpOk d σ) {x:Dd}:Kp σ x ↔ act d σ x=act d σ (nP d):=by
 have e:act d σ (nP d)=(nM σ.2 σ.1,σ.2):=by
  rw [Li];show (nM (redU (1*σ.2) (movT (idM d) (List.replicate d 0) 1 σ.1 σ.2)) (redT (1*σ.2) (movT (idM d) (List.replicate d 0) 1 σ.1 σ.2)),redU (1*σ.2) (movT (idM d) (List.replicate d 0) 1 σ.1 σ.2))=_;rw [(Eo hd iI hσ.len).2,uW];obtain ⟨a,b⟩:=eJ hσ.pos hσ.low;rw [a,b]
 rw [e,eK];unfold Kp;constructor
 ·rintro ⟨a,b⟩;rw [a,b]
 ·intro h;have h1:=xZ Prod.fst h;have h2:=xZ Prod.snd h;dsimp only at h1 h2;rw [h2] at h1;exact ⟨h2,h1⟩
theorem Am {d:Nat} {v:Int} {ns ms:LI'} (h1:ns.length=d) (h2:ms.length=d):(gapT v ns ms).length=d:=by unfold gapT; rw [yI,h1,h2,vN]
theorem Ee {d:Nat} (hd:d=2\/d=3) {σ:SP'} {x:Dd} (hσ:SpOk d σ) (hx:MbOk d x):Cong x.2.2 (exD σ x).2.1 x.2.1:=by
 have g:=Am (v:=σ.2) hσ.len (jK hd hσ hx).len;have lx:=hx.len;refine ⟨by show (List.zipWith _ _ _).length=_; rw [yI,g,lx,vN],λ i a b ea eb=>?_⟩;have ea':(List.zipWith (λ t g=>t+g*x.2.2) x.2.1 (gapT σ.2 σ.1 (mvT σ x)))[i]?=some a:=ea;have hi:=(zqa eb).1;rw [yH,eb,zqd (show i < (gapT σ.2 σ.1 (mvT σ x)).length by omega)] at ea';have:=zT ea';exact ⟨(gapT σ.2 σ.1 (mvT σ x))[i]'⋯,by rw [← this,vO]; omega⟩
theorem Al {d:Nat} (hd:d=2\/d=3) {σ:SP'} {x:Dd} (hσ:SpOk d σ) (hx:MbOk d x):(exD σ x).2.1.length=d:=(Ee hd hσ hx).1.trans hx.len
theorem Mu {d:Nat} (hd:d=2\/d=3) {σ:SP'} {x:Dd} (hσ:SpOk d σ) (hx:MbOk d x):gl x.2.2 (exD σ x).2.1=1:=(Ee hd hσ hx).gl.trans hx.low
theorem Ed {d:Nat} (hd:d=2\/d=3) {σ:SP'} {x:Dd} (hσ:SpOk d σ) (hx:MbOk d x):nO (exD σ x)=x:=by
 have h:=(Ee hd hσ hx).rest_eq hx.pos;have r:=hx.rest;show (x.1,nM x.2.2 (exD σ x).2.1,x.2.2)=x;rw [h];exact r
theorem Mt {n m v:Int} (hv:0 < v) (b1:n.natAbs < 2 ^ 60) (b2:m.natAbs < 2 ^ 120):((n - m).fdiv v).natAbs < 2 ^ 121:=by
 rw [Int.fdiv_eq_ediv_of_nonneg _ (vA hv)];refine vR (Int.natAbs_ediv_le_natAbs _ _) ?_;rw [Int.sub_eq_add_neg];exact nab2 b1 (by rw [Int.natAbs_neg]; exact b2) ∅
theorem Mr {d:Nat} (hd:d=2\/d=3) {σ:SP'} {x:Dd} (hσ:SpOk d σ) (hx:MbOk d x):mK 130 (exD σ x).2.1:=λ z hz=>by
 have mo:=jK hd hσ hx;obtain ⟨i,t,g,et,eg,rfl⟩:=Ej (show z∈List.zipWith _ _ _ from hz);have hi:=Ei hx.len et;obtain ⟨n,en⟩:=lZ hσ.len hi;obtain ⟨m,em⟩:=lZ mo.len hi;have eg2:(gapT σ.2 σ.1 (mvT σ x))[i]?=some ((n - m).fdiv σ.2):=iS en em;rw [eg2] at eg;cases eg;have b1:=hσ.bits _ (zqb en);have b2:=mo.bits _ (zqb em);have b3:=hx.bt _ (zqb et);have q2:((n - m).fdiv σ.2).natAbs < 2 ^ 121:=Mt hσ.pos b1 b2;have h3:t.natAbs < 2 ^ 7:=⋯
 exact nab2 h3 (nabm q2 (Eg hx.pos hx.le (∅:72 < 2 ^ 7))) ∅
theorem Xk {d:Nat} (hd:d=2\/d=3) {σ:SP'} {x:Dd} (hσ:SpOk d σ) (hx:MbOk d x) (k:Kp σ x):mvT σ (exD σ x)=σ.1/\mvU σ (exD σ x)=σ.2:=by
 have mo:=jK hd hσ hx;obtain ⟨k1,k2⟩:=k;have h0:0 < x.2.2*σ.2:=yS hx.pos hσ.pos;obtain ⟨c,hc,e1,e2,_⟩:=eA (ts:=movT x.1 x.2.1 x.2.2 σ.1 σ.2) h0;have e2':x.2.2*σ.2=c*mvU σ x:=e2;rw [k1] at e2';have ec:c=x.2.2:=(Int.eq_of_mul_eq_mul_right (by have:=hσ.pos; omega) e2').symm;subst ec;have e1':movT x.1 x.2.1 x.2.2 σ.1 σ.2=smul x.2.2 (mvT σ x):=e1;have key:movT x.1 (exD σ x).2.1 x.2.2 σ.1 σ.2=smul x.2.2 σ.1:=by
  have l1:=Al hd hσ hx;have sl:=hx.sq.1;have ls:=hσ.len;have lx:=hx.len;refine Eh (Ar hx.sq l1) (by rw [jD,ls]) λ i a b ea eb=>?_;have hi:=Ei (Ar hx.sq l1) ea;obtain ⟨n,en⟩:=lZ hσ.len hi;obtain ⟨m,em⟩:=lZ mo.len hi;obtain ⟨t,et⟩:=lZ lx hi;obtain ⟨r,er⟩:=lZ sl hi;have h5:=Mv hσ.pos k2 en em;have h6:(exD σ x).2.1[i]?=some (t+(n - m).fdiv σ.2*x.2.2):=iS et (show (gapT σ.2 σ.1 (mvT σ x))[i]?=_ from iS en em);have k1:(movT x.1 (exD σ x).2.1 x.2.2 σ.1 σ.2)[i]?=some _:=iS er h6;have k3:(movT x.1 x.2.1 x.2.2 σ.1 σ.2)[i]?=some _:=iS er et;have k4:(smul x.2.2 σ.1)[i]?=some (x.2.2*n):=by unfold smul; rw [zB,en]; rfl
  have k5:(smul x.2.2 (mvT σ x))[i]?=some (x.2.2*m):=by unfold smul; rw [zB,em]; rfl
  rw [e1',k5] at k3;have h4:=zT k3;rw [k1] at ea;rw [k4] at eb;cases ea;cases eb;generalize dotI r σ.1=D at *
  generalize (n - m).fdiv σ.2=q at *;grind
 obtain ⟨r1,r2⟩:=Ez (ts:=σ.1) hσ.pos hx.pos;obtain ⟨a,b⟩:=eJ hσ.pos hσ.low;unfold mvT mvU;show redT (x.2.2*σ.2) (movT x.1 (exD σ x).2.1 x.2.2 σ.1 σ.2)=_/\redU (x.2.2*σ.2) (movT x.1 (exD σ x).2.1 x.2.2 σ.1 σ.2)=_;rw [key,r1,r2,a,b];exact ⟨rfl,rfl⟩
theorem Xj {d:Nat} (hd:d=2\/d=3) {σ:SP'} {x:Dd} (hσ:SpOk d σ) (hx:MbOk d x):behD d x (idM d,gapT σ.2 σ.1 (mvT σ x),1)=exD σ x:=by
 have mo:=jK hd hσ hx;have lg:=Am (v:=σ.2) hσ.len mo.len;have lx:=hx.len;have em:movT (idM d) (gapT σ.2 σ.1 (mvT σ x)) 1 x.2.1 x.2.2=(exD σ x).2.1:=by
  show _=List.zipWith (λ t g=>t+g*x.2.2) x.2.1 (gapT σ.2 σ.1 (mvT σ x));generalize gapT σ.2 σ.1 (mvT σ x)=g at *
  generalize x.2.1=ts at *;rcases hd with rfl | rfl
  ·obtain ⟨a,b,rfl⟩:=len2 lg;obtain ⟨a',b',rfl⟩:=len2 lx;rw [id2];simp [movT,dotI]
  ·obtain ⟨a,b,c,rfl⟩:=len3 lg;obtain ⟨a',b',c',rfl⟩:=len3 lx;rw [id3];simp [movT,dotI]
 obtain ⟨a,b⟩:=eJ hx.pos (Mu hd hσ hx);show (mulM d (idM d) x.1,redT (1*x.2.2) (movT (idM d) (gapT σ.2 σ.1 (mvT σ x)) 1 x.2.1 x.2.2),redU (1*x.2.2) (movT (idM d) (gapT σ.2 σ.1 (mvT σ x)) 1 x.2.1 x.2.2))=_;rw [em,uW,a,b,(jC hd hx.sq).1];rfl
theorem Ak {K:Frag} {H:Hp}:∀ {ns:LI'} {xs:List V},Dts K H xs (ns.map PyData.int)->xs=ns.map V.int
 | [],_,.nil=>rfl
 | n :: ns,_,.cons (.int _) h=>by rw [Ak h]; rfl
theorem Mq {K:Frag} {H:Hp}:∀ {M:LM} {xs:List V},Dts K H xs (M.map λ r=>PyData.tuple (r.map PyData.int))->∃ ps:LA,xs=ps.map V.ref/\ps.length=M.length/\∀ (i:Nat) p r,ps[i]?=some p->M[i]?=some r->SqT K H p (r.map V.int)
 | [],_,.nil=>⟨[],rfl,rfl,λ i p r e=>by cases e⟩
 | r :: M,_,.cons (x:=x) h1 h2=>by
  obtain ⟨ps,e,l,h⟩:=Mq h2;cases h1 with
  | tup a b =>
   rename_i q ys;rw [Ak b] at a;refine ⟨q :: ps,by rw [e]; rfl,by rw [zX,zX,l],λ i p s e1 e2=>?_⟩;cases i with
   | zero=>cases e1; cases e2; exact a
   | succ i=>exact h i p s e1 e2
theorem fB {K:Frag} {H:Hp} {p:Addr} {x:Dd} (h:Dt K H (.ref p) (dat x)):DdS K H p x:=by
 obtain ⟨M,ts,u⟩:=x;have h':Dt K H (.ref p) (.tuple [.tuple (M.map λ r=>.tuple (r.map PyData.int)),.tuple (ts.map PyData.int),.int u]):=h;cases h' with
 | tup a b =>
  cases b with
  | cons b1 b =>
   cases b with
   | cons b2 b =>
    cases b with
    | cons b3 b =>
     cases b;cases b3;cases b1 with
     | tup c1 c2 =>
      cases b2 with
      | tup e1 e2 =>
       rw [Ak e2] at e1;obtain ⟨ps,rfl,l,hp⟩:=Mq c2;exact ⟨_,_,a,⟨ps,c1,l,hp⟩,e1⟩
theorem Xi {K:Frag} {H:Hp} {p:Addr} {ns:LI'} {u:Int} (h:Dt K H (.ref p) (plD ns u)):PlS K H p ns u:=by
 have h':Dt K H (.ref p) (.tuple [.tuple (ns.map PyData.int),.int u]):=h;cases h' with
 | tup a b =>
  cases b with
  | cons b1 b =>
   cases b with
   | cons b2 b =>
    cases b;cases b2;cases b1 with
    | tup c1 c2 =>
     rw [Ak c2] at c1;exact ⟨_,a,c1⟩
theorem DdS.dt {K:Frag} {H:Hp} {p:Addr} {x:Dd} (h:DdS K H p x):Dt K H (.ref p) (dat x):=by
 obtain ⟨v0,v1,h1,h2,h3⟩:=h;exact .tup h1 (.cons (Dt.matB h2) (.cons (Dt.intsB (b:=true) h3) (.cons (.int _) .nil)))
theorem pl_t (ns:LI') (u:Int):tT 4 (plD ns u)=true:=by
 show tT 4 (.tuple [.tuple (ns.map PyData.int),.int u])=true;rw [fZ,yV,yV,fZ];have:(ns.map PyData.int).all (tT 2)=true:=by
  rw [wI];intro d hd;obtain ⟨i,_,rfl⟩:=zE.mp hd;rfl
 rw [this];rfl
theorem Eb {ns ms:LI'} {u v:Int}:plD ns u=plD ms v ↔ ns=ms/\u=v:=by
 show PyData.tuple [kZ true ns,.int u]=PyData.tuple [kZ true ms,.int v] ↔ _;simp only [PyData.tuple.injEq,List.cons.injEq,PyData.int.injEq,and_true,Bj]
theorem Ea {ns ms:LI'} {u v:Int} (h:ns.length=ms.length):sm (plD ns u) (plD ms v)=true:=by
 show (smA (ns.map PyData.int) (ms.map PyData.int) && (sm (.int u) (.int v) && true))=true;rw [aY h];rfl
theorem Xh {a b:LI'} (h:lx a b=true):lx b a=false:=by
 cases h2:lx b a with
 | false=>rfl
 | true =>
  have:=Id _ _ _ h h2;rw [aF] at this;cases this
theorem Fz {α:Type} {f:α->LI'}:∀ {l l':List α},(l.Pairwise λ p q=>lx (f p) (f q)=true)->(l'.Pairwise λ p q=>lx (f p) (f q)=true)->(∀ x,x∈l ↔ x∈l')->l=l'
 | [],[],_,_,_=>rfl
 | [],b :: _,_,_,h=>absurd ((h b).mpr (.head _)) (by simp)
 | a :: _,[],_,_,h=>absurd ((h a).mp (.head _)) (by simp)
 | a :: l,b :: l',h1,h2,h=>by
  have p1:=tR.mp h1;have p2:=tR.mp h2;have e:a=b:=by
   rcases zL.mp ((h a).mp (.head _)) with q | q
   ·exact q
   rcases zL.mp ((h b).mpr (.head _)) with r | r
   ·exact r.symm
   have c1:=p2.1 a q;have c2:=p1.1 b r;rw [Xh c1] at c2;cases c2
  subst e;rw [Fz (f:=f) p1.2 p2.2 λ x=>?_];constructor
  ·intro hx;rcases zL.mp ((h x).mp (.tail _ hx)) with q | q
   ·subst q;have:=p1.1 _ hx;rw [aF] at this;cases this
   ·exact q
  ·intro hx;rcases zL.mp ((h x).mpr (.tail _ hx)) with q | q
   ·subst q;have:=p2.1 _ hx;rw [aF] at this;cases this
   ·exact q
theorem Mp {α:Type} {f:α->PyData} {l:List α} (nd:l.Nodup) (inj:∀ x∈l,∀ y∈l,f x=f y->x=y) (hs:∀ x∈l,∀ y∈l,sm (f x) (f y)=true) (h:l.Pairwise λ p q=>lx (fl (f q)) (fl (f p))=false):l.Pairwise λ p q=>lx (fl (f p)) (fl (f q))=true:=by
 have h2:=List.Pairwise.and nd h;refine List.Pairwise.imp_of_mem (λ {a b} ha hb h=>?_) h2;cases z:lx (fl (f a)) (fl (f b)) with
 | true=>rfl
 | false=>exact absurd (inj a ha b hb (cD _ _ (hs a ha b hb) (Ic _ _ z h.2))) h.1
abbrev Alk:=List ((SP') × Nat)
noncomputable def plO (σ:SP'):PyData:=plD σ.1 σ.2
theorem Mo {σ τ:SP'}:plO σ=plO τ ↔ σ=τ:=by
 unfold plO;rw [Eb];exact ⟨λ ⟨a,b⟩=>Prod.ext a b,λ e=>by rw [e]; exact ⟨rfl,rfl⟩⟩
theorem iJ (σ:SP'):tT 4 (plO σ)=true:=pl_t _ _
noncomputable def entA (e:(SP') × Nat):PyData × V:=(plO e.1,V.int (e.2:Nat))
theorem Fy {σ:SP'}:∀ {D:Alk},(σ ∉ D.map (·.1)/\vT (D.map entA) (plO σ)=none)\/∃ n,(σ,n)∈D/\vT (D.map entA) (plO σ)=some (.int ((n:Nat):Int))
 | []=>.inl ⟨by simp,rfl⟩
 | e :: D=>by
  by_cases z:e.1=σ
  ·refine .inr ⟨e.2,by rw [← z]; exact .head _,?_⟩;rw [zG,dO (by show plO e.1=_; rw [z])];rfl
  ·have ne:¬ (entA e).1=plO σ:=λ q=>z (Mo.mp q);rw [zG,zG,fI ne];rcases Fy (σ:=σ) (D:=D) with ⟨h1,h2⟩ | ⟨n,h1,h2⟩
   ·exact .inl ⟨by rw [zL,not_or]; exact ⟨λ q=>z q.symm,h1⟩,h2⟩
   ·exact .inr ⟨n,.tail _ h1,h2⟩
structure AlT (d:Nat) (σ:SP') (srt:Tb) (i:Nat) (D:Alk):Prop where
 nd:(D.map (·.1)).Nodup
 num:∀ e∈D,∃ y,srt[e.2]?=some y/\act d σ y.1=e.1
 all:∀ (j:Nat) y,j < i->srt[j]?=some y->act d σ y.1∈D.map (·.1)
 len:D.length<=i
theorem AlT.old {d:Nat} {σ:SP'} {srt:Tb} {i:Nat} {D:Alk} {y:Dd × List Nat} (h:AlT d σ srt i D) (e:srt[i]?=some y) (m:act d σ y.1∈D.map (·.1)):AlT d σ srt (i+1) D :=
 ⟨h.nd,h.num,λ j z hj ez=>by
  by_cases q:j=i
  ·subst q; rw [e] at ez; cases ez; exact m
  ·exact h.all j z ⋯ ez,Nat.le_succ_of_le h.len⟩
theorem AlT.new {d:Nat} {σ:SP'} {srt:Tb} {i:Nat} {D:Alk} {y:Dd × List Nat} (h:AlT d σ srt i D) (e:srt[i]?=some y) (m:act d σ y.1 ∉ D.map (·.1)):AlT d σ srt (i+1) (D++[(act d σ y.1,i)]):=by
 refine ⟨?_,λ f hf=>?_,λ j z hj ez=>?_,by rw [yB]; exact Nat.succ_le_succ h.len⟩
 ·rw [xD,sF];refine ⟨h.nd,by simp,λ a ha b hb=>?_⟩;rw [yF.mp hb];intro q;rw [q] at ha;exact m ha
 ·rcases xB.mp hf with q | q
  ·exact h.num f q
  ·rw [yF.mp q]; exact ⟨y,e,rfl⟩
 ·rw [xD,xB]
  by_cases q:j=i
  ·subst q; rw [e] at ez; cases ez; exact .inr (by simp)
  ·exact .inl (h.all j z ⋯ ez)
theorem AlT.one {d:Nat} {σ:SP'} {srt:Tb} {i:Nat} {D:Alk} (h:AlT d σ srt i D) {τ:SP'} {m n:Nat} (h1:(τ,m)∈D) (h2:(τ,n)∈D):m=n:=by
 obtain ⟨i,hi⟩:=xS h1;obtain ⟨j,hj⟩:=xS h2;have e1:(D.map (·.1))[i]?=some τ:=by rw [zB,hi]; rfl
 have e2:(D.map (·.1))[j]?=some τ:=by rw [zB,hj]; rfl
 have:i=j:=(List.getElem?_inj (zqa e1).1 h.nd).mp (e1.trans e2.symm);subst this;rw [hi] at hj;cases hj;rfl
structure gL (d:Nat) (σ:SP') (srt:Tb) (D:Alk):Prop where
 rise:D.Pairwise λ a b=>lx (fl (plO a.1)) (fl (plO b.1))=true
 num:∀ e∈D,∃ y,srt[e.2]?=some y/\act d σ y.1=e.1
 all:∀ y∈srt,act d σ y.1∈D.map (·.1)
 nd:(D.map (·.1)).Nodup
 len:D.length<=srt.length
def iU (K:Frag) (H:Hp) (r:Addr) (D:Alk):Prop:=∃ ps:LA,H r=some (.lst (ps.map V.ref))/\Paired (λ p (e:(SP') × Nat)=>∃ q,H p=some (.tup [.ref q,.int ((e.2:Nat):Int)])/\Dt K H (.ref q) (plO e.1)) ps D
theorem iU.up {K:Frag} {H H':Hp} {r:Addr} {D:Alk} (h:iU K H r D) (s:Same H H'):iU K H' r D:=by
 obtain ⟨ps,h1,h2⟩:=h;exact ⟨ps,s _ _ h1,Paired.mapP h2 λ _ e ⟨q,z1,z2⟩=>⟨q,s _ _ z1,nZ (nY s) 4 (pl_t _ _) z2⟩⟩
def sp_17 (K:Frag) (t:Adr):Sp:=λ vs H Q _=>E6 λ (g q:Addr) (d:Nat) (ms:List Dd) (srt:Tb) (σ:SP')=>A8 (vs=[.ref g,.ref q]) (GrpF K t H g d ms srt) ((d=2\/d=3)) ((∀ y∈srt,MbOk d y.1)) (srt.length<=200) (mB H q σ.1 σ.2) (SpOk d σ) (∀ r D H',Same H H'->H r=none->iU K H' r D->gL d σ srt D->Q (.ref r) H')
theorem Aj {β:Type} {F:Addr->β->Prop}:∀ {D:List β} {ys:List V},ys.length=D.length->(∀ (j:Nat) y,ys[j]?=some y->∃ p e,y=V.ref p/\D[j]?=some e/\F p e)->∃ ps:LA,ys=ps.map V.ref/\Paired F ps D
 | [],[],_,_=>⟨[],rfl,.nil⟩
 | m :: ms,y :: ys,hl,h=>by
  obtain ⟨q,m',e,em,d⟩:=h 0 y rfl;cases em;obtain ⟨qs,e2,p2⟩:=Aj (F:=F) (D:=ms) (ys:=ys) (by simpa using hl) λ j y' ej=>by
   obtain ⟨q,m',e,em,d⟩:=h (j+1) y' (by simpa using ej);exact ⟨q,m',e,by simpa using em,d⟩
  exact ⟨q :: qs,by rw [e,e2]; rfl,.cons d p2⟩
theorem Fx {H:Hp} {g:Addr} {d:Nat} {ms:List Dd} {srt:Tb} (h:GrpF K t H g d ms srt):∃ dx fs,H g=some (.ins t.a_z dx fs)/\fs.lookup (Str.ofString "members")=none:=by
 obtain ⟨dx,lg,lo,ls,ln,h1,_⟩:=h;exact ⟨dx,_,h1,rfl⟩
theorem Ai {H H':Hp} {a:Addr} (s:Same H H') (h:H' a=none):H a=none:=by
 cases z:H a with
 | none=>rfl
 | some o=>rw [s _ _ z] at h; cases h
theorem ok_17 (T:Txt K mg t):FnOk P w K mg base CX0 4 t.a_17 t.d_17 py' (sp_17 K t):=by
 have G_7:=@ok_7 P w K mg base t T;have G_g:=@ok_g P w K mg base t T;have G_16:=@ok_16 P w K mg base t T;refine T.F_17.ok sc_17 (by walk_at "v") (λ cdv A outer s H vs Q E hr h=>?_)
 ·have hu:=hr.units;obtain ⟨g,q,d,ms,srt,σ,rfl,hG,hd,hm,l200,hP,hσ,hQ⟩:=h;refine ⟨_,(oU (nJ (i:=2) sc_17.nd rfl (Or.inr rfl) Rc)
   (oU (kG yR rfl (dF rfl T.z_enumerate (oQ (Aa (C:=t.a_z) (pq 0) T.cl_z T.me_7 G_7 hr.mo T.b_7 .nil nC) oR)) (kF rfl (mI (mD (i:=3) sc_17.nd rfl (Or.inl rfl)) (mI (mD (i:=4) sc_17.nd rfl (Or.inl rfl)) kE)))
   (oU (nJ (i:=5) sc_17.nd rfl (Or.inl rfl) (nB G_g hr.mo rfl T.m_g T.F_g.kp T.b_g .nil nC (oQ (nB G_16 hr.mo rfl T.m_16 T.F_16.kp T.b_16 .nil nC (oQ (pq 4) (oQ (pq 1) oR))) oR)))
   (oX (mH (nW (Hc hu) (pq 5) (pq 2) rfl)
   (oX (iN (pq 3) (cU (pq 2) (pq 5) (Hb hu))))
   mG))))
   (oX (nH (mE (xs:=["reached"]) (fr:=[("numbers",2)]) (g:=(oW 0)) (tt:=(tEl (tTup (nQ (tVar 0) (nQ (tOp (bU K) (tVar 1) (tVar 0)) tNil))))) (nR (sc:=oV s_17) (N:=N_17) rfl rfl (nofun)) rfl (mJ (nK (Jx (N:=200) Dm hu rfl) rfl T.z_sorted (nofun) (oQ (pq 2) oR))) (λ _ _ _ hE1=>(nU (N:=["reached","numbers"]) (i:=0) hE1 rfl (nofun))) (λ _ _ _ hE1=>(nT (mZ (oQ (pv 0) (oQ (oT (ix_T hu) (pv 1) (pv 0) (λ _ _=>rfl)) oR)))))))))),?_⟩
  show tSeq _ _ _ [some (.ref g),some (.ref q),none,none,none,none] H;refine st λ N1 e1=>?_;simp only [Iy];ext;intro aw haw hD0;have s1:Same H (upd H aw (lE aw [])):=Same.new haw;generalize upd H aw (lE aw [])=H1 at *
  subst e1;refine st λ N1 e1=>kI λ B eB=>?_;simp only [fH];ext;simp only [bD];ext;have hG1:=hG.up s1;obtain ⟨dx,fs,i1,i2⟩:=Fx hG1;refine ⟨dx,fs,i1,i2,g,d,ms,srt,rfl,hG1,λ l os H2 s2 hl0 hl hos=>?_⟩;have ll:os.length=srt.length:=mV hos;refine ⟨false,l,rfl,⟨_,SqB.lst hl⟩,?_⟩;have law:l≠aw:=λ z=>by
   obtain ⟨_,_,xs,ex,_⟩:=hD0.up s2;rw [z,ex] at hl;cases hl
  have naw:∀ b o,H b=some o->b≠aw:=λ b o e z=>by rw [z,haw] at e; cases e
  have s02:=s1.trans s2;refine Bh (g:=gTup K 2 (mL (oW 3) (mL (oW 4) gNil))) (tb:=B) (λ i τ H'=>∃ (D:Alk) (v3 v4 v5:Option V),τ=[some (.ref g),some (.ref q),some (.ref aw),v3,v4,v5]/\Same H H'/\H' l=some (.lst (os.map V.ref))/\Paired (λ p x=>Dt K H' (.ref p) (dat x.1)) os srt/\DTr K H' aw (D.map entA)/\AlT d σ srt i D)
   ⟨[],none,none,none,rfl,s02,hl,hos,hD0.up s2,⟨tL,(λ e h=>by cases h),(λ j y h=>absurd h (qW j)),zF _⟩⟩ (λ i τ H' _ ⟨_,_,_,_,_,_,h,_⟩=>SqB.lst h) ?_ ?_
  ·rintro i y p τ H3 ey ⟨D,v3,v4,v5,rfl,s3,hl3,ho3,hD3,aT⟩ hp;obtain ⟨m,hq',rfl⟩:=jS ey;obtain ⟨x,ex,_⟩:=kC ho3 hq';have sp:=Same.new (o:=.tup [.int (i:Int),.ref m]) hp;refine ⟨p,[.int i,.ref m],rfl,SqT.of oZ,rfl,_,[.ref m],rfl,_,[],rfl,rfl,?_⟩;have hl4:=sp _ _ hl3;have ho4:=Paired.mapP ho3 λ _ (z:Dd × List Nat) h=>nZ (nY sp) 4 (mT z.1) h;have hD4:=hD3.up sp;have s4:=s3.trans sp;generalize upd H3 p (.tup [.int (i:Int),.ref m])=H4 at *
   obtain ⟨x',ex',hx4⟩:=kC ho4 hq';rw [ex] at ex';cases ex';have mx:=hm x (zqb ex);have fx:=mx.fine;subst eB;show tSeq _ _ _ [some (.ref g),some (.ref q),some (.ref aw),some (.int i),some (.ref m),v5] H4;refine st λ N2 e2=>?_;ext;refine ⟨m,q,x.1.1,x.1.2.1,σ.1,x.1.2.2,σ.2,d,rfl,fB hx4,(hP.upS s4).s,fx,⋯,⋯,hσ.len,hσ.bits.le ∅,hσ.pos,by have:=hσ.le; omega,λ r H5 s5 hr5=>?_⟩;have mo:=jK hd hσ mx;refine ⟨r,mvT σ x.1,mvU σ x.1,rfl,hr5,by rw [mo.len]; omega,mo.pos,λ r2 H6 s6 hr6=>?_⟩;have s56:=s5.trans s6;have hr6':Dt K H6 (.ref r2) (plO (act d σ x.1)):=by rw [eK]; exact PlS.dt hr6.s
   have hD6:=hD4.up s56;have hl6:=s56 _ _ hl4;have ho6:=Paired.mapP ho4 λ _ (z:Dd × List Nat) h=>nZ (nY s56) 4 (mT z.1) h;have s06:=s4.trans s56;subst e2;ext;refine Kz hD6 (iJ (act d σ x.1)) hr6' ?_;rcases Fy (σ:=act d σ x.1) (D:=D) with ⟨z1,z2⟩ | ⟨n,z1,z2⟩
   case inr =>
    rw [z2]
    try ext
    exact ⟨s06,hl6,ho6,D,hD6,aT.old ex (zE.mpr ⟨_,z1,rfl⟩)⟩
   rw [z2]
   try ext
   refine iteT ?_;simp only [gSub];ext;have dl:D.length<=200:=by have:=aT.len; have:=(zqa ex).1; omega
   refine ⟨aw,_,r2,_,rfl,rfl,hD6,iJ (act d σ x.1),hr6',by rw [zqe]; exact vR dl ∅,λ H7 h7 h7' hD7=>?_⟩;have pn:pT (D.map entA) (plO (act d σ x.1)) (.int i)=(D++[(act d σ x.1,i)]).map entA:=by
    unfold pT;rw [z2,xD];rfl
   rw [pn] at hD7;obtain ⟨xs6,ex6,_⟩:=hD6.ex;have tk7:TK K H6 H7:=TK.off ex6 (λ _ z=>by cases z) (λ _ _ z=>by cases z) h7';exact ⟨λ b o e=>h7 b o (naw b o e) (s06 _ _ e),h7 _ _ law hl6,Paired.mapP ho6 λ _ (z:Dd × List Nat) h=>nZ tk7.t 4 (mT z.1) h,_,hD7,aT.new ex z1⟩
  ·rintro τ H3 ⟨D,v3,v4,v5,rfl,s3,hl3,ho3,hD3,aT⟩;rw [zqe,ll] at aT;subst e1;ext;refine nV λ B eB=>?_;simp only [iSeq];ext;have hlen:∀ e∈D,e.1.1.length=d:=λ e he=>by
    obtain ⟨y,ey,ea⟩:=aT.num e he;have mo:=jK hd hσ (hm y (zqb ey));rw [← ea,eK];show (nM _ _).length=d;unfold nM;rw [zqe];exact mo.len
   have D200:=yC aT.len l200;refine ⟨aw,D.map entA,[.int 0],(List.replicate d (0:Int)).map PyData.int,rfl,by rw [zqe]; exact D200,hD3,λ kv hkv=>?_,λ ls ps' H4 s4 hls els hps pm asc=>?_⟩
   ·obtain ⟨e,he,rfl⟩:=zE.mp hkv;exact Ea (ns:=List.replicate d 0) (u:=0) (by rw [rG,hlen e he])
   obtain ⟨D1,p1,p2⟩:=Az (f:=λ e:(SP') × Nat=>plO e.1) (l:=ps'.map (·.2)) (tb:=D) (by rw [xE] at pm; exact pm);have l1:ps'.length=D1.length:=by have:=xZ List.length p2; simpa using this.symm
   have dl:=p1.length_eq;refine ⟨false,ls,rfl,⟨_,SqB.lst els⟩,λ r hr4=>?_⟩;refine lC (λ j y H'=>∃ p q e,y=V.ref p/\p≠r/\D1[j]?=some e/\H' p=some (.tup [.ref q,.int ((e.2:Nat):Int)])/\Dt K H3 (.ref q) (plO e.1)) hr4 (SqB.lst els) (by rw [zqe]; omega) (λ _ _ _ _ ⟨p,q,e,f1,f2,f3,f4,f5⟩ sx=>⟨p,q,e,f1,f2,f3,sx _ _ f2 f4,f5⟩) ?_ ?_
   ·intro j y H5 zs ey s5 ez Q' hQ';obtain ⟨pv,hp',rfl⟩:=jS ey;obtain ⟨t1,t2⟩:=hps pv (zqb hp');obtain ⟨e,ee⟩:=lZ (l:=D1) rfl (show j < D1.length by have:=(zqa hp').1; omega);have e2:pv.2=plO e.1:=by
     have:=xZ (λ l=>l[j]?) p2;simp only [List.getElem?_map,hp',ee,Option.map_some] at this;exact (zT this).symm
    rw [e2] at t2 t1;obtain ⟨qa,eqa⟩:=Dj t2;rw [eqa] at t2;rw [eqa];have eD:=p1.mem_iff.mp (zqb ee);have s35:=s4.trans s5;subst eB;show tTup _ [some (.ref qa),some (.ref aw)] H5 Q';ext;rcases Fy (σ:=e.1) (D:=D) with ⟨z1,_⟩ | ⟨n,z1,z2⟩
    ·exact absurd (zE.mpr ⟨e,eD,rfl⟩) z1
    have en:n=e.2:=aT.one z1 eD;subst en;refine Dk (hD3.up s35) t1 (nZ (nY s35) 4 t1 t2) z2 ?_;refine ⟨by show 2<=sizeLine; decide,λ pn hpn=>?_⟩;exact hQ' _ _ (Same.new hpn) ⟨pn,qa,e,rfl,(λ z=>by rw [z,ez] at hpn; cases hpn),ee,oZ,t2⟩
   ·intro H5 ys s5 e5 hly hr5;obtain ⟨ps,rfl,hps5⟩:=Aj (F:=λ p (e:(SP') × Nat)=>∃ q,H5 p=some (.tup [.ref q,.int ((e.2:Nat):Int)])/\Dt K H5 (.ref q) (plO e.1)) (D:=D1) (ys:=ys) (by rw [hly,zqe,l1]) λ j y ej=>by
     obtain ⟨p,q,e,f1,_,f3,f4,f5⟩:=hr5 j y ej;exact ⟨p,e,f1,f3,q,f4,nZ (nY (s4.trans s5)) 4 (pl_t _ _) f5⟩
    have nd1:(D1.map (·.1)).Nodup:=(p1.map (·.1)).nodup_iff.mpr aT.nd;refine hQ r D1 H5 ((s3.trans s4).trans s5) (Ai (s3.trans s4) hr4) ⟨ps,e5,hps5⟩ ⟨?_,λ e he=>aT.num e (p1.mem_iff.mp he),λ y hy=>?_,nd1,by rw [dl]; exact aT.len⟩
    ·have a2:(ps'.map (·.2)).Pairwise λ p q=>lx (fl q) (fl p)=false:=wD.mpr asc;rw [← p2] at a2;have a3:=wD.mp a2;have r3:=Mp (f:=λ e:(SP') × Nat=>plO e.1) (l:=D1) ((wD.mp nd1).imp λ h e=>h (by rw [e])) (λ x hx y hy e=>?_) (λ x hx y hy=>Ea ((hlen x (p1.mem_iff.mp hx)).trans (hlen y (p1.mem_iff.mp hy)).symm)) a3
     ·exact r3
     ·have e1:=Mo.mp e;have m1:=p1.mem_iff.mp hx;have m2:=p1.mem_iff.mp hy;obtain ⟨x1,x2⟩:=x;obtain ⟨y1,y2⟩:=y;dsimp only at e1;subst e1;rw [aT.one m1 m2]
    ·obtain ⟨j,hj⟩:=xS hy;exact (p1.map (·.1)).mem_iff.mpr (aT.all j y (zqa hj).1 hj)
noncomputable def ownX (d:Nat) (σ:SP') (T:List Dd):List Dd:=(ownL d σ T).map (exD σ)
theorem Mn {d:Nat} {σ:SP'} {T:List Dd} {x:Dd}:ownX d σ (T++[x])=ownX d σ T++if act d σ x=act d σ (nP d) then [exD σ x] else []:=by
 unfold ownX ownL;rw [List.filter_append,xD];congr 1
 by_cases h:act d σ x=act d σ (nP d)
 ·rw [if_pos h,oB (by simpa using h)];rfl
 ·rw [if_neg h,oC (by simpa using h)];rfl
theorem Ah {d:Nat} {σ:SP'} {T:List Dd}:(ownX d σ T).length<=T.length:=by
 unfold ownX ownL;rw [zqe];exact List.length_filter_le _ _
def DlAt (K:Frag) (H:Hp) (r:Addr) (L:List Dd):Prop:=∃ ps:LA,H r=some (.lst (ps.map V.ref))/\Paired (λ p x=>Dt K H (.ref p) (dat x)) ps L
theorem DlAt.up {K:Frag} {H H':Hp} {r:Addr} {L:List Dd} (h:DlAt K H r L) (s:Same H H'):DlAt K H' r L:=by
 obtain ⟨ps,h1,h2⟩:=h;exact ⟨ps,s _ _ h1,Paired.mapP h2 λ _ x z=>nZ (nY s) 4 (mT x) z⟩
def sp_m (K:Frag) (t:Adr):Sp:=λ vs H Q _=>E6 λ (g q:Addr) (d:Nat) (ms:List Dd) (srt:Tb) (σ:SP')=>A8 (vs=[.ref g,.ref q,.ref q]) (GrpF K t H g d ms srt) ((d=2\/d=3)) ((∀ y∈srt,MbOk d y.1)) (srt.length<=200) (mB H q σ.1 σ.2) (SpOk d σ) (∀ r H',Same H H'->H r=none->DlAt K H' r (ownX d σ (srt.map (·.1)))->Q (.ref r) H')
theorem Mm {d:Nat} {σ:SP'} {ms:LI'} (hσ:SpOk d σ) (hm:mK 120 ms):mK 121 (gapT σ.2 σ.1 ms):=λ z hz=>by
 obtain ⟨i,n,m,en,em,rfl⟩:=Ej hz;have b1:=hσ.bits _ (zqb en);have b2:=hm _ (zqb em);exact Mt hσ.pos b1 b2
theorem Ml {d:Nat}:mW 200000 (idM d):=λ r hr z hz=>zI (show z.natAbs < 2 ^ 1 from vR (Ek r hr z hz) ∅) (yT ∅ ∅)
theorem Xg {d:Nat} (hd:d=2\/d=3) {σ:SP'} {x:Dd} (hσ:SpOk d σ) (hx:MbOk d x):(redU (σ.2*mvU σ x) (sumT σ.1 σ.2 ((mvT σ x).map (-·)) (mvU σ x))=1 ↔ act d σ x=act d σ (nP d))/\(act d σ x=act d σ (nP d)->redT (σ.2*mvU σ x) (sumT σ.1 σ.2 ((mvT σ x).map (-·)) (mvU σ x))=gapT σ.2 σ.1 (mvT σ x)):=by
 have mo:=jK hd hσ hx;have key:Kp σ x->redU (σ.2*mvU σ x) (sumT σ.1 σ.2 ((mvT σ x).map (-·)) (mvU σ x))=1/\redT (σ.2*mvU σ x) (sumT σ.1 σ.2 ((mvT σ x).map (-·)) (mvU σ x))=gapT σ.2 σ.1 (mvT σ x):=λ k=>by
  have:=Xl (ns:=σ.1) (ms:=mvT σ x) (hσ.len.trans mo.len.symm) hσ.pos k.2;rw [k.1];exact this
 rw [← Ef hd hσ];exact ⟨⟨λ h=>Xm (hσ.len.trans mo.len.symm) hσ.pos mo.pos hσ.low mo.low h,λ k=>(key k).1⟩,λ k=>(key k).2⟩
theorem ok_m (T:Txt K mg t):FnOk P w K mg base CX0 9 t.a_m t.d_m po' (sp_m K t):=by
 have G_7:=@ok_7 P w K mg base t T;have G_u:=@ok_u P w K mg base t T;have G_16:=@ok_16 P w K mg base t T;have G_12:=@ok_12 P w K mg base t T;have G_1d:=@ok_1d P w K mg base t T;refine T.F_m.ok sc_m (by walk_at "v") (λ cdv A outer s H vs Q E hr h=>?_)
 ·have hu:=hr.units;obtain ⟨g,q,d,ms,srt,σ,rfl,hG,hd,hm,l200,hP,hσ,hQ⟩:=h;refine ⟨_,(oU (nJ (i:=3) sc_m.nd rfl (Or.inl rfl) (kX oR))
   (oU (kG yR rfl (mJ (Aa (C:=t.a_z) (pq 0) T.cl_z T.me_7 G_7 hr.mo T.b_7 .nil nC)) (mD (i:=4) sc_m.nd rfl (Or.inl rfl))
   (oU (nJ (i:=5) sc_m.nd rfl (Or.inl rfl) (nB G_u hr.mo rfl T.m_u T.F_u.kp T.b_u .nil nC (oQ (pq 2) (oQ (nB G_16 hr.mo rfl T.m_16 T.F_16.kp T.b_16 .nil nC (oQ (pq 4) (oQ (pq 1) oR))) oR))))
   (oX (mH (nW kY (oT ix_B (pq 5) oS (λ _ _=>rfl)) oS (nS _))
   (oX (iM (eY wC vE vD fD (pq 3) (oQ (nB G_12 hr.mo rfl T.m_12 T.F_12.kp T.b_12 .nil nC (oQ (pq 4) (oQ (nB G_1d hr.mo rfl T.m_1d T.F_1d.kp T.b_1d .nil nC (oQ (pq 5) oR)) oR))) oR))))
   mG))))
   (oX (nH (pq 3))))),?_⟩
  show tSeq _ _ _ [some (.ref g),some (.ref q),some (.ref q),none,none,none] H;refine st λ N1 e1=>?_;ext;refine ⟨by show 0<=sizeLine; decide,λ r hr0=>?_⟩;have s1:Same H (upd H r (.lst [])):=Same.new hr0;have er:(upd H r (.lst [])) r=some (.lst ([]:List V)):=oZ;generalize upd H r (.lst [])=H1 at s1 er;subst e1;refine st λ N1 e1=>kI λ B eB=>?_;simp only [iSeq];ext;simp only [bD];ext;have hG1:=hG.up s1;obtain ⟨dx,fs,i1,i2⟩:=Fx hG1;refine ⟨dx,fs,i1,i2,g,d,ms,srt,rfl,hG1,λ l os H2 s2 hl0 hl hos=>?_⟩;have ll:os.length=srt.length:=mV hos;refine ⟨false,l,rfl,⟨_,SqB.lst hl⟩,?_⟩;have lr:l≠r:=λ z=>by rw [z,er] at hl0; cases hl0
  have s02:=s1.trans s2;refine iB (b:=false) (g:=oW 4) (tb:=B) (λ i τ H'=>∃ (ps:LA) (v4 v5:Option V),τ=[some (.ref g),some (.ref q),some (.ref q),some (.ref r),v4,v5]/\Same H H'/\H' l=some (.lst (os.map V.ref))/\Paired (λ p x=>Dt K H' (.ref p) (dat x.1)) os srt/\H' r=some (.lst (ps.map V.ref))/\Paired (λ p x=>Dt K H' (.ref p) (dat x)) ps (ownX d σ ((srt.map (·.1)).take i)))
   ⟨[],none,none,rfl,s02,hl,hos,s2 _ _ er,.nil⟩ (λ i τ H' _ ⟨_,_,_,_,_,h,_⟩=>SqB.lst h) ?_ ?_
  ·rintro i y τ H3 ey ⟨ps,v4,v5,rfl,s3,hl3,ho3,er3,hp3⟩;obtain ⟨m,hq',rfl⟩:=jS ey;obtain ⟨x,ex,hx3⟩:=kC ho3 hq';have mx:=hm x (zqb ex);have fx:=mx.fine;have mo:=jK hd hσ mx;have ex1:(srt.map (·.1))[i]?=some x.1:=by rw [zB,ex]; rfl
   have tk1:(srt.map (·.1)).take (i+1)=(srt.map (·.1)).take i++[x.1]:=Ds ex1;obtain ⟨kg1,kg2⟩:=Xg hd hσ mx;subst eB;show tSeq _ _ _ [some (.ref g),some (.ref q),some (.ref q),some (.ref r),some (.ref m),v5] H3;refine st λ N2 e2=>?_;ext;have v1:=hσ.le;have v2:=mo.le;refine ⟨m,q,x.1.1,x.1.2.1,σ.1,x.1.2.2,σ.2,d,rfl,fB hx3,(hP.upS s3).s,fx,⋯,⋯,hσ.len,hσ.bits.le ∅,hσ.pos,⋯,λ r4 H4 s4 hr4=>?_⟩;refine ⟨q,r4,σ.1,mvT σ x.1,σ.2,mvU σ x.1,d,rfl,hP.upS (s3.trans s4),hr4,hσ.len,mo.len,hd,hσ.bits.le ∅,mo.bits.le ∅,hσ.pos,⋯,mo.pos,⋯,λ r5 H5 s5 hr5=>?_⟩;have s35:=s4.trans s5;have hl5:=s35 _ _ hl3;have er5:=s35 _ _ er3;have ho5:=Paired.mapP ho3 λ _ (z:Dd × List Nat) h=>nZ (nY s35) 4 (mT z.1) h;have hp5:=Paired.mapP hp3 λ _ (z:Dd) h=>nZ (nY s35) 4 (mT z) h;have hx5:Dt K H5 (.ref m) (dat x.1):=nZ (nY s35) 4 (mT x.1) hx3;have s05:=s3.trans s35;subst e2;ext;refine iH hr5.s ?_
   by_cases hk:act d σ x.1=act d σ (nP d)
   case neg =>
    try ext
    rw [zQ (λ z=>hk (kg1.mp z))]
    try ext
    refine ⟨s05,hl5,ho5,ps,er5,?_⟩;rw [tk1,Mn,if_neg hk,vV];exact hp5
   have k1:=kg1.mpr hk;rw [k1,kg2 hk] at hr5;rw [k1]
   try ext
   refine ⟨tyL er5,?_⟩;have lg:=Am (v:=σ.2) hσ.len mo.len;refine ⟨r5,gapT σ.2 σ.1 (mvT σ x.1),1,d,rfl,hr5,lg,hd,∅,jI (B:=1) ∅ ∅,λ r6 H6 s6 hr6=>?_⟩;obtain ⟨a1,a2⟩:=eJ (u:=1) (ns:=gapT σ.2 σ.1 (mvT σ x.1)) ∅ (Do _);rw [a1,a2] at hr6;have fg:Fine d (idM d) (gapT σ.2 σ.1 (mvT σ x.1)) 1:=⟨iI,lg,∅,Ml,(Mm hσ mo.bits).le ∅,∅⟩;refine ⟨m,r6,x.1.1,idM d,x.1.2.1,gapT σ.2 σ.1 (mvT σ x.1),x.1.2.2,1,d,rfl,(fB hx5).up s6,hr6.s,fx,fg,⋯,⋯,λ r7 H7 s7 hr7=>?_⟩;have hr7':DdAt K H7 r7 (behD d x.1 (idM d,gapT σ.2 σ.1 (mvT σ x.1),1)):=hr7;rw [Xj hd hσ mx] at hr7';have s57:=s6.trans s7;have er7:=s57 _ _ er5;have lps:ps.length<=200:=by
    rw [mV hp5];refine yC Ah ?_;rw [xA,zqe];omega
   refine ⟨r,_,_,rfl,rfl,er7,by rw [zqe]; exact yC (show ps.length+1<=1000 by omega) ∅,?_⟩;have tk:TK K H7 (upd H7 r (.lst (ps.map V.ref++[.ref r7]))):=TK.off er7 (λ _ z=>by cases z) (λ _ _ z=>by cases z) λ _ hc=>nD hc;refine ⟨Same.over hr0 (s05.trans s57),by rw [nD lr]; exact s57 _ _ hl5,Paired.mapP ho5 λ _ (z:Dd × List Nat) h=>nZ tk.t 4 (mT z.1) (nZ (nY s57) 4 (mT z.1) h),ps++[r7],by rw [oZ,xD]; rfl,?_⟩;rw [tk1,Mn,if_pos hk];exact rL (Paired.mapP hp5 λ _ (z:Dd) h=>nZ tk.t 4 (mT z) (nZ (nY s57) 4 (mT z) h)) (nZ tk.t 4 (mT _) hr7'.dt)
  ·rintro τ H3 ⟨ps,v4,v5,rfl,s3,hl3,ho3,er3,hp3⟩;rw [zqe,ll,← zqe (f:=λ x:Dd × List Nat=>x.1),uC] at hp3;subst e1;ext;exact hQ r H3 s3 hr0 ⟨ps,er3,hp3⟩
theorem Xf {d:Nat}:lR d (nP d):=⟨iI,by show (List.replicate d (0:Int)).length=d; rw [rG],by show (0:Int) < 1; decide,Ml,λ z hz=>by
 rw [List.eq_of_mem_replicate (show z∈List.replicate d (0:Int) from hz)];exact wZ _,by show (1:Int) < 2 ^ 1500; decide⟩
theorem Mj {d:Nat} (hd:d=2\/d=3) {σ:SP'} {x:Dd} (hσ:SpOk d σ) (hx:MbOk d x):lR d (exD σ x):=⟨hx.sq,Al hd hσ hx,hx.pos,hx.bm.le ∅,(Mr hd hσ hx).le ∅,by show x.2.2 < 2 ^ 1500; have:=hx.le; omega⟩
theorem Mi {K:Frag} {H:Hp} {ps:LA} {L:List Dd} (h:Paired (λ p x=>Dt K H (.ref p) (dat x)) ps L):∃ qs:List (V × PyData),qs.map (·.1)=ps.map V.ref/\qs.map (·.2)=L.map dat/\∀ q∈qs,Dt K H q.1 q.2:=by
 induction h with
 | nil=>exact ⟨[],rfl,rfl,λ q hq=>by cases hq⟩
 | @cons p x ps L hd _ ih =>
  obtain ⟨qs,a,b,c⟩:=ih;refine ⟨(.ref p,dat x) :: qs,by rw [zG,zG,a],by rw [zG,zG,b],λ q hq=>?_⟩;rcases zL.mp hq with e | e
  ·rw [e]; exact hd
  ·exact c q e
theorem Mh {K:Frag} {H:Hp}:∀ {ps:List (V × PyData)} {L:List Dd},L.map dat=ps.map (·.2)->(∀ p∈ps,Dt K H p.1 p.2)->∃ os:LA,ps.map (·.1)=os.map V.ref/\Paired (λ p x=>Dt K H (.ref p) (dat x)) os L
 | [],[],_,_=>⟨[],rfl,.nil⟩
 | p :: ps,x :: L,e,h=>by
  rw [zG,zG,yE] at e;obtain ⟨os,e1,e3⟩:=Mh (ps:=ps) (L:=L) e.2 λ x hx=>h x (.tail _ hx);have h1:=h p (.head _);rw [← e.1] at h1;obtain ⟨q,eq⟩:=Dj h1;rw [eq] at h1;exact ⟨q :: os,by rw [zG,e1,eq]; rfl,.cons h1 e3⟩
theorem own_mem {d:Nat} {σ:SP'} {T:List Dd} {z:Dd} (h:z∈ownX d σ T):∃ x∈T,act d σ x=act d σ (nP d)/\z=exD σ x:=by
 obtain ⟨x,hx,rfl⟩:=zE.mp h;obtain ⟨h1,h2⟩:=vU.mp hx;exact ⟨x,h1,yO h2,rfl⟩
theorem Xe {d:Nat} (hd:d=2\/d=3) {σ:SP'} (hσ:SpOk d σ) {T:List Dd} (hm:∀ x∈T,MbOk d x) (nd:T.Nodup):(ownX d σ T).Nodup:=by
 refine Ap (nd.filter _) λ x hx y hy e=>?_;have h:=xZ nO e;rw [Ed hd hσ (hm x (vU.mp hx).1),Ed hd hσ (hm y (vU.mp hy).1)] at h;exact h
def sp_1f (K:Frag) (t:Adr):Sp:=λ vs H Q _=>E6 λ (g q:Addr) (d:Nat) (ms:List Dd) (srt:Tb) (σ:SP')=>A9 (vs=[.ref g,.ref q]) (GrpF K t H g d ms srt) ((d=2\/d=3)) ((∀ y∈srt,MbOk d y.1)) (srt.length<=200) ((srt.map (·.1)).Nodup) (mB H q σ.1 σ.2) (SpOk d σ) (∀ r L H',Same H H'->H r=none->DlAt K H' r L->L.Perm (ownX d σ (srt.map (·.1)))->(L.Pairwise λ a b=>lx (fl (dat a)) (fl (dat b))=true)->Q (.ref r) H')
theorem ok_1f (T:Txt K mg t):FnOk P w K mg base CX0 10 t.a_1f t.d_1f py' (sp_1f K t):=by
 have G_m:=@ok_m P w K mg base t T;refine T.F_1f.ok sc_1f (by walk_at "v") (λ cdv A outer s H vs Q E hr h=>?_)
 ·have hu:=hr.units;obtain ⟨g,q,d,ms,srt,σ,rfl,hG,hd,hm,l200,nd,hP,hσ,hQ⟩:=h;refine ⟨_,(oX (nH (nK (Ts (N:=200) Dm hu) rfl T.z_sorted (nofun) (oQ (nB G_m hr.mo rfl T.m_m T.F_m.kp T.b_m .nil nC (oQ (pq 0) (oQ (pq 1) (oQ (pq 1) oR)))) oR)))),?_⟩;show tRet _ _ [some (.ref g),some (.ref q)] H;ext;refine ⟨g,q,d,ms,srt,σ,rfl,hG,hd,hm,l200,hP,hσ,λ r H1 s1 hr0 hL=>?_⟩;obtain ⟨ps,h1,h2⟩:=hL;obtain ⟨qs,a,b,c⟩:=Mi h2;have hm':∀ x∈srt.map (·.1),MbOk d x:=λ x hx=>by
   obtain ⟨y,hy,rfl⟩:=zE.mp hx;exact hm y hy
  have nX:=Xe hd hσ hm' nd;have fX:∀ z∈ownX d σ (srt.map (·.1)),lR d z:=λ z hz=>by
   obtain ⟨x,hx,_,rfl⟩:=own_mem hz;exact Mj hd hσ (hm' x hx)
  have ql:qs.length<=200:=by
   have:=xZ List.length b;rw [zqe,zqe] at this;rw [this];refine yC Ah ?_;rw [zqe];exact l200
  have qin:∀ q∈qs,∃ z∈ownX d σ (srt.map (·.1)),q.2=dat z:=λ q hq=>by
   have:q.2∈(ownX d σ (srt.map (·.1))).map dat:=by rw [← b]; exact zE.mpr ⟨q,hq,rfl⟩
   obtain ⟨z,hz,e⟩:=zE.mp this;exact ⟨z,hz,e.symm⟩
  refine ⟨r,qs,[.tuple ((List.replicate d (0:Int)).map PyData.int),.int 1],(idM d).map (λ r=>PyData.tuple (r.map PyData.int)),rfl,ql,by rw [a]; exact SqL.of h1,λ q hq=>?_,λ r2 ps' H2 s2 hr2 e2 pm asc=>?_⟩
  ·obtain ⟨z,hz,e⟩:=qin q hq;refine ⟨by rw [e]; exact mT z,?_,c q hq⟩;rw [e];exact aZ Xf (fX z hz)
  obtain ⟨L,p1,p2⟩:=Az (f:=dat) (l:=ps'.map (·.2)) (tb:=ownX d σ (srt.map (·.1))) (by rw [← b]; exact pm.map _);obtain ⟨os,o1,o2⟩:=Mh (K:=K) (H:=H2) p2 λ p hp=>by
   have hq:=pm.mem_iff.mp hp;obtain ⟨z,hz,e⟩:=qin p hq;exact nZ (nY s2) 4 (by rw [e]; exact mT z) (c p hq)
  rw [o1] at e2;refine hQ r2 L H2 (s1.trans s2) (Ai s1 hr2) ⟨os,e2,o2⟩ p1 ?_;have a2:(ps'.map (·.2)).Pairwise λ p q=>lx (fl q) (fl p)=false:=wD.mpr asc;rw [← p2] at a2;exact Mp (f:=dat) (p1.nodup_iff.mpr nX) (λ x _ y _ e=>aV.mp e) (λ x hx y hy=>aZ (fX x (p1.mem_iff.mp hx)) (fX y (p1.mem_iff.mp hy))) (wD.mp a2)
def sp_s (K:Frag):Sp:=λ vs H Q _=>E5 λ (m q:Addr) (d:Nat) (x:Dd) (σ:SP')=>A8 (vs=[.ref m,.ref q]) (Dt K H (.ref m) (dat x)) (MbOk d x) ((d=2\/d=3)) (mB H q σ.1 σ.2) (SpOk d σ) ((act d σ x≠act d σ (nP d)->∀ H',Same H H'->Q .non H')) ((act d σ x=act d σ (nP d)->∀ r H',Same H H'->Dt K H' (.ref r) (dat (exD σ x))->Q (.ref r) H'))
theorem MbOk.bt' {d:Nat} {x:Dd} (h:MbOk d x):mK 7 x.2.1:=λ z hz=>by
 have:=h.bt z hz;omega
theorem ok_s (T:Txt K mg t):FnOk P w K mg base CX0 4 t.a_s t.d_s pq' (sp_s K):=by
 have G_5:=@ok_5 P w K mg base t T;have G_f:=@ok_f P w K mg base t T;refine T.F_s.ok sc_s (by walk_at "v") (λ cdv A outer s H vs Q E hr h=>?_)
 ·have hu:=hr.units;obtain ⟨m,q,d,x,σ,rfl,hx,mx,hd,hP,hσ,hN,hY⟩:=h;have mo:=jK hd hσ mx;have x1:=mx.le;have x2:=mx.pos;have v1:=hσ.le;have v2:=hσ.pos;have dS:=fB hx;refine ⟨_,(oU (nJ (i:=2) sc_s.nd rfl (Or.inr rfl) (nB G_5 hr.mo rfl T.m_5 T.F_5.kp T.b_5 .nil nC (oQ (pq 0) (oQ (pq 1) oR))))
   (oU (mH (nW (bE hu) (nB G_f hr.mo rfl T.m_f T.F_f.kp T.b_f .nil nC (oQ (pq 2) oR)) (nB G_f hr.mo rfl T.m_f T.F_f.kp T.b_f .nil nC (oQ (pq 1) oR)) (nS _))
   (oX (nH Fq))
   mG)
   (oU (nJ (i:=3) sc_s.nd rfl (Or.inr rfl) (mE (xs:=["_law_k"]) (fr:=[("_law_spot",1),("_law_reached_here",2)]) (g:=(oW 0)) (tt:=(tEl (tOp (rI jM λ i j=>.int (i.fdiv j)) (tOp (rI0 λ i j=>.int (i - j)) (tOp (rIxB K) (tOp (rIxB K) (tVar 1) (tC (.int 0))) (tVar 0)) (tOp (rIxB K) (tOp (rIxB K) (tVar 2) (tC (.int 0))) (tVar 0))) (tOp (rIxB K) (tVar 1) (tC (.int 1)))))) (nR (sc:=oV cG) (N:=N_s) rfl rfl (nofun)) rfl (lM rfl T.z_range (oQ (nK mC rfl T.z_len (nofun) (oQ (oT ix_B (pq 1) oS (λ _ _=>rfl)) oR)) oR)) (λ _ _ _ hE1=>(nU (N:=["_law_k","_law_spot","_law_reached_here"]) (i:=0) hE1 rfl (nofun))) (λ _ _ _ hE1=>(nT (oY kN (oY jT (oT ix_B (oT ix_B (pv 1) oS (λ _ _=>rfl)) (pv 0) (λ _ _=>rfl)) (oT ix_B (oT ix_B (pv 2) oS (λ _ _=>rfl)) (pv 0) (λ _ _=>rfl))) (oT ix_B (pv 1) oS (λ _ _=>rfl)))))))
   (oX (nH (mZ (oQ (oT ix_B (pq 0) oS (λ _ _=>rfl)) (oQ (lJ jZ rfl T.z_tuple (nofun) (oQ (mE (xs:=["_law_k"]) (fr:=[("_law_one",0),("_law_step_here",3)]) (g:=(oW 0)) (tt:=(tEl (tOp (rI0 λ i j=>.int (i+j)) (tOp (rIxB K) (tOp (rIxB K) (tVar 1) (tC (.int 1))) (tVar 0)) (tOp (rI (λ i j=>IntMulOk i j) λ i j=>.int (i*j)) (tOp (rIxB K) (tVar 2) (tVar 0)) (tOp (rIxB K) (tVar 1) (tC (.int 2))))))) (nR (sc:=oV cG) (N:=N_s) rfl rfl (nofun)) rfl (lM rfl T.z_range (oQ (nK mC rfl T.z_len (nofun) (oQ (pq 3) oR)) oR)) (λ _ _ _ hE1=>(nU (N:=["_law_k","_law_one","_law_step_here"]) (i:=0) hE1 rfl (nofun))) (λ _ _ _ hE1=>(nT (oY lF (oT ix_B (oT ix_B (pv 1) oS (λ _ _=>rfl)) (pv 0) (λ _ _=>rfl)) (oY mP (oT ix_B (pv 2) (pv 0) (λ _ _=>rfl)) (oT ix_B (pv 1) oS (λ _ _=>rfl))))))) oR)) (oQ (oT ix_B (pq 0) oS (λ _ _=>rfl)) oR))))))))),?_⟩
  show tSeq _ _ _ [some (.ref m),some (.ref q),none,none] H;refine st λ N1 e1=>?_;ext;refine ⟨m,q,x,σ.1,σ.2,d,rfl,dS,hP.s,mx.sq,hd,mx.len,hσ.len,mx.bm.le ∅,mx.bt'.le ∅,hσ.bits.le ∅,x2,⋯,v2,⋯,λ r H1 s1 hr1=>?_⟩;have hr1':mB H1 r (mvT σ x) (mvU σ x):=hr1;subst e1;refine st λ N1 e1=>?_;ext;refine ⟨r,mvT σ x,mvU σ x,rfl,hr1'.s,by rw [mo.len]; omega,mo.pos,λ r2 H2 s2 hr2=>?_⟩;refine ⟨q,σ.1,σ.2,rfl,(hP.upS (s1.trans s2)).s,by rw [hσ.len]; omega,v2,λ r3 H3 s3 hr3=>?_⟩;have ea:act d σ x=act d σ (nP d) ↔ (nM (mvU σ x) (mvT σ x)=nM σ.2 σ.1/\mvU σ x=σ.2):=by
   rw [← Ef hd hσ];unfold Kp;constructor
   ·rintro ⟨a,b⟩;rw [a]; exact ⟨b,rfl⟩
   ·rintro ⟨a,b⟩;rw [b] at a; exact ⟨b,a⟩
  have s03:=(s1.trans s2).trans s3
  by_cases hk:act d σ x=act d σ (nP d)
  case neg =>
   refine dL 3 ∅ (PlS.dt (hr2.upS s3).s) (PlS.dt hr3.s) (kU _ _) (kU _ _) (b:=false) (by rw [Eb,← ea]; simp [hk]) ?_;ext;exact hN hk H3 s03
  refine dL 3 ∅ (PlS.dt (hr2.upS s3).s) (PlS.dt hr3.s) (kU _ _) (kU _ _) (b:=true) (by rw [Eb,← ea]; simp [hk]) ?_;ext;have hr3':mB H3 r (mvT σ x) (mvU σ x):=hr1'.upS (s2.trans s3);have hP3:=hP.upS s03;subst e1;refine st λ N1 e1=>?_;ext;refine nV λ B eB=>?_;simp only [mU];ext;refine jG hP3.s λ z hz=>lU (b:=true) hz ⟨_,rfl,by rw [hσ.len]; omega,by rw [hσ.len]; omega,λ a1 ha1=>?_⟩;rw [zV,hσ.len];refine lY (λ k y _=>∃ n,(gapT σ.2 σ.1 (mvT σ x))[k]?=some n/\y=.int n) ha1 ⋯ (λ _ _ _ _ r _=>r) ?_ ?_
  ·intro k H4 zs hk4 s4 ez Q4 hQ4;obtain ⟨n,en⟩:=lZ hσ.len hk4;obtain ⟨mm,em⟩:=lZ mo.len hk4;subst eB;show tOp _ _ _ [some (.int (0+(k:Int))),some (.ref q),some (.ref r)] H4 Q4;ext;refine jG (hP3.upS s4).s λ z1 hz1=>⟨true,z1,_,_,_,rfl,rfl,(hz1:SqB true K H4 z1 _),mY (lQ en) ⋯,?_⟩;refine jG (hr3'.upS s4).s λ z2 hz2=>⟨true,z2,_,_,_,rfl,rfl,(hz2:SqB true K H4 z2 _),mY (lQ em) ⋯,?_⟩
   try ext
   refine iH (hP3.upS s4).s ?_
   try ext
   refine ⟨⟨⋯,Du (jI (B:=9) ⋯ ∅) ⋯⟩,?_⟩;exact hQ4 _ _ (Same.refl _) ⟨_,iS en em,rfl⟩
  ·intro H4 ys s4 e4 hly hr4;have lg:=Am (v:=σ.2) hσ.len mo.len;have ey:ys=(gapT σ.2 σ.1 (mvT σ x)).map V.int:=mS (by rw [hly,lg]) hr4;subst ey;have s04:=s03.trans s4;have d4:=dS.up s04;subst e1;ext;refine aU d4 λ y0 hy0=>?_
   try ext
   refine nV λ B eB=>?_;simp only [mU];ext;refine lU (SqB.lst e4) ⟨_,rfl,by rw [lg]; omega,by rw [lg]; omega,λ a2 ha2=>?_⟩;rw [zV,lg];have gb:=Mm hσ mo.bits;refine lY (λ k y _=>∃ n,(exD σ x).2.1[k]?=some n/\y=.int n) ha2 ⋯ (λ _ _ _ _ r _=>r) ?_ ?_
   ·intro k H5 zs hk5 s5 ez Q5 hQ5;obtain ⟨tt,et⟩:=lZ mx.len hk5;obtain ⟨gg,eg⟩:=lZ lg hk5;subst eB;show tOp _ _ _ [some (.int (0+(k:Int))),some (.ref m),some (.ref a1)] H5 Q5;ext;refine Dr (d4.up s5) λ z1 hz1=>⟨true,z1,_,_,_,rfl,rfl,(hz1:SqB true K H5 z1 _),mY (lQ et) ⋯,?_⟩;refine ⟨false,a1,_,_,_,rfl,rfl,SqB.lst (s5 _ _ e4),mY (lQ eg) ⋯,?_⟩;refine cI (d4.up s5) ?_
    try ext
    refine ⟨yU (mF (gb _ (zqb eg))) (mF (show x.2.2.natAbs < 2 ^ 7 by omega)) ∅,?_⟩;exact hQ5 _ _ (Same.refl _) ⟨_,iS et eg,rfl⟩
   ·intro H5 ys s5 e5 hly5 hr5;have ey:ys=(exD σ x).2.1.map V.int:=mS (by rw [hly5,Al hd hσ mx]) hr5;subst ey;refine ⟨a2,_,rfl,.inl ⟨SqL.of e5,λ l hl1=>?_⟩⟩;have s6:Same H5 (upd H5 l (.tup ((exD σ x).2.1.map V.int))):=Same.new hl1;have el:(upd H5 l (.tup ((exD σ x).2.1.map V.int))) l=some (.tup ((exD σ x).2.1.map V.int)):=oZ;generalize upd H5 l (.tup ((exD σ x).2.1.map V.int))=H6 at s6 el;refine cI ((d4.up s5).up s6) ?_;refine ⟨(by show 3<=sizeLine; decide),λ p' hp'=>hY hk p' _ (((s04.trans s5).trans s6).trans (Same.new hp')) ?_⟩;refine DdS.dt (x:=exD σ x) ⟨y0,l,SqT.of oZ,hy0.up ((s5.trans s6).trans (Same.new hp')),SqT.of (Same.new hp' _ _ el)⟩
theorem Fw {d:Nat} (hd:d=2\/d=3) {σ:SP'} (hσ:SpOk d σ) {srt:Tb} (hm:∀ y∈srt,MbOk d y.1) {D:Alk} (hD:gL d σ srt D) {e:(SP') × Nat} (he:e∈D):∃ y,srt[e.2]?=some y/\act d σ y.1=e.1/\e.1.1.length=d/\0 < e.1.2/\e.1.2<=72*288/\gl e.1.2 e.1.1=1/\nM e.1.2 e.1.1=e.1.1:=by
 obtain ⟨y,ey,ea⟩:=hD.num e he;have mo:=jK hd hσ (hm y (zqb ey));refine ⟨y,ey,ea,?_⟩;rw [← ea,eK];refine ⟨by show (nM _ _).length=d; unfold nM; rw [zqe]; exact mo.len,mo.pos,mo.le,?_,Ut mo.pos _⟩;show gl (mvU σ y.1) ((mvT σ y.1).map λ t=>t.fmod (mvU σ y.1))=1;rw [Jn];exact mo.low
def iV (K:Frag) (H:Hp) (l:Addr) (srt:Tb):Prop:=∃ os:LA,H l=some (.lst (os.map V.ref))/\Paired (λ p x=>Dt K H (.ref p) (dat x.1)) os srt
theorem iV.up {K:Frag} {H H':Hp} {l:Addr} {srt:Tb} (h:iV K H l srt) (s:Same H H'):iV K H' l srt:=by
 obtain ⟨os,h1,h2⟩:=h;exact ⟨os,s _ _ h1,Paired.mapP h2 λ _ (z:Dd × List Nat) h=>nZ (nY s) 4 (mT z.1) h⟩
theorem Mg {K:Frag} {H:Hp} {l:Addr} {srt:Tb} {Q:VK} {n:Nat} {I:Int} {y:Dd × List Nat} (h:iV K H l srt) (e:srt[n]?=some y) (hI:I=n) (q:∀ p,Dt K H (.ref p) (dat y.1)->Q (.ref p) H):rIxB K (.ref l) (.int I) H Q:=by
 obtain ⟨os,h1,h2⟩:=h;obtain ⟨p,ep⟩:=lZ (mV h2) (zqa e).1;obtain ⟨y',ey,hp⟩:=kC h2 ep;rw [e] at ey;cases ey;exact cK (i:=n) h1 (by rw [zB,ep]; rfl) hI (q p hp)
def sp_4 (K:Frag):Sp:=λ vs H Q _=>E7 λ (r l q:Addr) (d:Nat) (srt:Tb) (σ:SP') (D:Alk)=>A10 (vs=[.ref r,.ref l,.ref q]) (iU K H r D) (gL d σ srt D) (iV K H l srt) ((∀ y∈srt,MbOk d y.1)) (srt.length<=200) (mB H q σ.1 σ.2) (SpOk d σ) ((d=2\/d=3)) (∀ H',Same H H'->Q (.bl true) H')
theorem ok_4 (T:Txt K mg t):FnOk P w K mg base CX0 4 t.a_4 t.d_4 pb' (sp_4 K):=by
 have G_c:=@ok_c P w K mg base t T;have G_j:=@ok_j P w K mg base t T;have G_5:=@ok_5 P w K mg base t T;have G_f:=@ok_f P w K mg base t T;have G_h:=@ok_h P w K mg base t T;refine T.F_4.ok sc_4 (by walk_at "v") (λ cdv A outer s H vs Q E hr h=>?_)
 ·have hu:=hr.units;obtain ⟨r,l,q,d,srt,σ,D,rfl,hA,hD,hM,hm,l200,hP,hσ,hd,hQ⟩:=h;obtain ⟨ps,h1,h2⟩:=id hA;have lp:ps.length=D.length:=mV h2;have Dl:D.length<=200:=yC hD.len l200;have isT:∀ (a:Addr) (xs:List V) (Q':VK) (H:Hp),SqT K H a xs->Q' (.bl true) H->rIsi K [.ref a,.ty "tuple"] H Q':=λ a xs Q' H h1 h2=>⟨_,_,_,_,rfl,.tupS h1,rfl,T.h_c,h2⟩;have v1:=hσ.le;have v2:=hσ.pos;refine ⟨_,(oU (mH (kM (kD (nK iZ rfl T.z_isinstance (nofun) (oQ (pq 0) (oQ (iW (v:=.ty "list") rfl T.z_list (nofun) rfl) oR)))))
   (oX (nH kW))
   mG)
   (oU (kG yR rfl (mJ (pq 0)) (mD (i:=3) sc_4.nd rfl (Or.inl rfl))
   (oU (mH (PW.pt (kL (kM (kD (nK iZ rfl T.z_isinstance (nofun) (oQ (pq 3) (oQ (iW (v:=.ty "tuple") rfl T.z_tuple (nofun) rfl) oR))))) (kL (nW jN (nK mC rfl T.z_len (nofun) (oQ (pq 3) oR)) oS (nS _)) (iL (kM (kD (nB G_c hr.mo rfl T.m_c T.F_c.kp T.b_c .nil nC (oQ (oT ix_B (pq 3) oS (λ _ _=>rfl)) (oQ (nK mC rfl T.z_len (nofun) (oQ (oT ix_B (pq 2) oS (λ _ _=>rfl)) oR)) oR)))))))))
   (oX (nH kW))
   mG)
   (oU (mH (PW.pt (kL (kM (kD (nB G_j hr.mo rfl T.m_j T.F_j.kp T.b_j .nil nC (oQ (oT ix_B (pq 3) oS (λ _ _=>rfl)) oR)))) (kL (nW eV (oT ix_B (pq 3) oS (λ _ _=>rfl)) oS (nS _)) (iL (nW Ow (oT ix_B (pq 3) oS (λ _ _=>rfl)) (nK mC rfl T.z_len (nofun) (oQ (pq 1) oR)) (nS _))))))
   (oX (nH kW))
   mG)
   (oX (mH (PW.pt (kL (nW (bE hu) (nB G_f hr.mo rfl T.m_f T.F_f.kp T.b_f .nil nC (oQ (oT ix_B (pq 3) oS (λ _ _=>rfl)) oR)) (oT ix_B (pq 3) oS (λ _ _=>rfl)) (nS _)) (iL (nW (bE hu) (nB G_f hr.mo rfl T.m_f T.F_f.kp T.b_f .nil nC (oQ (nB G_5 hr.mo rfl T.m_5 T.F_5.kp T.b_5 .nil nC (oQ (oT ix_B (pq 1) (oT ix_B (pq 3) oS (λ _ _=>rfl)) (λ _ _=>rfl)) (oQ (pq 2) oR))) oR)) (oT ix_B (pq 3) oS (λ _ _=>rfl)) (nS _)))))
   (oX (nH kW))
   mG)))))
   (oX (nH (nB G_h hr.mo rfl T.m_h T.F_h.kp T.b_h .nil nC (oQ (mE (xs:=["_law_row"]) (fr:=[]) (g:=(oW 0)) (tt:=(tEl (tOp (rIxB K) (tVar 0) (tC (.int 0))))) (nR (sc:=oV s_4) (N:=N_4) rfl rfl (nofun)) rfl (mJ (pq 0)) (λ _ _ _ hE1=>(nU (N:=["_law_row"]) (i:=0) hE1 rfl (nofun))) (λ _ _ _ hE1=>(nT (oT ix_B (pv 0) oS (λ _ _=>rfl))))) oR)))))),?_⟩
  show tSeq _ _ _ [some (.ref r),some (.ref l),some (.ref q),none] H;refine st λ N1 e1=>?_;ext;refine ⟨_,_,_,_,rfl,.ty (.lst h1),rfl,T.h_d,_,rfl,?_⟩;ext;subst e1;refine st λ N1 e1=>kI λ B eB=>?_;simp only [iSeq];ext;refine ⟨false,⟨_,SqB.lst h1⟩,?_⟩;refine iB (b:=false) (g:=oW 3) (tb:=B) (λ i τ H'=>∃ v3:Option V,τ=[some (.ref r),some (.ref l),some (.ref q),v3]/\Same H H') ⟨none,rfl,Same.refl _⟩ (λ i τ H' _ ⟨_,_,s⟩=>SqB.lst (s _ _ h1)) ?_ ?_
  ·rintro i y τ H1 ey ⟨v3,rfl,s1⟩;obtain ⟨p,hq',rfl⟩:=jS ey;obtain ⟨e,ee,pq,k1,k2⟩:=kC h2 hq';obtain ⟨y,ey,ea,el,e0,e1',eg,er⟩:=Fw hd hσ hm hD (zqb ee);have mx:=hm y (zqb ey);have mo:=jK hd hσ mx;have x1:=mx.le;have x2:=mx.pos;have yl:=(zqa ey).1;have kP:PlS K H pq e.1.1 e.1.2:=Xi k2;have kR:∀ {H'},Same H H'->SqB true K H' p [.ref pq,.int ((e.2:Nat):Int)]:=λ s=>SqB.tup (s _ _ k1);subst eB;show tSeq _ _ _ [some (.ref r),some (.ref l),some (.ref q),some (.ref p)] H1;refine st λ N2 e2=>?_;ext;refine isT p _ _ _ (kR s1) ?_;ext;refine ⟨true,p,_,rfl,kR s1,?_⟩;ext;refine iteF ⟨true,p,_,_,_,rfl,rfl,kR s1,rfl,jG (hP.upS s1).s λ z hz=>lU (b:=true) hz ?_⟩;refine ⟨pq,e.1.1,e.1.2,d,by rw [hσ.len],kP.up s1,el,⋯,e0,jI (B:=20) ⋯ ∅,eg,λ H2 s2=>?_⟩;refine ⟨true,rfl,iteF ?_⟩;have s12:=s1.trans s2;subst e2;refine st λ N2 e2=>?_;ext;refine ⟨true,p,_,_,_,rfl,rfl,kR s12,rfl,_,rfl,?_⟩
   try ext
   refine ⟨true,p,_,_,_,rfl,rfl,kR s12,rfl,?_⟩
   try ext
   rw [zQ (show ¬ ((e.2:Nat):Int) < 0 by omega)];obtain ⟨os,hl,ho⟩:=hM;have lo:os.length=srt.length:=mV ho;refine iteF ⟨true,p,_,_,_,rfl,rfl,kR s12,rfl,false,l,_,rfl,SqB.lst (s12 _ _ hl),_,_,rfl,rfl,_,rfl,?_⟩;rw [zqe,zQ (show ¬ ((os.length:Nat):Int)<=((e.2:Nat):Int) by omega)];refine iteF ?_;have hM':iV K H l srt:=⟨os,hl,ho⟩;subst e2;ext;refine ⟨true,p,_,_,_,rfl,rfl,kR s12,rfl,?_⟩;refine ⟨pq,e.1.1,e.1.2,rfl,kP.up s12,⋯,e0,λ r3 H3 s3 hr3=>?_⟩;rw [er] at hr3;have s13:=s12.trans s3;refine ⟨true,p,_,_,_,rfl,rfl,kR s13,rfl,?_⟩;refine dL 3 ∅ (PlS.dt hr3.s) (PlS.dt (kP.up s13)) (kU _ _) (kU _ _) (b:=true) (by simp) ?_
   try ext
   refine ⟨true,p,_,_,_,rfl,rfl,kR s13,rfl,?_⟩;refine Mg (hM'.up s13) ey rfl λ mp hmp=>?_;refine ⟨mp,q,y.1,σ.1,σ.2,d,rfl,fB hmp,(hP.upS s13).s,mx.sq,hd,mx.len,hσ.len,mx.bm.le ∅,mx.bt'.le ∅,hσ.bits.le ∅,x2,⋯,v2,⋯,λ r4 H4 s4 hr4=>?_⟩;refine ⟨r4,mvT σ y.1,mvU σ y.1,rfl,mB.s hr4,by rw [mo.len]; omega,mo.pos,λ r5 H5 s5 hr5=>?_⟩;have s15:=(s13.trans s4).trans s5;refine ⟨true,p,_,_,_,rfl,rfl,kR s15,rfl,?_⟩;refine dL 3 ∅ (PlS.dt hr5.s) (PlS.dt (kP.up s15)) (kU _ _) (kU _ _) (b:=true) (by rw [← ea,eK]; simp) ?_
   try ext
   exact s15
  ·rintro τ H1 ⟨v3,rfl,s1⟩;subst e1;ext;refine nV λ B eB=>?_;simp only [iSeq];ext;refine ⟨false,⟨_,SqB.lst (s1 _ _ h1)⟩,λ a1 ha1=>?_⟩;refine lC (λ j y _=>∃ q' e,y=V.ref q'/\D[j]?=some e/\Dt K H (.ref q') (plO e.1)) ha1 (SqB.lst (s1 _ _ h1)) (by rw [zqe]; omega) (λ _ _ _ _ h _=>h) ?_ ?_
   ·intro j y H2 zs ey s2 ez Q' hQ';obtain ⟨p,hq',rfl⟩:=jS ey;obtain ⟨e,ee,pq,k1,k2⟩:=kC h2 hq';subst eB;show tOp _ _ _ [some (.ref p)] H2 Q';ext;exact ⟨true,p,_,_,_,rfl,rfl,SqB.tup ((s1.trans s2) _ _ k1),rfl,hQ' _ _ (Same.refl _) ⟨pq,e,rfl,ee,k2⟩⟩
   ·intro H2 ys s2 e2 hly hr2;have s12:=s1.trans s2;obtain ⟨qs,rfl,hqs⟩:=Aj (F:=λ p (e:(SP') × Nat)=>Dt K H2 (.ref p) (plO e.1)) (D:=D) (ys:=ys) (by rw [hly,zqe,lp]) λ j y ej=>by
     obtain ⟨q',e,f1,f2,f3⟩:=hr2 j y ej;exact ⟨q',e,f1,f2,nZ (nY s12) 4 (iJ _) f3⟩
    have lq:qs.length=D.length:=mV hqs;refine ⟨a1,qs,D.map λ e=>plO e.1,rfl,e2,by rw [zqe]; exact lq,⋯,λ i p f e1 e3=>?_,λ f hf=>?_,λ f hf f' hf'=>?_,λ i f f' e1 e3=>?_,λ H3 s3=>hQ H3 (s12.trans s3)⟩
    ·obtain ⟨e,ee,h⟩:=kC hqs e1;rw [zB,ee] at e3;cases e3;exact h
    ·obtain ⟨e,_,rfl⟩:=zE.mp hf;exact iJ _
    ·obtain ⟨e,he,rfl⟩:=zE.mp hf;obtain ⟨e',he',rfl⟩:=zE.mp hf';obtain ⟨_,_,_,k,_⟩:=Fw hd hσ hm hD he;obtain ⟨_,_,_,k',_⟩:=Fw hd hσ hm hD he';exact Ea (k.trans k'.symm)
    ·rw [zB] at e1 e3;cases g1:D[i]? with
     | none=>rw [g1] at e1; cases e1
     | some a =>
      cases g2:D[i+1]? with
      | none=>rw [g2] at e3; cases e3
      | some b =>
       rw [g1] at e1;rw [g2] at e3;cases e1;cases e3;have:=wY.mp hD.rise i (i+1) (zqa g1).1 (zqa g2).1 ⋯;rw [(zqa g1).2,(zqa g2).2] at this;exact this
theorem Xd {K:Frag} {H:Hp} {l:Addr} {srt:Tb} (h:iV K H l srt):DlAt K H l (srt.map (·.1)):=by
 obtain ⟨os,h1,h2⟩:=h;refine ⟨os,h1,?_⟩;clear h1
 induction h2 with
 | nil=>exact .nil
 | cons h _ ih=>exact .cons h ih
theorem Mf {K:Frag} {H:Hp} {l p:Addr} {L:List Dd} {x:Dd} {neg:Bool} {Q:VK} (h:DlAt K H l L) (hx:Dt K H (.ref p) (dat x)) (m:x∈L) (q:Q (.bl (!neg)) H):rInD K neg (.ref p) (.ref l) H Q:=by
 obtain ⟨ps,h1,h2⟩:=h;obtain ⟨qs,a,b,c⟩:=Mi h2;have hq:∀ y∈qs,tT 4 y.2=true/\Dt K H y.1 y.2:=λ y hy=>by
  refine ⟨?_,c y hy⟩;have:y.2∈L.map dat:=by rw [← b]; exact zE.mpr ⟨y,hy,rfl⟩
  obtain ⟨z,_,e⟩:=zE.mp this;rw [← e];exact mT z
 have an:(qs.any λ y=>decide (y.2=dat x))=true:=by
  have:dat x∈qs.map (·.2):=by rw [b]; exact zE.mpr ⟨x,m,rfl⟩
  obtain ⟨y,hy,e⟩:=zE.mp this;exact sU.mpr ⟨y,hy,zM e⟩
 refine ⟨l,qs,dat x,rfl,.inl (by rw [a]; exact SqL.of h1),hq,mT x,hx,?_⟩;rw [an];cases neg <;> exact q
def sp_d (K:Frag):Sp:=λ vs H Q _=>E7 λ (r l q:Addr) (d:Nat) (srt:Tb) (σ:SP') (L:List Dd)=>A11 (vs=[.ref r,.ref l,.ref q]) (DlAt K H r L) (L.Perm (ownX d σ (srt.map (·.1)))) ((L.Pairwise λ a b=>lx (fl (dat a)) (fl (dat b))=true)) (iV K H l srt) ((∀ y∈srt,MbOk d y.1)) (srt.length<=200) (mB H q σ.1 σ.2) (SpOk d σ) ((d=2\/d=3)) (∀ H',Same H H'->Q (.bl true) H')
theorem ok_d (T:Txt K mg t):FnOk P w K mg base CX0 4 t.a_d t.d_d pc' (sp_d K):=by
 have G_c:=@ok_c P w K mg base t T;have G_5:=@ok_5 P w K mg base t T;have G_f:=@ok_f P w K mg base t T;have G_h:=@ok_h P w K mg base t T;refine T.F_d.ok sc_d (by walk_at "v") (λ cdv A outer s H vs Q E hr h=>?_)
 ·have hu:=hr.units;obtain ⟨r,l,q,d,srt,σ,L,rfl,hA,pm,rise,hM,hm,l200,hP,hσ,hd,hQ⟩:=h;obtain ⟨ps,h1,h2⟩:=id hA;have lp:ps.length=L.length:=mV h2;have hm':∀ x∈srt.map (·.1),MbOk d x:=λ x hx=>by
   obtain ⟨y,hy,rfl⟩:=zE.mp hx;exact hm y hy
  have Ll:L.length<=200:=by
   rw [pm.length_eq];refine yC Ah ?_;rw [zqe];exact l200
  have isT:∀ (a:Addr) (xs:List V) (Q':VK) (H:Hp),SqT K H a xs->Q' (.bl true) H->rIsi K [.ref a,.ty "tuple"] H Q':=λ a xs Q' H h1 h2=>⟨_,_,_,_,rfl,.tupS h1,rfl,T.h_c,h2⟩;have v1:=hσ.le;have v2:=hσ.pos;have inL:∀ z∈L,∃ x∈srt.map (·.1),act d σ x=act d σ (nP d)/\z=exD σ x:=λ z hz=>own_mem (pm.mem_iff.mp hz);refine ⟨_,(oU (mH (kM (kD (nK iZ rfl T.z_isinstance (nofun) (oQ (pq 0) (oQ (iW (v:=.ty "list") rfl T.z_list (nofun) rfl) oR)))))
   (oX (nH kW))
   mG)
   (oU (kG yR rfl (mJ (pq 0)) (mD (i:=3) sc_d.nd rfl (Or.inl rfl))
   (oU (mH (PW.pt (kL (kM (kD (nK iZ rfl T.z_isinstance (nofun) (oQ (pq 3) (oQ (iW (v:=.ty "tuple") rfl T.z_tuple (nofun) rfl) oR))))) (kL (nW jN (nK mC rfl T.z_len (nofun) (oQ (pq 3) oR)) oS (nS _)) (iL (kM (kD (nB G_c hr.mo rfl T.m_c T.F_c.kp T.b_c .nil nC (oQ (mZ (oQ (oT ix_B (pq 3) oS (λ _ _=>rfl)) (oQ (oT ix_B (pq 3) oS (λ _ _=>rfl)) oR))) (oQ (nK mC rfl T.z_len (nofun) (oQ (oT ix_B (pq 2) oS (λ _ _=>rfl)) oR)) oR)))))))))
   (oX (nH kW))
   mG)
   (oX (mH (PW.pt (kL (nW (bE hu) (nB G_5 hr.mo rfl T.m_5 T.F_5.kp T.b_5 .nil nC (oQ (pq 3) (oQ (pq 2) oR))) (pq 2) (nS _)) (iL (nW (Cj hu) (mZ (oQ (oT ix_B (pq 3) oS (λ _ _=>rfl)) (oQ (oT ix_B (nB G_f hr.mo rfl T.m_f T.F_f.kp T.b_f .nil nC (oQ (mZ (oQ (oT ix_B (pq 3) oS (λ _ _=>rfl)) (oQ (oT ix_B (pq 3) oS (λ _ _=>rfl)) oR))) oR)) oS (λ _ _=>rfl)) (oQ (oT ix_B (pq 3) oS (λ _ _=>rfl)) oR)))) (pq 1) rfl))))
   (oX (nH kW))
   mG))))
   (oX (nH (nB G_h hr.mo rfl T.m_h T.F_h.kp T.b_h .nil nC (oQ (pq 0) oR)))))),?_⟩
  show tSeq _ _ _ [some (.ref r),some (.ref l),some (.ref q),none] H;refine st λ N1 e1=>?_;ext;refine ⟨_,_,_,_,rfl,.ty (.lst h1),rfl,T.h_d,_,rfl,?_⟩;ext;subst e1;refine st λ N1 e1=>kI λ B eB=>?_;simp only [iSeq];ext;refine ⟨false,⟨_,SqB.lst h1⟩,?_⟩;refine iB (b:=false) (g:=oW 3) (tb:=B) (λ i τ H'=>∃ v3:Option V,τ=[some (.ref r),some (.ref l),some (.ref q),v3]/\Same H H') ⟨none,rfl,Same.refl _⟩ (λ i τ H' _ ⟨_,_,s⟩=>SqB.lst (s _ _ h1)) ?_ ?_
  ·rintro i y τ H1 ey ⟨v3,rfl,s1⟩;obtain ⟨p,hq',rfl⟩:=jS ey;obtain ⟨z,ez,hz⟩:=kC h2 hq';obtain ⟨x,hx,hk,rfl⟩:=inL z (zqb ez);have mx:=hm' x hx;have x1:=mx.le;have x2:=mx.pos;have dS:DdS K H p (exD σ x):=fB hz;have lx':=Al hd hσ mx;obtain ⟨kt,ku⟩:=Xk hd hσ mx ((Ef hd hσ).mpr hk);obtain ⟨w0,w1,g1,g2,g3⟩:=id dS;have kR:∀ {H'},Same H H'->SqB true K H' p [.ref w0,.ref w1,.int x.2.2]:=λ s=>nY s _ _ g1;subst eB;show tSeq _ _ _ [some (.ref r),some (.ref l),some (.ref q),some (.ref p)] H1;refine st λ N2 e2=>?_;ext;refine isT p _ _ _ (kR s1) ?_;ext;refine ⟨true,p,_,rfl,kR s1,?_⟩;ext;refine iteF ⟨true,p,_,_,_,rfl,rfl,kR s1,rfl,true,p,_,_,_,rfl,rfl,kR s1,rfl,?_⟩;refine ⟨(by show 2<=sizeLine; decide),λ p1 hp1=>?_⟩;have s2:Same H1 (upd H1 p1 (.tup [.ref w1,.int x.2.2])):=Same.new hp1;have ep1:(upd H1 p1 (.tup [.ref w1,.int x.2.2])) p1=some (.tup [.ref w1,.int x.2.2]):=oZ;generalize upd H1 p1 (.tup [.ref w1,.int x.2.2])=H2 at s2 ep1;have s02:=s1.trans s2;refine jG (hP.upS s02).s λ zq hzq=>lU (b:=true) hzq ?_;refine ⟨p1,(exD σ x).2.1,x.2.2,d,by rw [hσ.len],⟨w1,SqT.of ep1,nY s02 _ _ g3⟩,lx',⋯,x2,jI (B:=20) ⋯ ∅,Mu hd hσ mx,λ H3 s3=>?_⟩;refine ⟨true,rfl,iteF ?_⟩;have s03:=s02.trans s3;subst e2;ext;refine ⟨p,q,exD σ x,σ.1,σ.2,d,rfl,dS.up s03,(hP.upS s03).s,mx.sq,hd,lx',hσ.len,mx.bm.le ∅,(Mr hd hσ mx).le ∅,hσ.bits.le ∅,x2,by show x.2.2 < 2 ^ 150; omega,v2,⋯,λ r4 H4 s4 hr4=>?_⟩;have hr4':mB H4 r4 (mvT σ (exD σ x)) (mvU σ (exD σ x)):=hr4;rw [kt,ku] at hr4';have s04:=s03.trans s4;refine dL 3 ∅ (PlS.dt hr4'.s) (PlS.dt (hP.upS s04).s) (kU _ _) (kU _ _) (b:=true) (by simp) ?_
   try ext
   refine ⟨true,p,_,_,_,rfl,rfl,kR s04,rfl,?_⟩;refine ⟨true,p,_,_,_,rfl,rfl,kR s04,rfl,true,p,_,_,_,rfl,rfl,kR s04,rfl,?_⟩;refine ⟨(by show 2<=sizeLine; decide),λ p5 hp5=>?_⟩;have s5:Same H4 (upd H4 p5 (.tup [.ref w1,.int x.2.2])):=Same.new hp5;have ep5:(upd H4 p5 (.tup [.ref w1,.int x.2.2])) p5=some (.tup [.ref w1,.int x.2.2]):=oZ;generalize upd H4 p5 (.tup [.ref w1,.int x.2.2])=H5 at s5 ep5;have s05:=s04.trans s5;refine ⟨p5,(exD σ x).2.1,x.2.2,rfl,⟨w1,SqT.of ep5,nY s05 _ _ g3⟩,⋯,x2,λ r6 H6 s6 hr6=>?_⟩;have er:nO (exD σ x)=x:=Ed hd hσ mx;have er2:nM x.2.2 (exD σ x).2.1=x.2.1:=xZ (λ z:Dd=>z.2.1) er;rw [er2] at hr6;have s06:=s05.trans s6;refine jG hr6.s λ z6 hz6=>?_
   try ext
   refine ⟨true,p,_,_,_,rfl,rfl,kR s06,rfl,?_⟩;refine ⟨(by show 3<=sizeLine; decide),λ p7 hp7=>?_⟩;have s7:Same H6 (upd H6 p7 (.tup [.ref w0,.ref z6,.int x.2.2])):=Same.new hp7;have ep7:(upd H6 p7 (.tup [.ref w0,.ref z6,.int x.2.2])) p7=some (.tup [.ref w0,.ref z6,.int x.2.2]):=oZ;generalize upd H6 p7 (.tup [.ref w0,.ref z6,.int x.2.2])=H7 at s7 ep7;have s07:=s06.trans s7;have hx7:Dt K H7 (.ref p7) (dat x):=DdS.dt (x:=x) ⟨w0,z6,SqT.of ep7,g2.up s07,nY s7 _ _ hz6⟩;refine Mf (Xd (hM.up s07)) hx7 hx ?_
   try ext
   exact s07
  ·rintro τ H1 ⟨v3,rfl,s1⟩;subst e1;ext;have fX:∀ z∈L,lR d z:=λ z hz=>by
    obtain ⟨x,hx,_,rfl⟩:=inL z hz;exact Mj hd hσ (hm' x hx)
   refine ⟨r,ps,L.map dat,rfl,s1 _ _ h1,by rw [zqe]; exact lp,⋯,λ i p f e1 e3=>?_,λ f hf=>?_,λ f hf f' hf'=>?_,λ i f f' e1 e3=>?_,λ H3 s3=>hQ H3 (s1.trans s3)⟩
   ·obtain ⟨e,ee,h⟩:=kC h2 e1;rw [zB,ee] at e3;cases e3;exact nZ (nY s1) 4 (mT e) h
   ·obtain ⟨e,_,rfl⟩:=zE.mp hf;exact mT e
   ·obtain ⟨e,he,rfl⟩:=zE.mp hf;obtain ⟨e',he',rfl⟩:=zE.mp hf';exact aZ (fX e he) (fX e' he')
   ·rw [zB] at e1 e3;cases g1:L[i]? with
    | none=>rw [g1] at e1; cases e1
    | some a =>
     cases g2:L[i+1]? with
     | none=>rw [g2] at e3; cases e3
     | some b =>
      rw [g1] at e1;rw [g2] at e3;cases e1;cases e3;have:=wY.mp rise i (i+1) (zqa g1).1 (zqa g2).1 ⋯;rw [(zqa g1).2,(zqa g2).2] at this;exact this
theorem Me {B:Nat} {w:Int} {TT:LI'} (h0:0 < w) (hb:mK B TT):mK B (redT w TT):=λ z hz=>by
 obtain ⟨t,ht,hl⟩:=(eE (ts:=TT) h0).1 z hz;exact vR hl (hb t ht)
theorem Md {d:Nat} {TT:LI'} {w:Int} (hl:TT.length=d) (h0:0 < w) (h1:w<=288) (hb:mK 60 TT):SpOk d (redT w TT,redU w TT):=by
 obtain ⟨_,r2,r3⟩:=eE (ts:=TT) h0;exact ⟨by rw [Mx]; exact hl,Me h0 hb,r2,oI r3 h1,Dv ⋯⟩
def PlAt (K:Frag) (H:Hp) (a:Addr) (D:Alk):Prop:=∃ qs:LA,H a=some (.lst (qs.map V.ref))/\Paired (λ p (e:(SP') × Nat)=>Dt K H (.ref p) (plO e.1)) qs D
theorem PlAt.up {K:Frag} {H H':Hp} {a:Addr} {D:Alk} (h:PlAt K H a D) (s:Same H H'):PlAt K H' a D:=by
 obtain ⟨qs,h1,h2⟩:=h;exact ⟨qs,s _ _ h1,Paired.mapP h2 λ _ e z=>nZ (nY s) 4 (iJ e.1) z⟩
theorem PlAt.tk {K:Frag} {H H':Hp} {a:Addr} {D:Alk} (h:PlAt K H a D) (s:TK K H H') (e:H' a=H a):PlAt K H' a D:=by
 obtain ⟨qs,h1,h2⟩:=h;exact ⟨qs,e.trans h1,Paired.mapP h2 λ _ e z=>nZ s.t 4 (iJ e.1) z⟩
theorem DlAt.tk {K:Frag} {H H':Hp} {a:Addr} {L:List Dd} (h:DlAt K H a L) (s:TK K H H') (e:H' a=H a):DlAt K H' a L:=by
 obtain ⟨qs,h1,h2⟩:=h;exact ⟨qs,e.trans h1,Paired.mapP h2 λ _ x z=>nZ s.t 4 (mT x) z⟩
theorem iU.tk {K:Frag} {H H':Hp} {a:Addr} {D:Alk} (h:iU K H a D) (s:TK K H H') (e:H' a=H a):iU K H' a D:=by
 obtain ⟨qs,h1,h2⟩:=h;exact ⟨qs,e.trans h1,Paired.mapP h2 λ _ e ⟨q,z1,z2⟩=>⟨q,s.k _ _ z1,nZ s.t 4 (iJ e.1) z2⟩⟩
theorem Mc {H:Hp} {r a1:Addr} {D:Alk} {τ:St} {Q:VK} (hA:iU K H r D) (lD:D.length<=200) (ha1:H a1=none) (k:∀ H1,Same H H1->PlAt K H1 a1 D->Q (.ref a1) H1):lN (Its K false r) (oW 0) (tEl (tOp (rIxB K) (tVar 0) (tC (.int 0)))) 1 [] τ a1 H Q:=by
 obtain ⟨ps,h1,h2⟩:=hA;have lp:ps.length=D.length:=mV h2;refine lC (λ j y _=>∃ q' e,y=V.ref q'/\D[j]?=some e/\Dt K H (.ref q') (plO e.1)) ha1 (SqB.lst h1) (by rw [zqe]; omega) (λ _ _ _ _ h _=>h) ?_ ?_
 ·intro j y H2 zs ey s2 ez Q' hQ';obtain ⟨p,hq',rfl⟩:=jS ey;obtain ⟨e,ee,pq,k1,k2⟩:=kC h2 hq';show tOp _ _ _ [some (.ref p)] H2 Q';ext;exact ⟨true,p,_,_,_,rfl,rfl,SqB.tup (s2 _ _ k1),rfl,hQ' _ _ (Same.refl _) ⟨pq,e,rfl,ee,k2⟩⟩
 ·intro H2 ys s2 e2 hly hr2;obtain ⟨qs,rfl,hqs⟩:=Aj (F:=λ p (e:(SP') × Nat)=>Dt K H2 (.ref p) (plO e.1)) (D:=D) (ys:=ys) (by rw [hly,zqe,lp]) λ j y ej=>by
   obtain ⟨q',e,f1,f2,f3⟩:=hr2 j y ej;exact ⟨q',e,f1,f2,nZ (nY s2) 4 (iJ _) f3⟩
  exact k H2 s2 ⟨qs,e2,hqs⟩
theorem Xc {K:Frag} {H:Hp} {l p:Addr} {D:Alk} {σ:SP'} {neg:Bool} {Q:VK} (h:PlAt K H l D) (hx:Dt K H (.ref p) (plO σ)) (m:σ∈D.map (·.1)) (q:Q (.bl (!neg)) H):rInD K neg (.ref p) (.ref l) H Q:=by
 obtain ⟨ps,h1,h2⟩:=h;have hq:∃ qs:List (V × PyData),qs.map (·.1)=ps.map V.ref/\qs.map (·.2)=D.map (λ e=>plO e.1)/\∀ q∈qs,tT 4 q.2=true/\Dt K H q.1 q.2:=by
  clear h1 m
  induction h2 with
  | nil=>exact ⟨[],rfl,rfl,λ q hq=>by cases hq⟩
  | @cons p x ps L hd _ ih =>
   obtain ⟨qs,a,b,c⟩:=ih;refine ⟨(.ref p,plO x.1) :: qs,by rw [zG,zG,a],by rw [zG,zG,b],λ q hq=>?_⟩;rcases zL.mp hq with e | e
   ·rw [e]; exact ⟨iJ _,hd⟩
   ·exact c q e
 obtain ⟨qs,a,b,c⟩:=hq;have an:(qs.any λ y=>decide (y.2=plO σ))=true:=by
  have:plO σ∈qs.map (·.2):=by
   obtain ⟨e,he,ee⟩:=zE.mp m;rw [b,← ee];exact zE.mpr ⟨e,he,rfl⟩
  obtain ⟨y,hy,e⟩:=zE.mp this;exact sU.mpr ⟨y,hy,zM e⟩
 refine ⟨l,qs,plO σ,rfl,.inl (by rw [a]; exact SqL.of h1),c,iJ σ,hx,?_⟩;rw [an];cases neg <;> exact q
theorem Mb {K:Frag} {H:Hp} {a:Addr} {D:Alk} (h:PlAt K H a D):Dt K H (.ref a) (.list (D.map λ e=>plO e.1)):=by
 obtain ⟨qs,h1,h2⟩:=h;refine .lst (SqL.of h1) ?_;clear h1
 induction h2 with
 | nil=>exact .nil
 | cons h _ ih=>exact .cons h ih
theorem Ma {K:Frag} {H:Hp} {a:Addr} {L:List Dd} (h:DlAt K H a L):Dt K H (.ref a) (.list (L.map dat)):=by
 obtain ⟨qs,h1,h2⟩:=h;refine .lst (SqL.of h1) ?_;clear h1
 induction h2 with
 | nil=>exact .nil
 | cons h _ ih=>exact .cons h ih
theorem Ag {α:Type} {f:α->PyData} (hf:∀ x,iT 3 (f x)=true) (L:List α):iT 4 (.list (L.map f))=true:=by
 show (L.map f).all (iT 3)=true;rw [wI];intro d hd;obtain ⟨x,_,rfl⟩:=zE.mp hd;exact hf x
theorem Xb {d:Nat} {σ:SP'} {srt:Tb} {D D':Alk} (h:gL d σ srt D) (h':gL d σ srt D'):(D.map λ e=>plO e.1)=D'.map λ e=>plO e.1:=by
 have key:D.map (·.1)=D'.map (·.1):=by
  refine Fz (f:=λ τ=>fl (plO τ)) (wD.mpr h.rise) (wD.mpr h'.rise) λ τ=>?_;have sub:∀ {D D':Alk},gL d σ srt D->gL d σ srt D'->τ∈D.map (·.1)->τ∈D'.map (·.1):=λ h h' m=>by
   obtain ⟨e,he,rfl⟩:=zE.mp m;obtain ⟨y,ey,ea⟩:=h.num e he;rw [← ea];exact h'.all y (zqb ey)
  exact ⟨sub h h',sub h' h⟩
 rw [show (λ e:(SP') × Nat=>plO e.1)=plO ∘ (·.1) from rfl,← xE,key,xE]
theorem Xa {X L L':List Dd} (p:L.Perm X) (p':L'.Perm X) (h:L.Pairwise λ a b=>lx (fl (dat a)) (fl (dat b))=true) (h':L'.Pairwise λ a b=>lx (fl (dat a)) (fl (dat b))=true):L=L' :=
 Fz (f:=λ x=>fl (dat x)) h h' λ x=>p.mem_iff.trans p'.mem_iff.symm
theorem Yz {F:Frm} (ok:F.Ok) {ss:List Dd} (hs:∀ s∈ss,InF F s) {srt:Tb} (pm:srt.Perm (tab (famD F.k) ss 192)) {σ:SP'} (hσ:SpOk (famD F.k) σ) {D:Alk} (hD:gL (famD F.k) σ srt D) {L:List Dd} (pL:L.Perm (ownX (famD F.k) σ (srt.map (·.1)))):D.length*L.length=srt.length:=by
 have G:=Xx ok hs (N:=192) (zF _);have p1:(srt.map (·.1)).Perm ((tab (famD F.k) ss 192).map (·.1)):=pm.map _;have o:=Xt G (σ:=σ) hσ.len hσ.pos (D:=D.map (·.1)) hD.nd (λ x hx=>?_) λ v hv=>?_
 ·have e1:L.length=(ownL (famD F.k) σ ((tab (famD F.k) ss 192).map (·.1))).length:=by
   rw [pL.length_eq];unfold ownX;rw [zqe];exact (p1.filter _).length_eq
  rw [zqe,zqe] at o;rw [e1,o,pm.length_eq]
 ·have:=p1.mem_iff.mpr hx;obtain ⟨y,hy,rfl⟩:=zE.mp this;exact hD.all y hy
 ·obtain ⟨e,he,rfl⟩:=zE.mp hv;obtain ⟨y,ey,ea⟩:=hD.num e he;exact ⟨y.1,p1.mem_iff.mp (zE.mpr ⟨y,zqb ey,rfl⟩),ea⟩
theorem ok_1c (T:Txt K mg t):FnOk P w K mg base CX0 18 t.a_1c t.d_1c pB' (Gb K):=by
 have G_o:=@ok_o P w K mg base t T;have G_k:=@ok_k P w K mg base t T;have G_a:=@ok_a P w K mg base t T;have G_0:=@ok_0 P w K mg base t T;have G_7:=@ok_7 P w K mg base t T;have G_6:=@ok_6 P w K mg base t T;have G_17:=@ok_17 P w K mg base t T;have G_1f:=@ok_1f P w K mg base t T;have G_4:=@ok_4 P w K mg base t T;have G_d:=@ok_d P w K mg base t T;have G_5:=@ok_5 P w K mg base t T;have G_f:=@ok_f P w K mg base t T;have G_s:=@ok_s P w K mg base t T;have G_9:=@ok_9 P w K mg base t T;refine T.F_1c.ok sc_1c (by walk_at "v") (λ cdv A outer s H vs Q E hr h=>?_)
 ·have hu:=hr.units;obtain ⟨a,ns,rfl,hS,hlen,hbits,hQ⟩:=h;have hS':SqB false K H a (ns.map V.int):=hS;refine ⟨_,(oU (nJ (i:=1) sc_1c.nd rfl (Or.inl rfl) (nB G_o hr.mo rfl T.m_o T.F_o.kp T.b_o .nil nC (oQ (pq 0) oR)))
   (oU (nJ (i:=2) sc_1c.nd rfl (Or.inl rfl) (nB G_k hr.mo rfl T.m_k T.F_k.kp T.b_k .nil nC (oQ (eX sl_B (pq 0) (iX oS) (iX (oY lF oS (oY lB (oY kN (nB G_a hr.mo rfl T.m_a T.F_a.kp T.b_a .nil nC (oQ (pq 0) (oQ oS oR))) oS) oS)))) (oQ (pq 1) oR))))
   (oU (nJ (i:=3) sc_1c.nd rfl (Or.inl rfl) (Oe (C:=t.a_z) (T.mk_z) G_0 hr.mo rfl T.m_z T.bd_Group___init__ (dvs:=[.int 200]) (.cons ⟨_,rfl⟩ .nil) nC (oQ (nK mC rfl T.z_len (nofun) (oQ (oT ix_B (oT ix_B (pq 1) oS (λ _ _=>rfl)) oS (λ _ _=>rfl)) oR)) (oQ (pq 2) oR))))
   (oU (nJ (i:=4) sc_1c.nd rfl (Or.inl rfl) (Aa (C:=t.a_z) (pq 3) T.cl_z T.me_7 G_7 hr.mo T.b_7 .nil nC))
   (oU (nJ (i:=5) sc_1c.nd rfl (Or.inl rfl) (nB G_6 hr.mo rfl T.m_6 T.F_6.kp T.b_6 .nil nC (oQ (nB G_a hr.mo rfl T.m_a T.F_a.kp T.b_a .nil nC (oQ (pq 0) (oQ oS oR))) (oQ (pq 1) oR))))
   (oU (nJ (i:=6) sc_1c.nd rfl (Or.inl rfl) (nB G_17 hr.mo rfl T.m_17 T.F_17.kp T.b_17 .nil nC (oQ (pq 3) (oQ (pq 5) oR))))
   (oU (nJ (i:=7) sc_1c.nd rfl (Or.inl rfl) (nB G_1f hr.mo rfl T.m_1f T.F_1f.kp T.b_1f .nil nC (oQ (pq 3) (oQ (pq 5) oR))))
   (oU (mH (PW.pt (kL (kM (kD (nB G_4 hr.mo rfl T.m_4 T.F_4.kp T.b_4 .nil nC (oQ (pq 6) (oQ (pq 4) (oQ (pq 5) oR)))))) (iL (kM (kD (nB G_d hr.mo rfl T.m_d T.F_d.kp T.b_d .nil nC (oQ (pq 7) (oQ (pq 4) (oQ (pq 5) oR)))))))))
   (oX (nH kW))
   mG)
   (oU (jX (i:=8) (xs:=["_law_row"]) (fr:=[]) (g:=(oW 0)) (tt:=(tEl (tOp (rIxB K) (tVar 0) (tC (.int 0))))) (nR (sc:=oV s_1c) (N:=N_1c) rfl rfl (nofun)) rfl sc_1c.nd rfl rfl (mJ (pq 6)) (λ _ _ _ hE1=>(nU (N:=["_law_row"]) (i:=0) hE1 rfl (nofun))) (λ _ _ _ hE1=>(nT (oT ix_B (pv 0) oS (λ _ _=>rfl)))))
   (oU (kG yR rfl (mJ (eX sl_B (pq 0) (iX oS) (iX oS))) (mD (i:=9) sc_1c.nd rfl (Or.inl rfl))
   (oU (nJ (i:=10) sc_1c.nd rfl (Or.inl rfl) (oT ix_B (pq 4) (oY lB (pq 9) (nK mC rfl T.z_len (nofun) (oQ (pq 4) oR))) (λ _ _=>rfl)))
   (oU (mH (nW (Cj hu) (nB G_f hr.mo rfl T.m_f T.F_f.kp T.b_f .nil nC (oQ (nB G_5 hr.mo rfl T.m_5 T.F_5.kp T.b_5 .nil nC (oQ (pq 10) (oQ (pq 5) oR))) oR)) (pq 8) rfl)
   (oX (nH kW))
   mG)
   (oU (nJ (i:=11) sc_1c.nd rfl (Or.inl rfl) (nB G_s hr.mo rfl T.m_s T.F_s.kp T.b_s .nil nC (oQ (pq 10) (oQ (pq 5) oR))))
   (oX (mH (PW.pt (No (nW Ov (pq 11) Fq (nS _)) (Np (nW (Cj hu) (pq 11) (pq 7) rfl))))
   (oX (nH kW))
   mG))))))
   (oU (mH (nW jN (oY mP (nK mC rfl T.z_len (nofun) (oQ (pq 6) oR)) (nK mC rfl T.z_len (nofun) (oQ (pq 7) oR))) (nK mC rfl T.z_len (nofun) (oQ (pq 4) oR)) (nS _))
   (oX (nH kW))
   mG)
   (oU (nJ (i:=11) sc_1c.nd rfl (Or.inl rfl) (lJ gQ rfl T.z_list (nofun) (oQ (pq 7) oR)))
   (oU (nJ (i:=12) sc_1c.nd rfl (Or.inl rfl) (nB G_17 hr.mo rfl T.m_17 T.F_17.kp T.b_17 .nil nC (oQ (pq 3) (oQ (nB G_9 hr.mo rfl T.m_9 T.F_9.kp T.b_9 .nil nC (oQ (mE (xs:=["_law_top"]) (fr:=[]) (g:=(oW 0)) (tt:=(tEl (tOp (rI0 λ i j=>.int (i+j)) (tVar 0) (tC (.int 1))))) (nR (sc:=oV s_1c) (N:=N_1c) rfl rfl (nofun)) rfl (mJ (oT ix_B (pq 5) oS (λ _ _=>rfl))) (λ _ _ _ hE1=>(nU (N:=["_law_top"]) (i:=0) hE1 rfl (nofun))) (λ _ _ _ hE1=>(nT (oY lF (pv 0) oS)))) (oQ (oY mP oS (oT ix_B (pq 5) oS (λ _ _=>rfl))) oR))) oR))))
   (oU (iM (Gp wC pW pV Gn (pq 6)))
   (oU (iM (Gp wC pW pV Gn (pq 7)))
   (oU (iM (eY wC vE vD fD (pq 12) (oQ (oT ix_B (pq 12) oS (λ _ _=>rfl)) oR)))
   (oX (nH (cS (jU (dB hu) (mE (xs:=["_law_row"]) (fr:=[]) (g:=(oW 0)) (tt:=(tEl (tOp (rIxB K) (tVar 0) (tC (.int 0))))) (nR (sc:=oV s_1c) (N:=N_1c) rfl rfl (nofun)) rfl (mJ (nB G_17 hr.mo rfl T.m_17 T.F_17.kp T.b_17 .nil nC (oQ (pq 3) (oQ (pq 5) oR)))) (λ _ _ _ hE1=>(nU (N:=["_law_row"]) (i:=0) hE1 rfl (nofun))) (λ _ _ _ hE1=>(nT (oT ix_B (pv 0) oS (λ _ _=>rfl))))) (pq 8) (nS _)) (Af (jU (dB hu) (nB G_1f hr.mo rfl T.m_1f T.F_1f.kp T.b_1f .nil nC (oQ (pq 3) (oQ (pq 5) oR))) (pq 11) (nS _)))))))))))))))))))))),?_⟩
  show tSeq _ _ _ [some (.ref a),none,none,none,none,none,none,none,none,none,none,none,none] H;refine st λ N1 e1=>?_;ext;refine ⟨a,ns,rfl,hS,λ fq k p SL S su H1 s1 hF ok=>?_⟩;have hd:=jE k;subst e1;refine st λ N1 e1=>?_;ext;refine ⟨a,ns,2,rfl,hS'.up s1,∅,?_⟩;generalize ns.getD (Int.toNat 2) 0=c2
  try ext
  refine ⟨⟨∅,∅⟩,∅,?_⟩;refine ⟨false,a,_,rfl,hS'.up s1,(by intro e; cases e),λ r2 hr2=>?_⟩;rw [dM];have f4:=fms (c2.fdiv 12) 4 ∅;obtain ⟨n4,en4⟩:=xQ (show 0<=3+(c2.fdiv 12).fmod 4 by omega);rw [en4];have hcs:((ns.drop (HT.sIx ns.length 0 (some 3))).take (HT.sIx ns.length ns.length (some (n4:Int)) - HT.sIx ns.length 0 (some 3))).length<=3:=by
   rw [xA,show ((3:Int))=((3:Nat):Int) from rfl,HT.sIx_nat,HT.sIx_nat];omega
  generalize (ns.drop (HT.sIx ns.length 0 (some 3))).take (HT.sIx ns.length ns.length (some (n4:Int)) - HT.sIx ns.length 0 (some 3))=cs at hcs;have hC:(upd H1 r2 (seqO false (cs.map V.int))) r2=some (.lst (cs.map V.int)):=oZ;have s2:Same H1 (upd H1 r2 (seqO false (cs.map V.int))):=Same.new hr2;generalize upd H1 r2 (seqO false (cs.map V.int))=H2 at hC s2;refine ⟨false,r2,fq,cs,k,p,SL,S,su,rfl,SqB.lst hC,hcs,hF.up s2,ok,λ mk mps ms H3 s3 emk hmk hms lms=>?_⟩;have hF3:=hF.up (s2.trans s3);obtain ⟨lq,sp,sl,f1,f2,f3,f4'⟩:=id hF3;have okF:=ok.frm;have hss:∀ s∈ms.map nO,InF (frm k p SL S su) s:=λ s hs=>by
   obtain ⟨m,hm,rfl⟩:=zE.mp hs;exact (hms m hm).2
  have tb:=Lm okF hss 192;subst e1;refine st λ N1 e1=>?_;ext;simp only [Fg];ext;refine ⟨true,fq,_,_,_,rfl,rfl,SqB.tup f1,rfl,true,sp,_,_,_,rfl,rfl,SqB.tup f3,rfl,?_⟩;refine lU (SqB.lst f4') ?_;rw [ok.lS]
  try ext
  intro g dx hg hdx hne;have s4:Same H3 (upd (upd H3 dx (.own g)) g (.ins t.a_z dx [])):=(Same.new hdx).trans (Same.new (by rw [nD (Ne.symm hne)]; exact hg));refine ⟨false,famD k,mk,g,dx,mps,ms,InF (frm k p SL S su),192,rfl,oZ,hd,SqB.lst (s4 _ _ emk),Paired.mapP hmk λ _ _ z=>z.up s4,⋯,λ s hs=>(hms s hs).1,λ s hs=>(An ok (hms s hs).2).1,λ x hx=>(An ok hx).1,Ep okF,λ x s hx hs=>Eu okF hx (hms s hs).2,
   yC tb.1 ∅,tb.1,λ y hy=>(An ok (tb.2 y hy)).1,cN,λ srt H5 s5 hG pm asc=>⟨rfl,?_⟩⟩
  have s05:Same H3 H5:=λ b o e=>s5 b o (λ z=>by rw [z,hg] at e; cases e) (s4 _ _ e);have lsrt:srt.length<=192:=by rw [pm.length_eq]; exact tb.1
  have hm:∀ y∈srt,MbOk (famD k) y.1:=λ y hy=>Xn ok (tb.2 y (pm.mem_iff.mp hy));have nds:(srt.map (·.1)).Nodup:=(pm.map (·.1)).nodup_iff.mpr cN;have n0:0 < srt.length:=by rw [pm.length_eq]; exact oO Lv
  have hS5:SqB false K H5 a (ns.map V.int):=hS'.up (((s1.trans s2).trans s3).trans s05);have hF5:=hF3.up s05;clear s4 f1 f2 f3 f4' hF3 s5;subst e1;refine st λ N1 e1=>?_;ext;simp only [bD];ext;obtain ⟨dx',fs,i1,i2⟩:=Fx hG;refine ⟨dx',fs,i1,i2,g,famD k,ms,srt,rfl,hG,λ l os H6 s6 hl0 hl hos=>?_⟩;have hM6:iV K H6 l srt:=⟨os,hl,hos⟩;clear hl hos;subst e1;refine st λ N1 e1=>?_;ext;refine ⟨a,ns,7,rfl,hS5.up s6,∅,?_⟩;generalize ns.getD (Int.toNat 7) 0=c7;refine ⟨c7,fq,k,p,SL,S,su,rfl,hF5.up s6,ok,λ q H7 TT w7 s7 hP w0 w1 lT bT=>?_⟩;have hσ:SpOk (famD k) (redT w7 TT,redU w7 TT):=Md lT w0 ⋯ (bT.le ∅);have bσ:mK 40 (redT w7 TT):=Me w0 bT;have lv:redU w7 TT<=144:=oI (eE (ts:=TT) w0).2.2 w1;have s67:=s6.trans s7;have hM7:=hM6.up s7;have hG7:=hG.up s67;have hS7:=hS5.up s67;obtain ⟨σ,eσ⟩:∃ σ:List Int × Int,σ=(redT w7 TT,redU w7 TT):=⟨_,rfl⟩;replace hP:mB H7 q σ.1 σ.2:=by rw [eσ]; exact hP
  rw [← eσ] at hσ;replace bσ:mK 40 σ.1:=by rw [eσ]; exact bσ
  replace lv:σ.2<=144:=by rw [eσ]; exact lv
  clear eσ hM6 hF5 hS5 hG;have v2:=hσ.pos;subst e1;refine st λ N1 e1=>?_;ext;refine ⟨g,q,famD k,ms,srt,σ,rfl,hG7,hd,hm,⋯,hP,hσ,λ r D H8 s8 hr0 hA hD=>?_⟩;subst e1;refine st λ N1 e1=>?_;ext;refine ⟨g,q,famD k,ms,srt,σ,rfl,hG7.up s8,hd,hm,⋯,nds,hP.upS s8,hσ,λ r' L H9 s9 hr0' hL pL rise=>?_⟩;have lD:D.length<=200:=by have:=hD.len; omega
  have s79:=s8.trans s9;have hA9:=hA.up s9;subst e1;refine st λ N1 e1=>?_;ext;refine ⟨r,l,q,famD k,srt,σ,D,rfl,hA9,hD,hM7.up s79,hm,⋯,hP.upS s79,hσ,hd,λ H10 s10=>?_⟩;refine ⟨true,rfl,iteF ?_⟩;have s710:=s79.trans s10;refine ⟨r',l,q,famD k,srt,σ,L,rfl,hL.up s10,pL,rise,hM7.up s710,hm,⋯,hP.upS s710,hσ,hd,λ H11 s11=>?_⟩;refine ⟨true,rfl,iteF ?_⟩;have s711:=s710.trans s11;have hA11:=(hA9.up s10).up s11;have hL11:=(hL.up s10).up s11;have rr:r'≠r:=λ z=>by
   obtain ⟨y,hy,_⟩:=hA;rw [z,hy] at hr0';cases hr0'
  clear hA hA9 hL;subst e1;refine st λ N1 e1=>?_;ext;refine nV λ B eB=>?_;simp only [iSeq];ext;obtain ⟨xs11,x11,_⟩:=id hA11;refine ⟨false,⟨_,SqB.lst x11⟩,λ pl hpl=>?_⟩;subst eB;refine Mc hA11 lD hpl λ H12 s12 hPl=>?_;have s712:=s711.trans s12;have hA12:=hA11.up s12;have hL12:=hL11.up s12;have plr:pl≠r:=λ z=>by rw [z,x11] at hpl; cases hpl
  have plr':pl≠r':=λ z=>by
   obtain ⟨y,hy,_⟩:=hL11;rw [z,hy] at hpl;cases hpl
  have hS12:=hS7.up s712;subst e1;refine st λ N1 e1=>kI λ B eB=>?_;simp only [iSeq];ext;refine ⟨false,a,_,rfl,hS12,(by intro e; cases e),λ rs hrs=>?_⟩;rw [dM];generalize (ns.drop (HT.sIx ns.length 0 (some 14))).take (HT.sIx ns.length ns.length (some 74) - HT.sIx ns.length 0 (some 14))=cs2;have hC2:(upd H12 rs (seqO false (cs2.map V.int))) rs=some (.lst (cs2.map V.int)):=oZ;have s13:Same H12 (upd H12 rs (seqO false (cs2.map V.int))):=Same.new hrs;generalize upd H12 rs (seqO false (cs2.map V.int))=H13 at hC2 s13;refine ⟨false,rs,rfl,⟨_,SqB.lst hC2⟩,?_⟩;refine iB (b:=false) (g:=oW 9) (tb:=B) (λ i τ H'=>∃ v9 v10 v11:Option V,τ=[some (.ref a),some (.ref fq),some (.ref mk),some (.ref g),some (.ref l),some (.ref q),some (.ref r),some (.ref r'),some (.ref pl),v9,v10,v11,none]/\Same H13 H') ⟨none,none,none,rfl,Same.refl _⟩ (λ i τ H' _ ⟨_,_,_,_,s⟩=>SqB.lst (s _ _ hC2)) ?_ ?_
  ·rintro i y τ H14 ey ⟨v9,v10,v11,rfl,s14⟩;obtain ⟨c,ec,rfl⟩:=lP ey;have s714:=(s712.trans s13).trans s14;have s1214:=s13.trans s14;have hM14:=hM7.up s714;obtain ⟨os,o1,o2⟩:=id hM14;have lo:os.length=srt.length:=mV o2;subst eB;show tSeq _ _ _ [some (.ref a),some (.ref fq),some (.ref mk),some (.ref g),some (.ref l),some (.ref q),some (.ref r),some (.ref r'),some (.ref pl),some (.int c),v10,v11,none] H14;refine st λ N2 e2=>?_;ext;refine ⟨false,l,_,rfl,SqB.lst o1,?_⟩;rw [zqe,lo];have fm:=fms c srt.length ⋯;refine ⟨_,_,rfl,rfl,⋯,?_⟩;obtain ⟨n,en⟩:=xQ fm.1;have hn:n < srt.length:=⋯
   obtain ⟨y,ey⟩:=lZ (l:=srt) rfl hn;refine Mg (I:=c.fmod srt.length) hM14 ey en λ mp hmp=>?_;have mx:=hm y (zqb ey);have mo:=jK hd hσ mx;have x1:=mx.le;have x2:=mx.pos;subst e2;refine st λ N2 e2=>?_;ext;refine ⟨mp,q,y.1,σ.1,σ.2,famD k,rfl,fB hmp,(hP.upS s714).s,mx.sq,hd,mx.len,hσ.len,mx.bm.le ∅,mx.bt'.le ∅,hσ.bits.le ∅,x2,⋯,v2,⋯,λ r4 H15 s15 hr4=>?_⟩;refine ⟨r4,mvT σ y.1,mvU σ y.1,rfl,mB.s hr4,by rw [mo.len]; omega,mo.pos,λ r5 H16 s16 hr5=>?_⟩;have s1416:=s15.trans s16;have hr5':Dt K H16 (.ref r5) (plO (act (famD k) σ y.1)):=by rw [eK]; exact PlS.dt hr5.s
   refine Xc ((hPl.up s1214).up s1416) hr5' (hD.all y (zqb ey)) ?_
   try ext
   subst e2;refine st λ N2 e2=>?_;ext;have hy16:Dt K H16 (.ref mp) (dat y.1):=nZ (nY s1416) 4 (mT y.1) hmp;refine ⟨mp,q,famD k,y.1,σ,rfl,hy16,mx,hd,hP.upS (s714.trans s1416),hσ,λ hk H17 s17=>?_,λ hk r6 H17 s17 hr6=>?_⟩
   ·subst e2;ext;exact s14.trans (s1416.trans s17)
   ·subst e2;ext;rw [zQ (by simp)];refine iteT (Mf ((hL12.up s1214).up (s1416.trans s17)) hr6 (pL.mem_iff.mpr (zE.mpr ⟨y.1,vU.mpr ⟨zE.mpr ⟨y,zqb ey,rfl⟩,zM hk⟩,rfl⟩)) ⟨_,rfl,iteF ?_⟩);exact s14.trans (s1416.trans s17)
  ·rintro τ H14 ⟨v9,v10,v11,rfl,s14⟩;have s1214:=s13.trans s14;have s714:=s712.trans s1214;have hA14:=hA12.up s1214;have hL14:=hL12.up s1214;have hPl14:=hPl.up s1214;have hP14:=hP.upS s714;obtain ⟨os,o1,o2⟩:=hM7.up s714;have lo:os.length=srt.length:=mV o2;obtain ⟨fs',fa1,fa2⟩:=id hA14;have lf:fs'.length=D.length:=mV fa2;obtain ⟨ks,ka1,ka2⟩:=id hL14;have lk:ks.length=L.length:=mV ka2;have cnt:D.length*L.length=srt.length:=Yz okF hss pm hσ hD pL;have LL:L.length<=200:=by
    rw [pL.length_eq];refine yC Ah ?_;rw [zqe];omega
   subst e1;refine st λ N1 e1=>?_;ext;refine ⟨false,r,_,rfl,SqB.lst fa1,false,r',_,rfl,SqB.lst ka1,?_⟩;rw [zqe,zqe,lf,lk];refine ⟨_,_,rfl,rfl,yU (mF (show ((D.length:Nat):Int).natAbs < 2 ^ 8 by omega)) (mF (show ((L.length:Nat):Int).natAbs < 2 ^ 8 by omega)) ∅,?_⟩;refine ⟨false,l,_,rfl,SqB.lst o1,_,_,rfl,rfl,_,rfl,?_⟩;rw [zqe,lo,zM (show ((D.length:Nat):Int)*((L.length:Nat):Int)=((srt.length:Nat):Int) by rw [← cnt]; rfl)];refine iteF ?_;subst e1;refine st λ N1 e1=>?_;ext;refine ⟨false,r',_,rfl,SqB.lst ka1,λ ex hex=>?_⟩;have s15:Same H14 (upd H14 ex (.lst (ks.map V.ref))):=Same.new hex;have hE15:DlAt K (upd H14 ex (.lst (ks.map V.ref))) ex L:=⟨ks,oZ,Paired.mapP ka2 λ _ x z=>nZ (nY s15) 4 (mT x) z⟩;have exr:ex≠r:=λ z=>by rw [z,fa1] at hex; cases hex
   have exr':ex≠r':=λ z=>by rw [z,ka1] at hex; cases hex
   generalize upd H14 ex (.lst (ks.map V.ref))=H15 at s15 hE15;have hP15:=hP14.upS s15;have hPl15:=hPl14.up s15;subst e1;refine st λ N1 e1=>?_;ext;refine nV λ B eB=>?_;simp only [iSeq];ext;refine jG hP15.s λ z hz=>⟨true,z,rfl,⟨_,(hz:SqB true K H15 z _)⟩,λ a1 ha1=>lC (λ j y _=>∃ n,σ.1[j]?=some n/\y=.int (n+1)) ha1 (hz:SqB true K H15 z _) (by rw [zqe,hσ.len]; omega) (λ _ _ _ _ r _=>r) ?_ ?_⟩
   ·intro j v H1 zs hv _ _ Q' hQ';obtain ⟨n,hn,rfl⟩:=lP hv;subst eB;show tOp _ _ _ [some (.int n)] H1 Q';ext;exact hQ' _ H1 (Same.refl _) ⟨n,hn,rfl⟩
   intro H16 ys s16 e16 hly hr16;have ey:ys=(σ.1.map (·+1)).map V.int:=by
    rw [xE];exact mS (by simpa using hly) hr16
   subst ey
   try ext
   refine iH (hP15.upS s16).s ?_
   try ext
   refine ⟨yU (mF (show (2:Int).natAbs < 2 ^ 2 by decide)) (mF (show σ.2.natAbs < 2 ^ 8 by omega)) ∅,?_⟩;have b1:mK 60 (σ.1.map (·+1)):=λ z hz=>by
    obtain ⟨n,hn,rfl⟩:=zE.mp hz;have:=bσ n hn;omega
   have hτ:SpOk (famD k) (redT (2*σ.2) (σ.1.map (·+1)),redU (2*σ.2) (σ.1.map (·+1))):=Md (by rw [zqe]; exact hσ.len) ⋯ ⋯ b1;refine ⟨false,a1,σ.1.map (·+1),2*σ.2,rfl,SqB.lst e16,by rw [zqe,hσ.len]; omega,⋯,jI (B:=20) ⋯ ∅,λ q2 H17 s17 hq2=>?_⟩;have s1417:=(s15.trans s16).trans s17;have s717:=s714.trans s1417;refine ⟨g,q2,famD k,ms,srt,_,rfl,hG7.up s717,hd,hm,⋯,hq2,hτ,λ r3 D3 H18 s18 hr03 hA3 hD3=>?_⟩;have s1518:=(s16.trans s17).trans s18;have s718:=s717.trans s18;have fa18:=s1518 _ _ (s15 _ _ fa1);have ka18:=s1518 _ _ (s15 _ _ ka1);have hE18:=hE15.up s1518;have hPl18:=hPl15.up s1518;have n3:r3≠r:=λ z=>by rw [z,s1417 _ _ fa1] at hr03; cases hr03
   have n3':r3≠r':=λ z=>by rw [z,s1417 _ _ ka1] at hr03; cases hr03
   have n3p:r3≠pl:=λ z=>by
    obtain ⟨qs,q1,_⟩:=hPl14;rw [z,s1417 _ _ q1] at hr03; cases hr03
   have n3e:r3≠ex:=λ z=>by
    obtain ⟨qs,q1,_⟩:=hE15;rw [z,s17 _ _ (s16 _ _ q1)] at hr03; cases hr03
   have h7r3:H7 r3=none:=Ai s717 hr03;subst e1;refine st λ N1 e1=>?_;ext;refine ⟨tyL fa18,r,_,rfl,rfl,fa18,?_⟩;have tk19:TK K H18 (upd H18 r (.lst [])):=TK.off fa18 (λ _ z=>by cases z) (λ _ _ z=>by cases z) λ _ hc=>nD hc;have s719:Same H7 (upd H18 r (.lst [])):=Same.over hr0 s718;have ka19:(upd H18 r (.lst [])) r'=some (.lst (ks.map V.ref)):=by rw [nD rr]; exact ka18
   have hE19:=hE18.tk tk19 (nD exr);have hPl19:=hPl18.tk tk19 (nD plr);have hA19:=hA3.tk tk19 (nD n3);show N1 _ (upd H18 r (.lst []));generalize upd H18 r (.lst [])=H19 at *
   subst e1;refine st λ N1 e1=>?_;ext;refine ⟨tyL ka19,r',_,rfl,rfl,ka19,?_⟩;have tk20:TK K H19 (upd H19 r' (.lst [])):=TK.off ka19 (λ _ z=>by cases z) (λ _ _ z=>by cases z) λ _ hc=>nD hc;have s720:Same H7 (upd H19 r' (.lst [])):=Same.over (Ai s8 hr0') s719;have hE20:=hE19.tk tk20 (nD exr');have hPl20:=hPl19.tk tk20 (nD plr');have hA20:=hA19.tk tk20 (nD n3');show N1 _ (upd H19 r' (.lst []));generalize upd H19 r' (.lst [])=H20 at *
   obtain ⟨p3,pa1,pa2⟩:=hA20;have l3:p3.length=D3.length:=mV pa2;have n3D:0 < D3.length:=by
    obtain ⟨y,ey⟩:=lZ (l:=srt) rfl n0;have:=hD3.all y (zqb ey);have:=oO this;rw [zqe] at this;exact this
   have lD3:=hD3.len;obtain ⟨p0,ep0⟩:=lZ l3 n3D;subst e1;refine st λ N1 e1=>?_;ext;refine ⟨tyL pa1,?_⟩;refine cK (i:=0) pa1 (by rw [zB,ep0]; rfl) rfl ?_;refine ⟨r3,_,_,rfl,rfl,pa1,by rw [zqe]; exact yC (show p3.length+1<=1000 by omega) ∅,?_⟩;have tk21:TK K H20 (upd H20 r3 (.lst (p3.map V.ref++[.ref p0]))):=TK.off pa1 (λ _ z=>by cases z) (λ _ _ z=>by cases z) λ _ hc=>nD hc;have s721:Same H7 (upd H20 r3 (.lst (p3.map V.ref++[.ref p0]))):=Same.over h7r3 s720;have hE21:=hE20.tk tk21 (nD (Ne.symm n3e));have hPl21:=hPl20.tk tk21 (nD (Ne.symm n3p));show N1 _ (upd H20 r3 (.lst (p3.map V.ref++[.ref p0])));generalize upd H20 r3 (.lst (p3.map V.ref++[.ref p0]))=H21 at *
   subst e1;ext;refine nV λ B eB=>?_;simp only [iSeq];ext;refine ⟨g,q,famD k,ms,srt,σ,rfl,hG7.up s721,hd,hm,⋯,hP.upS s721,hσ,λ r5 D5 H22 s22 hr05 hA5 hD5=>?_⟩;obtain ⟨x5,x51,_⟩:=id hA5;refine ⟨false,r5,rfl,⟨_,SqB.lst x51⟩,λ a5 ha5=>?_⟩;subst eB;refine Mc hA5 (by have:=hD5.len; omega) ha5 λ H23 s23 hPl5=>?_;have s2123:=s22.trans s23;refine dJ 4 ∅ (Mb hPl5) (Mb (hPl21.up s2123)) (Ag (λ e=>kU _ _) _) (Ag (λ e=>kU _ _) _) (b:=true) (by simp only [true_iff]; rw [Xb hD5 hD]) ?_
   try ext
   refine ⟨g,q,famD k,ms,srt,σ,rfl,hG7.up (s721.trans s2123),hd,hm,⋯,nds,hP.upS (s721.trans s2123),hσ,λ r6 L6 H24 s24 _ hL6 pL6 rise6=>?_⟩;refine dJ 4 ∅ (Ma hL6) (Ma ((hE21.up s2123).up s24)) (Ag (λ x=>Jb _ _ _) _) (Ag (λ x=>Jb _ _ _) _) (b:=true) (by simp only [true_iff]; rw [Xa pL6 pL rise6 rise]) ?_
   try ext
   exact hQ _
end
theorem us1 {α:Type} {us:List α} (h:us.length=1):∃ a0,us=[a0]:=match us,h with | [a0],_=>⟨a0,rfl⟩
theorem us2 {α:Type} {us:List α} (h:us.length=2):∃ a0 a1,us=[a0,a1]:=match us,h with | [a0,a1],_=>⟨a0,a1,rfl⟩
theorem us3 {α:Type} {us:List α} (h:us.length=3):∃ a0 a1 a2,us=[a0,a1,a2]:=match us,h with | [a0,a1,a2],_=>⟨a0,a1,a2,rfl⟩
theorem us4 {α:Type} {us:List α} (h:us.length=4):∃ a0 a1 a2 a3,us=[a0,a1,a2,a3]:=match us,h with | [a0,a1,a2,a3],_=>⟨a0,a1,a2,a3,rfl⟩
theorem us5 {α:Type} {us:List α} (h:us.length=5):∃ a0 a1 a2 a3 a4,us=[a0,a1,a2,a3,a4]:=match us,h with | [a0,a1,a2,a3,a4],_=>⟨a0,a1,a2,a3,a4,rfl⟩
abbrev caG (K:Frag) (C:Addr):Prop:=findIn K (.ref C) "__class__" = some (some (.builtin "object.__class__"))
abbrev nG (K:Frag) (x:Str) (f:Addr):Prop:=nsIn K mainGlobals x=some (some (.ref f))
local macro_rules | `(tactic| walk_at "1")=>`(tactic| (intro _ _ _ _ _ _ us hl; obtain ⟨_,hh⟩:=us1 hl; subst hh; rfl))
local macro_rules | `(tactic| walk_at "2")=>`(tactic| (intro _ _ _ _ _ _ us hl; obtain ⟨_,_,hh⟩:=us2 hl; subst hh; rfl))
local macro_rules | `(tactic| walk_at "3")=>`(tactic| (intro _ _ _ _ _ _ us hl; obtain ⟨_,_,_,hh⟩:=us3 hl; subst hh; rfl))
local macro_rules | `(tactic| walk_at "5")=>`(tactic| (intro _ _ _ _ _ _ us hl; obtain ⟨_,_,_,_,_,hh⟩:=us5 hl; subst hh; rfl))
theorem txt_mk {K:Frag} {h:Heap} {mg:MT} (X:K.In h) (G:h.Ns mainGlobals mg)
  {C_1i C_1h C_1g C_1k C_1j C_z f_11 f_15 f_g f_v f_x f_u f_i f_1e f_18 f_14 f_8 f_10 f_1a f_19 f_1d f_16 f_12 f_1b f_17 f_m f_1f f_t f_r f_13 f_7 f_a f_j f_e f_q f_9 f_l f_b f_y f_p f_w f_1 f_2 f_3 f_o f_k f_5 f_f f_6 f_n f_c f_h f_4 f_s f_d f_1c:Addr} {d_11 d_15 d_g d_v d_x d_u d_i d_1e d_18 d_14 d_8 d_10 d_1a d_19 d_1d d_16 d_12 d_1b d_17 d_m d_1f d_t d_r d_13 d_7 d_a d_j d_e d_q d_9 d_l d_b d_y d_p d_w d_1 d_2 d_3 d_o d_k d_5 d_f d_6 d_n d_c d_h d_4 d_s d_d d_1c:FuncData}
  {f_0:Addr} {od_0 an_0:Option Addr} {sl_0:Array (Option Value)} {oc_0 kV_0 dc_0 pm_0 cd_0 ct_0:Value}
  {T_Group___init__:Addr} {oT_Group___init__:Value} {dT_Group___init__:Option Addr} {nT_Group___init__:Nat} {sT_Group___init__:Array (Option Value)} {kT_Group___init__:Tok}
  {tk_MOST_MEMBERS:Tok}
  (n_1i:nG K "CrystalError" C_1i)
  (n_1h:nG K "NoPlace" C_1h)
  (n_1g:nG K "NoDeed" C_1g)
  (n_1k:nG K "TooMany" C_1k)
  (n_1j:nG K "NoNumber" C_1j)
  (n_z:nG K "Group" C_z)
  (n_11:nG K "divisor" f_11)
  (F_11:Fun K "divisor" "divisor" s_11 f_11 d_11)
  (n_15:nG K "place" f_15)
  (F_15:Fun K "place" "place" s_15 f_15 d_15)
  (n_g:nG K "rest_place" f_g)
  (F_g:Fun K "rest_place" "rest_place" aH f_g d_g)
  (n_v:nG K "place_sum" f_v)
  (F_v:Fun K "place_sum" "place_sum" aI f_v d_v)
  (n_x:nG K "opposite" f_x)
  (F_x:Fun K "opposite" "opposite" aJ f_x d_x)
  (n_u:nG K "place_less" f_u)
  (F_u:Fun K "place_less" "place_less" Ci f_u d_u)
  (n_i:nG K "still_rows" f_i)
  (F_i:Fun K "still_rows" "still_rows" aK f_i d_i)
  (n_1e:nG K "dot" f_1e)
  (F_1e:Fun K "dot" "dot" s_1e f_1e d_1e)
  (n_18:nG K "turned" f_18)
  (F_18:Fun K "turned" "turned" s_18 f_18 d_18)
  (n_14:nG K "without" f_14)
  (F_14:Fun K "without" "without" s_14 f_14 d_14)
  (n_8:nG K "determinant" f_8)
  (F_8:Fun K "determinant" "determinant" s_8 f_8 d_8)
  (n_10:nG K "joined" f_10)
  (F_10:Fun K "joined" "joined" s_10 f_10 d_10)
  (n_1a:nG K "deed" f_1a)
  (F_1a:Fun K "deed" "deed" s_1a f_1a d_1a)
  (n_19:nG K "still" f_19)
  (F_19:Fun K "still" "still" s_19 f_19 d_19)
  (n_1d:nG K "move" f_1d)
  (F_1d:Fun K "move" "move" s_1d f_1d d_1d)
  (n_16:nG K "moved" f_16)
  (F_16:Fun K "moved" "moved" s_16 f_16 d_16)
  (n_12:nG K "behind" f_12)
  (F_12:Fun K "behind" "behind" s_12 f_12 d_12)
  (n_1b:nG K "rest" f_1b)
  (F_1b:Fun K "rest" "rest" s_1b f_1b d_1b)
  (n_17:nG K "alike" f_17)
  (F_17:Fun K "alike" "alike" s_17 f_17 d_17)
  (n_m:nG K "all_leading" f_m)
  (F_m:Fun K "all_leading" "all_leading" Cg f_m d_m)
  (n_1f:nG K "own" f_1f)
  (F_1f:Fun K "own" "own" s_1f f_1f d_1f)
  (n_t:nG K "check_most" f_t)
  (F_t:Fun K "check_most" "check_most" Cf f_t d_t)
  (n_r:nG K "check_axes" f_r)
  (F_r:Fun K "check_axes" "check_axes" Ce f_r d_r)
  (n_13:nG K "closed" f_13)
  (F_13:Fun K "closed" "closed" s_13 f_13 d_13)
  (n_0:findIn K (.ref C_z) "__init__" = some (some (.ref f_0)))
  (l_0:K.lookup f_0=some ⟨oc_0,od_0,.func (fnOf "__init__" "Group.__init__" (jW s_0) (kH s_0) (oV s_0) (.ref T_Group___init__) kV_0 dc_0 pm_0 an_0 cd_0 ct_0),sl_0⟩)
  (t_Group___init__:K.lookup T_Group___init__=some ⟨oT_Group___init__,dT_Group___init__,.seq #[.int 200 kT_Group___init__] nT_Group___init__,sT_Group___init__⟩)
  (c_0:codeIn K cd_0 "Group.__init__" = true)
  (k_0:keepIn K (.ref f_0)=true)
  (n_7:findIn K (.ref C_z) "members" = some (some (.ref f_7)))
  (F_7:Fun K "members" "Group.members" s_7 f_7 d_7)
  (n_a:nG K "_law_cell_at" f_a)
  (F_a:Fun K "_law_cell_at" "_law_cell_at" Cd f_a d_a)
  (n_j:nG K "_law_whole" f_j)
  (F_j:Fun K "_law_whole" "_law_whole" Cc f_j d_j)
  (n_e:nG K "_law_digits" f_e)
  (F_e:Fun K "_law_digits" "_law_digits" Cb f_e d_e)
  (n_q:nG K "_law_shared" f_q)
  (F_q:Fun K "_law_shared" "_law_shared" Ca f_q d_q)
  (n_9:nG K "_law_place" f_9)
  (F_9:Fun K "_law_place" "_law_place" s_9 f_9 d_9)
  (n_l:nG K "_law_family" f_l)
  (F_l:Fun K "_law_family" "_law_family" cE f_l d_l)
  (n_b:nG K "_law_rows_times" f_b)
  (F_b:Fun K "_law_rows_times" "_law_rows_times" aL f_b d_b)
  (n_y:nG K "_law_led" f_y)
  (F_y:Fun K "_law_led" "_law_led" aM f_y d_y)
  (n_p:nG K "_law_maker" f_p)
  (F_p:Fun K "_law_maker" "_law_maker" aN f_p d_p)
  (n_w:nG K "_law_step" f_w)
  (F_w:Fun K "_law_step" "_law_step" Dz f_w d_w)
  (n_1:nG K "_law_rows_there" f_1)
  (F_1:Fun K "_law_rows_there" "_law_rows_there" s_1 f_1 d_1)
  (n_2:nG K "_law_tops_there" f_2)
  (F_2:Fun K "_law_tops_there" "_law_tops_there" s_2 f_2 d_2)
  (n_3:nG K "_law_deed_there" f_3)
  (F_3:Fun K "_law_deed_there" "_law_deed_there" s_3 f_3 d_3)
  (n_o:nG K "_law_frame" f_o)
  (F_o:Fun K "_law_frame" "_law_frame" cF f_o d_o)
  (n_k:nG K "_law_makers" f_k)
  (F_k:Fun K "_law_makers" "_law_makers" Dy f_k d_k)
  (n_5:nG K "_law_reached" f_5)
  (F_5:Fun K "_law_reached" "_law_reached" s_5 f_5 d_5)
  (n_f:nG K "_law_rest" f_f)
  (F_f:Fun K "_law_rest" "_law_rest" aO f_f d_f)
  (n_6:nG K "_law_asked_at" f_6)
  (F_6:Fun K "_law_asked_at" "_law_asked_at" s_6 f_6 d_6)
  (n_n:nG K "_law_numbers" f_n)
  (F_n:Fun K "_law_numbers" "_law_numbers" aP f_n d_n)
  (n_c:nG K "_law_is_place" f_c)
  (F_c:Fun K "_law_is_place" "_law_is_place" Dx f_c d_c)
  (n_h:nG K "_law_rising" f_h)
  (F_h:Fun K "_law_rising" "_law_rising" aQ f_h d_h)
  (n_4:nG K "_law_places_right" f_4)
  (F_4:Fun K "_law_places_right" "_law_places_right" s_4 f_4 d_4)
  (n_s:nG K "_law_exact" f_s)
  (F_s:Fun K "_law_exact" "_law_exact" cG f_s d_s)
  (n_d:nG K "_law_own_right" f_d)
  (F_d:Fun K "_law_own_right" "_law_own_right" Dw f_d d_d)
  (n_1c:nG K "law" f_1c)
  (F_1c:Fun K "law" "law" s_1c f_1c d_1c)
  (n_MOST_MEMBERS:nsIn K mainGlobals "MOST_MEMBERS" = some (some (.int 200 tk_MOST_MEMBERS)))
  (y_any:nsIn K mainGlobals "any" = some none)
  (y_sum:nsIn K mainGlobals "sum" = some none)
  (y_zip:nsIn K mainGlobals "zip" = some none)
  (y_enumerate:nsIn K mainGlobals "enumerate" = some none)
  (y_range:nsIn K mainGlobals "range" = some none)
  (y_len:nsIn K mainGlobals "len" = some none)
  (y_abs:nsIn K mainGlobals "abs" = some none)
  (y_isinstance:nsIn K mainGlobals "isinstance" = some none)
  (y_int:nsIn K mainGlobals "int" = some none)
  (y_bool:nsIn K mainGlobals "bool" = some none)
  (y_list:nsIn K mainGlobals "list" = some none)
  (y_tuple:nsIn K mainGlobals "tuple" = some none)
  (y_sorted:nsIn K mainGlobals "sorted" = some none)
  (y_dict:nsIn K mainGlobals "dict" = some none)
  (q_a:kitOne K (.type "int") (.type "int")=some true)
  (q_b:kitOne K (.type "int") (.type "bool")=some false)
  (q_c:kitOne K (.type "tuple") (.type "tuple")=some true)
  (q_d:kitOne K (.type "list") (.type "list")=some true)
  (q_5:PySem.W.excIn K C_1h [.type "ValueError",.type "Exception",.type "BaseException",.type "object"] "ValueError.__new__" = true)
  (q_6:PySem.W.excIn K C_1g [.type "ValueError",.type "Exception",.type "BaseException",.type "object"] "ValueError.__new__" = true)
  (q_7:L2.Cls K C_z)
  (q_8:L2.Mk K C_z f_0)
  (q_0:L2.Meth K C_z "members" f_7)
  (q_1:findIn K (.ref C_z) "dimension" = some none)
  (q_9:findIn K (.ref C_z) "given" = some none)
  (q_3:findIn K (.ref C_z) "ordered" = some none)
  (q_2:findIn K (.ref C_z) "shortest" = some none)
  (q_4:findIn K (.ref C_z) "numbers" = some none)
  : ∃ t,Txt K mg t:=by
 have b_11:=F_11.binds (ps:=pz') (by walk_at "2");have b_15:=F_15.binds (ps:=pw') (by walk_at "2");have b_g:=F_g.binds (ps:=pJ') (by walk_at "1");have b_v:=F_v.binds (ps:=pz') (by walk_at "2");have b_x:=F_x.binds (ps:=pJ') (by walk_at "1");have b_u:=F_u.binds (ps:=pz') (by walk_at "2");have b_i:=F_i.binds (ps:=["size"]) (by walk_at "1");have b_1e:=F_1e.binds (ps:=pz') (by walk_at "2");have b_18:=F_18.binds (ps:=pI') (by walk_at "1");have b_14:=F_14.binds (ps:=px') (by walk_at "3");have b_8:=F_8.binds (ps:=pI') (by walk_at "1");have b_10:=F_10.binds (ps:=pA') (by walk_at "2");have b_1a:=F_1a.binds (ps:=pr') (by walk_at "3");have b_19:=F_19.binds (ps:=["d"]) (by walk_at "1");have b_1d:=F_1d.binds (ps:=pJ') (by walk_at "1");have b_16:=F_16.binds (ps:=pC') (by walk_at "2");have b_12:=F_12.binds (ps:=pz') (by walk_at "2");have b_1b:=F_1b.binds (ps:=pJ') (by walk_at "1");have b_17:=F_17.binds (ps:=py') (by walk_at "2");have b_m:=F_m.binds (ps:=po') (by walk_at "3");have b_1f:=F_1f.binds (ps:=py') (by walk_at "2");have b_t:=F_t.binds (ps:=["most"]) (by walk_at "1");have b_r:=F_r.binds (ps:=pD') (by walk_at "2");have b_13:=F_13.binds (ps:=pv') (by walk_at "3");have F_0:=Uy (st:=s_0) (ds:=[.int 200 kT_Group___init__]) l_0 c_0 k_0 t_Group___init__;have b_0:=F_0.bindsA (ps:=ph') λ _ _ _ _ _ _ _ us hl=>by obtain ⟨_,_,_,_,rfl⟩:=us4 hl; exact ⟨_,rfl,rfl⟩
 have bd_Group___init__:=F_0.binds (ps:=ph') λ _ _ _ _ _ _ _ us hl=>by obtain ⟨_,_,_,rfl⟩:=us3 (Nat.succ.inj hl); exact ⟨_,rfl,rfl⟩
 have b_7:=F_7.binds (ps:=["self"]) (by walk_at "1");have b_a:=F_a.binds (ps:=pp') (by walk_at "2");have b_j:=F_j.binds (ps:=pE') (by walk_at "1");have b_e:=F_e.binds (ps:=pe') (by walk_at "3");have b_q:=F_q.binds (ps:=pi') (by walk_at "2");have b_9:=F_9.binds (ps:=pj') (by walk_at "2");have b_l:=F_l.binds (ps:=pF') (by walk_at "1");have b_b:=F_b.binds (ps:=pm') (by walk_at "2");have b_y:=F_y.binds (ps:=pn') (by walk_at "2");have b_p:=F_p.binds (ps:=pd') (by walk_at "3");have b_w:=F_w.binds (ps:=pt') (by walk_at "2");have b_1:=F_1.binds (ps:=pk') (by walk_at "2");have b_2:=F_2.binds (ps:=pl') (by walk_at "2");have b_3:=F_3.binds (ps:=pa') (by walk_at "5");have b_o:=F_o.binds (ps:=pB') (by walk_at "1");have b_k:=F_k.binds (ps:=pf') (by walk_at "2");have b_5:=F_5.binds (ps:=pq') (by walk_at "2");have b_f:=F_f.binds (ps:=pG') (by walk_at "1");have b_6:=F_6.binds (ps:=pg') (by walk_at "2");have b_n:=F_n.binds (ps:=pH') (by walk_at "1");have b_c:=F_c.binds (ps:=pu') (by walk_at "2");have b_h:=F_h.binds (ps:=pH') (by walk_at "1");have b_4:=F_4.binds (ps:=pb') (by walk_at "3");have b_s:=F_s.binds (ps:=pq') (by walk_at "2");have b_d:=F_d.binds (ps:=pc') (by walk_at "3");have b_1c:=F_1c.binds (ps:=pB') (by walk_at "1");obtain ⟨_,_,_,_,_,_,_,_,_,rfl,_,_⟩:=id F_1c.ex;exact ⟨⟨f_11,_,f_15,_,f_g,_,f_v,_,f_x,_,f_u,_,f_i,_,f_1e,_,f_18,_,f_14,_,f_8,_,f_10,_,f_1a,_,f_19,_,f_1d,_,f_16,_,f_12,_,f_1b,_,f_17,_,f_m,_,f_1f,_,f_t,_,f_r,_,f_13,_,f_0,_,f_7,_,f_a,_,f_j,_,f_e,_,f_q,_,f_9,_,f_l,_,f_b,_,f_y,_,f_p,_,f_w,_,f_1,_,f_2,_,f_3,_,f_o,_,f_k,_,f_5,_,f_f,_,f_6,_,f_n,_,f_c,_,f_h,_,f_4,_,f_s,_,f_d,_,f_1c,_,C_1i,C_1h,C_1g,C_1k,C_1j,C_z,kT_Group___init__⟩,⟨F_11,mg_of X G n_11,b_11,F_15,mg_of X G n_15,b_15,F_g,mg_of X G n_g,b_g,F_v,mg_of X G n_v,b_v,F_x,mg_of X G n_x,b_x,F_u,mg_of X G n_u,b_u,F_i,mg_of X G n_i,b_i,F_1e,mg_of X G n_1e,b_1e,F_18,mg_of X G n_18,b_18,F_14,mg_of X G n_14,b_14,F_8,mg_of X G n_8,b_8,F_10,mg_of X G n_10,b_10,F_1a,mg_of X G n_1a,b_1a,F_19,mg_of X G n_19,b_19,F_1d,mg_of X G n_1d,b_1d,F_16,mg_of X G n_16,b_16,F_12,mg_of X G n_12,b_12,F_1b,mg_of X G n_1b,b_1b,F_17,mg_of X G n_17,b_17,F_m,mg_of X G n_m,b_m,F_1f,mg_of X G n_1f,b_1f,F_t,mg_of X G n_t,b_t,F_r,mg_of X G n_r,b_r,F_13,mg_of X G n_13,b_13,F_0,bd_Group___init__,b_0,F_7,b_7,F_a,mg_of X G n_a,b_a,F_j,mg_of X G n_j,b_j,F_e,mg_of X G n_e,b_e,F_q,mg_of X G n_q,b_q,F_9,mg_of X G n_9,b_9,F_l,mg_of X G n_l,b_l,F_b,mg_of X G n_b,b_b,F_y,mg_of X G n_y,b_y,F_p,mg_of X G n_p,b_p,F_w,mg_of X G n_w,b_w,F_1,mg_of X G n_1,b_1,F_2,mg_of X G n_2,b_2,F_3,mg_of X G n_3,b_3,F_o,mg_of X G n_o,b_o,F_k,mg_of X G n_k,b_k,F_5,mg_of X G n_5,b_5,F_f,mg_of X G n_f,b_f,F_6,mg_of X G n_6,b_6,F_n,mg_of X G n_n,b_n,F_c,mg_of X G n_c,b_c,F_h,mg_of X G n_h,b_h,F_4,mg_of X G n_4,b_4,F_s,mg_of X G n_s,b_s,F_d,mg_of X G n_d,b_d,F_1c,mg_of X G n_1c,b_1c,yX X G y_any,yX X G y_sum,yX X G y_zip,yX X G y_enumerate,yX X G y_range,yX X G y_len,yX X G y_abs,yX X G y_isinstance,yX X G y_int,yX X G y_bool,yX X G y_list,yX X G y_tuple,yX X G y_sorted,yX X G y_dict,mg_of X G n_1i,mg_of X G n_1h,mg_of X G n_1g,mg_of X G n_1k,mg_of X G n_1j,mg_of X G n_z,⟨_,mg_of X G n_MOST_MEMBERS,_,rfl⟩,q_a,q_b,q_c,q_d,q_5,q_6,q_7,q_8,q_0,q_1,q_9,q_3,q_2,q_4,λ s v=>.of_eq rfl⟩⟩
end Cw
end
open PySem PySem.W PyProof.Rows
/-! Names that the head would else lay equations under (of whole heaps and of their trees): the proof wants none of them. -/
namespace PySem.W.Fast
def tw10012501550996761797:=Nat
def tw10013407110153257221:=Nat
def tw10182127782599828120:=Nat
def tw10229539217067330603:=Nat
def tw10320283082037165273:=Nat
def tw10335929224199157995:=Nat
def tw10398885626337135487:=Nat
def tw10494562290563438024:=Nat
def tw10508159860328700229:=Nat
def tw10521990174756681411:=Nat
def tw10543981969013148387:=Nat
def tw10645400352582617575:=Nat
def tw10656367058252489646:=Nat
def tw1092285200930837294:=Nat
def tw1095002409529345578:=Nat
def tw1096633688395114202:=Nat
def tw11060832344217214369:=Nat
def tw11177446744595711338:=Nat
def tw11228020824899866622:=Nat
def tw11228908902519185450:=Nat
def tw11348333121876352066:=Nat
def tw11365715744343033282:=Nat
def tw11482826180493974335:=Nat
def tw1153757005824029172:=Nat
def tw11539693761183959810:=Nat
def tw11562977684445580300:=Nat
def tw11564902822095527258:=Nat
def tw11626140528616902275:=Nat
def tw11661620194213039534:=Nat
def tw11678003824471634238:=Nat
def tw11709307585909005363:=Nat
def tw11736709089780463406:=Nat
def tw11748531710138130428:=Nat
def tw1183653620595917590:=Nat
def tw1184359932317913836:=Nat
def tw1191295302494379705:=Nat
def tw11918323793909814884:=Nat
def tw11994477979590503608:=Nat
def tw12015064946641876377:=Nat
def tw12109871516599602343:=Nat
def tw12220246395276282474:=Nat
def tw12351407274701439320:=Nat
def tw12420623266823881775:=Nat
def tw12464015327090149115:=Nat
def tw1248565195112603467:=Nat
def tw12730094706445547903:=Nat
def tw12733889178771026916:=Nat
def tw12743209191655824568:=Nat
def tw12765717235632432793:=Nat
def tw12776050786879617153:=Nat
def tw12814648554039406329:=Nat
def tw1295383400817551433:=Nat
def tw13088777333071459023:=Nat
def tw13135841003509516482:=Nat
def tw13149739101914695550:=Nat
def tw1319391110610187098:=Nat
def tw13198298059651180348:=Nat
def tw13229708208567829461:=Nat
def tw13250415619872783299:=Nat
def tw13253549247603012873:=Nat
def tw13269360766486123511:=Nat
def tw13351112018044494068:=Nat
def tw13452685939839515250:=Nat
def tw13466450980137206427:=Nat
def tw13547472907756278369:=Nat
def tw13590922119635595989:=Nat
def tw1368688248923469793:=Nat
def tw13737015675131826910:=Nat
def tw13789748840658689875:=Nat
def tw13976649348115591312:=Nat
def tw1397801903689054802:=Nat
def tw14016078263991544104:=Nat
def tw14071991703293957382:=Nat
def tw14209432886025545026:=Nat
def tw14234240478854685964:=Nat
def tw14240359612690168006:=Nat
def tw14404291914795038542:=Nat
def tw14669969605387418629:=Nat
def tw14708659771707201719:=Nat
def tw1471357193763732337:=Nat
def tw14836331026422169941:=Nat
def tw14844749763358467754:=Nat
def tw14936696403865761580:=Nat
def tw15001527860616588627:=Nat
def tw15008772640245948605:=Nat
def tw15053634470333688978:=Nat
def tw1518582136873348517:=Nat
def tw15237390190588691969:=Nat
def tw15349715269145350185:=Nat
def tw15363873486968703680:=Nat
def tw15472373700386957207:=Nat
def tw15530165416229509776:=Nat
def tw1574962458938709725:=Nat
def tw15810350560337214482:=Nat
def tw15827117250777122387:=Nat
def tw15897809870677558566:=Nat
def tw15938907751458465742:=Nat
def tw15951873901089186083:=Nat
def tw15986593593014728339:=Nat
def tw16009953764894303286:=Nat
def tw16132186001796326401:=Nat
def tw16155219686473430071:=Nat
def tw16198063169747687782:=Nat
def tw16258369936778142800:=Nat
def tw16393467323408361777:=Nat
def tw1642219653307389144:=Nat
def tw16465754252073491946:=Nat
def tw16498496440544704509:=Nat
def tw16516292385481772904:=Nat
def tw16653547561028792515:=Nat
def tw16695287600446615615:=Nat
def tw16721567381287893942:=Nat
def tw16751388457458762782:=Nat
def tw1678158000224830541:=Nat
def tw1683963379598287188:=Nat
def tw16861444623208921953:=Nat
def tw16891061089537947038:=Nat
def tw16997974479967082053:=Nat
def tw17067035424364989030:=Nat
def tw17089239328376289007:=Nat
def tw17150636503415517222:=Nat
def tw17156512291381970176:=Nat
def tw17170727155902310192:=Nat
def tw1738093904950686887:=Nat
def tw17392651595089428980:=Nat
def tw17402808899363656226:=Nat
def tw17450810036475449920:=Nat
def tw17572357761178911253:=Nat
def tw17656450809676629303:=Nat
def tw17799225511748316533:=Nat
def tw17817575871128071952:=Nat
def tw17972989214283322000:=Nat
def tw18030701855995228731:=Nat
def tw18052794289689892990:=Nat
def tw18057283510134022593:=Nat
def tw18071110001546185615:=Nat
def tw18086502427600585809:=Nat
def tw18101702758841411210:=Nat
def tw18146251740987340409:=Nat
def tw18181540830742326845:=Nat
def tw18201798386421132200:=Nat
def tw18245936876077458062:=Nat
def tw1870055838736619361:=Nat
def tw1879598297281088796:=Nat
def tw2011218602017696286:=Nat
def tw2025832311687545743:=Nat
def tw2242557129681441457:=Nat
def tw2258258340288481635:=Nat
def tw2366576233551721650:=Nat
def tw2547968065187855580:=Nat
def tw2613359095273217877:=Nat
def tw2686953908897866214:=Nat
def tw2853087847209114750:=Nat
def tw2913872386022847017:=Nat
def tw298132263389561133:=Nat
def tw3023691404680077104:=Nat
def tw3034239268385205006:=Nat
def tw3082123213750598119:=Nat
def tw3135625321533196460:=Nat
def tw3525382435305272915:=Nat
def tw355522552436139958:=Nat
def tw3603279561052366315:=Nat
def tw3765805603743910595:=Nat
def tw3786447363828387061:=Nat
def tw3798359311241782448:=Nat
def tw3809413926272885347:=Nat
def tw3856173084922717575:=Nat
def tw3994991373683299429:=Nat
def tw4029056827130285702:=Nat
def tw41489555063898420:=Nat
def tw4151649817744841941:=Nat
def tw4156777482711362170:=Nat
def tw4197309107071432139:=Nat
def tw4200811737952050915:=Nat
def tw4333275884179699953:=Nat
def tw4424009324718298946:=Nat
def tw4424332419270702398:=Nat
def tw4480201338997519146:=Nat
def tw4518758654883192442:=Nat
def tw4588682037011790562:=Nat
def tw4670226091608002772:=Nat
def tw4680133157867978811:=Nat
def tw4727338284263990479:=Nat
def tw4889174350030956330:=Nat
def tw4898622404371627506:=Nat
def tw4923896778638184912:=Nat
def tw4951824426518432677:=Nat
def tw5159934247605294893:=Nat
def tw5194990493456103023:=Nat
def tw5198896068356633294:=Nat
def tw5236348999065274947:=Nat
def tw5315315247406271675:=Nat
def tw5370488506674871324:=Nat
def tw5502017925259029886:=Nat
def tw55653531123934909:=Nat
def tw5570463157737219109:=Nat
def tw5606442787171105310:=Nat
def tw5633815826882723082:=Nat
def tw5677471472248772042:=Nat
def tw57119860540796013:=Nat
def tw5772587952566823299:=Nat
def tw5854130979394435227:=Nat
def tw5951490163443159119:=Nat
def tw5978058355909158903:=Nat
def tw6144432414396514882:=Nat
def tw6262786293590862980:=Nat
def tw6283941845183183667:=Nat
def tw6286940548304503824:=Nat
def tw6398803725740015516:=Nat
def tw6422281635623630322:=Nat
def tw6452119301499814170:=Nat
def tw6477743847357658333:=Nat
def tw6500334780715009503:=Nat
def tw652578565505754417:=Nat
def tw6593357342324850894:=Nat
def tw6693640108947099472:=Nat
def tw6769648697498601014:=Nat
def tw6772024643905255658:=Nat
def tw6790112916885302122:=Nat
def tw6798610826688059699:=Nat
def tw6806606691163471619:=Nat
def tw6880870259602232224:=Nat
def tw6884016105946048131:=Nat
def tw6924324940593034850:=Nat
def tw6934860982104445649:=Nat
def tw7069932967327031127:=Nat
def tw7357823921700106075:=Nat
def tw736012876640301887:=Nat
def tw7362316672893391167:=Nat
def tw7390591572470887581:=Nat
def tw7413449819254511730:=Nat
def tw7499140368851232444:=Nat
def tw8083002168648861968:=Nat
def tw8311466770520316781:=Nat
def tw8433474509034004843:=Nat
def tw8479246541013927279:=Nat
def tw8482825680955038308:=Nat
def tw850723373058993580:=Nat
def tw8619959501945945639:=Nat
def tw8627234495845002232:=Nat
def tw8631476003014434641:=Nat
def tw8672463248631983106:=Nat
def tw8743646607548239697:=Nat
def tw8788432480047870960:=Nat
def tw8793831351618864230:=Nat
def tw8851744205292374188:=Nat
def tw9072667272930440834:=Nat
def tw9168282034169176227:=Nat
def tw9176926695638191702:=Nat
def tw9178744980962937884:=Nat
def tw9262636416867535808:=Nat
def tw9326415740241713178:=Nat
def tw9436025224332528099:=Nat
def tw9485088318666145937:=Nat
def tw9543906108989831946:=Nat
def tw9590290142898348877:=Nat
def tw9621652500979159097:=Nat
def tw9629378270174995334:=Nat
def tw9641258545815486229:=Nat
def tw9670488083270373678:=Nat
def tw9687955917739731957:=Nat
def tw9866007863327966615:=Nat
def tw9897710109978324042:=Nat
def tw9901620456271597155:=Nat
def tw9950668720931782735:=Nat
end PySem.W.Fast
set_option maxRecDepth 100000 in
set_option maxHeartbeats 0 in
theorem PySem.Challenge.cw_crystalwords_k61_alike_places_holds : PySem.Challenge.rw_crystalwords_k61_alike_places.Holds := by
 w_on; o_law; k_head; (case hw=>w_witness2)
 k_fill
 refine L2.walkB (l:=PySem.Challenge.rw_crystalwords_k61_alike_places) (k:=18) (x := "_law_script") rfl rfl ⟨rfl,by decide,by decide⟩ (λ w h Y=>PySem.W.kIn_of Y) ?F
 case F =>
  intro w mg fa h KX G hmg
  have T:∃ t,Cw.Txt (L2.KOf KX) mg t:=by
   dsimp only [L2.KOf]
   refine' Cw.txt_mk KX G ?n_1i ?n_1h ?n_1g ?n_1k ?n_1j ?n_z ?n_11 ?F_11 ?n_15 ?F_15 ?n_g ?F_g ?n_v ?F_v ?n_x ?F_x ?n_u ?F_u ?n_i ?F_i ?n_1e ?F_1e ?n_18 ?F_18 ?n_14 ?F_14 ?n_8 ?F_8 ?n_10 ?F_10 ?n_1a ?F_1a ?n_19 ?F_19 ?n_1d ?F_1d ?n_16 ?F_16 ?n_12 ?F_12 ?n_1b ?F_1b ?n_17 ?F_17 ?n_m ?F_m ?n_1f ?F_1f ?n_t ?F_t ?n_r ?F_r ?n_13 ?F_13 ?n_0 ?l_0 ?t_Group___init__ ?c_0 ?k_0 ?n_7 ?F_7 ?n_a ?F_a ?n_j ?F_j ?n_e ?F_e ?n_q ?F_q ?n_9 ?F_9 ?n_l ?F_l ?n_b ?F_b ?n_y ?F_y ?n_p ?F_p ?n_w ?F_w ?n_1 ?F_1 ?n_2 ?F_2 ?n_3 ?F_3 ?n_o ?F_o ?n_k ?F_k ?n_5 ?F_5 ?n_f ?F_f ?n_6 ?F_6 ?n_n ?F_n ?n_c ?F_c ?n_h ?F_h ?n_4 ?F_4 ?n_s ?F_s ?n_d ?F_d ?n_1c ?F_1c ?n_MOST_MEMBERS ?y_any ?y_sum ?y_zip ?y_enumerate ?y_range ?y_len ?y_abs ?y_isinstance ?y_int ?y_bool ?y_list ?y_tuple ?y_sorted ?y_dict ?q_a ?q_b ?q_c ?q_d ?q_5 ?q_6 ?q_7 ?q_8 ?q_0 ?q_1 ?q_9 ?q_3 ?q_2 ?q_4
   (case n_1i | n_1h | n_1g | n_1k | n_1j | n_z | n_11 | n_15 | n_g | n_v | n_x | n_u | n_i | n_1e | n_18 | n_14 | n_8 | n_10 | n_1a | n_19 | n_1d | n_16 | n_12 | n_1b | n_17 | n_m | n_1f | n_t | n_r | n_13 | n_a | n_j | n_e | n_q | n_9 | n_l | n_b | n_y | n_p | n_w | n_1 | n_2 | n_3 | n_o | n_k | n_5 | n_f | n_6 | n_n | n_c | n_h | n_4 | n_s | n_d | n_1c=>show _=_; k_is)
   (case n_0 | l_0 | t_Group___init__ | c_0 | k_0 | n_7 | n_MOST_MEMBERS | y_any | y_sum | y_zip | y_enumerate | y_range | y_len | y_abs | y_isinstance | y_int | y_bool | y_list | y_tuple | y_sorted | y_dict | q_1 | q_9 | q_3 | q_2 | q_4=>k_is)
   (case F_11 | F_15 | F_g | F_v | F_x | F_u | F_i | F_1e | F_18 | F_14 | F_8 | F_10 | F_1a | F_19 | F_1d | F_16 | F_12 | F_1b | F_17 | F_m | F_1f | F_t | F_r | F_13 | F_7 | F_a | F_j | F_e | F_q | F_9 | F_l | F_b | F_y | F_p | F_w | F_1 | F_2 | F_3 | F_o | F_k | F_5 | F_f | F_6 | F_n | F_c | F_h | F_4 | F_s | F_d | F_1c=>refine' L2.fun_mk ?l ?c ?k; (case l=>k_is); (case c=>k_is); (case k=>k_is))
   (case q_a | q_b | q_c | q_d=>kit_is)
   (case q_5 | q_6=>k_exc)
   (case q_7 | q_8=>exact ⟨by k_is,by k_is,by k_is,by k_is⟩)
   (case q_0=>exact ⟨by k_is,by k_is,by k_is⟩)
  obtain ⟨t,T⟩:=T
  have e0:=hmg.symm.trans T.m_1c
  cases e0
  exact ⟨t.d_1c,T.bl,λ base kb nb=>Cw.ok_1c T⟩
#print axioms PySem.Challenge.cw_crystalwords_k61_alike_places_holds